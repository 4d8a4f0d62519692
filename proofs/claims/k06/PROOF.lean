import PyProof.Rows.All
import Wide.All
import OpenK.AllK
import Wide.FinOn
import HandS.ForMost
import HandS.EndTab
import HandS.Slots
import KE.KMinKey
import KE.KIndexOf
import KE.KDictItemsList
import HandS.SortRule
import HandS.Evl
import HandS.SetFor
import HandS.IsInst
import HandS.Conv
import HandS.Flow
import HandS.More
import HandS.Defaults
import HandS.TupAny
import PySem.Challenge.RW_idleclaims_k06_whole_asking_either_way
set_option Elab.async false
set_option linter.all false
set_option maxRecDepth 100000
set_option maxHeartbeats 4000000
namespace Z
open PySem PySem.Spec PyProof.Rows L2

/-! ### tuples whose object is known: no dict -/
def FT (H : Hp) (a : Addr) (xs : List V) : Prop := ∃ o, H a = some (.frz o (.tup xs)) ∧ o.dict = none ∧ o.cls = .type "tuple"
theorem FT.sq {K : PySem.W.Frag} {H : Hp} {a : Addr} {xs : List V} (h : FT H a xs) : SqT K H a xs := by
  obtain ⟨o, e, _, _⟩ := h
  exact .inl (.inr ⟨o, e⟩)

section
variable {X : Cx}
/-- tuple(xs), xs a list: the new object is known -/
theorem call_tupleF : CallR X (.type "tuple") (fun xs H Q => ∃ p ys, xs = [.ref p] ∧ SqL X.K H p ys ∧ ∀ l H', H l = none → FT H' l ys → (∀ b, b ≠ l → H' b = H b) → Q (.ref l) H') := by
  intro pins s σ H xs us Q I r h
  obtain ⟨p, ys, rfl, hq, q⟩ := h
  obtain ⟨u, rfl, rx⟩ := vals1 r
  cases rx
  obtain ⟨its, r', pl, hz⟩ := I.list hq
  have hlen := r'.length
  refine call_tuple_list pl.isList (fun h' kp => ?_) (by simp only [List.size_toArray] <;> omega)
  have I1 : Inv X pins σ H { s with heap := h' } := I.kept (t' := s.toks) kp
  have nl : H h'.objs.size = none := I1.hok.fresh (Nat.le_refl _)
  have gt : (h'.push { cls := .type "tuple", data := .seq its.toArray }).get? h'.objs.size = some { cls := .type "tuple", data := .seq its.toArray } := Heap.get?_push_size _ rfl
  have I2 := I1.laid (t' := s.toks) (h' := h'.push { cls := .type "tuple", data := .seq its.toArray }) (o := .frz { cls := .type "tuple", data := .seq its.toArray } (.tup ys)) (a := h'.objs.size)
    (fun b o e => Heap.get?_push_of_some _ e) (Nat.le_refl _) ⟨gt, hz, its, r', IsTup.new _ _⟩
  exact ⟨.ref h'.objs.size, _, I2, rfl, q _ _ nl ⟨_, upd_same, rfl, rfl⟩ (fun b hb => upd_ne hb)⟩

/-! ### t.index(k), t such a tuple of ints -/
def rTIdx : V → V → Hp → VK → Prop := fun x y H Q => ∃ (a : Addr) (ys : List Int) (k : Int), x = .ref a ∧ y = .int k ∧ FT H a (ys.map V.int) ∧ k ∈ ys ∧ Q (.int (ys.idxOf k : Nat)) H
def tTIdx (to te : TE) : TE := fun σ H Q => to σ H fun x H1 => (∃ a ys, x = .ref a ∧ FT H1 a ys) ∧ te σ H1 fun y H2 => rTIdx x y H2 Q
theorem intsAre_of : ∀ {ns : List Int} {us : List Value}, Vals (ns.map V.int) us → IntsAre us ns
  | [], _, .nil => .nil
  | n :: ns, _, .cons r t => by
    obtain ⟨tk, rfl⟩ := r
    exact .cons n tk (intsAre_of t)
theorem ft_at {pins : List (Addr × Obj)} {σ : L2.St} {H : Hp} {s : Shared} {a : Addr} {xs : List V} (I : Inv X pins σ H s) (h : FT H a xs) :
    ∃ o its, s.heap.get? a = some o ∧ o.dict = none ∧ o.cls = .type "tuple" ∧ Vals xs its ∧ s.heap.IsTuple a its.toArray := by
  obtain ⟨o, e, hd, hc⟩ := h
  obtain ⟨e1, _, its, r, pl⟩ := I.hok a _ e
  exact ⟨o, its, e1, hd, hc, r, pl⟩
theorem pe_tidx {o e : Expr} {apos cpos : Pos} {to te : TE} (ho : PE X o to) (he : PE X e te)
    (hbase : attributeBase o "index" X.env (eval o X.env) = eval o X.env := by rfl) (hline : (apos.endLine == cpos.line) = true := by rfl)
    (ht : backTo cpos (starEach [e] X.env) = [(false, eval e X.env)] := by rfl) : PE X (.Call (.Attribute o "index" apos) [e] [] cpos) (tTIdx to te) := by
  refine ⟨fun pins s σ H Q I h => ?_⟩
  refine wpAny_Call_method1_late hbase hline ht (thn (ho.run pins s σ H _ I h) fun v s1 ⟨x, H1, I1, r1, q1⟩ => ?_)
  obtain ⟨⟨a, ys, ex, hT⟩, q1⟩ := q1
  subst ex
  obtain rfl : v = Value.ref a := r1
  obtain ⟨ob, its, e1, e2, e3, r2, pl⟩ := ft_at I1 hT
  refine ⟨"tuple", "tuple.index", PySem.F.plainAttrs_tuple, PySem.F.slot_tuple_index, PySem.F.type_tuple_index, ⟨ob, e1, e3⟩, fun b eb => ?_, ?_⟩
  · cases eb
    exact ⟨ob, e1, e2⟩
  refine Calls.callWith_builtin rfl (Calls.evalArgs_plain ?_)
  refine Calls.spliced_cons (thn (he.run pins s1 σ H1 _ I1 q1) fun u s2 ⟨y, H2, I2, r3, q2⟩ => ?_)
  refine Calls.spliced_nil ?_
  obtain ⟨a', ns, k, ea, ek, hF, hk, q⟩ := q2
  cases ea
  subst ek
  obtain ⟨tk, rfl⟩ := r3
  obtain ⟨ob', its', e1', e2', e3', r2', pl'⟩ := ft_at I2 hF
  exact SeqAt.tuple_index_ints pl' (intsAre_of r2') hk ⟨.int _, H2, I2.tok _, ⟨_, rfl⟩, q⟩

/-! ### xs[i] op= e -/
def gLst : V → V → Hp → VK → Prop := fun x y H Q => ∃ (p : Addr) (xs : List V) (i : Nat) (v : V), x = .ref p ∧ y = .int (i : Int) ∧ i < 1000000 ∧ H p = some (.lst xs) ∧ xs[i]? = some v ∧ Q v H
theorem get_list : PGet X gLst := by
  intro pins s σ H o i ov iv Q I ro ri h
  obtain ⟨p, xs, j, v, rfl, rfl, hj, hp, hv, q⟩ := h
  cases ro
  obtain ⟨t, rfl⟩ := ri
  obtain ⟨its, r, pl, hz⟩ := I.list (SqL.of hp)
  obtain ⟨w, ew, rw'⟩ := r.get hv
  refine wpAny_getItem_list pl.isList (by omega) (by omega) (x := w) ?_ ⟨v, H, I, rw', q⟩
  rw [Int.toNat_natCast]
  simpa using ew

/-! ### behind a run that keeps every object, and the frame by its map -/
structure Kp (L : Addr) (h h' : Heap) : Prop where
  keep : ∀ b o, b ≠ L → h.get? b = some o → h'.get? b = some o
  ns : ∀ m, h.Ns L m → h'.Ns L m
theorem inv_kp {pins : List (Addr × Obj)} {σ : L2.St} {H : Hp} {s : Shared} {h' : Heap} {t' : Nat} (I : Inv X pins σ H s) (k : Kp X.env.locals s.heap h') : Inv X pins σ H { s with heap := h', toks := t' } := by
  have nL : ∀ b u, H b = some u → b ≠ X.env.locals := fun b u e z => by
    have f := I.free
    rw [z, f] at e
    cases e
  refine I.step (g' := s.gens) (d' := s.drawn) (ch := []) (fun _ z => nomatch z) (fun b o hL _ _ e _ => k.keep b o hL e) (fun b o hL _ _ e _ => ⟨o.slots, k.keep b o hL e⟩) (fun _ _ _ _ n => n)
    (fun b o _ e => ?_) (fun _ _ e => e) (fun _ _ _ e => e) (fun b ps e => ⟨#[], by rw [e]; simp⟩) k.ns (fun b u e => ?_) I.bare
  · by_cases hb : b = X.env.locals
    · obtain ⟨m, hn, _⟩ := I.loc
      obtain ⟨o', _, _, e', _⟩ := k.ns m hn
      exact ⟨o', by rw [hb]; exact e'⟩
    · exact ⟨o, k.keep b o hb e⟩
  · refine (I.hok b u e).stay (fun c v hc q => k.keep c v ?_ q) (fun _ q => q) fun _ _ q => q
    rcases hc with z | z
    · rw [z]
      exact nL b u e
    · exact nL c _ z

/-! ### max(xs, key=lambda a: t.index(a)) -/
/-- the lambda's body -/
def idxBody (y a : Str) (p1 p2 p3 p4 : Pos) : Expr := .Call (.Attribute (.Name y p1) "index" p2) [.Name a p3] [] p4
structure IdxLam (scope : Scope) (y a : Str) : Prop where
  kind : scope.kind = .function
  co : scope.isCoroutine = false
  gen : scope.isGenerator = false
  names : scope.names = [(a, .local), (y, .free)]
  ne : (a == y) = false
  dy : (y == ("__debug__" : Str)) = false
  da : (a == ("__debug__" : Str)) = false
  cy : (y == ("__classdict__" : Str)) = false
/-- one call of the lambda -/
theorem lam_idx {pins : List (Addr × Obj)} {σ : L2.St} {H : Hp} {s : Shared} {y a : Str} {p1 p2 p3 p4 : Pos} {params : Arguments} {scope : Scope} {f c' r : Addr} {pm ctv : Value} {j : Nat} {ys : List Int} {n : Int} {t : Tok} {Q E : Value → Shared → Prop}
    (I : Inv X pins σ H s) (L : IdxLam scope y a) (hf : s.heap.get? f = some (PySem.W.kla_obj "<lambda>" (X.env.qual ++ "<lambda>") params (idxBody y a p1 p2 p3 p4) scope (cloFrom X.env.cells scope.names []) pm c' ctv))
    (hline : (p2.endLine == p4.line) = true) (hc : H c' = some (LamX.CodeO c' (X.env.qual ++ "<lambda>"))) (hN : X.N[j]? = some y) (hσ : σ[j]? = some (some (.ref r))) (hv : X.env.scope.names.lookup y = some .cell)
    (hr : FT H r (ys.map V.int)) (hn : n ∈ ys) (hd : X.A.depth < recursionLimit)
    (hbind : ∀ (q : Str) (cl : List (Str × Addr)) (pm cv ctv v : Value), bindArgs (PySem.W.kla_fn "<lambda>" q params (idxBody y a p1 p2 p3 p4) scope cl pm cv ctv) ⟨[v], []⟩ = pure [(a, v)])
    (hQ : ∀ h' tk t', (∀ b o, s.heap.get? b = some o → h'.get? b = some o) → Q (.int (ys.idxOf n : Nat) t') { s with heap := h', toks := tk }) :
    wpAny (model X.prog X.w) X.A.in1 (call (.ref f) [.int n t]) Q E s := by
  obtain ⟨⟨oc, vs, tq, hoc, hdc, hvc⟩, _, _⟩ := I.hok c' _ hc
  obtain ⟨m, hns, hl⟩ := I.loc
  obtain ⟨u, ru, lk⟩ := hl j y _ hN hσ (.inr (.inl hv))
  obtain rfl : u = Value.ref r := ru
  obtain ⟨c, ec, hcell⟩ : ∃ c, X.env.cells.lookup y = some c ∧ s.heap.IsCell c (some (.ref r)) := by
    rcases lk with ⟨k, _⟩ | ⟨_, c, e, z⟩
    · have k' : X.env.scope.names.lookup y = some .local := k
      rw [hv] at k'
      cases k'
    · exact ⟨c, e, z⟩
  obtain ⟨ob, its, e1, e2, e3, r2, pl⟩ := ft_at I hr
  have hna : ∀ z ∈ scope.names, z.2 ≠ .cell := fun z hz => by
    rw [L.names] at hz
    rcases List.mem_cons.mp hz with rfl | hz
    · exact fun w => nomatch w
    · rcases List.mem_cons.mp hz with rfl | hz
      · exact fun w => nomatch w
      · cases hz
  have lka : scope.names.lookup a = some .local := by
    rw [L.names, List.lookup_cons, beq_self_eq_true]
  have lky : scope.names.lookup y = some .free := by
    have ney : (y == a) = false := by
      have h := L.ne
      cases q : (y == a) with
      | false => rfl
      | true => rw [eq_of_beq q, beq_self_eq_true] at h; cases h
    rw [L.names, List.lookup_cons, ney, List.lookup_cons, beq_self_eq_true]
  have hclo : (cloFrom X.env.cells scope.names []).lookup y = some c := by
    have hm : (y, NameKind.free) ∈ scope.names := by rw [L.names]; simp
    obtain ⟨c1, h1⟩ := mem_lookup (cloFrom_has (cells := X.env.cells) (acc := []) hm)
    rcases cloFrom_mem (PySem.mem_of_lookup h1) with z | ⟨_, z⟩
    · cases z
    · rw [h1, z, ec]
      rfl
  refine wpAny_call (PySem.W.kla_callFunE (o := _) (by exact hd) hf rfl L.co L.gen rfl ⟨c', oc, vs, tq, rfl, hoc, hdc, hvc⟩ ?_)
  rw [hbind]
  refine wpAny_pure (wpAny_newFunctionEnv hna (fun z hz => ?_) (fun h₁ hns₁ hsb => ⟨I.nolimit.fresh _ hsb, ?_⟩) L.kind)
  · rcases List.mem_cons.mp hz with rfl | hz
    · exact lka
    · cases hz
  have kp : ∀ b o, s.heap.get? b = some o → h₁.get? b = some o := fun b o e => hsb.extBut b o (Nat.ne_of_lt (Heap.lt_size e)) (Heap.get?_push_of_some _ e)
  refine PySem.W.kla_codeExpr ?_
  refine wpAny_Call_method1_late rfl hline rfl ?_
  refine wpAny_Name (wpAny_loadName_free L.kind lky hclo (v := .ref r) ?_ ?_ L.cy) L.dy
  · obtain ⟨o, ho, hd'⟩ := hcell
    exact ⟨o, kp _ _ ho, hd'⟩
  refine ⟨"tuple", "tuple.index", PySem.F.plainAttrs_tuple, PySem.F.slot_tuple_index, PySem.F.type_tuple_index, ⟨ob, kp _ _ e1, e3⟩, fun b eb => ?_, ?_⟩
  · cases eb
    exact ⟨ob, kp _ _ e1, e2⟩
  refine Calls.callWith_builtin rfl (Calls.evalArgs_plain ?_)
  refine Calls.spliced_cons (wpAny_Name (wpAny_loadName_local (m := fun x => ([(a, Value.int n t)] : List (Str × Value)).reverse.lookup x) (v := .int n t) L.kind lka hns₁ ?_ ?_) L.da)
  · show List.lookup a [(a, Value.int n t)] = _
    rw [List.lookup_cons, beq_self_eq_true]
  refine Calls.spliced_nil ?_
  obtain ⟨o0, ho0, hc0, n0, hd0⟩ := pl
  exact SeqAt.tuple_index_ints ⟨o0, kp _ _ ho0, hc0, n0, hd0⟩ (intsAre_of r2) hn (hQ _ _ _ kp)

theorem kp_of {pins : List (Addr × Obj)} {σ : L2.St} {H : Hp} {s : Shared} {h : Heap} {m : Str → Option Value} {news : List (Addr × Obj)} (I : Inv X pins σ H s) (hm : s.heap.Ns X.env.locals m) (F : Fr X.base X.env.locals h m)
    (N : News X.base X.env.locals h news) (hs : ∀ p ∈ allNews X.base s.heap X.env.locals, p ∈ news) : Kp X.env.locals s.heap h := by
  refine ⟨fun b o hb e => ?_, fun m' hm' => ?_⟩
  · cases q : X.base.get? b with
    | some u =>
      have e2 := I.bk b u q
      rw [e] at e2
      cases e2
      exact F.keep b _ q
    | none => exact (N (b, o) (hs _ (mem_allNews hb q e))).1
  · rw [SlX.ns_only hm' hm]
    exact F.ns
/-- the place in ys of the i-th of ns -/
def kfOf (ns ys : List Int) (i : Nat) : Int := match ns[i]? with
  | some n => (ys.idxOf n : Nat)
  | none => 0
theorem kfOf_at {ns ys : List Int} {i : Nat} {n : Int} (h : ns[i]? = some n) : kfOf ns ys i = (ys.idxOf n : Nat) := by
  unfold kfOf
  rw [h]
def tKeyMax (T : List (Addr × Str)) (K : PySem.W.Frag) (j : Nat) (te : TE) : TE := fun σ H Q => te σ H fun x H1 => ∃ (l r : Addr) (ns ys : List Int), x = .ref l ∧ SqL K H1 l (ns.map V.int) ∧ ns ≠ [] ∧ σ[j]? = some (some (.ref r)) ∧ FT H1 r (ys.map V.int) ∧
  (∀ n ∈ ns, n ∈ ys) ∧ LamX.Tabs T H1 ∧ ∀ n H2, n ∈ ns → (∀ k ∈ ns, ys.idxOf k ≤ ys.idxOf n) → LamX.ExtN H1 H2 → LamX.Tabs T H2 → Q (.int n) H2
theorem pe_keyMax {T : List (Addr × Str)} {c P : Addr} {k j : Nat} {y a : Str} {e : Expr} {te : TE} {params : Arguments} {scope : Scope} {p p1 p2 p3 p4 lpos kpos pos : Pos} (hr : Room (k + 1) X.A) (hg : Gl X "max") (hm : X.mg "max" = none) (he : PE X e te)
    (TB : LamX.TabB X.base X.mg c P) (hcode : X.env.code = .ref c) (hmT : (P, X.env.qual ++ "<lambda>") ∈ T) (hu : ∀ q ∈ T, q.1 = P → q.2 = X.env.qual ++ "<lambda>") (L : IdxLam scope y a) (hdef : defaultsOf params X.env = ([], []))
    (hv : X.env.scope.names.lookup y = some .cell) (hN : X.N[j]? = some y) (hline : (p2.endLine == p4.line) = true)
    (hbind : ∀ (q : Str) (cl : List (Str × Addr)) (pm cv ctv v : Value), bindArgs (PySem.W.kla_fn "<lambda>" q params (idxBody y a p1 p2 p3 p4) scope cl pm cv ctv) ⟨[v], []⟩ = pure [(a, v)])
    (he1 : backTo pos (starEach [e] X.env) = [(false, eval e X.env)] := by rfl) :
    PE X (.Call (.Name "max" p) [e] [⟨some "key", .Lambda params (idxBody y a p1 p2 p3 p4) scope lpos, kpos⟩] pos) (tKeyMax T X.K j te) := by
  refine ⟨fun pins s σ H Q I h => ?_⟩
  refine wpAny_Call_Name_kw (ld_blt I hg hm (u := .builtin "max") (by decide +kernel) ?_ (by decide) (by decide))
  refine PyProof.Rows.callWith_kw ?_ he1 (by rw [he1]; rfl) rfl rfl
  rw [he1]
  refine Calls.spliced_cons (thn (he.run pins s σ H _ I h) fun u s1 ⟨x, H1, I1, r1, q1⟩ => Calls.spliced_nil ?_)
  obtain ⟨l, r, ns, ys, rfl, hl, hne, hσ, hF, hin, hT, q⟩ := q1
  obtain rfl : u = Value.ref l := r1
  show wpAny _ _ (evalAll ((do let v ← eval (.Lambda params (idxBody y a p1 p2 p3 p4) scope lpos) X.env; standAt pos; pure v) :: [])) _ _ s1
  have hfree : ∀ z ∈ scope.names, z.2 = .free → ∃ c, X.env.cells.lookup z.1 = some c := fun z hz e2 => by
    rw [L.names] at hz
    rcases List.mem_cons.mp hz with rfl | hz
    · cases e2
    · rcases List.mem_cons.mp hz with rfl | hz
      · exact I1.ok.has _ (.inl hv)
      · cases hz
  refine wpAny_evalAll_cons (wpAny_bind (LamX.lam_make2 I1 TB hcode hmT hu hT hdef hfree fun f c' pm ctv H2 s2 I2 eN T2 hf hfn hfr hco => wpAny_bind (wpAny_standAt (wpAny_pure (wpAny_evalAll_nil ?_)))))
  show wpAny _ _ (call (.builtin "max") [.ref l] [(Str.ofString "key", .ref f)]) _ _ s2
  have hl2 : SqL X.K H2 l (ns.map V.int) := by
    rcases hl with (z | ⟨o, z⟩) | z
    · exact .inl (.inl (eN _ _ z fun ps w => by cases w))
    · exact .inl (.inr ⟨o, eN _ _ z fun ps w => by cases w⟩)
    · exact .inr z
  have hF2 : FT H2 r (ys.map V.int) := by
    obtain ⟨o, z, d1, d2⟩ := hF
    exact ⟨o, (eN _ _ z fun ps w => by cases w), d1, d2⟩
  obtain ⟨its, rv, pl, hz⟩ := I2.list hl2
  obtain ⟨m, F⟩ := I2.fr
  have hnm := F.ns
  have lL : l ≠ X.env.locals := fun z => by
    obtain ⟨o, n0, e0, _, _, d0⟩ := pl
    obtain ⟨o', es, ep, e1, d1, _⟩ := hnm
    rw [z, e1] at e0
    cases e0
    rw [d1] at d0
    cases d0
  have fL : f ≠ X.env.locals := fun z => by
    obtain ⟨o', es, ep, e1, d1, _⟩ := hnm
    rw [z, e1] at hf
    cases hf
    cases d1
  have lenI : its.length = ns.length := by
    have h1 := rv.length
    rw [List.length_map] at h1
    exact h1.symm
  have at' : ∀ (i : Nat) (v : Value), its[i]? = some v → ∃ n t, ns[i]? = some n ∧ v = .int n t := fun i v hv' => by
    have hi : i < ns.length := by
      rw [← lenI]
      exact (List.getElem?_eq_some_iff.mp hv').1
    obtain ⟨w, hw, rw'⟩ := rv.get (i := i) (x := .int ns[i]) (by rw [List.getElem?_map, List.getElem?_eq_getElem hi]; rfl)
    rw [hv'] at hw
    cases hw
    obtain ⟨t, ht⟩ := rw'
    exact ⟨ns[i], t, List.getElem?_eq_getElem hi, ht⟩
  refine kmk_max (h₀ := X.base) (L := X.env.locals) (m := m) (news := allNews X.base s2.heap X.env.locals) (vs := its) (kfOf ns ys) hr.hd F news_all (fun h' F' N' => ?_) ?_ (fun i v hv' h' tk own F' N' => ?_) (fun i v h' tk' hv' hb F' N' => ?_)
  · have kp := kp_of I2 hnm F' N' fun _ w => w
    obtain ⟨o, n0, e0, c0, _, d0⟩ := pl
    exact ⟨o, kp.keep l o lL e0, c0, n0, d0⟩
  · rw [lenI]
    exact List.length_pos_iff.mpr hne
  · have kp := kp_of I2 hnm F' N' fun _ w => List.mem_append_left _ w
    have I3 := inv_kp (t' := tk) I2 kp
    obtain ⟨n, t, hn, rfl⟩ := at' i v hv'
    refine lam_idx I3 L (kp.keep f _ fL hf) hline hco hN hσ hv hF2 (hin n (List.mem_of_getElem? hn)) (by have := hr.dp; omega) hbind fun h2 tk2 t2 kk => ?_
    rw [← kfOf_at (ys := ys) hn]
    refine KskEnd.intro (news' := allNews X.base s2.heap X.env.locals ++ own) ⟨?_, fun b o e1 => kk _ _ (F'.keep b o e1), F'.above⟩ (fun w hw => ⟨kk _ _ (N' w hw).1, (N' w hw).2⟩) fun w hw => hw
    obtain ⟨o', es, ep, e1, rest⟩ := F'.ns
    exact ⟨o', es, ep, kk _ _ e1, rest⟩
  · have kp := kp_of I2 hnm F' N' fun _ w => w
    obtain ⟨n, t, hn, rfl⟩ := at' i v hv'
    refine ⟨.int n, H2, inv_kp (t' := tk') I2 kp, ⟨t, rfl⟩, q n H2 (List.mem_of_getElem? hn) (fun k' hk' => ?_) eN T2⟩
    obtain ⟨j', hj'⟩ := List.getElem?_of_mem hk'
    have h1 := (hb j' (by rw [lenI]; exact (List.getElem?_eq_some_iff.mp hj').1)).1
    rw [kfOf_at hn, kfOf_at hj'] at h1
    omega
def tKeyMin (T : List (Addr × Str)) (K : PySem.W.Frag) (j : Nat) (te : TE) : TE := fun σ H Q => te σ H fun x H1 => ∃ (l r : Addr) (ns ys : List Int), x = .ref l ∧ SqL K H1 l (ns.map V.int) ∧ ns ≠ [] ∧ σ[j]? = some (some (.ref r)) ∧ FT H1 r (ys.map V.int) ∧
  (∀ n ∈ ns, n ∈ ys) ∧ LamX.Tabs T H1 ∧ ∀ n H2, n ∈ ns → (∀ k ∈ ns, ys.idxOf n ≤ ys.idxOf k) → LamX.ExtN H1 H2 → LamX.Tabs T H2 → Q (.int n) H2
theorem pe_keyMin {T : List (Addr × Str)} {c P : Addr} {k j : Nat} {y a : Str} {e : Expr} {te : TE} {params : Arguments} {scope : Scope} {p p1 p2 p3 p4 lpos kpos pos : Pos} (hr : Room (k + 1) X.A) (hg : Gl X "min") (hm : X.mg "min" = none) (he : PE X e te)
    (TB : LamX.TabB X.base X.mg c P) (hcode : X.env.code = .ref c) (hmT : (P, X.env.qual ++ "<lambda>") ∈ T) (hu : ∀ q ∈ T, q.1 = P → q.2 = X.env.qual ++ "<lambda>") (L : IdxLam scope y a) (hdef : defaultsOf params X.env = ([], []))
    (hv : X.env.scope.names.lookup y = some .cell) (hN : X.N[j]? = some y) (hline : (p2.endLine == p4.line) = true)
    (hbind : ∀ (q : Str) (cl : List (Str × Addr)) (pm cv ctv v : Value), bindArgs (PySem.W.kla_fn "<lambda>" q params (idxBody y a p1 p2 p3 p4) scope cl pm cv ctv) ⟨[v], []⟩ = pure [(a, v)])
    (he1 : backTo pos (starEach [e] X.env) = [(false, eval e X.env)] := by rfl) :
    PE X (.Call (.Name "min" p) [e] [⟨some "key", .Lambda params (idxBody y a p1 p2 p3 p4) scope lpos, kpos⟩] pos) (tKeyMin T X.K j te) := by
  refine ⟨fun pins s σ H Q I h => ?_⟩
  refine wpAny_Call_Name_kw (ld_blt I hg hm (u := .builtin "min") (by decide +kernel) ?_ (by decide) (by decide))
  refine PyProof.Rows.callWith_kw ?_ he1 (by rw [he1]; rfl) rfl rfl
  rw [he1]
  refine Calls.spliced_cons (thn (he.run pins s σ H _ I h) fun u s1 ⟨x, H1, I1, r1, q1⟩ => Calls.spliced_nil ?_)
  obtain ⟨l, r, ns, ys, rfl, hl, hne, hσ, hF, hin, hT, q⟩ := q1
  obtain rfl : u = Value.ref l := r1
  show wpAny _ _ (evalAll ((do let v ← eval (.Lambda params (idxBody y a p1 p2 p3 p4) scope lpos) X.env; standAt pos; pure v) :: [])) _ _ s1
  have hfree : ∀ z ∈ scope.names, z.2 = .free → ∃ c, X.env.cells.lookup z.1 = some c := fun z hz e2 => by
    rw [L.names] at hz
    rcases List.mem_cons.mp hz with rfl | hz
    · cases e2
    · rcases List.mem_cons.mp hz with rfl | hz
      · exact I1.ok.has _ (.inl hv)
      · cases hz
  refine wpAny_evalAll_cons (wpAny_bind (LamX.lam_make2 I1 TB hcode hmT hu hT hdef hfree fun f c' pm ctv H2 s2 I2 eN T2 hf hfn hfr hco => wpAny_bind (wpAny_standAt (wpAny_pure (wpAny_evalAll_nil ?_)))))
  show wpAny _ _ (call (.builtin "min") [.ref l] [(Str.ofString "key", .ref f)]) _ _ s2
  have hl2 : SqL X.K H2 l (ns.map V.int) := by
    rcases hl with (z | ⟨o, z⟩) | z
    · exact .inl (.inl (eN _ _ z fun ps w => by cases w))
    · exact .inl (.inr ⟨o, eN _ _ z fun ps w => by cases w⟩)
    · exact .inr z
  have hF2 : FT H2 r (ys.map V.int) := by
    obtain ⟨o, z, d1, d2⟩ := hF
    exact ⟨o, (eN _ _ z fun ps w => by cases w), d1, d2⟩
  obtain ⟨its, rv, pl, hz⟩ := I2.list hl2
  obtain ⟨m, F⟩ := I2.fr
  have hnm := F.ns
  have lL : l ≠ X.env.locals := fun z => by
    obtain ⟨o, n0, e0, _, _, d0⟩ := pl
    obtain ⟨o', es, ep, e1, d1, _⟩ := hnm
    rw [z, e1] at e0
    cases e0
    rw [d1] at d0
    cases d0
  have fL : f ≠ X.env.locals := fun z => by
    obtain ⟨o', es, ep, e1, d1, _⟩ := hnm
    rw [z, e1] at hf
    cases hf
    cases d1
  have lenI : its.length = ns.length := by
    have h1 := rv.length
    rw [List.length_map] at h1
    exact h1.symm
  have at' : ∀ (i : Nat) (v : Value), its[i]? = some v → ∃ n t, ns[i]? = some n ∧ v = .int n t := fun i v hv' => by
    have hi : i < ns.length := by
      rw [← lenI]
      exact (List.getElem?_eq_some_iff.mp hv').1
    obtain ⟨w, hw, rw'⟩ := rv.get (i := i) (x := .int ns[i]) (by rw [List.getElem?_map, List.getElem?_eq_getElem hi]; rfl)
    rw [hv'] at hw
    cases hw
    obtain ⟨t, ht⟩ := rw'
    exact ⟨ns[i], t, List.getElem?_eq_getElem hi, ht⟩
  refine kmk_min (h₀ := X.base) (L := X.env.locals) (m := m) (news := allNews X.base s2.heap X.env.locals) (vs := its) (kfOf ns ys) hr.hd F news_all (fun h' F' N' => ?_) ?_ (fun i v hv' h' tk own F' N' => ?_) (fun i v h' tk' hv' hb F' N' => ?_)
  · have kp := kp_of I2 hnm F' N' fun _ w => w
    obtain ⟨o, n0, e0, c0, _, d0⟩ := pl
    exact ⟨o, kp.keep l o lL e0, c0, n0, d0⟩
  · rw [lenI]
    exact List.length_pos_iff.mpr hne
  · have kp := kp_of I2 hnm F' N' fun _ w => List.mem_append_left _ w
    have I3 := inv_kp (t' := tk) I2 kp
    obtain ⟨n, t, hn, rfl⟩ := at' i v hv'
    refine lam_idx I3 L (kp.keep f _ fL hf) hline hco hN hσ hv hF2 (hin n (List.mem_of_getElem? hn)) (by have := hr.dp; omega) hbind fun h2 tk2 t2 kk => ?_
    rw [← kfOf_at (ys := ys) hn]
    refine KskEnd.intro (news' := allNews X.base s2.heap X.env.locals ++ own) ⟨?_, fun b o e1 => kk _ _ (F'.keep b o e1), F'.above⟩ (fun w hw => ⟨kk _ _ (N' w hw).1, (N' w hw).2⟩) fun w hw => hw
    obtain ⟨o', es, ep, e1, rest⟩ := F'.ns
    exact ⟨o', es, ep, kk _ _ e1, rest⟩
  · have kp := kp_of I2 hnm F' N' fun _ w => w
    obtain ⟨n, t, hn, rfl⟩ := at' i v hv'
    refine ⟨.int n, H2, inv_kp (t' := tk') I2 kp, ⟨t, rfl⟩, q n H2 (List.mem_of_getElem? hn) (fun k' hk' => ?_) eN T2⟩
    obtain ⟨j', hj'⟩ := List.getElem?_of_mem hk'
    have h1 := (hb j' (by rw [lenI]; exact (List.getElem?_eq_some_iff.mp hj').1)).1
    rw [kfOf_at hn, kfOf_at hj'] at h1
    omega
end
end Z
namespace Z
open PySem PySem.Spec PyProof.Rows L2
/-! ### sorted(d.items()), keys and values ints -/
def addr0 : Value → Addr
  | .ref a => a
  | _ => 0
def pairAt (as : List Addr) (kvs : List (Int × Int)) (u : Value) : Int × Int := ((as.zip kvs).lookup (addr0 u)).getD (0, 0)
theorem lookup_zip : ∀ {as : List Addr} {kvs : List (Int × Int)} {j : Nat} {a : Addr} {p : Int × Int}, as.Pairwise (· < ·) → as[j]? = some a → kvs[j]? = some p → (as.zip kvs).lookup a = some p
  | [], _, _, _, _, _, h, _ => by simp at h
  | _ :: _, [], _, _, _, _, _, h => by simp at h
  | b :: as, q :: kvs, 0, a, p, _, h1, h2 => by
    have e1 : b = a := Option.some.inj h1
    have e2 : q = p := Option.some.inj h2
    subst e1
    subst e2
    show (match b == b with | true => some q | false => (as.zip kvs).lookup b) = some q
    rw [beq_self_eq_true]
  | b :: as, q :: kvs, j + 1, a, p, hp, h1, h2 => by
    have ha : a ∈ as := List.mem_of_getElem? (i := j) h1
    have hlt := (List.pairwise_cons.mp hp).1 a ha
    have hne : (a == b) = false := by
      cases e : (a == b) with
      | false => rfl
      | true => rw [eq_of_beq e] at hlt; exact absurd hlt (Nat.lt_irrefl _)
    show (match a == b with | true => some q | false => (as.zip kvs).lookup a) = some p
    rw [hne]
    exact lookup_zip (List.pairwise_cons.mp hp).2 h1 h2
theorem map_pairAt {as : List Addr} {kvs : List (Int × Int)} (hp : as.Pairwise (· < ·)) (hl : as.length = kvs.length) : (as.map Value.ref).map (pairAt as kvs) = kvs := by
  apply List.ext_getElem?
  intro j
  rw [List.map_map, List.getElem?_map]
  cases h : as[j]? with
  | none =>
    rw [List.getElem?_eq_none_iff] at h
    rw [List.getElem?_eq_none_iff.mpr (by omega)]
    rfl
  | some a =>
    have hj := (List.getElem?_eq_some_iff.mp h).1
    have h2 : kvs[j]? = some kvs[j] := List.getElem?_eq_getElem (by omega)
    rw [h2]
    show some (pairAt as kvs (.ref a)) = _
    unfold pairAt
    rw [show addr0 (.ref a) = a from rfl, lookup_zip hp h h2]
    rfl
theorem pget {α β : Type} {F : α → β → Prop} : ∀ {l : List α} {m : List β}, Paired F l m → ∀ {i : Nat} {x : α}, l[i]? = some x → ∃ y, m[i]? = some y ∧ F x y
  | _, _, .nil, i, x, h => by simp at h
  | _, _, .cons r t, 0, x, h => ⟨_, rfl, by cases Option.some.inj h; exact r⟩
  | _, _, .cons r t, i + 1, x, h => pget t (i := i) h
section
variable {X : Cx}
/-- the objects at as, laid by one step, are tracked from now on -/
def manyT (H : Hp) (as : List Addr) (kvs : List (Int × Int)) : Hp := fun b => if b ∈ as then some (.tup [.int (pairAt as kvs (.ref b)).1, .int (pairAt as kvs (.ref b)).2]) else H b
theorem inv_many {pins : List (Addr × Obj)} {σ : L2.St} {H : Hp} {s : Shared} {h' : Heap} {t' : Nat} {as : List Addr} {kvs : List (Int × Int)} (I : Inv X pins σ H s) (k : ∀ b u, s.heap.get? b = some u → h'.get? b = some u)
    (ha : ∀ a ∈ as, s.heap.objs.size ≤ a) (hn : ∀ a ∈ as, ∃ t1 t2 n, h'.get? a = some { cls := .type "tuple", data := .seq #[.int (pairAt as kvs (.ref a)).1 t1, .int (pairAt as kvs (.ref a)).2 t2] n }) :
    Inv X pins σ (manyT H as kvs) { s with heap := h', toks := t' } := by
  have non : ∀ a ∈ as, H a = none := fun a h => I.hok.fresh (ha a h)
  have old : ∀ {b o}, H b = some o → manyT H as kvs b = some o := fun {b o} e => by
    unfold manyT
    rw [if_neg fun hb => by rw [non b hb] at e; cases e]
    exact e
  refine I.un ⟨fun b o q _ _ _ => k b o q, fun b o q _ _ _ => ⟨o.slots, k b o q⟩, fun b o q n _ => ?_, fun b o q _ => ⟨o, k b o q⟩, fun b xs q => old q, fun b u xs q => old q, fun b ps q => ⟨#[], by rw [old q]; simp⟩⟩ fun b u e => ?_
  · unfold manyT
    rw [if_neg fun hb => absurd (Nat.lt_of_lt_of_le (Heap.lt_size q) (ha b hb)) (Nat.lt_irrefl _)]
    exact n
  · by_cases hb : b ∈ as
    · unfold manyT at e
      rw [if_pos hb] at e
      cases e
      obtain ⟨t1, t2, n, hg⟩ := hn b hb
      exact ⟨by show 2 ≤ sizeLine; decide, [_, _], .cons ⟨t1, rfl⟩ (.cons ⟨t2, rfl⟩ .nil), _, hg, rfl, n, rfl⟩
    · unfold manyT at e
      rw [if_neg hb] at e
      exact (I.hok b u e).stay (fun c v _ q => k c v q) (fun c q => old q) fun c xs q => old q
def tSortIt (td : TE) : TE := fun σ H Q => td σ H fun x H1 => ∃ (d : Addr) (kvs : List (Int × Int)), x = .ref d ∧ H1 d = some (.dK (kvs.map fun p => (Sum.inl p.1, V.int p.2))) ∧
  ∀ (l : Addr) (H2 : Hp) (ts : List Addr) (ys : List (Int × Int)), (∀ b o, H1 b = some o → H2 b = some o) → H1 l = none → H2 l = some (.lst (ts.map V.ref)) → ts.length = ys.length →
    (∀ (i : Nat) (t : Addr) (p : Int × Int), ts[i]? = some t → ys[i]? = some p → H2 t = some (.tup [.int p.1, .int p.2])) → ys.Perm kvs → ys.Pairwise (fun p q => SrtO.lexB q p = false) → Q (.ref l) H2
theorem pe_sortIt {e : Expr} {td : TE} {apos p1 p2 cpos : Pos} (hr : X.A.handled = none) (hg : Gl X "sorted") (hm : X.mg "sorted" = none) (he : PE X e td) (hbase : attributeBase e "items" X.env (eval e X.env) = eval e X.env := by rfl) (hline : (apos.endLine == p1.line) = true := by rfl)
    (hst : backTo cpos (starEach [.Call (.Attribute e "items" apos) [] [] p1] X.env) = [(false, eval (.Call (.Attribute e "items" apos) [] [] p1) X.env)] := by rfl) :
    PE X (.Call (.Name "sorted" p2) [.Call (.Attribute e "items" apos) [] [] p1] [] cpos) (tSortIt td) := by
  refine ⟨fun pins s σ H Q I h => ?_⟩
  refine wpAny_Call_Name_kw (ld_blt I hg hm (u := .builtin "sorted") (by decide +kernel) ?_ (by decide) (by decide))
  refine PyProof.Rows.callWith_builtin1 (Calls.spliced_cons (wpAny_Call_method (T := "dict") (id := "dict.items") hbase rfl hline F.plainAttrs_dict F.slot_dict_items F.type_dict_items (thn (he.run pins s σ H _ I h) fun u s1 ⟨x, H1, I1, rx, q⟩ => ?_))) hst rfl
  obtain ⟨d, kvs, ex, hd, q⟩ := q
  subst ex
  obtain rfl : u = Value.ref d := rx
  obtain ⟨hz, hs, vs, kv, hdo⟩ := I1.hok d _ hd
  refine ⟨hdo.typeIs, hdo.mapOf.noDict, ?_⟩
  have I2 : Inv X pins σ H1 { s1 with heap := s1.heap.push { cls := .type "dict_items", data := .fields #[.ref d] } } := I1.kept (t' := s1.toks) fun b ob q => Heap.get?_push_of_some _ q
  show wpAny _ _ (callWith p1 (.builtin "dict.items") [.ref d] [] []) _ X.xe s1
  refine method_meetsIn F.slot_dict_items F.entry_dict_items rfl (PySem.evalArgs_none ⟨rfl, hdo.typeIs, F.args_dict_items_1 _, _, meets_dict_items (mixKind X.prog X.w) d hs, ⟨vs, hdo⟩, ?_⟩)
  refine Calls.spliced_nil ?_
  obtain ⟨es, ep, raw, hes, hat⟩ := (hdo.keep fun b o e => Heap.get?_push_of_some { cls := .type "dict_items", data := .fields #[.ref d] } e).raw
  have lkv : kvs.length = vs.length := by
    have h1 := Paired.length kv
    rw [List.length_map] at h1
    exact h1
  have hn : es.size ≤ sizeLine := by
    rw [hes, ← lkv]
    rw [List.length_map] at hz
    exact hz
  refine (Calls.call_function_entry kind_sorted plain_sorted entry_sorted (args_sorted1 _)) ?_
  unfold Builtin.«sorted»
  refine (wpAny_bind (m := checkCount "sorted" 1 1 _)) (wpAny_pure ?_)
  refine wpAny_bind (PySem.W.dil_collect (by exact hr) ⟨_, Heap.get?_push_size _ rfl, rfl, rfl⟩ raw hn fun h' tk as kk hl hG => ?_)
  have la : as.length = kvs.length := by omega
  -- what stands at as
  have ent : ∀ (j : Nat) (a : Addr), as[j]? = some a → ∃ (p : Int × Int) (t1 t2 : Tok), kvs[j]? = some p ∧ h'.get? a = some { cls := .type "tuple", data := .seq #[.int p.1 t1, .int p.2 t2] } := fun j a hj => by
    obtain ⟨hj', hga⟩ := hG.pairs j a hj
    have hjk : j < kvs.length := by omega
    obtain ⟨w, hw, e1, e2⟩ := pget kv (i := j) (x := (Sum.inl kvs[j].1, V.int kvs[j].2)) (by rw [List.getElem?_map, List.getElem?_eq_getElem hjk]; rfl)
    obtain ⟨k1, v1⟩ := w
    obtain ⟨i1, i2⟩ := hat j hj' k1 v1 hw
    have e1' : k1 = Sum.inl kvs[j].1 := e1.symm
    obtain ⟨t2, ht2⟩ := e2
    subst e1'
    have ik : ∃ t1, es[j].key = .int kvs[j].1 t1 := by
      rcases keyIs_shape (show keyIs (Sum.inl kvs[j].1) es[j].key = true from i1) with ⟨i, t, e3, e4⟩ | ⟨x, t, e3, _⟩
      · cases e3
        exact ⟨t, e4⟩
      · cases e3
    obtain ⟨t1, ht1⟩ := ik
    refine ⟨kvs[j], t1, t2, List.getElem?_eq_getElem hjk, ?_⟩
    rw [hga, ht1, i2]
    rw [show v1 = Value.int kvs[j].2 t2 from ht2]
  have nodup := hG.rise
  have hp : ∀ a ∈ as, ∃ t1 t2 n, h'.get? a = some { cls := .type "tuple", data := .seq #[.int (pairAt as kvs (.ref a)).1 t1, .int (pairAt as kvs (.ref a)).2 t2] n } := fun a ha => by
    obtain ⟨j, hj⟩ := List.getElem?_of_mem ha
    obtain ⟨p, t1, t2, e1, e2⟩ := ent j a hj
    have e3 : pairAt as kvs (.ref a) = p := by
      unfold pairAt
      rw [show addr0 (.ref a) = a from rfl, lookup_zip nodup hj e1]
      rfl
    rw [e3]
    exact ⟨t1, t2, _, e2⟩
  have up : ∀ a ∈ as, s1.heap.objs.size ≤ a := fun a ha => Nat.le_trans (Nat.le_succ _) (Nat.le_trans (Nat.le_of_eq (size_push' ..).symm) (Nat.le_of_lt (hG.above a ha)))
  have I3 : Inv X pins σ (manyT H1 as kvs) { s1 with heap := h', toks := tk } := inv_many I1 (fun b o e => kk b o (Heap.get?_push_of_some _ e)) up hp
  refine wpAny_bind (wpAny_newList ?_ (by rw [List.length_map]; omega))
  have hoL : (h'.push (seqObj "list" (as.map Value.ref).toArray 0)).get? h'.objs.size = some (seqObj "list" (as.map Value.ref).toArray 0) := Heap.get?_push_size _ rfl
  refine wpAny_bind (wpAny_holding (wpAny_call_entry (s := { s1 with heap := h'.push (seqObj "list" (as.map Value.ref).toArray 0), toks := tk }) slot_list_sort ⟨_, hoL, rfl⟩ entry_list_sort (SrtO.list_sort_ord (SrtO.swo_lex (pairAt as kvs)) hoL (by rw [List.length_map]; omega) (fun h2 => ?_) fun out hso hsb => ⟨_, rfl, ?_⟩) (args_list_sort _)))
  · refine SrtO.pairs_sortableO (k := pairAt as kvs) (by omega) (fun v hv => ?_) fun o e => ?_
    · obtain ⟨a, ha, rfl⟩ := List.mem_map.mp hv
      obtain ⟨t1, t2, n, e⟩ := hp a ha
      exact ⟨a, _, t1, t2, n, rfl, Heap.get?_push_of_some _ e, rfl, rfl⟩
    · rw [hoL] at e
      cases e
      intro c
      exact absurd (Value.type.inj c) (by decide)
  refine wpAny_pure ⟨_, rfl, ?_⟩
  have allr : ∀ u ∈ out, ∃ a, a ∈ as ∧ u = Value.ref a := fun u hu => by
    obtain ⟨a, ha, e⟩ := List.mem_map.mp (hsb.perm.mem_iff.mp hu)
    exact ⟨a, ha, e.symm⟩
  have eo : out.map backV = (out.map addr0).map V.ref := by
    rw [List.map_map]
    apply List.map_congr_left
    intro u hu
    obtain ⟨a, _, rfl⟩ := allr u hu
    rfl
  obtain ⟨n', hat'⟩ : ∃ e, (sortedHeap (h'.push (seqObj "list" (as.map Value.ref).toArray 0)) h'.objs.size (as.map Value.ref) out.toArray).get? h'.objs.size = some (seqObj "list" out.toArray e) := sortedHeap_at hoL
  have kp2 : ∀ b o, h'.get? b = some o → (sortedHeap (h'.push (seqObj "list" (as.map Value.ref).toArray 0)) h'.objs.size (as.map Value.ref) out.toArray).get? b = some o := fun b o e => by
    have hb : b < h'.objs.size := Heap.lt_size e
    rw [sortedHeap_old (Nat.ne_of_lt hb) (Nat.lt_of_lt_of_le hb (Nat.le_trans (Nat.le_succ _) (Nat.le_of_eq (size_push' ..).symm)))]
    exact Heap.get?_push_of_some _ e
  have I4 := I3.laid (t' := tk) (a := h'.objs.size) (o := .lst ((out.map addr0).map V.ref)) kp2 (Nat.le_refl _) ⟨by rw [List.length_map, List.length_map, hsb.perm.length_eq, List.length_map]; omega, out, n', by
    rw [← eo]
    exact vals_back fun u hu => let ⟨a, _, e⟩ := allr u hu; ⟨a, e⟩, hat'⟩
  have sz : s1.heap.objs.size ≤ h'.objs.size := Nat.le_of_lt (Heap.lt_size (kk s1.heap.objs.size _ (Heap.get?_push_size _ rfl)))
  have nl : H1 h'.objs.size = none := I1.hok.fresh sz
  refine ⟨.ref h'.objs.size, _, I4, rfl, q _ _ (out.map addr0) (out.map (pairAt as kvs)) (fun b o e => ?_) nl upd_same (by rw [List.length_map, List.length_map]) (fun i t p ht hp' => ?_) ?_ ?_⟩
  · rw [upd_ne (ne_of_none e nl)]
    unfold manyT
    rw [if_neg fun hb => by rw [I1.hok.fresh (up b hb)] at e; cases e]
    exact e
  · rw [List.getElem?_map] at ht hp'
    cases hu : out[i]? with
    | none => rw [hu] at ht; cases ht
    | some u =>
      rw [hu] at ht hp'
      obtain ⟨a, ha, rfl⟩ := allr u (List.mem_of_getElem? hu)
      cases Option.some.inj ht
      cases Option.some.inj hp'
      show upd (manyT H1 as kvs) h'.objs.size _ a = _
      have ha' : a ≠ h'.objs.size := by
        obtain ⟨t1, t2, n, e⟩ := hp a ha
        exact Nat.ne_of_lt (Heap.lt_size e)
      rw [upd_ne ha']
      unfold manyT
      rw [if_pos ha]
  · have e := hsb.perm.map (pairAt as kvs)
    rw [map_pairAt nodup la] at e
    exact e
  · rw [List.pairwise_map]
    exact hso
end
end Z
namespace Z
open PySem PySem.Spec PyProof.Rows L2
abbrev Tb := List (Addr × Str)
/-- may be written -/
def Mu (o : HO) : Prop := (∃ xs, o = .lst xs) ∨ ∃ kvs, o = .dK kvs
/-- what a run keeps: all but the tables and what may be written at L -/
structure St (T : Tb) (L : List Addr) (H H' : Hp) : Prop where
  g : ∀ a o, H a = some o → (∀ ps, o ≠ .tbl ps) → (Mu o → a ∉ L) → H' a = some o
  n : ∀ a o, H a = some o → Mu o → ∃ o', H' a = some o' ∧ Mu o'
  b : LamX.Tabs T H → LamX.Tabs T H'
/-- not there, at most a table -/
def Nw (H : Hp) (p : Addr) : Prop := ∀ o, H p = some o → ∃ ps, o = .tbl ps
theorem Nw.of {H : Hp} {p : Addr} (h : H p = none) : Nw H p := fun o e => by
  rw [h] at e
  cases e
theorem nt_lst {xs : List V} : ∀ ps, (HO.lst xs) ≠ .tbl ps := fun ps e => by cases e
theorem nt_dk {kvs : List (Key × V)} : ∀ ps, (HO.dK kvs) ≠ .tbl ps := fun ps e => by cases e
theorem nt_tup {xs : List V} : ∀ ps, (HO.tup xs) ≠ .tbl ps := fun ps e => by cases e
theorem nm_tup {xs : List V} {q : Prop} : Mu (HO.tup xs) → q := fun e => by
  rcases e with ⟨_, e⟩ | ⟨_, e⟩ <;> cases e
theorem nm_frz {o : Obj} {u : HO} {q : Prop} : Mu (HO.frz o u) → q := fun e => by
  rcases e with ⟨_, e⟩ | ⟨_, e⟩ <;> cases e
theorem St.refl {T : Tb} {L : List Addr} (H : Hp) : St T L H H := ⟨fun _ _ e _ _ => e, fun a o e m => ⟨o, e, m⟩, id⟩
theorem St.trans {T : Tb} {L : List Addr} {H H1 H2 : Hp} (x : St T L H H1) (y : St T L H1 H2) : St T L H H2 :=
  ⟨fun a o e n m => y.g a o (x.g a o e n m) n m, fun a o e m => let ⟨o', e', m'⟩ := x.n a o e m; y.n a o' e' m', fun t => y.b (x.b t)⟩
theorem St.mono {T : Tb} {L L' : List Addr} {H H1 : Hp} (x : St T L H H1) (h : ∀ a, a ∈ L → a ∈ L') : St T L' H H1 :=
  ⟨fun a o e n m => x.g a o e n fun mu hl => m mu (h a hl), x.n, x.b⟩
theorem St.ex {T : Tb} {L : List Addr} {H H1 : Hp} (x : ∀ b o, H b = some o → H1 b = some o) : St T L H H1 :=
  ⟨fun a o e _ _ => x a o e, fun a o e m => ⟨o, x a o e, m⟩, fun t => t.ext x⟩
theorem St.new {T : Tb} {L : List Addr} {H : Hp} {p : Addr} {o : HO} (h : H p = none) : St T L H (upd H p o) := .ex fun b u e => by
  rw [upd_ne (ne_of_none e h)]
  exact e
theorem tabs_mu {T : Tb} {H : Hp} {p : Addr} {o u : HO} (h : H p = some o) (m : Mu o) (t : LamX.Tabs T H) : LamX.Tabs T (upd H p u) := fun q hq => by
  obtain ⟨ps, e1, e2, e3⟩ := t q hq
  have no : ∀ {c : Addr} {v : HO}, H c = some v → ¬ Mu v → c ≠ p := fun e1 nm z => by
    rw [z, h] at e1
    cases e1
    exact nm m
  refine ⟨ps, by rw [upd_ne (no e1 fun z => by rcases z with ⟨_, z⟩ | ⟨_, z⟩ <;> cases z)]; exact e1, e2, fun pos cv hc => ?_⟩
  obtain ⟨c, ec, hcc⟩ := e3 pos cv hc
  exact ⟨c, ec, by rw [upd_ne (no hcc fun z => by unfold LamX.CodeO at z; rcases z with ⟨_, z⟩ | ⟨_, z⟩ <;> cases z)]; exact hcc⟩
/-- a write to p, one of L -/
theorem St.put {T : Tb} {L : List Addr} {H : Hp} {p : Addr} {o u : HO} (h : H p = some o) (m : Mu o) (mu : Mu u) (hp : p ∈ L) : St T L H (upd H p u) := by
  refine ⟨fun a v e n k => ?_, fun a v e k => ?_, tabs_mu h m⟩
  · by_cases ha : a = p
    · rw [ha, h] at e
      cases e
      exact absurd (by rw [ha]; exact hp) (k m)
    · rw [upd_ne ha]
      exact e
  · by_cases ha : a = p
    · exact ⟨u, by rw [ha, upd_same], mu⟩
    · exact ⟨v, by rw [upd_ne ha]; exact e, k⟩
/-- a write to p that the start does not know -/
theorem St.putN {T : Tb} {L : List Addr} {H0 H : Hp} {p : Addr} {o u : HO} (x : St T L H0 H) (h : H p = some o) (m : Mu o) (hn : Nw H0 p) : St T L H0 (upd H p u) := by
  have ne : ∀ a v, H0 a = some v → (∀ ps, v ≠ .tbl ps) → a ≠ p := fun a v e n z => by
    rw [z] at e
    obtain ⟨ps, w⟩ := hn v e
    exact n ps w
  refine ⟨fun a v e n k => ?_, fun a v e k => ?_, fun t => tabs_mu h m (x.b t)⟩
  · rw [upd_ne (ne a v e n)]
    exact x.g a v e n k
  · rw [upd_ne (ne a v e fun ps z => by rw [z] at k; rcases k with ⟨_, k⟩ | ⟨_, k⟩ <;> cases k)]
    exact x.n a v e k
section
variable {K : PySem.W.Frag} {T : Tb} {L : List Addr} {H H' : Hp} {a p : Addr} {xs : List V}
theorem St.sqT (x : St T L H H') (h : SqT K H a xs) : SqT K H' a xs := by
  rcases h with (h | ⟨o, h⟩) | h
  · exact .inl (.inl (x.g _ _ h nt_tup nm_tup))
  · exact .inl (.inr ⟨o, x.g _ _ h (fun ps e => by cases e) nm_frz⟩)
  · exact .inr h
theorem St.ft (x : St T L H H') (h : FT H a xs) : FT H' a xs := by
  obtain ⟨o, h, r⟩ := h
  exact ⟨o, x.g _ _ h (fun ps e => by cases e) nm_frz, r⟩
theorem St.lst (x : St T L H H') (h : H a = some (.lst xs)) (hn : a ∉ L) : H' a = some (.lst xs) := x.g _ _ h nt_lst fun _ => hn
theorem St.dk {kvs : List (Key × V)} (x : St T L H H') (h : H a = some (.dK kvs)) (hn : a ∉ L) : H' a = some (.dK kvs) := x.g _ _ h nt_dk fun _ => hn
/-- new behind is new before -/
theorem St.back (x : St T L H H') (h : Nw H' p) : Nw H p := fun o e => by
  by_cases m : Mu o
  · obtain ⟨o', e', m'⟩ := x.n _ _ e m
    obtain ⟨ps, z⟩ := h o' e'
    rw [z] at m'
    rcases m' with ⟨_, m'⟩ | ⟨_, m'⟩ <;> cases m'
  · by_cases t : ∃ ps, o = .tbl ps
    · exact t
    · obtain ⟨ps, z⟩ := h o (x.g _ _ e (fun ps z => t ⟨ps, z⟩) fun z => absurd z m)
      exact ⟨ps, z⟩
theorem St.back0 (x : St T L H H') (h : H' p = none) : Nw H p := x.back (.of h)
theorem Nw.ne {o : HO} (h : Nw H p) (e : H a = some o) (n : ∀ ps, o ≠ .tbl ps) : a ≠ p := fun z => by
  rw [z] at e
  obtain ⟨ps, w⟩ := h o e
  exact n ps w
end
/-! ### numbers -/
abbrev nV (n : Nat) : V := .int (n : Int)
/-- the dice: a list of ints, not empty -/
def Dice (H : Hp) (d : Addr) : Prop := ∃ ns : List Int, ns ≠ [] ∧ ns.length ≤ 4000 ∧ H d = some (.lst (ns.map V.int))
theorem small {n : Nat} (h : n ≤ 1000000) : n ≤ sizeLine := Nat.le_trans h (by decide)
theorem small' {n : Nat} (h : n < 1000000) : n < sizeLine := Nat.lt_of_lt_of_le h (by decide)
end Z
namespace Z
open PySem PySem.Spec PyProof.Rows L2
/-! the rules with the written part told apart: in a comprehension's block too -/
section
variable {X : Cx} (K : PySem.W.Frag) {a b e o : Expr} {es : List Expr} {ta tb to : TE} {t : TA} {pos p apos cpos : Pos}
theorem kix_list (h : X.K = K := by rfl) : IxR X (rIxL K) := by
  subst h
  exact ix_list
theorem kix_tup (h : X.K = K := by rfl) : IxR X (rIxT K) := by
  subst h
  exact ix_tup
def rLen (K : PySem.W.Frag) : List V → Hp → VK → Prop := fun xs H Q => ∃ p ys, xs = [V.ref p] ∧ (SqL K H p ys ∨ SqT K H p ys) ∧ Q (.int ys.length) H
theorem klen (h : X.K = K := by rfl) : CallR X (.builtin "len") (rLen K) := by
  subst h
  exact call_len_seq
theorem kin_seq (h : X.K = K := by rfl) : OpR X (compareOp .In) (rIn K false) := by
  subst h
  exact op_in_seq
theorem knotin_seq (h : X.K = K := by rfl) : OpR X (compareOp .NotIn) (rIn K true) := by
  subst h
  exact op_notIn_seq
def rListOf (K : PySem.W.Frag) : List V → Hp → VK → Prop := fun xs H Q => ∃ p ys, xs = [V.ref p] ∧ (SqL K H p ys ∨ SqT K H p ys) ∧ ∀ l, H l = none → Q (.ref l) (upd H l (.lst ys))
theorem klist_of (h : X.K = K := by rfl) : CallR X (.type "list") (rListOf K) := by
  subst h
  exact call_list_of
theorem kcount (h : X.K = K := by rfl) : MtR X "list.count" (rCntI K) := by
  subst h
  exact mt_lcount
theorem kbm {T id : String} {name : Str} {r : V → List V → Hp → VK → Prop} (pa : PlainAttrs T) (slot : Slot T name id) (hty : typeOf (.builtin id) = pure (.type "method_descriptor")) (hm : MtR X id r) (ho : PE X o to) (ha : PA X (e :: es) t) (h : X.K = K := by rfl)
    (hbase : attributeBase o name X.env (eval o X.env) = eval o X.env := by rfl)
    (hfew : ((backTo cpos (starEach (e :: es) X.env)).all (fun x => !x.1) && (backToKw cpos (keywordEach [] X.env)).all (fun x => x.1.isSome)
      && decide ((e :: es).length + ([] : List Keyword).length + (if ([] : List Keyword).isEmpty then 0 else 1) < 30)) = true := by rfl)
    (hline : (apos.endLine == cpos.line) = true := by rfl) (hs : starEach (e :: es) X.env = (false, eval e X.env) :: starEach es X.env := by rfl) (hplain : (backTo cpos (starEach es X.env)).any (·.1) = false := by rfl) :
    PE X (.Call (.Attribute o name apos) (e :: es) [] cpos) (tBM K T r to t) := by
  subst h
  exact pe_bm pa slot hty hm ho ha hbase hfew hline hs hplain
theorem kbm0 {T id : String} {name : Str} {r : V → List V → Hp → VK → Prop} (pa : PlainAttrs T) (slot : Slot T name id) (hty : typeOf (.builtin id) = pure (.type "method_descriptor")) (hm : MtR X id r) (ho : PE X o to) (h : X.K = K := by rfl)
    (hbase : attributeBase o name X.env (eval o X.env) = eval o X.env := by rfl) (hline : (apos.endLine == cpos.line) = true := by rfl) : PE X (.Call (.Attribute o name apos) [] [] cpos) (tBM0 K T r to) := by
  subst h
  exact pe_bm0 pa slot hty hm ho hbase hline
def tTr (K : PySem.W.Frag) (ta : TE) : TT := fun σ H Q => ta σ H fun x H' => ∃ k, TruV K x H' k ∧ Q k H'
theorem ktruth (ha : PE X a ta) (he : ∀ whole, isTrue a X.env whole = (do let v ← whole; standAt a.pos; holding [v] (truthy v))) (h : X.K = K := by rfl) : PT X a (tTr K ta) := by
  subst h
  exact pt_truth ha he
theorem kpi_list {tg : Expr} (ha : PE X a ta) (h : X.K = K := by rfl) : PI X tg a (iList K ta) := by
  subst h
  exact pi_list ha
theorem kpi_tup {tg : Expr} (ha : PE X a ta) (h : X.K = K := by rfl) : PI X tg a (iTup K ta) := by
  subst h
  exact pi_tup ha
theorem yes {σ : L2.St} {H : Hp} {A B : Hp → Prop} (h : A H) : tYes σ H (fun b H3 => if b = true then A H3 else B H3) := by
  show (if true = true then A H else B H)
  rw [if_pos rfl]
  exact h
end
end Z
namespace Z
open PySem PySem.Spec PyProof.Rows L2
/-- the objects that a def has made and may write, by their addresses -/
structure En (T : Tb) (L : List Addr) (H0 H : Hp) (cs : List (Addr × HO)) : Prop where
  nd : (cs.map (·.1)).Nodup
  fr : ∀ c ∈ cs, Nw H0 c.1
  at_ : ∀ c ∈ cs, H c.1 = some c.2
  mu : ∀ c ∈ cs, Mu c.2
  st : St T L H0 H
theorem Mu.l {xs : List V} : Mu (.lst xs) := .inl ⟨_, rfl⟩
theorem Mu.d {kvs : List (Key × V)} : Mu (.dK kvs) := .inr ⟨_, rfl⟩
theorem Mu.nt {o : HO} (m : Mu o) : ∀ ps, o ≠ .tbl ps := fun ps e => by
  rw [e] at m
  rcases m with ⟨_, m⟩ | ⟨_, m⟩ <;> cases m
section
variable {T : Tb} {L : List Addr} {H0 H H' : Hp} {cs : List (Addr × HO)} {p : Addr} {o u : HO} {i : Nat}
theorem En.nil (H : Hp) : En T L H H [] := ⟨List.nodup_nil, fun c h => (nomatch h), fun c h => (nomatch h), fun c h => (nomatch h), .refl H⟩
theorem En.get (x : En T L H0 H cs) (h : cs[i]? = some (p, o)) : H p = some o := x.at_ _ (List.mem_of_getElem? h)
theorem En.ne_none (x : En T L H0 H cs) (h : H p = none) : ∀ c ∈ cs, c.1 ≠ p := fun c hc => ne_of_none (x.at_ c hc) h
theorem En.step (x : En T L H0 H cs) (y : St T [] H H') : En T L H0 H' cs :=
  ⟨x.nd, x.fr, fun c hc => y.g _ _ (x.at_ c hc) (x.mu c hc).nt fun _ => by simp, x.mu, x.st.trans (y.mono fun _ z => by simp at z)⟩
theorem En.new (x : En T L H0 H cs) (h : H p = none) (m : Mu o) : En T L H0 (upd H p o) (cs ++ [(p, o)]) := by
  have y := x.step (St.new (o := o) h)
  refine ⟨?_, fun c hc => ?_, fun c hc => ?_, fun c hc => ?_, y.st⟩
  · rw [List.map_append]
    refine List.nodup_append.mpr ⟨x.nd, by simp, fun a ha b hb e => ?_⟩
    obtain ⟨c, hc, rfl⟩ := List.mem_map.mp ha
    rw [List.map_cons, List.map_nil, List.mem_singleton] at hb
    exact x.ne_none h c hc (e.trans hb)
  · rcases List.mem_append.mp hc with hc | hc
    · exact x.fr c hc
    · rw [List.mem_singleton.mp hc]
      exact x.st.back0 h
  · rcases List.mem_append.mp hc with hc | hc
    · exact y.at_ c hc
    · rw [List.mem_singleton.mp hc]
      exact upd_same
  · rcases List.mem_append.mp hc with hc | hc
    · exact x.mu c hc
    · rw [List.mem_singleton.mp hc]
      exact m
theorem En.put (x : En T L H0 H cs) (h : cs[i]? = some (p, o)) (m : Mu u) : En T L H0 (upd H p u) (cs.set i (p, u)) := by
  have hi := (List.getElem?_eq_some_iff.mp h).1
  have hm := List.mem_of_getElem? h
  have e1 : (cs.set i (p, u)).map (·.1) = cs.map (·.1) := by
    rw [List.map_set]
    apply List.ext_getElem?
    intro j
    rw [List.getElem?_set]
    by_cases e : i = j
    · subst e
      rw [if_pos rfl, List.getElem?_map, h, if_pos (by rw [List.length_map]; exact hi)]
      rfl
    · rw [if_neg e]
  have at' : ∀ j c, j ≠ i → cs[j]? = some c → c.1 ≠ p := fun j c hj hc z => by
    have h1 : (cs.map (·.1))[j]? = some p := by rw [List.getElem?_map, hc]; exact congrArg some z
    have h2 : (cs.map (·.1))[i]? = some p := by rw [List.getElem?_map, h]; rfl
    exact hj ((List.getElem?_inj (List.getElem?_eq_some_iff.mp h1).1 x.nd).mp (h1.trans h2.symm))
  have mem : ∀ c ∈ cs.set i (p, u), c = (p, u) ∨ (c ∈ cs ∧ c.1 ≠ p) := fun c hc => by
    obtain ⟨j, hj⟩ := List.getElem?_of_mem hc
    rw [List.getElem?_set] at hj
    by_cases e : i = j
    · rw [if_pos e, if_pos hi] at hj
      exact .inl (Option.some.inj hj).symm
    · rw [if_neg e] at hj
      exact .inr ⟨List.mem_of_getElem? hj, at' j c (Ne.symm e) hj⟩
  refine ⟨by rw [e1]; exact x.nd, fun c hc => ?_, fun c hc => ?_, fun c hc => ?_, x.st.putN (x.at_ _ hm) (x.mu _ hm) (x.fr _ hm)⟩
  · rcases mem c hc with rfl | ⟨h1, _⟩
    · show Nw H0 p
      exact x.fr (p, o) hm
    · exact x.fr c h1
  · rcases mem c hc with rfl | ⟨h1, h2⟩
    · exact upd_same
    · rw [upd_ne h2]
      exact x.at_ c h1
  · rcases mem c hc with rfl | ⟨h1, _⟩
    · exact m
    · exact x.mu c h1
/-- what is no list of ours stays -/
theorem En.putT {K : PySem.W.Frag} {t : Addr} {xs : List V} (x : En T L H0 H cs) (h : cs[i]? = some (p, o)) (ht : H t = some (.tup xs)) : upd H p u t = some (.tup xs) := by
  have hm := List.mem_of_getElem? h
  rw [upd_ne (ne_of ht (x.at_ _ hm) fun z => by
    have := x.mu _ hm
    rw [← z] at this
    exact nm_tup this)]
  exact ht
end
end Z
namespace Z
open PySem PySem.Spec PyProof.Rows L2
def topS (i : Nat) : Stmt := PySem.Challenge.pw_idleclaims_k06_whole_asking_either_way.main.body.getD i (.Pass ⟨0, 0, 0, 0⟩)
abbrev s_pupils_deal : Stmt := topS 1
abbrev n_pupils_deal : List Str := ["book", "dealing", "_"]
theorem sc_pupils_deal : FnScope n_pupils_deal ["book"] (defScope s_pupils_deal) := ⟨rfl, rfl, rfl, by decide +kernel, rfl, by decide +kernel, by decide +kernel⟩
abbrev s_schools_deal : Stmt := topS 2
abbrev n_schools_deal : List Str := ["book", "dealing", "_"]
theorem sc_schools_deal : FnScope n_schools_deal ["book"] (defScope s_schools_deal) := ⟨rfl, rfl, rfl, by decide +kernel, rfl, by decide +kernel, by decide +kernel⟩
abbrev s_refused_asked : Stmt := topS 3
abbrev n_refused_asked : List Str := ["book", "_", "refused"]
theorem sc_refused_asked : FnScope n_refused_asked ["book"] (defScope s_refused_asked) := ⟨rfl, rfl, rfl, by decide +kernel, rfl, by decide +kernel, by decide +kernel⟩
abbrev s_refused_asking : Stmt := topS 4
abbrev n_refused_asking : List Str := ["book", "_", "refused"]
theorem sc_refused_asking : FnScope n_refused_asking ["book"] (defScope s_refused_asking) := ⟨rfl, rfl, rfl, by decide +kernel, rfl, by decide +kernel, by decide +kernel⟩
abbrev s_pupils_ask : Stmt := topS 5
abbrev n_pupils_ask : List Str := ["book", "wishes", "rolls", "seats", "refusals", "_", "held", "refused", "waiting", "pupil", "school", "least", "dealing", "pupils"]
theorem sc_pupils_ask : FnScope n_pupils_ask ["book"] (defScope s_pupils_ask) := ⟨rfl, rfl, rfl, by decide +kernel, rfl, by decide +kernel, by decide +kernel⟩
abbrev s_least_of : Stmt := topS 6
abbrev n_least_of : List Str := ["roll", "pupils"]
theorem sc_least_of : FnScope n_least_of ["roll", "pupils"] (defScope s_least_of) := ⟨rfl, rfl, rfl, by decide +kernel, rfl, by decide +kernel, by decide +kernel⟩
abbrev s_schools_ask : Stmt := topS 7
abbrev n_schools_ask : List Str := ["book", "wishes", "rolls", "seats", "asked", "_", "places", "free", "refused", "waiting", "school", "pupil", "offers", "other"]
theorem sc_schools_ask : FnScope n_schools_ask ["book"] (defScope s_schools_ask) := ⟨rfl, rfl, rfl, by decide +kernel, rfl, by decide +kernel, by decide +kernel⟩
abbrev s_best_of : Stmt := topS 8
abbrev n_best_of : List Str := ["wish", "schools"]
theorem sc_best_of : FnScope n_best_of ["wish", "schools"] (defScope s_best_of) := ⟨rfl, rfl, rfl, by decide +kernel, rfl, by decide +kernel, by decide +kernel⟩
abbrev s_Ldice : Stmt := topS 10
abbrev n_Ldice : List Str := ["_law_script", "_law_state", "_law_digits", "_law_cell", "_law_size", "_law_lap"]
theorem sc_Ldice : FnScope n_Ldice ["_law_script"] (defScope s_Ldice) := ⟨rfl, rfl, rfl, by decide +kernel, rfl, by decide +kernel, by decide +kernel⟩
abbrev s_Ltake : Stmt := topS 11
abbrev n_Ltake : List Str := ["_law_dice_here", "_law_many"]
theorem sc_Ltake : FnScope n_Ltake ["_law_dice_here", "_law_many"] (defScope s_Ltake) := ⟨rfl, rfl, rfl, by decide +kernel, rfl, by decide +kernel, by decide +kernel⟩
abbrev s_Lshuffled : Stmt := topS 12
abbrev n_Lshuffled : List Str := ["_law_dice_here", "_law_things", "_law_left", "_law_out", "_law_k"]
theorem sc_Lshuffled : FnScope n_Lshuffled ["_law_dice_here", "_law_things"] (defScope s_Lshuffled) := ⟨rfl, rfl, rfl, by decide +kernel, rfl, by decide +kernel, by decide +kernel⟩
abbrev s_Lbegun : Stmt := topS 13
abbrev n_Lbegun : List Str := ["_law_dice_here", "_law_menu", "_law_kind", "_law_base", "_law_row", "_law_pupils", "_law_schools", "_law_wishes", "_law_a", "_law_longest", "_law_rolls", "_law_b", "_law_c", "_law_seats"]
theorem sc_Lbegun : FnScope n_Lbegun ["_law_dice_here"] (defScope s_Lbegun) := ⟨rfl, rfl, rfl, by decide +kernel, rfl, by decide +kernel, by decide +kernel⟩
abbrev s_Lbent : Stmt := topS 14
abbrev n_Lbent : List Str := ["_law_dice_here", "_law_wishes", "_law_rolls", "_law_deed", "_law_a", "_law_b", "_law_chosen", "_law_k"]
theorem sc_Lbent : FnScope n_Lbent ["_law_dice_here", "_law_wishes", "_law_rolls"] (defScope s_Lbent) := ⟨rfl, rfl, rfl, by decide +kernel, rfl, by decide +kernel, by decide +kernel⟩
abbrev s_Loffice : Stmt := topS 15
abbrev n_Loffice : List Str := ["_law_dice_here", "_law_wishes", "_law_rolls", "_law_seats", "_law_lap", "_law_many", "_law_row", "_law_pupils", "_law_schools", "_law_new_wishes", "_law_new_rolls", "_law_new_seats", "_law_a", "_law_b"]
theorem sc_Loffice : FnScope n_Loffice ["_law_dice_here"] (defScope s_Loffice) := ⟨rfl, rfl, rfl, by decide +kernel, rfl, by decide +kernel, by decide +kernel⟩
abbrev s_Lrows : Stmt := topS 16
abbrev n_Lrows : List Str := ["_law_office_here", "_law_rows_here", "_law_wishes", "_law_longer", "_law_row", "_law_b"]
theorem sc_Lrows : FnScope n_Lrows ["_law_office_here"] (defScope s_Lrows) := ⟨rfl, rfl, rfl, by decide +kernel, rfl, by decide +kernel, by decide +kernel⟩
abbrev s_Lbars : Stmt := topS 17
abbrev n_Lbars : List Str := ["_law_office_here", "_law_row", "_law_bars_here", "_law_b", "_law_roll", "_law_held", "_law_k"]
theorem sc_Lbars : FnScope n_Lbars ["_law_office_here", "_law_row"] (defScope s_Lbars) := ⟨rfl, rfl, rfl, by decide +kernel, rfl, by decide +kernel, by decide +kernel⟩
abbrev s_Lclaims : Stmt := topS 18
abbrev n_Lclaims : List Str := ["_law_office_here", "_law_row", "_law_bars_here", "_law_out", "_law_a", "_law_b"]
theorem sc_Lclaims : FnScope n_Lclaims ["_law_office_here", "_law_row"] (defScope s_Lclaims) := ⟨rfl, rfl, rfl, by decide +kernel, rfl, by decide +kernel, by decide +kernel⟩
abbrev s_Lplain_rows : Stmt := topS 19
abbrev n_Lplain_rows : List Str := ["_law_office_here", "_law_row"]
theorem sc_Lplain_rows : FnScope n_Lplain_rows ["_law_office_here"] (defScope s_Lplain_rows) := ⟨rfl, rfl, rfl, by decide +kernel, rfl, by decide +kernel, by decide +kernel⟩
abbrev s_Ltold : Stmt := topS 20
abbrev n_Ltold : List Str := ["_law_row", "_law_a"]
theorem sc_Ltold : FnScope n_Ltold ["_law_row"] (defScope s_Ltold) := ⟨rfl, rfl, rfl, by decide +kernel, rfl, by decide +kernel, by decide +kernel⟩
abbrev s_Lspot : Stmt := topS 21
abbrev n_Lspot : List Str := ["_law_office_here", "_law_a", "_law_b"]
theorem sc_Lspot : FnScope n_Lspot ["_law_office_here", "_law_a", "_law_b"] (defScope s_Lspot) := ⟨rfl, rfl, rfl, by decide +kernel, rfl, by decide +kernel, by decide +kernel⟩
abbrev s_Lsame : Stmt := topS 22
abbrev n_Lsame : List Str := ["_law_told_here", "_law_due", "_law_k"]
theorem sc_Lsame : FnScope n_Lsame ["_law_told_here", "_law_due"] (defScope s_Lsame) := ⟨rfl, rfl, rfl, by decide +kernel, rfl, by decide +kernel, by decide +kernel⟩
abbrev s_Llarge : Stmt := topS 23
abbrev n_Llarge : List Str := ["_law_dice_here", "_law_pupils", "_law_schools", "_law_wishes", "_law_a", "_law_rolls", "_law_b", "_law_c", "_law_seats"]
theorem sc_Llarge : FnScope n_Llarge ["_law_dice_here"] (defScope s_Llarge) := ⟨rfl, rfl, rfl, by decide +kernel, rfl, by decide +kernel, by decide +kernel⟩
abbrev s_Lpupils_ask : Stmt := topS 24
abbrev n_Lpupils_ask : List Str := ["_law_dice_here", "_law_office_here", "_law_row", "_law_asked", "_law_refused", "_law_lap", "_law_able", "_law_a", "_law_b", "_law_held", "_law_c", "_law_loser"]
theorem sc_Lpupils_ask : FnScope n_Lpupils_ask ["_law_dice_here", "_law_office_here"] (defScope s_Lpupils_ask) := ⟨rfl, rfl, rfl, by decide +kernel, rfl, by decide +kernel, by decide +kernel⟩
abbrev s_Lschools_ask : Stmt := topS 25
abbrev n_Lschools_ask : List Str := ["_law_dice_here", "_law_office_here", "_law_row", "_law_asked", "_law_refused", "_law_lap", "_law_able", "_law_b", "_law_a"]
theorem sc_Lschools_ask : FnScope n_Lschools_ask ["_law_dice_here", "_law_office_here"] (defScope s_Lschools_ask) := ⟨rfl, rfl, rfl, by decide +kernel, rfl, by decide +kernel, by decide +kernel⟩
abbrev s_Lend : Stmt := topS 26
abbrev n_Lend : List Str := ["_law_office_here", "_law_rows_here", "_law_best", "_law_due", "_law_a", "_law_spots", "_law_row", "_law_spot_here"]
theorem sc_Lend : FnScope n_Lend ["_law_office_here", "_law_rows_here", "_law_best"] (defScope s_Lend) := ⟨rfl, rfl, rfl, by decide +kernel, rfl, by decide +kernel, by decide +kernel⟩
abbrev s_Lpassed : Stmt := topS 27
abbrev n_Lpassed : List Str := ["_law_office_here", "_law_row", "_law_out", "_law_a", "_law_b"]
theorem sc_Lpassed : FnScope n_Lpassed ["_law_office_here", "_law_row"] (defScope s_Lpassed) := ⟨rfl, rfl, rfl, by decide +kernel, rfl, by decide +kernel, by decide +kernel⟩
abbrev s_Lpassed_by : Stmt := topS 28
abbrev n_Lpassed_by : List Str := ["_law_office_here", "_law_row", "_law_out", "_law_bars_here", "_law_b", "_law_a"]
theorem sc_Lpassed_by : FnScope n_Lpassed_by ["_law_office_here", "_law_row"] (defScope s_Lpassed_by) := ⟨rfl, rfl, rfl, by decide +kernel, rfl, by decide +kernel, by decide +kernel⟩
abbrev s_law : Stmt := topS 29
abbrev n_law : List Str := ["_law_script", "_law_dice_here", "_law_office_here", "_law_best", "_law_refused", "_law_worst", "_law_refused_by", "_law_plain"]
theorem sc_law : FnScope n_law ["_law_script"] (defScope s_law) := ⟨rfl, rfl, rfl, by decide +kernel, rfl, by decide +kernel, by decide +kernel⟩
/-- the built-in names -/
structure Bt (mg : Str → Option Value) : Prop where
  len : mg "len" = none
  int : mg "int" = none
  range : mg "range" = none
  list : mg "list" = none
  tuple : mg "tuple" = none
  sorted : mg "sorted" = none
  max : mg "max" = none
  min : mg "min" = none
  abs : mg "abs" = none
  isinstance : mg "isinstance" = none
  enumerate : mg "enumerate" = none
  str : mg "str" = none
  bool : mg "bool" = none
end Z
namespace Z
open PySem PySem.Spec PyProof.Rows L2
section
variable {P : Program} {w : World} {K : PySem.W.Frag} {mg : Str → Option Value} {base : Heap} {T : Tb}
def spTake (T : Tb) : Sp := fun vs H Q _ => ∃ (d : Addr) (m : Int), vs = [.ref d, .int m] ∧ 0 < m ∧ Dice H d ∧ ∀ (t : Nat) H', (t : Int) < m → St T [d] H H' → Dice H' d → Q (nV t) H'
theorem dice_put {H : Hp} {d : Addr} {ns ms : List Int} (h : H d = some (.lst (ns.map V.int))) (h0 : ms ≠ []) (hl : ms.length ≤ 4000) : St T [d] H (upd H d (.lst (ms.map V.int))) ∧ Dice (upd H d (.lst (ms.map V.int))) d :=
  ⟨.put h (.inl ⟨_, rfl⟩) (.inl ⟨_, rfl⟩) (by simp), ms, h0, hl, upd_same⟩
theorem ok_take {f : Addr} {fd : FuncData} {k : Nat} (F : Fun K "_law_take" "_law_take" s_Ltake f fd) (B : Bt mg) : FnOk P w K mg base CX0 (k + 1) f fd ["_law_dice_here", "_law_many"] (spTake T) := by
  refine F.ok sc_Ltake (fun vs H Q E h => ?_) (fun cdv A outer s H vs Q E hr h => ?_)
  · obtain ⟨d, m, rfl, _⟩ := h
    rfl
  · obtain ⟨d, m, rfl, hm, ⟨ns, h0, hl, hd⟩, q⟩ := h
    refine ⟨_, pss_cons (ps_if (pt_cmpR op_gt (pe_callB call_len_seq (by rfl) B.len PySem.boot_len (pa_cons (pv 0) pa_nil)) pe_int (nomark _))
        (pss_one (ps_ret (pe_op op_modN (pe_callTy call_int1 (by rfl) B.int (by decide +kernel) (pa_cons (pe_bm0 PySem.F.plainAttrs_list PySem.F.slot_list_pop PySem.F.type_list_pop mt_pop (pv 0)) pa_nil)) (pv 1)))) pss_nil)
      (pss_cons (ps_asg (pe_op op_mod (pe_callTy call_int1 (by rfl) B.int (by decide +kernel) (pa_cons (pe_op op_mul (pe_ix ix_list (pv 0) pe_int (fun _ _ => rfl)) pe_int) pa_nil)) pe_int) (pg_sub (pv 0) pe_int set_list))
      (pss_one (ps_ret (pe_op op_modN (pe_callTy call_int1 (by rfl) B.int (by decide +kernel) (pa_cons (pe_op op_fdiv (pe_ix ix_list (pv 0) pe_int (fun _ _ => rfl)) pe_int) pa_nil)) (pv 1))))), ?_⟩
    obtain ⟨n, r, rfl⟩ : ∃ n r, ns = n :: r := by
      cases ns with
      | nil => exact absurd rfl h0
      | cons n r => exact ⟨n, r, rfl⟩
    refine ⟨_, rfl, d, _, rfl, .inl (.of hd), _, _, rfl, rfl, _, rfl, ite2 (fun e => ?_) (fun e => ?_)⟩
    · have e1 : (1 : Int) < (((n :: r).map V.int).length : Int) := of_decide_eq_true e
      rw [List.length_map, List.length_cons] at e1
      obtain ⟨y, hy⟩ : ∃ y, (n :: r)[(n :: r).length - 1]? = some y := ⟨_, List.getElem?_eq_getElem (by rw [List.length_cons]; omega)⟩
      refine ⟨_, rfl, .inl ⟨rfl, _, .of hd⟩, d, _, .int y, rfl, rfl, hd, by rw [List.length_map, List.getElem?_map, hy]; rfl, .inl ⟨_, rfl, _, rfl, _, m, rfl, rfl, by omega, ?_⟩⟩
      have hp := dice_put (T := T) (ms := (n :: r).dropLast) hd (by
        cases r with
        | nil => simp at e1
        | cons a b => simp) (by rw [List.length_dropLast]; omega)
      rw [List.map_dropLast] at hp
      have b1 := Int.emod_nonneg y (show m ≠ 0 by omega)
      have b2 := Int.emod_lt_of_pos y hm
      rw [← Int.fmod_eq_emod_of_nonneg y (by omega)] at b1 b2
      have g := q (y.fmod m).toNat _ (by omega) hp.1 hp.2
      rw [show nV (y.fmod m).toNat = V.int (y.fmod m) by unfold nV; congr 1; omega] at g
      exact g
    · refine ⟨_, rfl, d, _, 0, .int n, rfl, rfl, .of hd, atI_nat (j := 0) rfl, n, 48271, rfl, rfl, .inr (by constructor <;> decide), .inl ⟨_, rfl, _, 2147483647, rfl, rfl, (by show (0 : Int) < 2147483647; decide), ?_⟩⟩
      refine ⟨_, rfl, d, _, 0, 0, rfl, rfl, hd, Evl.ixN_nat (j := 0) (by simp), ?_⟩
      refine ⟨_, rfl, d, _, 0, .int (n * 48271 % 2147483647), rfl, rfl, .of upd_same, atI_nat (j := 0) rfl, _, 1021, rfl, rfl, by constructor <;> decide, .inl ⟨_, rfl, _, rfl, _, m, rfl, rfl, by omega, ?_⟩⟩
      have hp := dice_put (T := T) (ms := (n * 48271 % 2147483647) :: r) hd (by simp) hl
      have b1 := Int.emod_nonneg (n * 48271 % 2147483647 / 1021) (show m ≠ 0 by omega)
      have b2 := Int.emod_lt_of_pos (n * 48271 % 2147483647 / 1021) hm
      rw [← Int.fmod_eq_emod_of_nonneg _ (by omega)] at b1 b2
      have g := q ((n * 48271 % 2147483647 / 1021).fmod m).toNat _ (by omega) hp.1 hp.2
      rw [show nV ((n * 48271 % 2147483647 / 1021).fmod m).toNat = V.int ((n * 48271 % 2147483647 / 1021).fmod m) by unfold nV; congr 1; omega] at g
      exact g
end
end Z
namespace Ma
/-! ### lists -/
theorem idx_get {l : List Nat} (h : l.Nodup) {i x : Nat} (e : l[i]? = some x) : l.idxOf x = i := by
  obtain ⟨hi, e⟩ := List.getElem?_eq_some_iff.mp e
  rw [← e]
  exact h.idxOf_getElem i hi
theorem get_idx {l : List Nat} {x : Nat} (h : x ∈ l) : l[l.idxOf x]? = some x := by
  rw [List.getElem?_eq_getElem (List.idxOf_lt_length_of_mem h), List.getElem_idxOf]
theorem idx_inj {l : List Nat} {x y : Nat} (h : x ∈ l) (h2 : y ∈ l) (e : l.idxOf x = l.idxOf y) : x = y := by
  have a := get_idx h
  rw [e, get_idx h2] at a
  exact (Option.some.inj a).symm
theorem mem_take {l : List Nat} {q x : Nat} : x ∈ l.take q ↔ ∃ i, i < q ∧ l[i]? = some x := by
  rw [List.mem_iff_getElem?]
  constructor
  · rintro ⟨i, e⟩
    rw [List.getElem?_take] at e
    split at e
    · exact ⟨i, by assumption, e⟩
    · cases e
  · rintro ⟨i, h, e⟩
    exact ⟨i, by rw [List.getElem?_take, if_pos h]; exact e⟩
theorem mem_take_idx {l : List Nat} (h : l.Nodup) {q x : Nat} : x ∈ l.take q ↔ x ∈ l ∧ l.idxOf x < q := by
  rw [mem_take]
  constructor
  · rintro ⟨i, h1, e⟩
    exact ⟨List.mem_of_getElem? e, by rw [idx_get h e]; exact h1⟩
  · rintro ⟨h1, h2⟩
    exact ⟨_, h2, get_idx h1⟩
theorem countP_lt {p q : Nat → Bool} : ∀ {l : List Nat}, (∀ x ∈ l, p x = true → q x = true) → (∃ x, x ∈ l ∧ q x = true ∧ p x = false) → l.countP p < l.countP q
  | [], _, ⟨_, h, _⟩ => by cases h
  | y :: l, h, ⟨x, hx, h1, h2⟩ => by
    rw [List.countP_cons, List.countP_cons]
    have mono : l.countP p ≤ l.countP q := List.countP_mono_left fun z hz hp => h z (List.mem_cons_of_mem _ hz) hp
    rcases List.mem_cons.mp hx with rfl | hx
    · rw [if_pos h1, if_neg (by rw [h2]; decide)]
      omega
    · have ih := countP_lt (fun z hz => h z (List.mem_cons_of_mem _ hz)) ⟨x, hx, h1, h2⟩
      have hy := h y List.mem_cons_self
      by_cases c : p y = true
      · rw [if_pos c, if_pos (hy c)]
        omega
      · rw [if_neg c]
        split <;> omega
/-- one more -/
theorem countP_one {p q : Nat → Bool} {a : Nat} : ∀ {l : List Nat}, l.Nodup → a ∈ l → p a = false → q a = true → (∀ x ∈ l, x ≠ a → p x = q x) → l.countP q = l.countP p + 1
  | [], _, h, _, _, _ => by cases h
  | y :: l, hn, h, h1, h2, h3 => by
    rw [List.countP_cons, List.countP_cons]
    have hy := List.nodup_cons.mp hn
    rcases List.mem_cons.mp h with rfl | h
    · rw [if_pos h2, if_neg (by rw [h1]; decide)]
      have e : l.countP q = l.countP p := List.countP_congr fun x hx => by
        rw [h3 x (List.mem_cons_of_mem _ hx) fun z => by rw [z] at hx; exact hy.1 hx]
      omega
    · have ih := countP_one hy.2 h h1 h2 fun x hx => h3 x (List.mem_cons_of_mem _ hx)
      have e : p y = q y := h3 y List.mem_cons_self fun z => hy.1 (by rw [z]; exact h)
      rw [e]
      omega
def up {α : Type} (r : Nat → α) (a : Nat) (v : α) : Nat → α := fun x => if x = a then v else r x
theorem up_same {α : Type} {r : Nat → α} {a : Nat} {v : α} : up r a v a = v := if_pos rfl
theorem up_ne {α : Type} {r : Nat → α} {a x : Nat} {v : α} (h : x ≠ a) : up r a v x = r x := if_neg h
/-! ### books -/
structure Bk where
  n : Nat
  m : Nat
  W : Nat → List Nat
  R : Nat → List Nat
  S : Nat → Nat
structure Wf (B : Bk) : Prop where
  wn : ∀ a, (B.W a).Nodup
  rn : ∀ b, (B.R b).Nodup
  sd : ∀ a b, b ∈ B.W a ↔ a ∈ B.R b
  sp : ∀ b, 1 ≤ B.S b
  wl : ∀ a, B.n ≤ a → B.W a = []
  rl : ∀ b, B.m ≤ b → B.R b = []
abbrev Row := Nat → Option Nat
def cnt (B : Bk) (r : Row) (b : Nat) : Nat := (B.R b).countP fun a => r a == some b
def spot (B : Bk) (a : Nat) : Option Nat → Nat
  | none => (B.W a).length
  | some b => (B.W a).idxOf b
structure Fe (B : Bk) (r : Row) : Prop where
  pr : ∀ a b, r a = some b → b ∈ B.W a
  le : ∀ b, cnt B r b ≤ B.S b
def PW (B : Bk) (r : Row) (a b : Nat) : Prop := (B.W a).idxOf b < spot B a (r a)
def SW (B : Bk) (r : Row) (b a : Nat) : Prop := r a ≠ some b ∧ (cnt B r b < B.S b ∨ ∃ a', a' ∈ B.R b ∧ r a' = some b ∧ (B.R b).idxOf a < (B.R b).idxOf a')
structure Sta (B : Bk) (r : Row) : Prop where
  fe : Fe B r
  no : ∀ a b, b ∈ B.W a → PW B r a b → SW B r b a → False
structure Best (B : Bk) (r : Row) : Prop where
  st : Sta B r
  le : ∀ v, Sta B v → ∀ a, spot B a (r a) ≤ spot B a (v a)
structure Worst (B : Bk) (r : Row) : Prop where
  st : Sta B r
  le : ∀ v, Sta B v → ∀ a, spot B a (v a) ≤ spot B a (r a)
variable {B : Bk} {r v : Row} {a b : Nat}
theorem cnt_congr (h : ∀ a, a ∈ B.R b → (r a = some b ↔ v a = some b)) : cnt B r b = cnt B v b := by
  unfold cnt
  refine List.countP_congr fun x hx => ?_
  have := h x hx
  simp only [beq_iff_eq]
  exact this
theorem spot_inj (h1 : ∀ b, x = some b → b ∈ B.W a) (h2 : ∀ b, y = some b → b ∈ B.W a) (e : spot B a x = spot B a y) : x = y := by
  cases x with
  | none => cases y with
    | none => rfl
    | some c =>
      have := List.idxOf_lt_length_of_mem (h2 c rfl)
      unfold spot at e
      dsimp only at e
      omega
  | some c => cases y with
    | none =>
      have := List.idxOf_lt_length_of_mem (h1 c rfl)
      unfold spot at e
      dsimp only at e
      omega
    | some d => rw [idx_inj (h1 c rfl) (h2 d rfl) e]
theorem Best.uniq (x : Best B r) (y : Best B v) (a : Nat) : r a = v a :=
  spot_inj (B := B) (a := a) (x.st.fe.pr a) (y.st.fe.pr a) (Nat.le_antisymm (x.le v y.st a) (y.le r x.st a))
theorem Worst.uniq (x : Worst B r) (y : Worst B v) (a : Nat) : r a = v a :=
  spot_inj (B := B) (a := a) (x.st.fe.pr a) (y.st.fe.pr a) (Nat.le_antisymm (y.le r x.st a) (x.le v y.st a))
/-! ### pupils ask -/
structure PA (B : Bk) (r : Row) (k : Nat → Nat) : Prop where
  at_ : ∀ a b, r a = some b → (B.W a)[k a]? = some b
  le : ∀ b, cnt B r b ≤ B.S b
  kl : ∀ a, k a ≤ (B.W a).length
  fu : ∀ a i b, i < k a → (B.W a)[i]? = some b → B.S b ≤ cnt B r b ∧ ∀ a', r a' = some b → (B.R b).idxOf a' < (B.R b).idxOf a
  nv : ∀ v, Sta B v → ∀ a i b, i < k a → (B.W a)[i]? = some b → v a ≠ some b
theorem PA.start : PA B (fun _ => none) fun _ => 0 := by
  refine ⟨fun a b e => (nomatch e), fun b => ?_, fun _ => Nat.zero_le _, fun _ _ _ h => absurd h (Nat.not_lt_zero _), fun _ _ _ _ _ h => absurd h (Nat.not_lt_zero _)⟩
  unfold cnt
  rw [List.countP_eq_zero.mpr fun _ _ => by simp]
  exact Nat.zero_le _
variable {k : Nat → Nat}
theorem PA.mem (p : PA B r k) (h : r a = some b) : b ∈ B.W a := List.mem_of_getElem? (p.at_ a b h)
theorem cnt_up (wf : Wf B) (hn : r a = none) (hb : b ∈ B.W a) : cnt B (up r a (some b)) b = cnt B r b + 1 := by
  unfold cnt
  refine countP_one (a := a) (wf.rn b) ((wf.sd a b).mp hb) (by simp [hn]) (by rw [up_same]; simp) fun x _ hx => ?_
  rw [up_ne hx]
theorem cnt_up_ne {c : Nat} (hn : r a = none) (hc : c ≠ b) : cnt B (up r a (some b)) c = cnt B r c := by
  refine cnt_congr fun x _ => ?_
  by_cases hx : x = a
  · rw [hx, up_same, hn]
    constructor
    · intro e; exact absurd (Option.some.inj e).symm hc
    · intro e; cases e
  · rw [up_ne hx]
theorem PA.place (wf : Wf B) (p : PA B r k) (hn : r a = none) (hb : (B.W a)[k a]? = some b) (hc : cnt B (up r a (some b)) b ≤ B.S b) : PA B (up r a (some b)) k := by
  have hm := List.mem_of_getElem? hb
  have e1 := cnt_up wf hn hm
  refine ⟨fun x c e => ?_, fun c => ?_, p.kl, fun x i c hi e => ?_, p.nv⟩
  · by_cases hx : x = a
    · rw [hx, up_same] at e
      cases e
      rw [hx]
      exact hb
    · rw [up_ne hx] at e
      exact p.at_ x c e
  · by_cases hc' : c = b
    · rw [hc']; exact hc
    · rw [cnt_up_ne hn hc']
      exact p.le c
  · obtain ⟨h1, h2⟩ := p.fu x i c hi e
    by_cases hc' : c = b
    · rw [hc'] at h1
      omega
    · refine ⟨by rw [cnt_up_ne hn hc']; exact h1, fun y hy => ?_⟩
      by_cases hya : y = a
      · rw [hya, up_same] at hy
        exact absurd (Option.some.inj hy).symm hc'
      · rw [up_ne hya] at hy
        exact h2 y hy
theorem PA.refuse (wf : Wf B) {l : Nat} (p : PA B r k) (hn : r a = none) (hb : (B.W a)[k a]? = some b) (hc : B.S b < cnt B (up r a (some b)) b) (hl : up r a (some b) l = some b)
    (hw : ∀ x, up r a (some b) x = some b → (B.R b).idxOf x ≤ (B.R b).idxOf l) : PA B (up (up r a (some b)) l none) (up k l (k l + 1)) ∧ (B.W l)[k l]? = some b := by
  have hm := List.mem_of_getElem? hb
  have e1 := cnt_up wf hn hm
  have atl : ∀ x c, up r a (some b) x = some c → (B.W x)[k x]? = some c := fun x c e => by
    by_cases hx : x = a
    · rw [hx, up_same] at e
      cases e
      rw [hx]
      exact hb
    · rw [up_ne hx] at e
      exact p.at_ x c e
  have hlb := atl l b hl
  have mem : ∀ x c, up r a (some b) x = some c → x ∈ B.R c := fun x c e => (wf.sd x c).mp (List.mem_of_getElem? (atl x c e))
  have e2 : cnt B (up r a (some b)) b = cnt B (up (up r a (some b)) l none) b + 1 := by
    unfold cnt
    refine countP_one (a := l) (wf.rn b) (mem l b hl) (by rw [up_same]; simp) (by simp [hl]) fun x _ hx => ?_
    rw [up_ne hx]
  have e3 : ∀ c, c ≠ b → cnt B (up (up r a (some b)) l none) c = cnt B r c := fun c hc' => by
    rw [← cnt_up_ne hn hc']
    refine cnt_congr fun x _ => ?_
    by_cases hx : x = l
    · rw [hx, up_same, hl]
      constructor
      · intro e; cases e
      · intro e; exact absurd (Option.some.inj e).symm hc'
    · rw [up_ne hx]
  have hold : ∀ x c, up (up r a (some b)) l none x = some c → x ≠ l ∧ up r a (some b) x = some c := fun x c e => by
    by_cases hx : x = l
    · rw [hx, up_same] at e
      cases e
    · rw [up_ne hx] at e
      exact ⟨hx, e⟩
  have lt : ∀ x, up (up r a (some b)) l none x = some b → (B.R b).idxOf x < (B.R b).idxOf l := fun x e => by
    obtain ⟨h1, h2⟩ := hold x b e
    have h3 := hw x h2
    rcases Nat.lt_or_eq_of_le h3 with h | h
    · exact h
    · exact absurd (idx_inj (mem x b h2) (mem l b hl) h) h1
  have kle : k l < (B.W l).length := (List.getElem?_eq_some_iff.mp hlb).1
  refine ⟨⟨fun x c e => ?_, fun c => ?_, fun x => ?_, fun x i c hi e => ?_, fun v hv x i c hi e => ?_⟩, hlb⟩
  · obtain ⟨h1, h2⟩ := hold x c e
    rw [up_ne h1]
    exact atl x c h2
  · by_cases hc' : c = b
    · rw [hc']
      have := p.le b
      omega
    · rw [e3 c hc']
      exact p.le c
  · by_cases hx : x = l
    · rw [hx, up_same]; exact kle
    · rw [up_ne hx]; exact p.kl x
  · have old : i < k x → B.S c ≤ cnt B (up (up r a (some b)) l none) c ∧ ∀ a', up (up r a (some b)) l none a' = some c → (B.R c).idxOf a' < (B.R c).idxOf x := fun hi => by
      obtain ⟨h1, h2⟩ := p.fu x i c hi e
      by_cases hc' : c = b
      · subst hc'
        refine ⟨by omega, fun y hy => ?_⟩
        obtain ⟨h3, h4⟩ := hold y c hy
        by_cases hya : y = a
        · have hla : l ≠ a := fun z => h3 (hya.trans z.symm)
          have hl' := hl
          rw [up_ne hla] at hl'
          exact Nat.lt_trans (lt y hy) (h2 l hl')
        · rw [up_ne hya] at h4
          exact h2 y h4
      · refine ⟨by rw [e3 c hc']; exact h1, fun y hy => ?_⟩
        obtain ⟨h3, h4⟩ := hold y c hy
        by_cases hya : y = a
        · rw [hya, up_same] at h4
          exact absurd (Option.some.inj h4).symm hc'
        · rw [up_ne hya] at h4
          exact h2 y h4
    by_cases hx : x = l
    · by_cases hik : i = k l
      · rw [hx, hik, hlb] at e
        cases e
        rw [hx]
        exact ⟨by omega, lt⟩
      · rw [hx, up_same] at hi
        exact old (by rw [hx]; omega)
    · rw [up_ne hx] at hi
      exact old hi
  · by_cases hik : x = l ∧ i = k l
    · obtain ⟨hx, hik⟩ := hik
      rw [hx, hik, hlb] at e
      cases e
      rw [hx]
      intro hvl
      -- some holder now is not b's in v
      by_cases all : ∀ y, y ∈ B.R b → up (up r a (some b)) l none y = some b → v y = some b
      · have lt2 : cnt B (up (up r a (some b)) l none) b < cnt B v b := by
          unfold cnt
          refine countP_lt (fun y hy h => by rw [beq_iff_eq] at h ⊢; exact all y hy h) ⟨l, mem l b hl, by rw [beq_iff_eq]; exact hvl, by rw [up_same]; rfl⟩
        have := hv.fe.le b
        omega
      · obtain ⟨y, hy⟩ := Classical.not_forall.mp all
        obtain ⟨hy1, hy⟩ := Classical.not_imp.mp hy
        obtain ⟨hy2, hy3⟩ := Classical.not_imp.mp hy
        obtain ⟨h3, h4⟩ := hold y b hy2
        have hyk := atl y b h4
        refine hv.no y b (List.mem_of_getElem? hyk) ?_ ⟨hy3, .inr ⟨l, mem l b hl, hvl, lt y hy2⟩⟩
        unfold PW
        rw [idx_get (wf.wn y) hyk]
        cases hvy : v y with
        | none => exact (List.getElem?_eq_some_iff.mp hyk).1
        | some c =>
          show k y < (B.W y).idxOf c
          have hcm := hv.fe.pr y c hvy
          rcases Nat.lt_trichotomy (k y) ((B.W y).idxOf c) with h | h | h
          · exact h
          · have := get_idx hcm
            rw [← h, hyk] at this
            cases this
            exact absurd hvy hy3
          · exact absurd hvy (p.nv v hv y _ c h (get_idx hcm))
    · refine p.nv v hv x i c ?_ e
      by_cases hx : x = l
      · rw [hx, up_same] at hi
        have : i ≠ k l := fun z => hik ⟨hx, z⟩
        rw [hx]
        omega
      · rw [up_ne hx] at hi
        exact hi
theorem PA.spot_at (wf : Wf B) (p : PA B r k) (h : ∀ a, r a = none → (B.W a).length ≤ k a) (a : Nat) : k a = spot B a (r a) := by
  cases e : r a with
  | none => exact Nat.le_antisymm (p.kl a) (h a e)
  | some b => exact (idx_get (wf.wn a) (p.at_ a b e)).symm
theorem PA.best (wf : Wf B) (p : PA B r k) (h : ∀ a, r a = none → (B.W a).length ≤ k a) : Best B r := by
  refine ⟨⟨⟨fun a b e => p.mem e, p.le⟩, fun a b hb pw sw => ?_⟩, fun v hv a => ?_⟩
  · unfold PW at pw
    rw [← p.spot_at wf h a] at pw
    obtain ⟨h1, h2⟩ := p.fu a _ b pw (get_idx hb)
    rcases sw.2 with z | ⟨a', _, e, z⟩
    · omega
    · have := h2 a' e
      omega
  · rw [← p.spot_at wf h a]
    cases e : v a with
    | none => exact p.kl a
    | some b =>
      have hb := hv.fe.pr a b e
      rcases Nat.lt_or_ge ((B.W a).idxOf b) (k a) with z | z
      · exact absurd e (p.nv v hv a _ b z (get_idx hb))
      · exact z
/-! ### schools ask -/
structure SA (B : Bk) (r : Row) (q : Nat → Nat) : Prop where
  pr : ∀ a b, r a = some b → a ∈ (B.R b).take (q b)
  le : ∀ b, cnt B r b ≤ B.S b
  ql : ∀ b, q b ≤ (B.R b).length
  wo : ∀ a b, a ∈ (B.R b).take (q b) → r a ≠ some b → ∃ c, r a = some c ∧ (B.W a).idxOf c < (B.W a).idxOf b
  nv : ∀ v, Sta B v → ∀ a b, v a = some b → a ∈ (B.R b).take (q b) → r a = some b
  la : ∀ b, cnt B r b = B.S b → ∃ a, 0 < q b ∧ (B.R b)[q b - 1]? = some a ∧ r a = some b
variable {q : Nat → Nat}
theorem SA.start (wf : Wf B) : SA B (fun _ => none) fun _ => 0 := by
  have c0 : ∀ b, cnt B (fun _ => none) b = 0 := fun b => by
    unfold cnt
    exact List.countP_eq_zero.mpr fun _ _ => by simp
  refine ⟨fun a b e => (nomatch e), fun b => by rw [c0]; exact Nat.zero_le _, fun _ => Nat.zero_le _, fun a b h => by simp at h, fun _ _ a b _ h => by simp at h, fun b e => ?_⟩
  rw [c0] at e
  have := wf.sp b
  omega
theorem take_up {l : List Nat} {i x y : Nat} (e : l[i]? = some x) : y ∈ l.take (i + 1) ↔ y ∈ l.take i ∨ y = x := by
  rw [List.take_add_one, e, List.mem_append]
  simp
theorem SA.mem (p : SA B r q) (h : r a = some b) : a ∈ B.R b := List.mem_of_mem_take (p.pr a b h)
/-- all that v gives b and b has asked it holds -/
theorem SA.full (wf : Wf B) (p : SA B r q) (hv : Sta B v) (hb : b ∈ B.W a) (ha : (B.R b).idxOf a ≤ q b) (hpw : PW B v a b) (hva : v a ≠ some b) : B.S b ≤ cnt B v b ∧ ∀ x, x ∈ B.R b → v x = some b → r x = some b := by
  have nsw : ¬ SW B v b a := fun z => hv.no a b hb hpw z
  have h1 : ¬ cnt B v b < B.S b := fun z => nsw ⟨hva, .inl z⟩
  refine ⟨by omega, fun x hx e => p.nv v hv x b e ((mem_take_idx (wf.rn b)).mpr ⟨hx, ?_⟩)⟩
  rcases Nat.lt_or_ge ((B.R b).idxOf x) ((B.R b).idxOf a) with z | z
  · omega
  · rcases Nat.lt_or_eq_of_le z with z | z
    · exact (nsw ⟨hva, .inr ⟨x, hx, e, z⟩⟩).elim
    · have := idx_inj hx ((wf.sd a b).mp hb) z.symm
      rw [this] at e
      exact absurd e hva
theorem cnt_le_of (h : ∀ x, x ∈ B.R b → v x = some b → r x = some b) : cnt B v b ≤ cnt B r b := by
  unfold cnt
  exact List.countP_mono_left fun x hx e => by
    rw [beq_iff_eq] at e ⊢
    exact h x hx e
theorem SA.refuse (wf : Wf B) {c : Nat} (p : SA B r q) (hc : cnt B r b < B.S b) (ha : (B.R b)[q b]? = some a) (hr : r a = some c) (hcb : (B.W a).idxOf c ≤ (B.W a).idxOf b) : SA B r (up q b (q b + 1)) ∧ c ≠ b := by
  have hm := List.mem_of_getElem? ha
  have hbw := (wf.sd a b).mpr hm
  have ia := idx_get (wf.rn b) ha
  have hcw : c ∈ B.W a := (wf.sd a c).mpr (p.mem hr)
  have ncb : c ≠ b := fun z => by
    rw [z] at hr
    have := ((mem_take_idx (wf.rn b)).mp (p.pr a b hr)).2
    omega
  have lt : (B.W a).idxOf c < (B.W a).idxOf b := by
    rcases Nat.lt_or_eq_of_le hcb with z | z
    · exact z
    · exact absurd (idx_inj hcw hbw z) ncb
  have tk : ∀ x d, x ∈ (B.R d).take (up q b (q b + 1) d) ↔ x ∈ (B.R d).take (q d) ∨ (d = b ∧ x = a) := fun x d => by
    by_cases hd : d = b
    · rw [hd, up_same, take_up ha]
      simp
    · rw [up_ne hd]
      simp [hd]
  refine ⟨⟨fun x d e => (tk x d).mpr (.inl (p.pr x d e)), p.le, fun d => ?_, fun x d h hne => ?_, fun v hv x d e h => ?_, fun d e => ?_⟩, ncb⟩
  · by_cases hd : d = b
    · rw [hd, up_same]; exact (List.getElem?_eq_some_iff.mp ha).1
    · rw [up_ne hd]; exact p.ql d
  · rcases (tk x d).mp h with h | ⟨rfl, rfl⟩
    · exact p.wo x d h hne
    · exact ⟨c, hr, lt⟩
  · rcases (tk x d).mp h with h | ⟨rfl, rfl⟩
    · exact p.nv v hv x d e h
    · -- x is c's, and would rather be c's
      exfalso
      have hpw : PW B v x c := by
        unfold PW
        rw [e]
        exact lt
      have hxc := ((mem_take_idx (wf.rn c)).mp (p.pr x c hr)).2
      have hvx : v x ≠ some c := fun z => by
        rw [e] at z
        exact ncb (Option.some.inj z).symm
      obtain ⟨h1, h2⟩ := p.full wf hv hcw (Nat.le_of_lt hxc) hpw hvx
      have : cnt B v c < cnt B r c := by
        unfold cnt
        exact countP_lt (fun y hy z => by rw [beq_iff_eq] at z ⊢; exact h2 y hy z) ⟨x, p.mem hr, by rw [beq_iff_eq]; exact hr, by simp [hvx]⟩
      have := p.le c
      omega
  · by_cases hd : d = b
    · rw [hd] at e; omega
    · rw [up_ne hd]; exact p.la d e
theorem SA.take (wf : Wf B) (p : SA B r q) (hc : cnt B r b < B.S b) (ha : (B.R b)[q b]? = some a) (hr : ∀ c, r a = some c → (B.W a).idxOf b < (B.W a).idxOf c) : SA B (up r a (some b)) (up q b (q b + 1)) := by
  have hm := List.mem_of_getElem? ha
  have hbw := (wf.sd a b).mpr hm
  have ia := idx_get (wf.rn b) ha
  have nb : r a ≠ some b := fun z => by
    have := hr b z
    omega
  have tk : ∀ x d, x ∈ (B.R d).take (up q b (q b + 1) d) ↔ x ∈ (B.R d).take (q d) ∨ (d = b ∧ x = a) := fun x d => by
    by_cases hd : d = b
    · rw [hd, up_same, take_up ha]
      simp
    · rw [up_ne hd]
      simp [hd]
  have cb : cnt B (up r a (some b)) b = cnt B r b + 1 := by
    unfold cnt
    refine countP_one (a := a) (wf.rn b) hm (by simp [nb]) (by rw [up_same]; simp) fun x _ hx => ?_
    rw [up_ne hx]
  have co : ∀ d, d ≠ b → cnt B (up r a (some b)) d ≤ cnt B r d := fun d hd => cnt_le_of fun x _ e => by
    by_cases hx : x = a
    · rw [hx, up_same] at e
      exact absurd (Option.some.inj e).symm hd
    · rw [up_ne hx] at e
      exact e
  refine ⟨fun x d e => (tk x d).mpr ?_, fun d => ?_, fun d => ?_, fun x d h hne => ?_, fun v hv x d e h => ?_, fun d e => ?_⟩
  · by_cases hx : x = a
    · rw [hx, up_same] at e
      exact .inr ⟨(Option.some.inj e).symm, hx⟩
    · rw [up_ne hx] at e
      exact .inl (p.pr x d e)
  · by_cases hd : d = b
    · rw [hd]; omega
    · exact Nat.le_trans (co d hd) (p.le d)
  · by_cases hd : d = b
    · rw [hd, up_same]; exact (List.getElem?_eq_some_iff.mp ha).1
    · rw [up_ne hd]; exact p.ql d
  · by_cases hx : x = a
    · rw [hx, up_same] at hne ⊢
      rcases (tk x d).mp h with h | ⟨rfl, _⟩
      · rw [hx] at h
        by_cases z : r a = some d
        · exact ⟨b, rfl, hr d z⟩
        · obtain ⟨c, h1, h2⟩ := p.wo a d h z
          exact ⟨b, rfl, Nat.lt_trans (hr c h1) h2⟩
      · exact absurd rfl hne
    · rw [up_ne hx] at hne ⊢
      rcases (tk x d).mp h with h | ⟨_, z⟩
      · exact p.wo x d h hne
      · exact absurd z hx
  · rcases (tk x d).mp h with h | ⟨rfl, rfl⟩
    · have hrx := p.nv v hv x d e h
      by_cases hx : x = a
      · -- a was d's, and leaves for b
        exfalso
        subst hx
        have lt := hr d hrx
        have hpw : PW B v x b := by
          unfold PW
          rw [e]
          exact lt
        have hvx : v x ≠ some b := fun z => by
          rw [e] at z
          cases z
          exact nb hrx
        obtain ⟨h1, h2⟩ := p.full wf hv hbw (by omega) hpw hvx
        have := cnt_le_of h2
        omega
      · rw [up_ne hx]
        exact hrx
    · rw [up_same]
  · by_cases hd : d = b
    · refine ⟨a, by rw [hd, up_same]; omega, by rw [hd, up_same]; exact ha, by rw [up_same, hd]⟩
    · have h1 := co d hd
      have h2 := p.le d
      have h3 : cnt B r d = B.S d := by omega
      obtain ⟨x, e1, e2, e3⟩ := p.la d h3
      rw [up_ne hd]
      refine ⟨x, e1, e2, ?_⟩
      by_cases hx : x = a
      · -- then d would hold one less
        exfalso
        have : cnt B (up r a (some b)) d < cnt B r d := by
          unfold cnt
          refine countP_lt (fun y hy z => ?_) ⟨a, by rw [← hx]; exact p.mem e3, by rw [beq_iff_eq, ← hx]; exact e3, by rw [up_same]; simp; exact fun z => hd z.symm⟩
          rw [beq_iff_eq] at z ⊢
          by_cases hy : y = a
          · rw [hy, up_same] at z
            exact absurd (Option.some.inj z).symm hd
          · rw [up_ne hy] at z
            exact z
        omega
      · rw [up_ne hx]
        exact e3
theorem SA.worst (wf : Wf B) (p : SA B r q) (h : ∀ b, (B.R b).length ≤ q b ∨ B.S b ≤ cnt B r b) : Worst B r := by
  refine ⟨⟨⟨fun a b e => (wf.sd a b).mpr (p.mem e), p.le⟩, fun a b hb pw sw => ?_⟩, fun v hv a => ?_⟩
  · have hm := (wf.sd a b).mp hb
    have ak : a ∈ (B.R b).take (q b) := by
      refine (mem_take_idx (wf.rn b)).mpr ⟨hm, ?_⟩
      rcases sw.2 with z | ⟨a', h1, h2, h3⟩
      · rcases h b with y | y
        · exact Nat.lt_of_lt_of_le (List.idxOf_lt_length_of_mem hm) y
        · omega
      · exact Nat.lt_trans h3 ((mem_take_idx (wf.rn b)).mp (p.pr a' b h2)).2
    obtain ⟨c, h1, h2⟩ := p.wo a b ak sw.1
    unfold PW at pw
    rw [h1] at pw
    exact absurd (Nat.lt_trans (show (B.W a).idxOf b < (B.W a).idxOf c from pw) h2) (Nat.lt_irrefl _)
  · rcases Nat.lt_or_ge (spot B a (r a)) (spot B a (v a)) with z | z
    · exfalso
      cases e : r a with
      | none =>
        rw [e] at z
        have : spot B a (v a) ≤ (B.W a).length := by
          cases e2 : v a with
          | none => exact Nat.le_refl _
          | some c => exact Nat.le_of_lt (List.idxOf_lt_length_of_mem (hv.fe.pr a c e2))
        exact absurd (Nat.lt_of_lt_of_le z this) (Nat.lt_irrefl _)
      | some b =>
        rw [e] at z
        have hvx : v a ≠ some b := fun w => by
          rw [w] at z
          exact absurd z (Nat.lt_irrefl _)
        obtain ⟨h1, h2⟩ := p.full wf hv ((wf.sd a b).mpr (p.mem e)) (Nat.le_of_lt ((mem_take_idx (wf.rn b)).mp (p.pr a b e)).2) z hvx
        have : cnt B v b < cnt B r b := by
          unfold cnt
          exact countP_lt (fun y hy w => by rw [beq_iff_eq] at w ⊢; exact h2 y hy w) ⟨a, p.mem e, by rw [beq_iff_eq]; exact e, by simp [hvx]⟩
        have := p.le b
        omega
    · exact z
/-- who is refused when schools ask -/
theorem SA.refused (wf : Wf B) (p : SA B r q) (h : ∀ b, (B.R b).length ≤ q b ∨ B.S b ≤ cnt B r b) (a b : Nat) : (a ∈ (B.R b).take (q b) ∧ r a ≠ some b) ↔ (a ∈ B.R b ∧ SW B r b a) := by
  constructor
  · rintro ⟨h1, h2⟩
    obtain ⟨hm, hi⟩ := (mem_take_idx (wf.rn b)).mp h1
    refine ⟨hm, h2, ?_⟩
    rcases Nat.lt_or_ge (cnt B r b) (B.S b) with z | z
    · exact .inl z
    · obtain ⟨x, e1, e2, e3⟩ := p.la b (Nat.le_antisymm (p.le b) z)
      refine .inr ⟨x, p.mem e3, e3, ?_⟩
      rw [idx_get (wf.rn b) e2]
      rcases Nat.lt_or_eq_of_le (show (B.R b).idxOf a ≤ q b - 1 by omega) with w | w
      · exact w
      · have := get_idx hm
        rw [w, e2] at this
        cases this
        exact absurd e3 h2
  · rintro ⟨hm, h2, h3⟩
    refine ⟨(mem_take_idx (wf.rn b)).mpr ⟨hm, ?_⟩, h2⟩
    rcases h3 with z | ⟨a', e1, e2, e3⟩
    · rcases h b with y | y
      · exact Nat.lt_of_lt_of_le (List.idxOf_lt_length_of_mem hm) y
      · omega
    · exact Nat.lt_trans e3 ((mem_take_idx (wf.rn b)).mp (p.pr a' b e2)).2
end Ma
namespace Ma
def tot (n : Nat) (f : Nat → Nat) : Nat := ((List.range n).map f).sum
theorem tot_succ (n : Nat) (f : Nat → Nat) : tot (n + 1) f = tot n f + f n := by
  unfold tot
  rw [List.range_succ, List.map_append, List.sum_append]
  simp
theorem tot_congr {n : Nat} {f g : Nat → Nat} (h : ∀ a, a < n → f a = g a) : tot n f = tot n g := by
  unfold tot
  congr 1
  exact List.map_congr_left fun a ha => h a (List.mem_range.mp ha)
theorem tot_up {f : Nat → Nat} {a v : Nat} : ∀ {n : Nat}, a < n → tot n (up f a v) + f a = tot n f + v
  | 0, h => absurd h (Nat.not_lt_zero _)
  | n + 1, h => by
    rw [tot_succ, tot_succ]
    by_cases e : a = n
    · subst e
      rw [up_same, tot_congr (g := f) fun x hx => up_ne (Nat.ne_of_lt hx)]
      omega
    · have ih := tot_up (f := f) (a := a) (v := v) (n := n) (by omega)
      rw [up_ne (Ne.symm e)]
      omega
theorem tot_le {f g : Nat → Nat} : ∀ {n : Nat}, (∀ a, a < n → f a ≤ g a) → tot n f ≤ tot n g
  | 0, _ => Nat.le_refl _
  | n + 1, h => by
    rw [tot_succ, tot_succ]
    have := tot_le (n := n) fun a ha => h a (by omega)
    have := h n (by omega)
    omega
theorem tot_zero : ∀ n : Nat, tot n (fun _ => 0) = 0
  | 0 => rfl
  | n + 1 => by rw [tot_succ, tot_zero n]
theorem map_erIdx {α β : Type} (f : α → β) : ∀ (l : List α) (i : Nat), (l.map f).eraseIdx i = (l.eraseIdx i).map f
  | [], _ => rfl
  | _ :: _, 0 => rfl
  | x :: l, i + 1 => by
    show f x :: (l.map f).eraseIdx i = f x :: (l.eraseIdx i).map f
    rw [map_erIdx f l i]
theorem er_idx (x : Nat) : ∀ l : List Nat, x ∈ l → l.erase x = l.eraseIdx (l.idxOf x)
  | [], h => by cases h
  | y :: l, h => by
    rw [List.erase_cons, List.idxOf_cons]
    by_cases e : y = x
    · rw [e, beq_self_eq_true]
      rfl
    · rw [beq_eq_false_iff_ne.mpr e]
      rcases List.mem_cons.mp h with z | z
      · exact absurd z.symm e
      · simp only [Bool.false_eq_true, if_false, cond_false]
        rw [er_idx x l z]
        rfl
/-! ### pairs in their order -/
def Lt (p q : Nat × Nat) : Prop := p.1 < q.1 ∨ (p.1 = q.1 ∧ p.2 < q.2)
def Asc (l : List (Nat × Nat)) : Prop := l.Pairwise Lt
theorem Asc.nodup {l : List (Nat × Nat)} (h : Asc l) : l.Nodup := h.imp fun {p q} h e => by
  subst e
  rcases h with h | ⟨_, h⟩ <;> exact absurd h (Nat.lt_irrefl _)
theorem Asc.uniq {l m : List (Nat × Nat)} (h : Asc l) (h2 : Asc m) (e : ∀ p, p ∈ l ↔ p ∈ m) : l = m := by
  refine List.Perm.eq_of_pairwise (le := Lt) (fun p q _ _ x y => ?_) h h2 ((List.perm_ext_iff_of_nodup h.nodup h2.nodup).mpr fun p => e p)
  rcases x with x | ⟨x1, x2⟩ <;> rcases y with y | ⟨y1, y2⟩ <;> omega
theorem asc_of {l : List (Nat × Nat)} (h : l.Pairwise fun p q => ¬ Lt q p) (hn : l.Nodup) : Asc l := by
  unfold Asc
  refine (List.pairwise_and_iff.mpr ⟨h, hn⟩).imp fun {p q} ⟨h1, h2⟩ => ?_
  unfold Lt at h1 ⊢
  by_cases e : p.1 = q.1
  · by_cases e2 : p.2 = q.2
    · exact absurd (Prod.ext e e2) h2
    · omega
  · omega
variable {B : Bk} {r : Row}
def IsDeal (r : Row) (l : List (Nat × Nat)) : Prop := Asc l ∧ ∀ a b, (a, b) ∈ l ↔ r a = some b
def IsPass (B : Bk) (r : Row) (l : List (Nat × Nat)) : Prop := Asc l ∧ ∀ a b, (a, b) ∈ l ↔ b ∈ B.W a ∧ PW B r a b
def IsPassBy (B : Bk) (r : Row) (l : List (Nat × Nat)) : Prop := Asc l ∧ ∀ a b, (a, b) ∈ l ↔ a ∈ B.R b ∧ SW B r b a
theorem IsDeal.uniq {l m : List (Nat × Nat)} (h : IsDeal r l) (h2 : IsDeal r m) : l = m := h.1.uniq h2.1 fun ⟨a, b⟩ => (h.2 a b).trans (h2.2 a b).symm
theorem IsPass.uniq {l m : List (Nat × Nat)} (h : IsPass B r l) (h2 : IsPass B r m) : l = m := h.1.uniq h2.1 fun ⟨a, b⟩ => (h.2 a b).trans (h2.2 a b).symm
theorem IsPassBy.uniq {l m : List (Nat × Nat)} (h : IsPassBy B r l) (h2 : IsPassBy B r m) : l = m := h.1.uniq h2.1 fun ⟨a, b⟩ => (h.2 a b).trans (h2.2 a b).symm
/-! ### refused ones as a list -/
structure RfP (B : Bk) (k : Nat → Nat) (l : List (Nat × Nat)) : Prop where
  nd : l.Nodup
  iff : ∀ a b, (a, b) ∈ l ↔ ∃ i, i < k a ∧ (B.W a)[i]? = some b
theorem RfP.start : RfP B (fun _ => 0) [] := ⟨List.nodup_nil, fun a b => by simp⟩
theorem RfP.add (wf : Wf B) {k : Nat → Nat} {l : List (Nat × Nat)} {a b : Nat} (h : RfP B k l) (hb : (B.W a)[k a]? = some b) : RfP B (up k a (k a + 1)) (l ++ [(a, b)]) := by
  refine ⟨?_, fun x y => ?_⟩
  · refine List.nodup_append.mpr ⟨h.nd, (by simp), fun p hp q hq e => ?_⟩
    rw [List.mem_singleton.mp hq] at e
    rw [e] at hp
    obtain ⟨i, h1, h2⟩ := (h.iff a b).mp hp
    have := idx_get (wf.wn a) h2
    have := idx_get (wf.wn a) hb
    omega
  · rw [List.mem_append, h.iff]
    constructor
    · rintro (⟨i, h1, h2⟩ | h1)
      · refine ⟨i, ?_, h2⟩
        by_cases e : x = a
        · rw [e, up_same]; rw [e] at h1; omega
        · rw [up_ne e]; exact h1
      · have e := List.mem_singleton.mp h1
        cases e
        exact ⟨k _, by rw [up_same]; omega, hb⟩
    · rintro ⟨i, h1, h2⟩
      by_cases e : x = a
      · subst e
        rw [up_same] at h1
        by_cases e2 : i = k x
        · rw [e2, hb] at h2
          cases h2
          exact .inr (by simp)
        · exact .inl ⟨i, by omega, h2⟩
      · rw [up_ne e] at h1
        exact .inl ⟨i, h1, h2⟩
theorem RfP.pass (wf : Wf B) {k : Nat → Nat} {l m : List (Nat × Nat)} (h : RfP B k l) (hs : ∀ a, k a = spot B a (r a)) (hm : Asc m) (hp : m.Perm l) : IsPass B r m := by
  refine ⟨hm, fun a b => ?_⟩
  rw [hp.mem_iff, h.iff]
  unfold PW
  rw [← hs a]
  constructor
  · rintro ⟨i, h1, h2⟩
    exact ⟨List.mem_of_getElem? h2, by rw [idx_get (wf.wn a) h2]; exact h1⟩
  · rintro ⟨h1, h2⟩
    exact ⟨_, h2, get_idx h1⟩
structure RfS (B : Bk) (r : Row) (q : Nat → Nat) (l : List (Nat × Nat)) : Prop where
  nd : l.Nodup
  iff : ∀ a b, (a, b) ∈ l ↔ a ∈ (B.R b).take (q b) ∧ r a ≠ some b
theorem RfS.start : RfS B (fun _ => none) (fun _ => 0) [] := ⟨List.nodup_nil, fun a b => by simp⟩
theorem RfS.passBy (wf : Wf B) {q : Nat → Nat} {l m : List (Nat × Nat)} (h : RfS B r q l) (p : SA B r q) (hd : ∀ b, (B.R b).length ≤ q b ∨ B.S b ≤ cnt B r b) (hm : Asc m) (hp : m.Perm l) : IsPassBy B r m := by
  refine ⟨hm, fun a b => ?_⟩
  rw [hp.mem_iff, h.iff]
  exact p.refused wf hd a b
theorem tk_up (B : Bk) {q : Nat → Nat} {b a : Nat} (ha : (B.R b)[q b]? = some a) (x d : Nat) : x ∈ (B.R d).take (up q b (q b + 1) d) ↔ x ∈ (B.R d).take (q d) ∨ (d = b ∧ x = a) := by
  by_cases hd : d = b
  · rw [hd, up_same, take_up ha]
    simp
  · rw [up_ne hd]
    simp [hd]
theorem RfS.refuse (wf : Wf B) {q : Nat → Nat} {l : List (Nat × Nat)} {a b c : Nat} (h : RfS B r q l) (ha : (B.R b)[q b]? = some a) (hr : r a = some c) (hcb : c ≠ b) : RfS B r (up q b (q b + 1)) (l ++ [(a, b)]) := by
  have ia := idx_get (wf.rn b) ha
  refine ⟨?_, fun x y => ?_⟩
  · refine List.nodup_append.mpr ⟨h.nd, (by simp), fun p hp z hz e => ?_⟩
    rw [List.mem_singleton.mp hz] at e
    rw [e] at hp
    have := ((mem_take_idx (wf.rn b)).mp ((h.iff a b).mp hp).1).2
    omega
  · rw [List.mem_append, h.iff, tk_up B ha, List.mem_singleton]
    constructor
    · rintro (⟨h1, h2⟩ | h1)
      · exact ⟨.inl h1, h2⟩
      · cases h1
        exact ⟨.inr ⟨rfl, rfl⟩, fun z => hcb (Option.some.inj (hr.symm.trans z))⟩
    · rintro ⟨h1 | ⟨rfl, rfl⟩, h2⟩
      · exact .inl ⟨h1, h2⟩
      · exact .inr rfl
theorem RfS.take (wf : Wf B) {q : Nat → Nat} {l : List (Nat × Nat)} {a b : Nat} (h : RfS B r q l) (ha : (B.R b)[q b]? = some a) (hn : r a = none) (p : SA B r q) : RfS B (up r a (some b)) (up q b (q b + 1)) l := by
  refine ⟨h.nd, fun x y => ?_⟩
  rw [h.iff, tk_up B ha]
  by_cases hx : x = a
  · subst hx
    rw [up_same, hn]
    constructor
    · rintro ⟨h1, _⟩
      obtain ⟨c, h2, _⟩ := p.wo x y h1 (by rw [hn]; exact fun z => nomatch z)
      rw [hn] at h2
      cases h2
    · rintro ⟨h1 | ⟨rfl, _⟩, h2⟩
      · obtain ⟨c, h3, _⟩ := p.wo x y h1 (by rw [hn]; exact fun z => nomatch z)
        rw [hn] at h3
        cases h3
      · exact absurd rfl h2
  · rw [up_ne hx]
    simp [hx]
theorem RfS.swap (wf : Wf B) {q : Nat → Nat} {l : List (Nat × Nat)} {a b c : Nat} (h : RfS B r q l) (ha : (B.R b)[q b]? = some a) (hr : r a = some c) (hcb : c ≠ b) (p : SA B r q) : RfS B (up r a (some b)) (up q b (q b + 1)) (l ++ [(a, c)]) := by
  refine ⟨?_, fun x y => ?_⟩
  · refine List.nodup_append.mpr ⟨h.nd, (by simp), fun p hp z hz e => ?_⟩
    rw [List.mem_singleton.mp hz] at e
    rw [e] at hp
    exact ((h.iff a c).mp hp).2 hr
  · rw [List.mem_append, h.iff, tk_up B ha, List.mem_singleton]
    by_cases hx : x = a
    · subst hx
      rw [up_same]
      constructor
      · rintro (⟨h1, h2⟩ | h1)
        · refine ⟨.inl h1, fun z => ?_⟩
          cases Option.some.inj z
          have := ((mem_take_idx (wf.rn b)).mp h1).2
          have := idx_get (wf.rn b) ha
          omega
        · cases h1
          exact ⟨.inl (p.pr x c hr), fun z => hcb (Option.some.inj z).symm⟩
      · rintro ⟨h1 | ⟨rfl, _⟩, h2⟩
        · by_cases e : y = c
          · exact .inr (by rw [e])
          · exact .inl ⟨h1, fun z => e (Option.some.inj (hr.symm.trans z)).symm⟩
        · exact absurd rfl h2
    · rw [up_ne hx]
      simp [hx]
/-! ### held ones as lists -/
theorem cnt_len (wf : Wf B) {b : Nat} {hl : List Nat} (hn : hl.Nodup) (hm : ∀ a, a ∈ hl ↔ r a = some b) (hp : ∀ a b, r a = some b → b ∈ B.W a) : cnt B r b = hl.length := by
  unfold cnt
  rw [List.countP_eq_length_filter]
  refine ((List.perm_ext_iff_of_nodup ((wf.rn b).sublist List.filter_sublist) hn).mpr fun a => ?_).length_eq
  rw [List.mem_filter, beq_iff_eq, hm]
  exact ⟨fun h => h.2, fun h => ⟨(wf.sd a b).mp (hp a b h), h⟩⟩
theorem nodup_lt_len {l : List Nat} {n : Nat} (h : l.Nodup) (hl : ∀ x ∈ l, x < n) : l.length ≤ n := by
  have p : ((List.range n).filter fun x => decide (x ∈ l)).Perm l := (List.perm_ext_iff_of_nodup (List.nodup_range.sublist List.filter_sublist) h).mpr fun x => by
    rw [List.mem_filter, List.mem_range, decide_eq_true_eq]
    exact ⟨fun z => z.2, fun z => ⟨hl x z, z⟩⟩
  rw [← p.length_eq]
  exact Nat.le_trans (List.length_filter_le _ _) (by rw [List.length_range]; exact Nat.le_refl _)
theorem sum_getD : ∀ (l : List Nat), tot l.length (fun a => l.getD a 0) = l.sum
  | [] => rfl
  | x :: l => by
    have h : ∀ (n : Nat) (f : Nat → Nat), tot (n + 1) f = f 0 + tot n fun a => f (a + 1) := fun n f => by
      induction n with
      | zero => rw [tot_succ]; unfold tot; simp
      | succ n ih => rw [tot_succ, ih, tot_succ (n := n)]; omega
    rw [List.length_cons, h, List.sum_cons]
    rw [show tot l.length (fun a => (x :: l).getD (a + 1) 0) = tot l.length (fun a => l.getD a 0) from rfl, sum_getD l]
    rfl
end Ma
namespace Z
open PySem PySem.Spec PyProof.Rows L2
/-! ### lists of numbers -/
def ci (n : Nat) : Int := (n : Int)
theorem map_nV (ns : List Nat) : ns.map nV = (ns.map ci).map V.int := by
  rw [List.map_map]
  rfl
theorem ci_inj {a b : Nat} (h : ci a = ci b) : a = b := by
  unfold ci at h
  omega
theorem idx_ci (n : Nat) : ∀ ys : List Nat, (ys.map ci).idxOf (ci n) = ys.idxOf n
  | [] => rfl
  | y :: ys => by
    rw [List.map_cons, List.idxOf_cons, List.idxOf_cons, idx_ci n ys]
    by_cases h : y = n
    · rw [h, beq_self_eq_true, beq_self_eq_true]
    · rw [beq_eq_false_iff_ne.mpr h, beq_eq_false_iff_ne.mpr fun z => h (ci_inj z)]
theorem mem_ci {n : Nat} {ys : List Nat} (h : n ∈ ys) : ci n ∈ ys.map ci := List.mem_map.mpr ⟨n, h, rfl⟩
theorem of_mem_ci {z : Int} {ys : List Nat} (h : z ∈ ys.map ci) : ∃ n, n ∈ ys ∧ z = ci n := by
  obtain ⟨n, h1, h2⟩ := List.mem_map.mp h
  exact ⟨n, h1, h2.symm⟩
theorem st_extN {T : Tb} {L : List Addr} {H H1 : Hp} (e : LamX.ExtN H H1) (t : LamX.Tabs T H1) : St T L H H1 :=
  ⟨fun a o h n _ => e a o h n, fun a o h m => ⟨o, e a o h (fun ps z => by rw [z] at m; rcases m with ⟨_, m⟩ | ⟨_, m⟩ <;> cases m), m⟩, fun _ => t⟩
section
variable {P : Program} {w : World} {K : PySem.W.Frag} {mg : Str → Option Value} {base : Heap} {T : Tb}
theorem ok_with {x qual : Str} {st : Stmt} {f : Addr} {oc : Value} {od an : Option Addr} {kV doc pm cdv ct : Value} {osl : Array (Option Value)} {N ps : List Str} {k : Nat} {sp : Sp}
    (lk : K.lookup f = some ⟨oc, od, .func (PySem.W.fnOf x qual (defArgs st) (defBody st) (defScope st) .none kV doc pm an cdv ct), osl⟩) (hcd : PySem.W.codeIn K cdv qual = true) (S : FnScope N ps (defScope st)) (len : ∀ vs H Q E, sp vs H Q E → vs.length = ps.length)
    (hbody : ∀ (A : Around) (outer : List Env) (s : Shared) (H : Hp) (vs : List V) (Q : VK) (E : XK), Room k (A.deeper (envOfC qual (defScope st) s.heap.objs.size f cdv)) → sp vs H Q E →
      ∃ t, PSs (cxOf CX0 P w K mg base N qual (defScope st) f cdv A outer s H E).nox (defBody st) t ∧ t { nx := fun _ H' => Q .non H', rt := Q } (start N vs) H) :
    FnOk P w K mg base CX0 (k + 1) f (PySem.W.fnOf x qual (defArgs st) (defBody st) (defScope st) .none kV doc pm an cdv ct) ps sp := by
  refine fn_of lk hcd S len fun A outer s H vs Q E hr hsp => ?_
  obtain ⟨t, h, q⟩ := hbody A outer s H vs Q E hr hsp
  exact ⟨t, h.nox, q⟩
/-- the number of ns that stands last (first) in ys -/
def spLeast (T : Tb) : Sp := fun vs H Q _ => ∃ (r l : Addr) (ns ys : List Nat), vs = [.ref r, .ref l] ∧ FT H r (ys.map nV) ∧ H l = some (.lst (ns.map nV)) ∧ ns ≠ [] ∧ (∀ n ∈ ns, n ∈ ys) ∧ LamX.Tabs T H ∧
  ∀ n H', n ∈ ns → (∀ k ∈ ns, ys.idxOf k ≤ ys.idxOf n) → St T [] H H' → Q (nV n) H'
def spFirst (T : Tb) : Sp := fun vs H Q _ => ∃ (r l : Addr) (ns ys : List Nat), vs = [.ref r, .ref l] ∧ FT H r (ys.map nV) ∧ H l = some (.lst (ns.map nV)) ∧ ns ≠ [] ∧ (∀ n ∈ ns, n ∈ ys) ∧ LamX.Tabs T H ∧
  ∀ n H', n ∈ ns → (∀ k ∈ ns, ys.idxOf n ≤ ys.idxOf k) → St T [] H H' → Q (nV n) H'
theorem ok_least {f c tb : Addr} {oc : Value} {od an : Option Addr} {kV doc pm ct : Value} {osl : Array (Option Value)} {k : Nat}
    (lk : K.lookup f = some ⟨oc, od, .func (PySem.W.fnOf "_least_of" "_least_of" (defArgs s_least_of) (defBody s_least_of) (defScope s_least_of) .none kV doc pm an (.ref c) ct), osl⟩) (hcd : PySem.W.codeIn K (.ref c) "_least_of" = true)
    (B : Bt mg) (TB : LamX.TabB base mg c tb) (hmT : (tb, ("_least_of.<locals>.<lambda>" : Str)) ∈ T) (hu : ∀ q ∈ T, q.1 = tb → q.2 = ("_least_of.<locals>.<lambda>" : Str)) :
    FnOk P w K mg base CX0 (k + 1 + 1) f (PySem.W.fnOf "_least_of" "_least_of" (defArgs s_least_of) (defBody s_least_of) (defScope s_least_of) .none kV doc pm an (.ref c) ct) ["roll", "pupils"] (spLeast T) := by
  refine ok_with lk hcd sc_least_of (fun vs H Q E h => ?_) (fun A outer s H vs Q E hr h => ?_)
  · obtain ⟨r, l, _, _, rfl, _⟩ := h
    rfl
  · obtain ⟨r, l, ns, ys, rfl, hF, hl, hne, hin, hT, q⟩ := h
    refine ⟨_, pss_one (ps_ret (pe_keyMax (T := T) (j := 0) hr (by rfl) B.max (pv 1) TB rfl hmT hu ⟨rfl, rfl, rfl, rfl, by decide, by decide, by decide, by decide⟩ rfl rfl rfl rfl (fun _ _ _ _ _ _ => rfl))), ?_⟩
    rw [map_nV] at hF hl
    refine ⟨_, rfl, l, r, ns.map ci, ys.map ci, rfl, .of hl, fun z => hne (List.map_eq_nil_iff.mp z), rfl, hF, fun n hn => ?_, hT, fun n H2 hn hle e2 t2 => ?_⟩
    · obtain ⟨n', h1, rfl⟩ := of_mem_ci hn
      exact mem_ci (hin n' h1)
    · obtain ⟨n', h1, rfl⟩ := of_mem_ci hn
      exact q n' H2 h1 (fun k hk => by
        have := hle (ci k) (mem_ci hk)
        rwa [idx_ci, idx_ci] at this) (st_extN e2 t2)
theorem ok_first {f c tb : Addr} {oc : Value} {od an : Option Addr} {kV doc pm ct : Value} {osl : Array (Option Value)} {k : Nat}
    (lk : K.lookup f = some ⟨oc, od, .func (PySem.W.fnOf "_best_of" "_best_of" (defArgs s_best_of) (defBody s_best_of) (defScope s_best_of) .none kV doc pm an (.ref c) ct), osl⟩) (hcd : PySem.W.codeIn K (.ref c) "_best_of" = true)
    (B : Bt mg) (TB : LamX.TabB base mg c tb) (hmT : (tb, ("_best_of.<locals>.<lambda>" : Str)) ∈ T) (hu : ∀ q ∈ T, q.1 = tb → q.2 = ("_best_of.<locals>.<lambda>" : Str)) :
    FnOk P w K mg base CX0 (k + 1 + 1) f (PySem.W.fnOf "_best_of" "_best_of" (defArgs s_best_of) (defBody s_best_of) (defScope s_best_of) .none kV doc pm an (.ref c) ct) ["wish", "schools"] (spFirst T) := by
  refine ok_with lk hcd sc_best_of (fun vs H Q E h => ?_) (fun A outer s H vs Q E hr h => ?_)
  · obtain ⟨r, l, _, _, rfl, _⟩ := h
    rfl
  · obtain ⟨r, l, ns, ys, rfl, hF, hl, hne, hin, hT, q⟩ := h
    refine ⟨_, pss_one (ps_ret (pe_keyMin (T := T) (j := 0) hr (by rfl) B.min (pv 1) TB rfl hmT hu ⟨rfl, rfl, rfl, rfl, by decide, by decide, by decide, by decide⟩ rfl rfl rfl rfl (fun _ _ _ _ _ _ => rfl))), ?_⟩
    rw [map_nV] at hF hl
    refine ⟨_, rfl, l, r, ns.map ci, ys.map ci, rfl, .of hl, fun z => hne (List.map_eq_nil_iff.mp z), rfl, hF, fun n hn => ?_, hT, fun n H2 hn hle e2 t2 => ?_⟩
    · obtain ⟨n', h1, rfl⟩ := of_mem_ci hn
      exact mem_ci (hin n' h1)
    · obtain ⟨n', h1, rfl⟩ := of_mem_ci hn
      exact q n' H2 h1 (fun k hk => by
        have := hle (ci k) (mem_ci hk)
        rwa [idx_ci, idx_ci] at this) (st_extN e2 t2)
end
end Z
namespace Z
open PySem PySem.Spec PyProof.Rows L2 Ma
/-! ### books in the heap -/
structure Bo where
  W : List (List Nat)
  R : List (List Nat)
  S : List Nat
def bk (B : Bo) : Ma.Bk := ⟨B.W.length, B.R.length, fun a => B.W.getD a [], fun b => B.R.getD b [], fun b => B.S.getD b 1⟩
def Rws (H : Hp) (vs : List V) (rows : List (List Nat)) : Prop := vs.length = rows.length ∧ ∀ (i : Nat) (row : List Nat), rows[i]? = some row → ∃ p : Addr, vs[i]? = some (V.ref p) ∧ FT H p (row.map nV)
def BkR (K : PySem.W.Frag) (H : Hp) (v : V) (B : Bo) : Prop :=
  ∃ (a w r s : Addr) (ws rs : List V), v = V.ref a ∧ SqT K H a [V.ref w, V.ref r, V.ref s] ∧ SqT K H w ws ∧ Rws H ws B.W ∧ SqT K H r rs ∧ Rws H rs B.R ∧ SqT K H s (B.S.map nV)
structure Gd (B : Bo) : Prop where
  wf : Wf (bk B)
  sl : B.S.length = B.R.length
  nl : B.W.length ≤ 12
  ml : B.R.length ≤ 12
  pl : tot B.W.length (fun a => (B.W.getD a []).length) ≤ 60
section
variable {K : PySem.W.Frag} {T : Tb} {L : List Addr} {H H' : Hp} {B : Bo} {v : V}
theorem Rws.st (x : St T L H H') {vs : List V} {rows : List (List Nat)} (h : Rws H vs rows) : Rws H' vs rows := ⟨h.1, fun i row e => let ⟨p, e1, e2⟩ := h.2 i row e; ⟨p, e1, x.ft e2⟩⟩
theorem BkR.st (x : St T L H H') (h : BkR K H v B) : BkR K H' v B := by
  obtain ⟨a, w, r, s, ws, rs, e, h1, h2, h3, h4, h5, h6⟩ := h
  exact ⟨a, w, r, s, ws, rs, e, x.sqT h1, x.sqT h2, h3.st x, x.sqT h4, h5.st x, x.sqT h6⟩
theorem bkW {a : Nat} (h : a < B.W.length) : B.W[a]? = some ((bk B).W a) := by
  show _ = some (B.W.getD a [])
  rw [List.getElem?_eq_getElem h, List.getD_eq_getElem?_getD, List.getElem?_eq_getElem h]
  rfl
theorem bkRl {b : Nat} (h : b < B.R.length) : B.R[b]? = some ((bk B).R b) := by
  show _ = some (B.R.getD b [])
  rw [List.getElem?_eq_getElem h, List.getD_eq_getElem?_getD, List.getElem?_eq_getElem h]
  rfl
theorem bkS {b : Nat} (h : b < B.S.length) : B.S[b]? = some ((bk B).S b) := by
  show _ = some (B.S.getD b 1)
  rw [List.getElem?_eq_getElem h, List.getD_eq_getElem?_getD, List.getElem?_eq_getElem h]
  rfl
theorem Gd.ltW (g : Gd B) {a b : Nat} (h : b ∈ (bk B).W a) : a < B.W.length ∧ b < B.R.length := by
  refine ⟨?_, ?_⟩
  · rcases Nat.lt_or_ge a B.W.length with z | z
    · exact z
    · rw [g.wf.wl a z] at h
      cases h
  · rcases Nat.lt_or_ge b B.R.length with z | z
    · exact z
    · have := (g.wf.sd a b).mp h
      rw [g.wf.rl b z] at this
      cases this
theorem Gd.row (g : Gd B) (a : Nat) : ((bk B).W a).length ≤ 60 := by
  rcases Nat.lt_or_ge a B.W.length with z | z
  · have h := tot_up (f := fun a => (B.W.getD a []).length) (v := 0) z
    have := g.pl
    show (B.W.getD a []).length ≤ 60
    have h2 : (fun a => (B.W.getD a []).length) a = (B.W.getD a []).length := rfl
    omega
  · rw [g.wf.wl a z]
    exact Nat.zero_le _
/-! ### pairs in the heap -/
def LsP (K : PySem.W.Frag) (H : Hp) (ts : List Addr) (ps : List (Nat × Nat)) : Prop := ts.length = ps.length ∧ ∀ (i : Nat) (t : Addr) (p : Nat × Nat), ts[i]? = some t → ps[i]? = some p → H t = some (.tup [nV p.1, nV p.2])
def PrT (K : PySem.W.Frag) (H : Hp) (v : V) (ps : List (Nat × Nat)) : Prop := ∃ (t : Addr) (ts : List Addr), v = V.ref t ∧ SqT K H t (ts.map V.ref) ∧ LsP K H ts ps
theorem LsP.st (x : St T L H H') {ts : List Addr} {ps : List (Nat × Nat)} (h : LsP K H ts ps) : LsP K H' ts ps := ⟨h.1, fun i t p e1 e2 => x.g _ _ (h.2 i t p e1 e2) nt_tup nm_tup⟩
theorem PrT.st (x : St T L H H') {ps : List (Nat × Nat)} (h : PrT K H v ps) : PrT K H' v ps := by
  obtain ⟨t, ts, e, h1, h2⟩ := h
  exact ⟨t, ts, e, x.sqT h1, h2.st x⟩
theorem LsP.nil : LsP K H [] [] := ⟨rfl, fun i t p h => by simp at h⟩
theorem LsP.snoc {ts : List Addr} {ps : List (Nat × Nat)} {t : Addr} {p : Nat × Nat} (h : LsP K H ts ps) (ht : H t = some (.tup [nV p.1, nV p.2])) : LsP K H (ts ++ [t]) (ps ++ [p]) := by
  refine ⟨by rw [List.length_append, List.length_append, h.1]; rfl, fun i t' p' e1 e2 => ?_⟩
  rcases Nat.lt_or_ge i ts.length with z | z
  · rw [List.getElem?_append_left z] at e1
    rw [List.getElem?_append_left (by rw [← h.1]; exact z)] at e2
    exact h.2 i t' p' e1 e2
  · rw [List.getElem?_append_right z] at e1
    rw [List.getElem?_append_right (by rw [← h.1]; exact z)] at e2
    rw [← h.1] at e2
    cases j : i - ts.length with
    | zero =>
      rw [j] at e1 e2
      cases Option.some.inj e1
      cases Option.some.inj e2
      exact ht
    | succ j' =>
      rw [j] at e1
      simp at e1
/-! ### sorted pairs -/
def cp (p : Nat × Nat) : Int × Int := (ci p.1, ci p.2)
theorem lexB_cp {p q : Nat × Nat} : SrtO.lexB (cp p) (cp q) = true ↔ Lt p q := by
  rw [SrtO.lexB_iff]
  unfold cp ci Lt
  omega
/-- the pair that a value is -/
def kH (H : Hp) : V → Int × Int
  | .ref t => match H t with
    | some (.tup [.int i, .int j]) => (i, j)
    | _ => (0, 0)
  | _ => (0, 0)
theorem kH_at {t : Addr} {p : Nat × Nat} (h : H t = some (.tup [nV p.1, nV p.2])) : kH H (.ref t) = cp p := by
  show (match H t with | some (.tup [.int i, .int j]) => (i, j) | _ => (0, 0)) = cp p
  rw [h]
  rfl
def np (p : Int × Int) : Nat × Nat := (p.1.toNat, p.2.toNat)
theorem np_cp (p : Nat × Nat) : np (cp p) = p := by
  unfold np cp ci
  rfl
theorem LsP.at_mem {ts : List Addr} {ps : List (Nat × Nat)} (h : LsP K H ts ps) {t : Addr} (ht : t ∈ ts) : ∃ p, p ∈ ps ∧ H t = some (.tup [nV p.1, nV p.2]) := by
  obtain ⟨i, hi⟩ := List.getElem?_of_mem ht
  have hl := (List.getElem?_eq_some_iff.mp hi).1
  have hp : ps[i]? = some (ps[i]'(by rw [← h.1]; exact hl)) := List.getElem?_eq_getElem _
  exact ⟨_, List.mem_of_getElem? hp, h.2 i t _ hi hp⟩
theorem LsP.map_k {ts : List Addr} {ps : List (Nat × Nat)} (h : LsP K H ts ps) : (ts.map V.ref).map (kH H) = ps.map cp := by
  apply List.ext_getElem?
  intro i
  rw [List.map_map, List.getElem?_map, List.getElem?_map]
  cases e : ts[i]? with
  | none =>
    rw [List.getElem?_eq_none_iff] at e
    rw [List.getElem?_eq_none_iff.mpr (by rw [← h.1]; exact e)]
    rfl
  | some t =>
    have hl := (List.getElem?_eq_some_iff.mp e).1
    have hp : ps[i]? = some (ps[i]'(by rw [← h.1]; exact hl)) := List.getElem?_eq_getElem _
    rw [hp]
    show some (kH H (.ref t)) = _
    rw [kH_at (h.2 i t _ e hp)]
    rfl
theorem sort_out {ts : List Addr} {ps : List (Nat × Nat)} {ys : List V} (h : LsP K H ts ps) (hn : ps.Nodup) (hs : SrtO.Srtd (ltP (kH H)) ys) (hb : SrtO.Stb (ltP (kH H)) ys (ts.map V.ref)) :
    ∃ ts' ps', ys = ts'.map V.ref ∧ LsP K H ts' ps' ∧ Asc ps' ∧ ps'.Perm ps := by
  have allr : ∀ y ∈ ys, ∃ t, t ∈ ts ∧ y = V.ref t := fun y hy => by
    obtain ⟨t, ht, e⟩ := List.mem_map.mp (hb.perm.mem_iff.mp hy)
    exact ⟨t, ht, e.symm⟩
  let ad : V → Addr := fun y => match y with
    | .ref t => t
    | _ => 0
  have e1 : ys = (ys.map ad).map V.ref := by
    rw [List.map_map]
    conv => lhs; rw [← List.map_id ys]
    apply List.map_congr_left
    intro y hy
    obtain ⟨t, _, rfl⟩ := allr y hy
    rfl
  have pm : (ys.map fun y => np (kH H y)).Perm ps := by
    have p1 := (hb.perm.map (kH H)).map np
    rw [h.map_k, List.map_map, List.map_map] at p1
    rw [show (np ∘ cp) = id from funext np_cp, List.map_id] at p1
    exact p1
  refine ⟨ys.map ad, ys.map fun y => np (kH H y), e1, ⟨by rw [List.length_map, List.length_map], fun i t p h1 h2 => ?_⟩, asc_of ?_ (hn.perm pm.symm), pm⟩
  · rw [List.getElem?_map] at h1 h2
    cases hy : ys[i]? with
    | none => rw [hy] at h1; cases h1
    | some y =>
      rw [hy] at h1 h2
      obtain ⟨t', ht, rfl⟩ := allr y (List.mem_of_getElem? hy)
      cases Option.some.inj h1
      obtain ⟨q, _, hq⟩ := h.at_mem ht
      cases Option.some.inj h2
      show H t' = some (.tup [nV (np (kH H (.ref t'))).1, nV (np (kH H (.ref t'))).2])
      rw [kH_at hq, np_cp]
      exact hq
  · rw [List.pairwise_map]
    refine hs.imp_of_mem fun {x y} hx hy hxy z => ?_
    obtain ⟨t1, ht1, rfl⟩ := allr x hx
    obtain ⟨t2, ht2, rfl⟩ := allr y hy
    obtain ⟨q1, _, hq1⟩ := h.at_mem ht1
    obtain ⟨q2, _, hq2⟩ := h.at_mem ht2
    rw [kH_at hq1, kH_at hq2, np_cp, np_cp] at z
    have hxy : SrtO.lexB (kH H (.ref t2)) (kH H (.ref t1)) = false := hxy
    rw [kH_at hq1, kH_at hq2, lexB_cp.mpr z] at hxy
    cases hxy
theorem LsP.pairs {ts : List Addr} {ps : List (Nat × Nat)} (h : LsP K H ts ps) : ∀ x ∈ ts.map V.ref, ∃ t, x = V.ref t ∧ H t = some (.tup [.int (kH H x).1, .int (kH H x).2]) := fun x hx => by
  obtain ⟨t, ht, rfl⟩ := List.mem_map.mp hx
  obtain ⟨q, _, hq⟩ := h.at_mem ht
  refine ⟨t, rfl, ?_⟩
  rw [kH_at hq]
  exact hq
end
end Z
namespace Z
open PySem PySem.Spec PyProof.Rows L2 Ma
/-! ### a pair of names as a comprehension's target -/
theorem blk_tup2 {X : Cx} {scope : Scope} {i j k : Nat} {x y : Str} {p p' pos : Pos} (hc : X.calm = true) (hN : X.N.Nodup) (hi : X.N[i]? = some x) (hj : X.N[j]? = some y) (hx : scope.names.lookup x = some .local) (hy : scope.names.lookup y = some .local) :
    ∀ (s : Shared) (H : Hp) (C : Addr) (cl : List (Str × Addr)) (fp : List Addr), PG (X.blk s H scope (compEnvC scope cl C X.env) fp) (.Tuple [.Name x p, .Name y p'] k pos) (gTup X.K 2 (gCons (gName i) (gCons (gName j) gNil))) :=
  fun s H C cl fp => pg_tup hc (pgs_cons (pg_name hN hi (.inl (lookup_relabel_local hx)) (.inr (lookup_relabel_local hx))) (pgs_cons (pg_name hN hj (.inl (lookup_relabel_local hy)) (.inr (lookup_relabel_local hy))) pgs_nil))
/-! ### two fors in a comprehension -/
section
variable {K : PySem.W.Frag} {a D : Addr} {xs : List V} {g : TG} {tt : TT} {te : TE} {vs : List Nat} {σ : L2.St} {H1 : Hp}
theorem lcin_list {Qd : Hp → Prop} (Pv : Nat → Hp → Prop) (h0 : Pv 0 H1) (hl : ∀ i H, i ≤ xs.length → Pv i H → SqL K H a xs)
    (hs : ∀ i x H, xs[i]? = some x → Pv i H → g x (wipe σ vs) H fun σ2 H2 => wipe σ2 vs = wipe σ vs ∧ tt σ2 H2 fun b H3 =>
      if b = true then te σ2 H3 fun y H4 => ∃ acc, H4 D = some (.lst acc) ∧ acc.length < sizeLine ∧ Pv (i + 1) (upd H4 D (.lst (acc ++ [y]))) else Pv (i + 1) H3) (hd : ∀ H, Pv xs.length H → Qd H) :
    ∃ W : Nat → Nat → Hp → Prop, (∃ m, W 0 m H1) ∧ ∀ i m H, W i m H →
      ((Itl K a).stop i H ∧ Qd H) ∨ ((Itl K a).go i H ∧ ∃ Nx : Hp → Prop, (∀ H', Nx H' → ∃ m', m' < m ∧ W (i + 1) m' H') ∧ ∀ x H', (Itl K a).yld i H x H' → g x (wipe σ vs) H' fun σ2 H2 => wipe σ2 vs = wipe σ vs ∧ tt σ2 H2 fun b H3 =>
        if b = true then te σ2 H3 fun y H4 => ∃ acc, H4 D = some (.lst acc) ∧ acc.length < sizeLine ∧ Nx (upd H4 D (.lst (acc ++ [y]))) else Nx H3) := by
  refine ⟨fun i m H => m = xs.length - i ∧ i ≤ xs.length ∧ Pv i H, ⟨_, rfl, Nat.zero_le _, h0⟩, fun i m H h => ?_⟩
  obtain ⟨rfl, hi, p⟩ := h
  have q := hl i H hi p
  rcases Nat.lt_or_ge i xs.length with z | z
  · refine .inr ⟨⟨xs, xs[i], q, List.getElem?_eq_getElem z⟩, Pv (i + 1), fun H' p' => ⟨_, by omega, rfl, z, p'⟩, fun x H' y => ?_⟩
    obtain ⟨rfl, y⟩ := y
    exact hs i x H' (y xs q) p
  · have e : i = xs.length := Nat.le_antisymm hi z
    subst e
    exact .inl ⟨⟨xs, q, Nat.le_refl _⟩, hd H p⟩
theorem lc2_en {wi1 : TI} {g1 : TG} {tt1 : TT} {vs1 : List Nat} {Qd : Hp → Prop} (Pv : Nat → Hp → Prop) (h0 : Pv 0 (upd H1 D (.lst []))) (hl : ∀ i H, i ≤ xs.length → Pv i H → SqL K H a xs)
    (hs : ∀ (i : Nat) x T H, xs[i]? = some x → Pv i H → H T = none → g (.ref T) (wipe σ vs) (upd H T (.tup [.int (i : Nat), x])) fun σ2 H2 => wipe σ2 vs = wipe σ vs ∧ tt σ2 H2 fun b H3 =>
      if b = true then wi1 σ2 H3 fun J1 H4 => ∃ W1 : Nat → Nat → Hp → Prop, (∃ m, W1 0 m H4) ∧ ∀ j k H, W1 j k H →
        (J1.stop j H ∧ Pv (i + 1) H) ∨ (J1.go j H ∧ ∃ Nx1 : Hp → Prop, (∀ H', Nx1 H' → ∃ k', k' < k ∧ W1 (j + 1) k' H') ∧ ∀ x H', J1.yld j H x H' → g1 x (wipe σ2 vs1) H' fun σ3 H5 => wipe σ3 vs1 = wipe σ2 vs1 ∧ tt1 σ3 H5 fun b H6 =>
          if b = true then te σ3 H6 fun y H7 => ∃ acc, H7 D = some (.lst acc) ∧ acc.length < sizeLine ∧ Nx1 (upd H7 D (.lst (acc ++ [y]))) else Nx1 H6)
      else Pv (i + 1) H3) (hd : ∀ H, Pv xs.length H → Qd H) :
    ∃ W : Nat → Nat → Hp → Prop, (∃ m, W 0 m (upd H1 D (.lst []))) ∧ ∀ i m H, W i m H →
      ((Ite K a).stop i H ∧ Qd H) ∨ ((Ite K a).go i H ∧ ∃ Nx : Hp → Prop, (∀ H', Nx H' → ∃ m', m' < m ∧ W (i + 1) m' H') ∧ ∀ x H', (Ite K a).yld i H x H' → g x (wipe σ vs) H' fun σ2 H2 => wipe σ2 vs = wipe σ vs ∧ tt σ2 H2 fun b H3 =>
        if b = true then wi1 σ2 H3 fun J1 H4 => ∃ W1 : Nat → Nat → Hp → Prop, (∃ m, W1 0 m H4) ∧ ∀ j k H, W1 j k H →
          (J1.stop j H ∧ Nx H) ∨ (J1.go j H ∧ ∃ Nx1 : Hp → Prop, (∀ H', Nx1 H' → ∃ k', k' < k ∧ W1 (j + 1) k' H') ∧ ∀ x H', J1.yld j H x H' → g1 x (wipe σ2 vs1) H' fun σ3 H5 => wipe σ3 vs1 = wipe σ2 vs1 ∧ tt1 σ3 H5 fun b H6 =>
            if b = true then te σ3 H6 fun y H7 => ∃ acc, H7 D = some (.lst acc) ∧ acc.length < sizeLine ∧ Nx1 (upd H7 D (.lst (acc ++ [y]))) else Nx1 H6)
        else Nx H3) := by
  refine ⟨fun i m H => m = xs.length - i ∧ i ≤ xs.length ∧ Pv i H, ⟨_, rfl, Nat.zero_le _, h0⟩, fun i m H h => ?_⟩
  obtain ⟨rfl, hi, p⟩ := h
  have q := hl i H hi p
  rcases Nat.lt_or_ge i xs.length with z | z
  · refine .inr ⟨⟨xs, xs[i], q, List.getElem?_eq_getElem z⟩, Pv (i + 1), fun H' p' => ⟨_, by omega, rfl, z, p'⟩, fun x H' y => ?_⟩
    obtain ⟨T, v, rfl, hT, rfl, y⟩ := y
    exact hs i v T H (y xs q) p hT
  · have e : i = xs.length := Nat.le_antisymm hi z
    subst e
    exact .inl ⟨⟨xs, q, Nat.le_refl _⟩, hd H p⟩
end
/-! ### what stands in the heap while pupils ask -/
structure PS (K : PySem.W.Frag) (T : Tb) (H0 H : Hp) (f h rf wt : Addr) (hs ts : List Addr) (ks : List Nat) (hl : Nat → List Nat) (rl : List (Nat × Nat)) (ws : List Nat) : Prop where
  nd : (f :: h :: rf :: wt :: hs).Nodup
  fr : ∀ x ∈ f :: h :: rf :: wt :: hs, Nw H0 x
  st : St T [] H0 H
  hf : H f = some (.lst (ks.map nV))
  hh : H h = some (.lst (hs.map V.ref))
  hr : H rf = some (.lst (ts.map V.ref))
  hw : H wt = some (.lst (ws.map nV))
  hb : ∀ (b : Nat) (p : Addr), hs[b]? = some p → H p = some (.lst ((hl b).map nV))
  tt : LsP K H ts rl
section
variable {K : PySem.W.Frag} {T : Tb} {H0 H H' : Hp} {f h rf wt : Addr} {hs ts : List Addr} {ks : List Nat} {hl : Nat → List Nat} {rl : List (Nat × Nat)} {ws : List Nat}
theorem PS.step (p : PS K T H0 H f h rf wt hs ts ks hl rl ws) (x : St T [] H H') : PS K T H0 H' f h rf wt hs ts ks hl rl ws :=
  ⟨p.nd, p.fr, p.st.trans x, x.lst p.hf (by simp), x.lst p.hh (by simp), x.lst p.hr (by simp), x.lst p.hw (by simp), fun b q e => x.lst (p.hb b q e) (by simp), p.tt.st x⟩
theorem PS.nes (p : PS K T H0 H f h rf wt hs ts ks hl rl ws) : f ≠ h ∧ f ≠ rf ∧ f ≠ wt ∧ h ≠ rf ∧ h ≠ wt ∧ rf ≠ wt ∧ (∀ x ∈ hs, x ≠ f ∧ x ≠ h ∧ x ≠ rf ∧ x ≠ wt) ∧ hs.Nodup := by
  have nd := p.nd
  simp only [List.nodup_cons, List.mem_cons, not_or] at nd
  obtain ⟨⟨h1, h2, h3, h4⟩, ⟨h5, h6, h7⟩, ⟨h8, h9⟩, h10, h11⟩ := nd
  exact ⟨h1, h2, h3, h5, h6, h8, fun x hx => ⟨fun z => h4 (z ▸ hx), fun z => h7 (z ▸ hx), fun z => h9 (z ▸ hx), fun z => h10 (z ▸ hx)⟩, h11⟩
theorem PS.keep {q : Addr} {u : HO} {xs : List V} (p : PS K T H0 H f h rf wt hs ts ks hl rl ws) (hq : q ∈ f :: h :: rf :: wt :: hs) (e : H q = some (.lst xs)) (m : Mu u) : St T [] H0 (upd H q u) ∧ LsP K (upd H q u) ts rl :=
  ⟨p.st.putN e (.inl ⟨_, rfl⟩) (p.fr q hq), p.tt.st (St.put (T := T) (L := [q]) e (.inl ⟨_, rfl⟩) m (by simp))⟩
theorem PS.putF (p : PS K T H0 H f h rf wt hs ts ks hl rl ws) (ks' : List Nat) : PS K T H0 (upd H f (.lst (ks'.map nV))) f h rf wt hs ts ks' hl rl ws := by
  obtain ⟨h1, h2, h3, h4, h5, h6, h7, h8⟩ := p.nes
  have k := p.keep (u := .lst (ks'.map nV)) (by simp) p.hf (.inl ⟨_, rfl⟩)
  exact ⟨p.nd, p.fr, k.1, upd_same, by rw [upd_ne h1.symm]; exact p.hh, by rw [upd_ne h2.symm]; exact p.hr, by rw [upd_ne h3.symm]; exact p.hw, fun b q e => by rw [upd_ne (h7 q (List.mem_of_getElem? e)).1]; exact p.hb b q e, k.2⟩
theorem PS.putW (p : PS K T H0 H f h rf wt hs ts ks hl rl ws) (ws' : List Nat) : PS K T H0 (upd H wt (.lst (ws'.map nV))) f h rf wt hs ts ks hl rl ws' := by
  obtain ⟨h1, h2, h3, h4, h5, h6, h7, h8⟩ := p.nes
  have k := p.keep (u := .lst (ws'.map nV)) (by simp) p.hw (.inl ⟨_, rfl⟩)
  exact ⟨p.nd, p.fr, k.1, by rw [upd_ne h3]; exact p.hf, by rw [upd_ne h5]; exact p.hh, by rw [upd_ne h6]; exact p.hr, upd_same, fun b q e => by rw [upd_ne (h7 q (List.mem_of_getElem? e)).2.2.2]; exact p.hb b q e, k.2⟩
theorem PS.putR (p : PS K T H0 H f h rf wt hs ts ks hl rl ws) {t : Addr} {q : Nat × Nat} (ht : H t = some (.tup [nV q.1, nV q.2])) : PS K T H0 (upd H rf (.lst ((ts ++ [t]).map V.ref))) f h rf wt hs (ts ++ [t]) ks hl (rl ++ [q]) ws := by
  obtain ⟨h1, h2, h3, h4, h5, h6, h7, h8⟩ := p.nes
  have k := p.keep (u := .lst ((ts ++ [t]).map V.ref)) (by simp) p.hr (.inl ⟨_, rfl⟩)
  exact ⟨p.nd, p.fr, k.1, by rw [upd_ne h2]; exact p.hf, by rw [upd_ne h4]; exact p.hh, upd_same, by rw [upd_ne h6.symm]; exact p.hw, fun b q e => by rw [upd_ne (h7 q (List.mem_of_getElem? e)).2.2.1]; exact p.hb b q e,
    k.2.snoc (by rw [upd_ne (ne_of ht p.hr fun z => by cases z)]; exact ht)⟩
theorem PS.putB (p : PS K T H0 H f h rf wt hs ts ks hl rl ws) {b : Nat} {q : Addr} (hq : hs[b]? = some q) (l : List Nat) : PS K T H0 (upd H q (.lst (l.map nV))) f h rf wt hs ts ks (up hl b l) rl ws := by
  obtain ⟨h1, h2, h3, h4, h5, h6, h7, h8⟩ := p.nes
  have hm := List.mem_of_getElem? hq
  have k := p.keep (u := .lst (l.map nV)) (by simp [hm]) (p.hb b q hq) (.inl ⟨_, rfl⟩)
  obtain ⟨n1, n2, n3, n4⟩ := h7 q hm
  refine ⟨p.nd, p.fr, k.1, by rw [upd_ne n1.symm]; exact p.hf, by rw [upd_ne n2.symm]; exact p.hh, by rw [upd_ne n3.symm]; exact p.hr, by rw [upd_ne n4.symm]; exact p.hw, fun c x e => ?_, k.2⟩
  by_cases hc : c = b
  · subst hc
    rw [hq] at e
    cases e
    rw [upd_same, up_same]
  · have nx : x ≠ q := fun z => by
      subst z
      exact hc ((List.getElem?_inj (List.getElem?_eq_some_iff.mp e).1 h8).mp (e.trans hq.symm))
    rw [upd_ne nx, up_ne hc]
    exact p.hb c x e
end
/-! ### the mathematics of a turn -/
def kf (ks : List Nat) (a : Nat) : Nat := ks.getD a 0
theorem kf_set {ks : List Nat} {l v : Nat} (h : l < ks.length) : kf (ks.set l v) = up (kf ks) l v := by
  funext a
  unfold kf up
  show (ks.set l v).getD a 0 = if a = l then v else ks.getD a 0
  simp only [List.getD_eq_getElem?_getD, List.getElem?_set]
  by_cases e : l = a
  · subst e
    rw [if_pos rfl, if_pos rfl, if_pos h]
    rfl
  · rw [if_neg e, if_neg (Ne.symm e)]
theorem kf_at {ks : List Nat} {a : Nat} (h : a < ks.length) : ks[a]? = some (kf ks a) := by
  unfold kf
  rw [List.getD_eq_getElem?_getD, List.getElem?_eq_getElem h]
  rfl
structure PM (B : Ma.Bk) (r : Ma.Row) (ks : List Nat) (hl : Nat → List Nat) (rl : List (Nat × Nat)) (ws : List Nat) : Prop where
  pa : PA B r (kf ks)
  kl : ks.length = B.n
  hn : ∀ b, (hl b).Nodup
  hm : ∀ b a, a ∈ hl b ↔ r a = some b
  rf : RfP B (kf ks) rl
  rn : rl.length = tot B.n (kf ks)
  wn : ws.Nodup
  wr : ∀ a ∈ ws, a < B.n ∧ r a = none
  dn : ∀ a, a ∉ ws → r a = none → (B.W a).length ≤ kf ks a
def PMu (B : Ma.Bk) (ks ws : List Nat) : Nat := 2 * (tot B.n (fun a => (B.W a).length) - tot B.n (kf ks)) + ws.length
section
variable {B : Ma.Bk} {r : Ma.Row} {ks : List Nat} {hl : Nat → List Nat} {rl : List (Nat × Nat)} {ws : List Nat} {a b : Nat}
theorem PM.tl (p : PM B r ks hl rl ws) : tot B.n (kf ks) ≤ tot B.n fun a => (B.W a).length := tot_le fun a _ => p.pa.kl a
theorem PM.rl60 (p : PM B r ks hl rl ws) (h : tot B.n (fun a => (B.W a).length) ≤ 60) : rl.length ≤ 60 := by
  rw [p.rn]
  exact Nat.le_trans p.tl h
theorem PM.popped (p : PM B r ks hl rl (ws ++ [a])) : a < B.n ∧ r a = none ∧ a ∉ ws ∧ ws.Nodup := by
  have h := p.wr a (by simp)
  have n := List.nodup_append.mp p.wn
  exact ⟨h.1, h.2, fun z => n.2.2 a z a (by simp) rfl, n.1⟩
/-- nothing left to ask -/
theorem PM.rest (p : PM B r ks hl rl (ws ++ [a])) (h : (B.W a).length ≤ kf ks a) : PM B r ks hl rl ws ∧ PMu B ks ws < PMu B ks (ws ++ [a]) := by
  obtain ⟨h1, h2, h3, h4⟩ := p.popped
  refine ⟨⟨p.pa, p.kl, p.hn, p.hm, p.rf, p.rn, h4, fun x hx => p.wr x (by simp [hx]), fun x hx hr => ?_⟩, ?_⟩
  · by_cases e : x = a
    · rw [e]; exact h
    · exact p.dn x (by simp [hx, e]) hr
  · unfold PMu
    rw [List.length_append]
    simp
theorem PM.cnt_new (wf : Wf B) (p : PM B r ks hl rl (ws ++ [a])) (hb : (B.W a)[kf ks a]? = some b) : (hl b ++ [a]).length = cnt B (up r a (some b)) b ∧ (hl b ++ [a]).Nodup ∧ ∀ x, x ∈ hl b ++ [a] ↔ up r a (some b) x = some b := by
  obtain ⟨h1, h2, h3, h4⟩ := p.popped
  have hna : a ∉ hl b := fun z => by
    have := (p.hm b a).mp z
    rw [h2] at this
    cases this
  have nd : (hl b ++ [a]).Nodup := List.nodup_append.mpr ⟨p.hn b, by simp, fun x hx y hy e => by
    rw [List.mem_singleton.mp hy] at e
    rw [e] at hx
    exact hna hx⟩
  have me : ∀ x, x ∈ hl b ++ [a] ↔ up r a (some b) x = some b := fun x => by
    rw [List.mem_append, List.mem_singleton, p.hm]
    by_cases e : x = a
    · rw [e, up_same]
      simp
    · rw [up_ne e]
      simp [e]
  refine ⟨?_, nd, me⟩
  refine (cnt_len wf nd me fun x c e => ?_).symm
  by_cases hx : x = a
  · rw [hx, up_same] at e
    cases e
    rw [hx]
    exact List.mem_of_getElem? hb
  · rw [up_ne hx] at e
    exact p.pa.mem e
/-- a place -/
theorem PM.place (wf : Wf B) (p : PM B r ks hl rl (ws ++ [a])) (hb : (B.W a)[kf ks a]? = some b) (hc : (hl b ++ [a]).length ≤ B.S b) : PM B (up r a (some b)) ks (up hl b (hl b ++ [a])) rl ws ∧ PMu B ks ws < PMu B ks (ws ++ [a]) := by
  obtain ⟨h1, h2, h3, h4⟩ := p.popped
  obtain ⟨c1, c2, c3⟩ := p.cnt_new wf hb
  refine ⟨⟨p.pa.place wf h2 hb (by omega), p.kl, fun c => ?_, fun c x => ?_, p.rf, p.rn, h4, fun x hx => ?_, fun x hx hr => ?_⟩, ?_⟩
  · by_cases e : c = b
    · rw [e, up_same]; exact c2
    · rw [up_ne e]; exact p.hn c
  · by_cases e : c = b
    · rw [e, up_same]; exact c3 x
    · rw [up_ne e, p.hm]
      by_cases hx : x = a
      · rw [hx, up_same, h2]
        constructor
        · intro z; cases z
        · intro z; exact absurd (Option.some.inj z).symm e
      · rw [up_ne hx]
  · have := p.wr x (by simp [hx])
    refine ⟨this.1, ?_⟩
    rw [up_ne (show x ≠ a from fun z => h3 (by rw [← z]; exact hx))]
    exact this.2
  · have e : x ≠ a := fun z => by
      rw [z, up_same] at hr
      cases hr
    rw [up_ne e] at hr
    exact p.dn x (by simp [hx, e]) hr
  · unfold PMu
    rw [List.length_append]
    simp
/-- a refusal -/
theorem PM.refuse (wf : Wf B) {l : Nat} (p : PM B r ks hl rl (ws ++ [a])) (hb : (B.W a)[kf ks a]? = some b) (hc : B.S b < (hl b ++ [a]).length) (hl' : l ∈ hl b ++ [a]) (hw : ∀ x ∈ hl b ++ [a], (B.R b).idxOf x ≤ (B.R b).idxOf l) :
    PM B (up (up r a (some b)) l none) (ks.set l (kf ks l + 1)) (up (up hl b (hl b ++ [a])) b ((hl b ++ [a]).erase l)) (rl ++ [(l, b)]) (ws ++ [l]) ∧ PMu B (ks.set l (kf ks l + 1)) (ws ++ [l]) < PMu B ks (ws ++ [a]) ∧ l < B.n := by
  obtain ⟨h1, h2, h3, h4⟩ := p.popped
  obtain ⟨c1, c2, c3⟩ := p.cnt_new wf hb
  have hlr := (c3 l).mp hl'
  obtain ⟨pa, hlb⟩ := p.pa.refuse wf h2 hb (by omega) hlr fun x hx => hw x ((c3 x).mpr hx)
  have hln : l < B.n := by
    rcases Nat.lt_or_ge l B.n with z | z
    · exact z
    · have := (List.getElem?_eq_some_iff.mp hlb).1
      rw [wf.wl l z] at this
      exact absurd this (Nat.not_lt_zero _)
  have ek : kf (ks.set l (kf ks l + 1)) = up (kf ks) l (kf ks l + 1) := kf_set (by rw [p.kl]; exact hln)
  have nlw : l ∉ ws := fun z => by
    by_cases e : l = a
    · exact h3 (e ▸ z)
    · rw [up_ne e, (p.wr l (by simp [z])).2] at hlr
      cases hlr
  refine ⟨⟨by rw [ek]; exact pa, by rw [List.length_set]; exact p.kl, fun c => ?_, fun c x => ?_, by rw [ek]; exact p.rf.add wf hlb, by rw [ek, List.length_append, p.rn]; have := tot_up (f := kf ks) (v := kf ks l + 1) hln; simp only [List.length_singleton]; omega, ?_, fun x hx => ?_, fun x hx hr => ?_⟩, ?_, hln⟩
  · by_cases e : c = b
    · rw [e, up_same]; exact c2.erase l
    · rw [up_ne e, up_ne e]; exact p.hn c
  · by_cases e : c = b
    · rw [e, up_same, c2.mem_erase_iff, c3]
      by_cases hx : x = l
      · rw [hx, up_same]
        simp
      · rw [up_ne hx]
        simp [hx]
    · rw [up_ne e, up_ne e, p.hm]
      by_cases hx : x = l
      · rw [hx, up_same]
        constructor
        · intro z
          by_cases e2 : l = a
          · rw [e2, h2] at z; cases z
          · rw [up_ne e2] at hlr
            rw [hlr] at z
            exact absurd (Option.some.inj z).symm e
        · intro z; cases z
      · rw [up_ne hx]
        by_cases e2 : x = a
        · rw [e2, up_same, h2]
          constructor
          · intro z; cases z
          · intro z; exact absurd (Option.some.inj z).symm e
        · rw [up_ne e2]
  · exact List.nodup_append.mpr ⟨h4, by simp, fun x hx y hy e => by
      rw [List.mem_singleton.mp hy] at e
      exact nlw (e ▸ hx)⟩
  · rcases List.mem_append.mp hx with hx | hx
    · have := p.wr x (by simp [hx])
      refine ⟨this.1, ?_⟩
      rw [up_ne (show x ≠ l from fun z => nlw (by rw [← z]; exact hx)), up_ne (show x ≠ a from fun z => h3 (by rw [← z]; exact hx))]
      exact this.2
    · rw [List.mem_singleton.mp hx]
      exact ⟨hln, up_same⟩
  · rw [ek]
    simp only [List.mem_append, List.mem_singleton, not_or] at hx
    rw [up_ne hx.2] at hr ⊢
    have e : x ≠ a := fun z => by
      rw [z, up_same] at hr
      cases hr
    rw [up_ne e] at hr
    exact p.dn x (by simp [hx.1, e]) hr
  · unfold PMu
    rw [ek, List.length_append, List.length_append]
    have h5 := tot_up (f := kf ks) (v := kf ks l + 1) hln
    have h6 : tot B.n (up (kf ks) l (kf ks l + 1)) ≤ tot B.n fun a => (B.W a).length := tot_le fun x _ => pa.kl x
    simp only [List.length_singleton]
    omega
end
end Z
namespace Z
open PySem PySem.Spec PyProof.Rows L2 Ma
section
variable {P : Program} {w : World} {K : PySem.W.Frag} {mg : Str → Option Value} {base : Heap} {T : Tb}
def spPAsk (K : PySem.W.Frag) (T : Tb) : Sp := fun vs H Q _ => ∃ (v : V) (B : Bo), vs = [v] ∧ BkR K H v B ∧ Gd B ∧ LamX.Tabs T H ∧ ∀ (t : Addr) (x y : V) (H' : Hp) (r : Ma.Row) (ps rs : List (Nat × Nat)), Best (bk B) r → St T [] H H' →
  SqT K H' t [x, y] → PrT K H' x ps → IsDeal r ps → PrT K H' y rs → IsPass (bk B) r rs → Q (.ref t) H'
def PLoop (K : PySem.W.Frag) (T : Tb) (B : Bo) (H0 : Hp) (a wa ra sa f h rf wt : Addr) (hs : List Addr) (m : Nat) (σ : L2.St) (H' : Hp) : Prop :=
  ∃ ts ks hl rl ws r y9 y10 y11, σ = [some (.ref a), some (.ref wa), some (.ref ra), some (.ref sa), some (.ref f), none, some (.ref h), some (.ref rf), some (.ref wt), y9, y10, y11, none, none] ∧ PS K T H0 H' f h rf wt hs ts ks hl rl ws ∧ PM (bk B) r ks hl rl ws ∧ m = PMu (bk B) ks ws
/-- what a comprehension over the held lists has made behind i lists and j items of the next -/
def CI (K : PySem.W.Frag) (Hc : Hp) (D : Addr) (hl : Nat → List Nat) (i j : Nat) (H' : Hp) : Prop :=
  ∃ ts ps, (∀ b o, Hc b = some o → H' b = some o) ∧ H' D = some (.lst (ts.map V.ref)) ∧ LsP K H' ts ps ∧ ps.Nodup ∧ ps.length ≤ 12 * i + j ∧ ∀ a b, (a, b) ∈ ps ↔ (b < i ∧ a ∈ hl b) ∨ (b = i ∧ a ∈ (hl b).take j)
theorem ok_pask {f fL : Addr} {fd fdL : FuncData} {k : Nat} (F : Fun K "_pupils_ask" "_pupils_ask" s_pupils_ask f fd) (B : Bt mg) (G_least : FnOk P w K mg base CX0 k fL fdL ["roll", "pupils"] (spLeast T)) (g_least : mg "_least_of" = some (.ref fL)) (kp_least : PySem.W.keepIn K (.ref fL) = true) (b_least : Binds K fdL ["roll", "pupils"] []) :
    FnOk P w K mg base CX0 (k + 1) f fd ["book"] (spPAsk K T) := by
  refine F.ok sc_pupils_ask (fun vs H Q E h => ?_) (fun cdv A outer s H vs Q E hr h => ?_)
  · obtain ⟨v, B, rfl, _⟩ := h
    rfl
  · obtain ⟨v, Bk, rfl, hB, gd, hT, q⟩ := h
    refine ⟨_, (pss_cons (ps_asg (pv 0) (pg_tup (by rfl) (pgs_cons (pg_name (i := 1) sc_pupils_ask.nd rfl (Or.inl rfl)) (pgs_cons (pg_name (i := 2) sc_pupils_ask.nd rfl (Or.inl rfl)) (pgs_cons (pg_name (i := 3) sc_pupils_ask.nd rfl (Or.inl rfl)) pgs_nil)))))
      (pss_cons (ps_setLc (i := 4) (own := [("_", 5)]) (tt := tYes) (by rfl) sc_pupils_ask.nd rfl rfl (sw_true rfl rfl rfl (by decide +kernel)) (kpi_tup K (pv 1)) (blkOk_by (own := [("_", 5)]) (N := n_pupils_ask) (sc := defScope s_pupils_ask) (by decide +kernel)) (fun _ _ _ _ _ => (pg_name (i := 5) sc_pupils_ask.nd rfl (Or.inl rfl))) (fun _ _ _ _ _ => pts_nil) (fun _ _ _ _ _ => pe_int))
      (pss_cons (ps_setLc (i := 6) (own := [("_", 5)]) (tt := tYes) (by rfl) sc_pupils_ask.nd rfl rfl (sw_true rfl rfl rfl (by decide +kernel)) (kpi_tup K (pv 2)) (blkOk_by (own := [("_", 5)]) (N := n_pupils_ask) (sc := defScope s_pupils_ask) (by decide +kernel)) (fun _ _ _ _ _ => (pg_name (i := 5) sc_pupils_ask.nd rfl (Or.inl rfl))) (fun _ _ _ _ _ => pts_nil) (fun _ _ _ _ _ => (pe_lst pa_nil)))
      (pss_cons (ps_set (i := 7) sc_pupils_ask.nd rfl (Or.inl rfl) (pe_lst pa_nil))
      (pss_cons (ps_set (i := 8) sc_pupils_ask.nd rfl (Or.inl rfl) (pe_listRg (by rfl) (by rfl) B.list (prg_1 (by rfl) B.range (pe_callB (klen K) (by rfl) B.len (by decide +kernel) (pa_cons (pv 1) pa_nil)))))
      (pss_cons (ps_while PassesOwn.never (ktruth K (pv 8) (by intro _; rfl))
        (pss_cons (ps_set (i := 9) sc_pupils_ask.nd rfl (Or.inl rfl) (kbm0 K PySem.F.plainAttrs_list PySem.F.slot_list_pop PySem.F.type_list_pop mt_pop (pv 8)))
        (pss_one (ps_if (pt_cmpR op_lt (pe_ix (kix_list K) (pv 4) (pv 9) (fun _ _ => rfl)) (pe_callB (klen K) (by rfl) B.len (by decide +kernel) (pa_cons (pe_ix (kix_tup K) (pv 1) (pv 9) (fun _ _ => rfl)) pa_nil)) (nomark _))
          (pss_cons (ps_set (i := 10) sc_pupils_ask.nd rfl (Or.inl rfl) (pe_ix (kix_tup K) (pe_ix (kix_tup K) (pv 1) (pv 9) (fun _ _ => rfl)) (pe_ix (kix_list K) (pv 4) (pv 9) (fun _ _ => rfl)) (fun _ _ => rfl)))
          (pss_cons (ps_expr (kbm K PySem.F.plainAttrs_list PySem.F.slot_list_append PySem.F.type_list_append mt_append (pe_ix (kix_list K) (pv 6) (pv 10) (fun _ _ => rfl)) (pa_cons (pv 9) pa_nil)))
          (pss_one (ps_if (pt_cmpR op_gt (pe_callB (klen K) (by rfl) B.len (by decide +kernel) (pa_cons (pe_ix (kix_list K) (pv 6) (pv 10) (fun _ _ => rfl)) pa_nil)) (pe_ix (kix_tup K) (pv 3) (pv 10) (fun _ _ => rfl)) (nomark _))
            (pss_cons (ps_set (i := 11) sc_pupils_ask.nd rfl (Or.inl rfl) (pe_call G_least hr (by rfl) g_least kp_least b_least .nil pass0 (pa_cons (pe_ix (kix_tup K) (pv 2) (pv 10) (fun _ _ => rfl)) (pa_cons (pe_ix (kix_list K) (pv 6) (pv 10) (fun _ _ => rfl)) pa_nil))))
            (pss_cons (ps_expr (kbm K PySem.F.plainAttrs_list PySem.F.slot_list_remove PySem.F.type_list_remove mt_remove (pe_ix (kix_list K) (pv 6) (pv 10) (fun _ _ => rfl)) (pa_cons (pv 11) pa_nil)))
            (pss_cons (ps_expr (kbm K PySem.F.plainAttrs_list PySem.F.slot_list_append PySem.F.type_list_append mt_append (pv 7) (pa_cons (pe_tup (pa_cons (pv 11) (pa_cons (pv 10) pa_nil))) pa_nil)))
            (pss_cons (ps_augS (pv 4) (pv 11) get_list pe_int ip_add set_list)
            (pss_one (ps_expr (kbm K PySem.F.plainAttrs_list PySem.F.slot_list_append PySem.F.type_list_append mt_append (pv 8) (pa_cons (pv 11) pa_nil))))))))
            pss_nil))))
          pss_nil))))
      (pss_cons (ps_set (i := 12) sc_pupils_ask.nd rfl (Or.inl rfl) (pe_callB cr_sortedPO (by rfl) B.sorted (by decide +kernel) (pa_cons (pe_lc2 (own := [("school", 10), ("pupils", 13), ("pupil", 9)]) (vs1 := [9]) (tt := tYes) (tt1 := tYes) (by rfl) sc_pupils_ask.nd (pi_enum (by rfl) B.enumerate (pa_cons (pv 6) pa_nil)) (blkOk_by (own := [("school", 10), ("pupils", 13), ("pupil", 9)]) (N := n_pupils_ask) (sc := defScope s_pupils_ask) (by decide +kernel)) (by simp) (blk_tup2 (i := 10) (j := 13) rfl sc_pupils_ask.nd rfl rfl rfl rfl) (fun _ _ _ _ _ => pts_nil) (fun _ _ _ _ _ => (kpi_list K (pv 13))) (fun _ _ _ _ _ => (pg_name (i := 9) sc_pupils_ask.nd rfl (Or.inl rfl))) (fun _ _ _ _ _ => pts_nil) (fun _ _ _ _ _ => (pe_tup (pa_cons (pv 9) (pa_cons (pv 10) pa_nil))))) pa_nil)))
      (pss_one (ps_ret (pe_tup (pa_cons (pe_callTy call_tuple_of (by rfl) B.tuple (by decide +kernel) (pa_cons (pv 12) pa_nil)) (pa_cons (pe_callTy call_tuple_of (by rfl) B.tuple (by decide +kernel) (pa_cons (pe_callB cr_sortedPO (by rfl) B.sorted (by decide +kernel) (pa_cons (pv 7) pa_nil)) pa_nil)) pa_nil)))))))))))), ?_⟩
    obtain ⟨a, wa, ra, sa, wv, rv, rfl, h1, h2, h3, h4, h5, h6⟩ := hB
    refine ⟨.ref a, rfl, a, [.ref wa, .ref ra, .ref sa], rfl, h1, rfl, .ref wa, _, rfl, .ref ra, _, rfl, .ref sa, _, rfl, rfl, ?_⟩
    have wfB := gd.wf
    have lw : wv.length = Bk.W.length := h3.1
    have lr : rv.length = Bk.R.length := h5.1
    have hnl := gd.nl
    have hml := gd.ml
    -- refusals
    refine ⟨.ref wa, rfl, wa, rfl, ⟨wv, h2⟩, fun f hf => lc_tup (K := K) (a := wa) (xs := wv) (fun i H' => H' = upd H f (.lst (List.replicate i (nV 0)))) rfl (fun i H' _ e => by rw [e]; exact (St.new (T := T) (L := []) hf).sqT h2)
      (fun i x H' hx e => by
        subst e
        exact ⟨rfl, yes ⟨_, upd_same, by rw [List.length_replicate]; exact small' (by have := (List.getElem?_eq_some_iff.mp hx).1; omega), by rw [upd_upd, List.replicate_succ']; rfl⟩⟩) (fun H1 e => ?_)⟩
    subst e
    have x1 : St T [] H (upd H f (.lst (List.replicate wv.length (nV 0)))) := .new hf
    generalize hH1 : upd H f (.lst (List.replicate wv.length (nV 0))) = H1 at x1 ⊢
    have f1 : H1 f = some (.lst (List.replicate wv.length (nV 0))) := by rw [← hH1]; exact upd_same
    clear hH1
    -- held
    refine ⟨.ref ra, rfl, ra, rfl, ⟨rv, x1.sqT h4⟩, fun h hh => lc_tup (K := K) (a := ra) (xs := rv) (fun i H' => ∃ hs : List Addr, hs.length = i ∧ (h :: hs).Nodup ∧ H' h = some (.lst (hs.map V.ref)) ∧ (∀ x ∈ hs, H' x = some (.lst []) ∧ H1 x = none) ∧ ∀ b o, H1 b = some o → H' b = some o)
      ⟨[], rfl, by simp, upd_same, fun x hx => (nomatch hx), fun b o e => by rw [upd_ne (ne_of_none e hh)]; exact e⟩
      (fun i H' _ ⟨hs, _, _, _, _, e⟩ => (St.ex (T := T) (L := []) e).sqT (x1.sqT h4))
      (fun i x H' hx ⟨hs, e1, e2, e3, e4, e5⟩ => ⟨rfl, yes ⟨Nat.zero_le _, fun p hp => ⟨_, by rw [upd_ne (ne_of_none e3 hp)]; exact e3, by
          rw [List.length_map, e1]
          exact small' (by have := (List.getElem?_eq_some_iff.mp hx).1; omega), hs ++ [p], by rw [List.length_append, e1]; rfl, ?_, ?_, ?_, ?_⟩⟩⟩) (fun H2 ⟨hs, e1, e2, e3, e4, e5⟩ => ?_)⟩
    · rw [← List.cons_append]
      refine List.nodup_append.mpr ⟨e2, by simp, fun y hy z hz e => ?_⟩
      rw [List.mem_singleton.mp hz] at e
      rw [e] at hy
      rcases List.mem_cons.mp hy with e6 | hy
      · rw [e6, e3] at hp
        cases hp
      · rw [(e4 p hy).1] at hp
        cases hp
    · rw [upd_same, List.map_append]
      rfl
    · intro y hy
      rcases List.mem_append.mp hy with hy | hy
      · have n1 : y ≠ h := fun z => (List.nodup_cons.mp e2).1 (z ▸ hy)
        have n2 : y ≠ p := ne_of_none (e4 y hy).1 hp
        exact ⟨by rw [upd_ne n1, upd_ne n2]; exact (e4 y hy).1, (e4 y hy).2⟩
      · rw [List.mem_singleton.mp hy]
        have n1 : p ≠ h := (ne_of_none e3 hp).symm
        refine ⟨by rw [upd_ne n1, upd_same], ?_⟩
        cases q1 : H1 p with
        | none => rfl
        | some o => rw [e5 p o q1] at hp; cases hp
    · intro b o e
      have n1 : b ≠ h := ne_of_none e hh
      have n2 : b ≠ p := ne_of_none (e5 b o e) hp
      rw [upd_ne n1, upd_ne n2]
      exact e5 b o e
    -- refused
    have x2 : St T [] H H2 := x1.trans (.ex e5)
    refine ⟨Nat.zero_le _, fun rf hrf => ?_⟩
    have x3 : St T [] H2 (upd H2 rf (.lst [])) := .new hrf
    -- waiting
    refine ⟨.ref wa, rfl, wa, wv, rfl, .inr ((x2.trans x3).sqT h2), _, rfl, .of_le (by decide) (by omega) (by decide) (by omega), fun wt hwt => ?_⟩
    have x4 : St T [] (upd H2 rf (.lst [])) (upd (upd H2 rf (.lst [])) wt (.lst (rgV 0 (wv.length : Int)))) := .new hwt
    have er : rgV 0 (wv.length : Int) = (List.range wv.length).map nV := by
      unfold rgV
      rw [Int.sub_zero, Int.toNat_natCast]
      exact List.map_congr_left fun i _ => by rw [Int.zero_add]
    rw [er] at x4 ⊢
    have p0 : PS K T H (upd (upd H2 rf (.lst [])) wt (.lst ((List.range wv.length).map nV))) f h rf wt hs [] (List.replicate wv.length 0) (fun _ => []) [] (List.range wv.length) := by
      have hrf' : ∀ b o, H2 b = some o → b ≠ rf := fun b o e => ne_of_none e hrf
      have hwt' : ∀ b o, (upd H2 rf (.lst [])) b = some o → b ≠ wt := fun b o e => ne_of_none e hwt
      have up2 : ∀ b o, H2 b = some o → (upd H2 rf (.lst [])) b = some o := fun b o e => by rw [upd_ne (hrf' b o e)]; exact e
      have up3 : ∀ b o, H2 b = some o → b ≠ wt := fun b o e => hwt' b o (up2 b o e)
      have all : ∀ b o, H2 b = some o → (upd (upd H2 rf (.lst [])) wt (.lst ((List.range wv.length).map nV))) b = some o := fun b o e => by rw [upd_ne (up3 b o e)]; exact up2 b o e
      have fh : f ≠ h := ne_of_none f1 hh
      have n2 := List.nodup_cons.mp e2
      refine ⟨?_, ?_, x2.trans (x3.trans x4), ?_, all h _ e3, ?_, upd_same, ?_, LsP.nil⟩
      · simp only [List.nodup_cons, List.mem_cons, not_or]
        refine ⟨⟨fh, hrf' f _ (e5 f _ f1), up3 f _ (e5 f _ f1), fun z => ?_⟩, ⟨hrf' h _ e3, up3 h _ e3, n2.1⟩, ⟨hwt' rf _ upd_same, fun z => hrf' rf _ (e4 rf z).1 rfl⟩, fun z => up3 wt _ (e4 wt z).1 rfl, n2.2⟩
        have := (e4 f z).2
        rw [f1] at this
        cases this
      · intro y hy
        simp only [List.mem_cons] at hy
        rcases hy with rfl | rfl | rfl | rfl | hy
        · exact .of hf
        · exact x1.back0 hh
        · exact x2.back0 hrf
        · exact (x2.trans x3).back0 hwt
        · exact x1.back0 (e4 y hy).2
      · rw [all f _ (e5 f _ f1)]
        simp
      · rw [upd_ne (hwt' rf _ upd_same), upd_same]
        rfl
      · intro b p hp
        exact all p _ (e4 p (List.mem_of_getElem? hp)).1
    have k0 : kf (List.replicate wv.length 0) = fun _ => 0 := by
      funext b
      unfold kf
      rw [List.getD_eq_getElem?_getD, List.getElem?_replicate]
      split <;> rfl
    have m0 : PM (bk Bk) (fun _ => none) (List.replicate wv.length 0) (fun _ => []) [] (List.range wv.length) := by
      refine ⟨by rw [k0]; exact .start, by rw [List.length_replicate]; exact lw, fun _ => List.nodup_nil, fun b x => by simp, by rw [k0]; exact .start, by rw [k0, tot_zero]; rfl, List.nodup_range, fun x hx => ⟨by have := List.mem_range.mp hx; rw [lw] at this; exact this, rfl⟩, fun x hx _ => ?_⟩
      rw [wfB.wl x (by
        have : ¬ x < wv.length := fun z => hx (List.mem_range.mpr z)
        rw [lw] at this
        exact Nat.le_of_not_lt this)]
      exact Nat.zero_le _
    clear x4 x3 x2 x1 e2 e3 e4 e5 hrf hwt hh hf f1 er
    generalize upd (upd H2 rf (.lst [])) wt (.lst ((List.range wv.length).map nV)) = H3 at p0 ⊢
    clear k0
    have hsl : hs.length = Bk.R.length := by rw [e1, lr]
    refine ⟨PLoop K T Bk H a wa ra sa f h rf wt hs, ⟨_, [], _, _, [], _, _, none, none, none, rfl, p0, m0, rfl⟩, fun m σ H' hW => ?_⟩
    obtain ⟨ts, ks, hl, rl, ws, r, y9, y10, y11, rfl, p, pm, rfl⟩ := hW
    clear p0 m0
    rcases List.eq_nil_or_concat ws with rfl | ⟨ws', x, rfl⟩
    · -- the end
      refine ⟨_, rfl, false, .inl ⟨_, .of p.hw, rfl⟩, iteF ?_⟩
      have bound : ∀ b, (hl b).length ≤ 12 := fun b => Nat.le_trans (nodup_lt_len (n := Bk.W.length) (pm.hn b) fun y hy => (gd.ltW (pm.pa.mem ((pm.hm b y).mp hy))).1) hnl
      have dn : ∀ x, r x = none → ((bk Bk).W x).length ≤ kf ks x := fun x hx => pm.dn x (by simp) hx
      have best := pm.pa.best wfB dn
      have spots := pm.pa.spot_at wfB dn
      -- the pairs, school by school
      refine ⟨_, rfl, h, _, rfl, .of p.hh, fun D hD => lc2_en (K := K) (a := h) (xs := hs.map V.ref) (CI K H' D hl · 0) ⟨[], [], fun b o e => by rw [upd_ne (ne_of_none e hD)]; exact e, upd_same, LsP.nil, List.nodup_nil, Nat.zero_le _, fun a b => by simp⟩
        (fun i H2 _ ⟨_, _, e, _⟩ => .of (e h _ p.hh)) (fun i x T' H2 hx hc hT' => ?_) (fun H2 hc => ?_)⟩
      · rw [List.getElem?_map] at hx
        cases hhb : hs[i]? with
        | none => rw [hhb] at hx; cases hx
        | some hb' =>
          rw [hhb] at hx
          cases Option.some.inj hx
          obtain ⟨ts2, ps2, k1, k2, k3, k4, k5, k6⟩ := hc
          have hib : i < Bk.R.length := by rw [← hsl]; exact (List.getElem?_eq_some_iff.mp hhb).1
          have up1 : ∀ b o, H2 b = some o → (upd H2 T' (.tup [.int (i : Nat), .ref hb'])) b = some o := fun b o e => by rw [upd_ne (ne_of_none e hT')]; exact e
          refine ⟨T', _, rfl, .of upd_same, rfl, _, _, rfl, _, _, rfl, rfl, rfl, yes ⟨_, rfl, hb', rfl, ⟨_, .of (up1 _ _ (k1 _ _ (p.hb i hb' hhb)))⟩, lcin_list (K := K) (a := hb') (xs := (hl i).map nV) (CI K H' D hl i) ⟨ts2, ps2, fun b o e => up1 _ _ (k1 b o e), up1 _ _ k2, k3.st (.ex (T := T) (L := []) up1), k4, k5, k6⟩
            (fun j H3 _ ⟨_, _, e, _⟩ => .of (e _ _ (p.hb i hb' hhb))) (fun j y H3 hy hc => ?_) (fun H3 hc => ?_)⟩⟩
          · rw [List.getElem?_map] at hy
            cases hya : (hl i)[j]? with
            | none => rw [hya] at hy; cases hy
            | some y' =>
              rw [hya] at hy
              cases Option.some.inj hy
              obtain ⟨ts3, ps3, l1, l2, l3, l4, l5, l6⟩ := hc
              have hj := (List.getElem?_eq_some_iff.mp hya).1
              refine ⟨rfl, yes ⟨_, rfl, _, rfl, by show 2 ≤ sizeLine; decide, fun t ht => ⟨ts3.map V.ref, by rw [upd_ne (ne_of_none l2 ht)]; exact l2, by
                rw [List.length_map, l3.1]
                exact small' (by have := bound i; omega), ts3 ++ [t], ps3 ++ [(y', i)], ?_, ?_, ?_, ?_, ?_, fun a b => ?_⟩⟩⟩
              · intro b o e
                have hDn : b ≠ D := ne_of_none e hD
                rw [upd_ne hDn, upd_ne (ne_of_none (l1 b o e) ht)]
                exact l1 b o e
              · rw [upd_same, List.map_append]
                rfl
              · have htD : t ≠ D := (ne_of_none l2 ht).symm
                have l3' : LsP K (upd H3 t (.tup [nV y', nV i])) ts3 ps3 := l3.st (.new (T := T) (L := []) ht)
                have e2 : (upd H3 t (.tup [nV y', nV i])) D = some (.lst (ts3.map V.ref)) := by rw [upd_ne (ne_of_none l2 ht)]; exact l2
                refine (l3'.st (.put (T := T) (L := [D]) e2 (.inl ⟨_, rfl⟩) (.inl ⟨_, rfl⟩) (by simp))).snoc ?_
                rw [upd_ne htD, upd_same]
              · refine List.nodup_append.mpr ⟨l4, by simp, fun a ha b hb e => ?_⟩
                rw [List.mem_singleton.mp hb] at e
                rw [e] at ha
                rcases (l6 y' i).mp ha with z | z
                · omega
                · have := ((mem_take_idx (pm.hn i)).mp z.2).2
                  have := idx_get (pm.hn i) hya
                  omega
              · rw [List.length_append]
                simp only [List.length_singleton]
                omega
              · rw [List.mem_append, l6, List.mem_singleton]
                constructor
                · rintro ((z | z) | z)
                  · exact .inl z
                  · obtain ⟨rfl, z⟩ := z
                    exact .inr ⟨rfl, (take_up hya).mpr (.inl z)⟩
                  · cases z
                    exact .inr ⟨rfl, (take_up hya).mpr (.inr rfl)⟩
                · rintro (z | ⟨rfl, z⟩)
                  · exact .inl (.inl z)
                  · rcases (take_up hya).mp z with z | rfl
                    · exact .inl (.inr ⟨rfl, z⟩)
                    · exact .inr rfl
          · obtain ⟨ts3, ps3, l1, l2, l3, l4, l5, l6⟩ := hc
            rw [List.length_map] at l5 l6
            refine ⟨ts3, ps3, l1, l2, l3, l4, by have := bound i; omega, fun a b => ?_⟩
            rw [l6]
            constructor
            · rintro (z | ⟨rfl, z⟩)
              · exact .inl ⟨by omega, z.2⟩
              · exact .inl ⟨by omega, List.mem_of_mem_take z⟩
            · rintro (z | z)
              · by_cases e : b = i
                · subst e
                  exact .inr ⟨rfl, by rw [List.take_length]; exact z.2⟩
                · exact .inl ⟨by omega, z.2⟩
              · simp at z
      · rw [List.length_map, hsl] at hc
        obtain ⟨ts2, ps2, k1, k2, k3, k4, k5, k6⟩ := hc
        refine ⟨D, ts2.map V.ref, kH H2, rfl, .of k2, k3.pairs, fun ys d srt stb hd => ?_⟩
        obtain ⟨ts3, ps3, rfl, l1, l2, l3⟩ := sort_out k3 k4 srt stb
        have y1 : St T [] H H2 := p.st.trans (.ex k1)
        have y2 : St T [] H2 (upd H2 d (.lst (ts3.map V.ref))) := .new hd
        -- tuple(dealing)
        refine ⟨_, rfl, d, _, rfl, .inl ⟨.of upd_same, fun td htd => ?_⟩⟩
        have y3 : St T [] (upd H2 d (.lst (ts3.map V.ref))) (upd (upd H2 d (.lst (ts3.map V.ref))) td (.tup (ts3.map V.ref))) := .new htd
        have hrf : (upd (upd H2 d (.lst (ts3.map V.ref))) td (.tup (ts3.map V.ref))) rf = some (.lst (ts.map V.ref)) := (y2.trans y3).lst (k1 _ _ p.hr) (by simp)
        have hts := (p.tt.st (T := T) (L := []) (.ex k1)).st (y2.trans y3)
        have htd' : (upd (upd H2 d (.lst (ts3.map V.ref))) td (.tup (ts3.map V.ref))) td = some (.tup (ts3.map V.ref)) := upd_same
        have l1' := (l1.st y2).st y3
        have y4 := (y1.trans y2).trans y3
        clear y1 y2 y3 l1
        generalize upd (upd H2 d (.lst (ts3.map V.ref))) td (.tup (ts3.map V.ref)) = H3 at hrf hts htd' l1' y4 ⊢
        -- sorted(refused)
        refine ⟨_, rfl, rf, ts.map V.ref, kH H3, rfl, .of hrf, hts.pairs, fun ys d2 srt2 stb2 hd2 => ?_⟩
        obtain ⟨ts4, ps4, rfl, l4, l5, l6⟩ := sort_out hts pm.rf.nd srt2 stb2
        have z1 : St T [] H3 (upd H3 d2 (.lst (ts4.map V.ref))) := .new hd2
        refine ⟨d2, _, rfl, .inl ⟨.of upd_same, fun td2 htd2 => ?_⟩⟩
        have z2 : St T [] (upd H3 d2 (.lst (ts4.map V.ref))) (upd (upd H3 d2 (.lst (ts4.map V.ref))) td2 (.tup (ts4.map V.ref))) := .new htd2
        refine ⟨by show 2 ≤ sizeLine; decide, fun t ht => ?_⟩
        have z3 : St T [] (upd (upd H3 d2 (.lst (ts4.map V.ref))) td2 (.tup (ts4.map V.ref))) (upd (upd (upd H3 d2 (.lst (ts4.map V.ref))) td2 (.tup (ts4.map V.ref))) t (.tup [.ref td, .ref td2])) := .new ht
        refine q t (.ref td) (.ref td2) _ r ps3 ps4 best (y4.trans ((z1.trans z2).trans z3)) (.of upd_same) ⟨td, ts3, rfl, ((z1.trans z2).trans z3).sqT (.of htd'), l1'.st ((z1.trans z2).trans z3)⟩ ⟨l2, fun a b => ?_⟩ ⟨td2, ts4, rfl, z3.sqT (.of upd_same), l4.st ((z1.trans z2).trans z3)⟩ (pm.rf.pass wfB spots l5 l6)
        rw [l3.mem_iff, k6, ← pm.hm]
        constructor
        · rintro (z | z)
          · exact z.2
          · simp at z
        · intro z
          exact .inl ⟨(gd.ltW (pm.pa.mem ((pm.hm b a).mp z))).2, z⟩
    · rw [List.concat_eq_append] at p pm ⊢
      refine ⟨_, rfl, true, .inl ⟨_, .of p.hw, by simp⟩, iteT ⟨fun σ' H' => ∃ m', m' < PMu (bk Bk) ks (ws' ++ [x]) ∧ PLoop K T Bk H a wa ra sa f h rf wt hs m' σ' H', fun _ _ n => n, ?_⟩⟩
      obtain ⟨hx1, hx2, hx3, hx4⟩ := pm.popped
      have hxn : x < Bk.W.length := hx1
      have ed : ((ws' ++ [x]).map nV).dropLast = ws'.map nV := by simp
      -- pupil = waiting.pop()
      refine ⟨_, rfl, .inl ⟨rfl, _, .of p.hw⟩, wt, _, nV x, rfl, rfl, p.hw, by simp, ?_⟩
      rw [ed]
      have p1 := p.putW ws'
      clear p
      generalize upd H' wt (.lst (ws'.map nV)) = H1 at p1 ⊢
      obtain ⟨px, ex, fx⟩ := h3.2 x _ (bkW hxn)
      have hk := kf_at (ks := ks) (a := x) (by rw [pm.kl]; exact hx1)
      have hkV : (ks.map nV)[x]? = some (nV (kf ks x)) := by rw [List.getElem?_map, hk]; rfl
      -- if refusals[pupil] < len(wishes[pupil])
      refine ⟨_, rfl, _, rfl, f, _, (x : Int), nV (kf ks x), rfl, rfl, .of p1.hf, atI_nat hkV, _, rfl, _, rfl, wa, wv, (x : Int), .ref px, rfl, rfl, p1.st.sqT h2, atI_nat ex, px, _, rfl, .inr (p1.st.ft fx).sq, _, _, rfl, rfl, _, rfl, ite2 (fun e => ?_) (fun e => ?_)⟩
      · have e := of_decide_eq_true e
        rw [List.length_map] at e
        have e : kf ks x < ((bk Bk).W x).length := by omega
        obtain ⟨b, hb⟩ : ∃ b, ((bk Bk).W x)[kf ks x]? = some b := ⟨_, List.getElem?_eq_getElem e⟩
        obtain ⟨_, hbm⟩ := gd.ltW (List.mem_of_getElem? hb)
        -- school = wishes[pupil][refusals[pupil]]
        refine ⟨_, rfl, _, rfl, wa, wv, (x : Int), .ref px, rfl, rfl, p1.st.sqT h2, atI_nat ex, _, rfl, _, rfl, f, _, (x : Int), nV (kf ks x), rfl, rfl, .of p1.hf, atI_nat hkV, px, _, (kf ks x : Int), nV b, rfl, rfl, (p1.st.ft fx).sq, atI_nat (by rw [List.getElem?_map, hb]; rfl), ?_⟩
        -- held[school].append(pupil)
        obtain ⟨hb', hhb⟩ : ∃ p, hs[b]? = some p := ⟨_, List.getElem?_eq_getElem (by rw [hsl]; exact hbm)⟩
        have hhV : (hs.map V.ref)[b]? = some (.ref hb') := by rw [List.getElem?_map, hhb]; rfl
        have hlen : (hl b).length ≤ 12 := Nat.le_trans (nodup_lt_len (n := Bk.W.length) (pm.hn b) fun y hy => (gd.ltW (pm.pa.mem ((pm.hm b y).mp hy))).1) hnl
        refine ⟨_, rfl, _, rfl, h, _, (b : Int), .ref hb', rfl, rfl, .of p1.hh, atI_nat hhV, .inl ⟨rfl, _, .of (p1.hb b hb' hhb)⟩, _, rfl, hb', _, nV x, rfl, rfl, p1.hb b hb' hhb, by rw [List.length_map]; exact small' (by omega), ?_⟩
        rw [show (hl b).map nV ++ [nV x] = (hl b ++ [x]).map nV by simp]
        have p2 := p1.putB hhb (hl b ++ [x])
        clear p1
        generalize upd H1 hb' (.lst ((hl b ++ [x]).map nV)) = H2 at p2 ⊢
        have b2 := p2.hb b hb' hhb
        rw [up_same] at b2
        have hS := bkS (B := Bk) (b := b) (by rw [gd.sl]; exact hbm)
        -- if len(held[school]) > seats[school]
        refine ⟨_, rfl, _, rfl, h, _, (b : Int), .ref hb', rfl, rfl, .of p2.hh, atI_nat hhV, hb', _, rfl, .inl (.of b2), _, rfl, _, rfl, sa, _, (b : Int), nV ((bk Bk).S b), rfl, rfl, p2.st.sqT h6, atI_nat (by rw [List.getElem?_map, hS]; rfl), _, _, rfl, rfl, _, rfl, ite2 (fun e2 => ?_) (fun e2 => ?_)⟩
        · have e2 := of_decide_eq_true e2
          rw [List.length_map] at e2
          have e2 : (bk Bk).S b < (hl b ++ [x]).length := by omega
          obtain ⟨pr, er, fr⟩ := h5.2 b _ (bkRl hbm)
          have hbx : ∀ n ∈ hl b ++ [x], n ∈ (bk Bk).R b := fun n hn => by
            rcases List.mem_append.mp hn with hn | hn
            · exact (wfB.sd n b).mp (pm.pa.mem ((pm.hm b n).mp hn))
            · rw [List.mem_singleton.mp hn]
              exact (wfB.sd x b).mp (List.mem_of_getElem? hb)
          -- least = _least_of(rolls[school], held[school])
          refine ⟨_, rfl, _, rfl, ra, rv, (b : Int), .ref pr, rfl, rfl, p2.st.sqT h4, atI_nat er, _, rfl, _, rfl, h, _, (b : Int), .ref hb', rfl, rfl, .of p2.hh, atI_nat hhV, pr, hb', hl b ++ [x], (bk Bk).R b, rfl, p2.st.ft fr, b2, by simp, hbx, p2.st.b hT, fun l H3 hl1 hl2 st => ?_⟩
          have p3 := p2.step st
          clear p2 b2
          have b3 := p3.hb b hb' hhb
          rw [up_same] at b3
          obtain ⟨c1, c2, c3⟩ := pm.cnt_new wfB hb
          obtain ⟨m1, m2, hln⟩ := pm.refuse wfB hb e2 hl1 hl2
          have hll : l < ks.length := by rw [pm.kl]; exact hln
          -- held[school].remove(least)
          refine ⟨_, rfl, _, rfl, h, _, (b : Int), .ref hb', rfl, rfl, .of p3.hh, atI_nat hhV, .inl ⟨rfl, _, .of b3⟩, _, rfl, hb', (hl b ++ [x]).map ci, ci l, (hl b ++ [x]).idxOf l, rfl, rfl, by rw [← map_nV]; exact b3, by rw [List.getElem?_map, get_idx hl1]; rfl, fun m hm z => ?_, ?_⟩
          · rw [List.getElem?_map] at z
            cases hz : (hl b ++ [x])[m]? with
            | none => rw [hz] at z; cases z
            | some y =>
              rw [hz] at z
              have : y = l := ci_inj (Option.some.inj z)
              rw [this] at hz
              have := idx_get c2 hz
              omega
          have ee : (((hl b ++ [x]).map ci).eraseIdx ((hl b ++ [x]).idxOf l)).map V.int = ((hl b ++ [x]).erase l).map nV := by
            rw [map_erIdx, ← map_nV, er_idx l _ hl1]
          rw [ee]
          have p4 := p3.putB hhb ((hl b ++ [x]).erase l)
          clear p3 b3 ee
          generalize upd H3 hb' (.lst (((hl b ++ [x]).erase l).map nV)) = H4 at p4 ⊢
          -- refused.append((least, school))
          refine ⟨_, rfl, .inl ⟨rfl, _, .of p4.hr⟩, _, rfl, _, rfl, by show 2 ≤ sizeLine; decide, fun t ht => ⟨rf, _, .ref t, rfl, rfl, (p4.step (.new ht)).hr, by
            rw [List.length_map, p4.tt.1]
            exact small' (by have := pm.rl60 gd.pl; omega), ?_⟩⟩
          have p5 := p4.step (.new (o := .tup [nV l, nV b]) ht)
          rw [show ts.map V.ref ++ [V.ref t] = (ts ++ [t]).map V.ref by simp]
          have p6 := p5.putR (q := (l, b)) upd_same
          clear p4 p5
          generalize upd (upd H4 t (.tup [nV l, nV b])) rf (.lst ((ts ++ [t]).map V.ref)) = H5 at p6 ⊢
          have hkl : (ks.map nV)[l]? = some (nV (kf ks l)) := by rw [List.getElem?_map, kf_at hll]; rfl
          -- refusals[least] += 1
          refine ⟨_, rfl, _, rfl, f, _, l, nV (kf ks l), rfl, rfl, by have := hnl; have : l < Bk.W.length := hln; omega, p6.hf, hkl, (kf ks l : Int), 1, rfl, rfl, f, _, (l : Int), l, rfl, rfl, p6.hf, Evl.ixN_nat (by rw [List.length_map]; exact hll), ?_⟩
          rw [show (ks.map nV).set l (V.int ((kf ks l : Int) + 1)) = (ks.set l (kf ks l + 1)).map nV by rw [List.map_set]; rfl]
          have p7 := p6.putF (ks.set l (kf ks l + 1))
          clear p6
          generalize upd H5 f (.lst ((ks.set l (kf ks l + 1)).map nV)) = H6 at p7 ⊢
          -- waiting.append(least)
          refine ⟨_, rfl, .inl ⟨rfl, _, .of p7.hw⟩, _, rfl, wt, _, nV l, rfl, rfl, p7.hw, by
            rw [List.length_map]
            exact small' (by have := nodup_lt_len (n := Bk.W.length) hx4 fun y hy => (pm.wr y (by simp [hy])).1; omega), ?_⟩
          rw [show ws'.map nV ++ [nV l] = (ws' ++ [l]).map nV by simp]
          have p8 := p7.putW (ws' ++ [l])
          exact ⟨_, m2, _, _, _, _, _, _, _, _, _, rfl, p8, m1, rfl⟩
        · have e2 := of_decide_eq_false (eq_false_of_ne_true e2)
          rw [List.length_map] at e2
          obtain ⟨m1, m2⟩ := pm.place wfB hb (by omega)
          exact ⟨_, m2, ts, ks, _, rl, ws', _, _, _, _, rfl, p2, m1, rfl⟩
      · have e := of_decide_eq_false (eq_false_of_ne_true e)
        rw [List.length_map] at e
        obtain ⟨m1, m2⟩ := pm.rest (a := x) (by omega)
        exact ⟨_, m2, ts, ks, hl, rl, ws', r, _, _, _, rfl, p1, m1, rfl⟩
end
end Z
namespace Z
open PySem PySem.Spec PyProof.Rows L2 Ma
/-! ### the dict of places -/
def dKp (p : Nat × Nat) : Key × V := (Sum.inl (ci p.1), nV p.2)
def putN (kv : List (Nat × Nat)) (a b : Nat) : List (Nat × Nat) := if (kv.any fun p => decide (p.1 = a)) = true then kv.map (fun p => if p.1 = a then (p.1, b) else p) else kv ++ [(a, b)]
theorem key_iff {p : Nat × Nat} {a : Nat} : (dKp p).1 = Sum.inl (ci a) ↔ p.1 = a := by
  unfold dKp
  constructor
  · intro h
    exact ci_inj (Sum.inl.inj h)
  · intro h
    rw [h]
theorem any_dK (a : Nat) : ∀ kv : List (Nat × Nat), ((kv.map dKp).any fun q => decide (q.1 = Sum.inl (ci a))) = kv.any fun p => decide (p.1 = a)
  | [] => rfl
  | p :: kv => by
    rw [List.map_cons, List.any_cons, List.any_cons, any_dK a kv]
    congr 1
    exact decide_eq_decide.mpr key_iff
theorem put_dK (kv : List (Nat × Nat)) (a b : Nat) : putK (kv.map dKp) (Sum.inl (ci a)) (nV b) = (putN kv a b).map dKp := by
  unfold putK putN
  rw [any_dK]
  by_cases h : (kv.any fun p => decide (p.1 = a)) = true
  · rw [if_pos h, if_pos h, List.map_map, List.map_map]
    apply List.map_congr_left
    intro p _
    show (if (dKp p).1 = Sum.inl (ci a) then ((dKp p).1, nV b) else dKp p) = dKp (if p.1 = a then (p.1, b) else p)
    by_cases e : p.1 = a
    · rw [if_pos e, if_pos (key_iff.mpr e)]
      rfl
    · rw [if_neg e, if_neg fun z => e (key_iff.mp z)]
  · rw [if_neg h, if_neg h, List.map_append]
    rfl
theorem val_dK {r : Ma.Row} {a : Nat} : ∀ {kv : List (Nat × Nat)}, (∀ b, (a, b) ∈ kv ↔ r a = some b) → valV (kv.map dKp) (Sum.inl (ci a)) = (r a).map nV := fun {kv} h => by
  have gen : ∀ l : List (Nat × Nat), (∀ p ∈ l, p ∈ kv) → ((∃ b, (a, b) ∈ l) → valV (l.map dKp) (Sum.inl (ci a)) = (r a).map nV) ∧ ((¬ ∃ b, (a, b) ∈ l) → valV (l.map dKp) (Sum.inl (ci a)) = none) := fun l => by
    induction l with
    | nil => exact fun _ => ⟨fun ⟨b, hb⟩ => (nomatch hb), fun _ => rfl⟩
    | cons p l ih =>
      intro hs
      obtain ⟨i1, i2⟩ := ih fun p hp => hs p (List.mem_cons_of_mem _ hp)
      by_cases e : p.1 = a
      · have hm := hs p List.mem_cons_self
        rw [show p = (a, p.2) from Prod.ext e rfl, h] at hm
        refine ⟨fun _ => ?_, fun z => absurd ⟨p.2, by rw [show (a, p.2) = p from Prod.ext e.symm rfl]; exact List.mem_cons_self⟩ z⟩
        rw [List.map_cons, valV_pos (key_iff.mpr e), hm]
        rfl
      · rw [List.map_cons, valV_neg fun z => e (key_iff.mp z)]
        have np : ∀ b, (a, b) ∈ p :: l → (a, b) ∈ l := fun b hb => by
          rcases List.mem_cons.mp hb with z | z
          · exact absurd (by rw [← z]) e
          · exact z
        exact ⟨fun ⟨b, hb⟩ => i1 ⟨b, np b hb⟩, fun z => i2 fun ⟨b, hb⟩ => z ⟨b, List.mem_cons_of_mem _ hb⟩⟩
  obtain ⟨g1, g2⟩ := gen kv fun _ hp => hp
  cases e : r a with
  | none =>
    rw [g2 fun ⟨b, hb⟩ => by rw [h, e] at hb; cases hb]
    rfl
  | some b => rw [g1 ⟨b, (h b).mpr e⟩, e]
theorem putN_ok {r : Ma.Row} {kv : List (Nat × Nat)} (hn : (kv.map (·.1)).Nodup) (hm : ∀ a b, (a, b) ∈ kv ↔ r a = some b) (a b : Nat) : ((putN kv a b).map (·.1)).Nodup ∧ (∀ x y, (x, y) ∈ putN kv a b ↔ up r a (some b) x = some y) ∧ (putN kv a b).length ≤ kv.length + 1 := by
  unfold putN
  by_cases h : (kv.any fun p => decide (p.1 = a)) = true
  · rw [if_pos h]
    obtain ⟨q, hq, eq⟩ := List.any_eq_true.mp h
    have eq := of_decide_eq_true eq
    refine ⟨?_, fun x y => ?_, by rw [List.length_map]; omega⟩
    · rw [List.map_map, show ((fun p : Nat × Nat => p.1) ∘ fun p => if p.1 = a then (p.1, b) else p) = fun p => p.1 from funext fun p => by
        show (if p.1 = a then (p.1, b) else p).1 = p.1
        split <;> rfl]
      exact hn
    · rw [List.mem_map]
      constructor
      · rintro ⟨p, hp, e⟩
        by_cases e2 : p.1 = a
        · rw [if_pos e2] at e
          cases e
          rw [e2, up_same]
        · rw [if_neg e2] at e
          subst e
          rw [up_ne e2]
          exact (hm _ _).mp hp
      · intro e
        by_cases e2 : x = a
        · subst e2
          rw [up_same] at e
          cases e
          exact ⟨q, hq, by rw [if_pos eq, eq]⟩
        · rw [up_ne e2] at e
          exact ⟨(x, y), (hm x y).mpr e, if_neg e2⟩
  · rw [if_neg h]
    have hk : ∀ y, (a, y) ∉ kv := fun y hy => h (List.any_eq_true.mpr ⟨_, hy, by simp⟩)
    refine ⟨?_, fun x y => ?_, by simp⟩
    · rw [List.map_append]
      refine List.nodup_append.mpr ⟨hn, by simp, fun z hz w hw e => ?_⟩
      obtain ⟨p, hp, rfl⟩ := List.mem_map.mp hz
      simp only [List.map_cons, List.map_nil, List.mem_singleton] at hw
      rw [hw] at e
      exact hk p.2 (by rw [← e]; exact hp)
    · rw [List.mem_append, List.mem_singleton, hm]
      by_cases e2 : x = a
      · subst e2
        rw [up_same]
        constructor
        · rintro (e | e)
          · exact absurd ((hm x y).mpr e) (hk y)
          · cases e
            rfl
        · intro e
          cases e
          exact .inr rfl
      · rw [up_ne e2]
        simp [e2]
/-! ### what holds while schools ask -/
structure SM (B : Ma.Bk) (r : Ma.Row) (qs fs : List Nat) (kv rl : List (Nat × Nat)) (ws : List Nat) : Prop where
  sa : SA B r (kf qs)
  ql : qs.length = B.m
  fl : fs.length = B.m
  fv : ∀ b, b < B.m → kf fs b = B.S b - cnt B r b
  kn : (kv.map (·.1)).Nodup
  km : ∀ a b, (a, b) ∈ kv ↔ r a = some b
  kl : kv.length ≤ tot B.m (kf qs)
  rf : RfS B r (kf qs) rl
  rn : rl.length ≤ tot B.m (kf qs)
  wr : ∀ b ∈ ws, b < B.m
  wl : ws.length ≤ B.m + tot B.m (kf qs)
  dn : ∀ b, b < B.m → b ∉ ws → (B.R b).length ≤ kf qs b ∨ B.S b ≤ cnt B r b
def SMu (B : Ma.Bk) (qs ws : List Nat) : Nat := 3 * (tot B.m (fun b => (B.R b).length) - tot B.m (kf qs)) + ws.length
section
variable {B : Ma.Bk} {r : Ma.Row} {qs fs : List Nat} {kv rl : List (Nat × Nat)} {ws : List Nat} {a b c : Nat}
theorem SM.tl (p : SM B r qs fs kv rl ws) : tot B.m (kf qs) ≤ tot B.m fun b => (B.R b).length := tot_le fun b _ => p.sa.ql b
theorem SM.rest (p : SM B r qs fs kv rl (ws ++ [b])) (h : ¬ (0 < kf fs b ∧ kf qs b < (B.R b).length)) : SM B r qs fs kv rl ws ∧ SMu B qs ws < SMu B qs (ws ++ [b]) := by
  have hb := p.wr b (by simp)
  refine ⟨⟨p.sa, p.ql, p.fl, p.fv, p.kn, p.km, p.kl, p.rf, p.rn, fun x hx => p.wr x (by simp [hx]), ?_, fun x hx hw => ?_⟩, ?_⟩
  · have := p.wl
    rw [List.length_append] at this
    simp only [List.length_singleton] at this
    omega
  · by_cases e : x = b
    · subst e
      have := p.fv x hx
      omega
    · exact p.dn x hx (by simp [hw, e])
  · unfold SMu
    rw [List.length_append]
    simp
/-- who asks, and whom -/
structure Ask (B : Ma.Bk) (r : Ma.Row) (qs fs : List Nat) (a b : Nat) : Prop where
  hb : b < B.m
  hc : cnt B r b < B.S b
  ha : (B.R b)[kf qs b]? = some a
  hw : b ∈ B.W a
theorem SM.ask (wf : Wf B) (p : SM B r qs fs kv rl (ws ++ [b])) (h : 0 < kf fs b) (ha : (B.R b)[kf qs b]? = some a) : Ask B r qs fs a b := by
  have hb := p.wr b (by simp)
  have := p.fv b hb
  exact ⟨hb, by omega, ha, (wf.sd a b).mpr (List.mem_of_getElem? ha)⟩
theorem SM.ne (wf : Wf B) (p : SM B r qs fs kv rl ws) (k : Ask B r qs fs a b) (hr : r a = some c) : c ≠ b := fun z => by
  rw [z] at hr
  have := ((mem_take_idx (wf.rn b)).mp (p.sa.pr a b hr)).2
  have := idx_get (wf.rn b) k.ha
  omega
theorem kf_q (p : SM B r qs fs kv rl ws) (hb : b < B.m) : kf (qs.set b (kf qs b + 1)) = up (kf qs) b (kf qs b + 1) := kf_set (by rw [p.ql]; exact hb)
theorem SM.tq (p : SM B r qs fs kv rl ws) (hb : b < B.m) : tot B.m (kf (qs.set b (kf qs b + 1))) = tot B.m (kf qs) + 1 := by
  rw [kf_q p hb]
  have := tot_up (f := kf qs) (v := kf qs b + 1) hb
  omega
theorem cnt_swap (wf : Wf B) (p : SM B r qs fs kv rl ws) (k : Ask B r qs fs a b) : cnt B (up r a (some b)) b = cnt B r b + 1 ∧ (∀ d, d ≠ b → r a ≠ some d → cnt B (up r a (some b)) d = cnt B r d) ∧ ∀ d, r a = some d → cnt B r d = cnt B (up r a (some b)) d + 1 := by
  have hm := List.mem_of_getElem? k.ha
  refine ⟨?_, fun d hd hr => ?_, fun d hr => ?_⟩
  · unfold Ma.cnt
    refine countP_one (a := a) (wf.rn b) hm (by
      have : r a ≠ some b := fun z => p.ne wf k z rfl
      simp [this]) (by rw [up_same]; simp) fun x _ hx => ?_
    rw [up_ne hx]
  · refine cnt_congr fun x _ => ?_
    by_cases hx : x = a
    · rw [hx, up_same]
      exact ⟨fun z => absurd (Option.some.inj z).symm hd, fun z => absurd z hr⟩
    · rw [up_ne hx]
  · have hdb : d ≠ b := p.ne wf k hr
    unfold Ma.cnt
    refine countP_one (a := a) (wf.rn d) (p.sa.mem hr) (by rw [up_same]; simp; exact fun z => hdb z.symm) (by simp [hr]) fun x _ hx => ?_
    rw [up_ne hx]
theorem kf_ne {l : List Nat} {i j v : Nat} (h : j ≠ i) : kf (l.set i v) j = kf l j := by
  unfold kf
  rw [List.getD_eq_getElem?_getD, List.getD_eq_getElem?_getD, List.getElem?_set, if_neg (Ne.symm h)]
theorem kf_eq {l : List Nat} {i v : Nat} (h : i < l.length) : kf (l.set i v) i = v := by
  rw [kf_set h, up_same]
/-- no one had the pupil -/
theorem SM.take1 (wf : Wf B) (p : SM B r qs fs kv rl (ws ++ [b])) (k : Ask B r qs fs a b) (hr : r a = none) :
    SM B (up r a (some b)) (qs.set b (kf qs b + 1)) (fs.set b (kf fs b - 1)) (putN kv a b) rl (ws ++ [b]) ∧ SMu B (qs.set b (kf qs b + 1)) (ws ++ [b]) < SMu B qs (ws ++ [b]) := by
  have eq := kf_q p k.hb
  have tq := p.tq k.hb
  obtain ⟨c1, c2, _⟩ := cnt_swap wf p k
  obtain ⟨d1, d2, d3⟩ := putN_ok p.kn p.km a b
  have sa := p.sa.take wf k.hc k.ha fun c z => by rw [hr] at z; cases z
  rw [← eq] at sa
  refine ⟨⟨sa, by rw [List.length_set]; exact p.ql, by rw [List.length_set]; exact p.fl, fun d hd => ?_, d1, d2, by have := p.kl; omega, by rw [eq]; exact p.rf.take wf k.ha hr p.sa, by have := p.rn; omega, p.wr, by have := p.wl; omega, fun d hd hw => ?_⟩, ?_⟩
  · by_cases e : d = b
    · subst e
      rw [kf_eq (by rw [p.fl]; exact k.hb), p.fv d hd, c1]
      omega
    · rw [kf_ne e, p.fv d hd, c2 d e (by rw [hr]; exact fun z => nomatch z)]
  · have e : d ≠ b := fun z => hw (by rw [z]; simp)
    rw [kf_ne e, c2 d e (by rw [hr]; exact fun z => nomatch z)]
    exact p.dn d hd hw
  · have h6 := tot_le (n := B.m) fun b _ => sa.ql b
    unfold SMu
    omega
/-- the pupil leaves c for b -/
theorem SM.take2 (wf : Wf B) (p : SM B r qs fs kv rl (ws ++ [b])) (k : Ask B r qs fs a b) (hr : r a = some c) (hc : c < B.m) (hbc : (B.W a).idxOf b ≤ (B.W a).idxOf c) :
    SM B (up r a (some b)) (qs.set b (kf qs b + 1)) ((fs.set b (kf fs b - 1)).set c (kf (fs.set b (kf fs b - 1)) c + 1)) (putN kv a b) (rl ++ [(a, c)]) ((ws ++ [c]) ++ [b]) ∧ SMu B (qs.set b (kf qs b + 1)) ((ws ++ [c]) ++ [b]) < SMu B qs (ws ++ [b]) := by
  have eq := kf_q p k.hb
  have tq := p.tq k.hb
  have ncb := p.ne wf k hr
  obtain ⟨c1, c2, c3⟩ := cnt_swap wf p k
  obtain ⟨d1, d2, d3⟩ := putN_ok p.kn p.km a b
  have lt : (B.W a).idxOf b < (B.W a).idxOf c := by
    rcases Nat.lt_or_eq_of_le hbc with z | z
    · exact z
    · exact absurd (idx_inj k.hw ((wf.sd a c).mpr (p.sa.mem hr)) z).symm ncb
  have sa := p.sa.take wf k.hc k.ha fun d z => by rw [hr] at z; cases z; exact lt
  rw [← eq] at sa
  refine ⟨⟨sa, by rw [List.length_set]; exact p.ql, by rw [List.length_set, List.length_set]; exact p.fl, fun d hd => ?_, d1, d2, by have := p.kl; omega, by rw [eq]; exact p.rf.swap wf k.ha hr ncb p.sa, by rw [List.length_append]; have := p.rn; simp only [List.length_singleton]; omega, fun x hx => ?_, ?_, fun d hd hw => ?_⟩, ?_⟩
  · by_cases e : d = c
    · subst e
      rw [kf_eq (by rw [List.length_set, p.fl]; exact hd), kf_ne ncb, p.fv d hd]
      have := c3 d hr
      have := p.sa.le d
      omega
    · rw [kf_ne e]
      by_cases e2 : d = b
      · subst e2
        rw [kf_eq (by rw [p.fl]; exact k.hb), p.fv d hd, c1]
        omega
      · rw [kf_ne e2, p.fv d hd, c2 d e2 (by rw [hr]; exact fun z => e (Option.some.inj z).symm)]
  · simp only [List.mem_append, List.mem_singleton] at hx
    rcases hx with (hx | hx) | hx
    · exact p.wr x (by simp [hx])
    · rw [hx]; exact hc
    · rw [hx]; exact k.hb
  · have := p.wl
    rw [List.length_append] at this ⊢
    rw [List.length_append]
    simp only [List.length_singleton] at this ⊢
    omega
  · simp only [List.mem_append, List.mem_singleton, not_or] at hw
    rw [kf_ne hw.2, c2 d hw.2 (by rw [hr]; exact fun z => hw.1.2 (Option.some.inj z).symm)]
    exact p.dn d hd (by simp [hw.1.1, hw.2])
  · have h6 := tot_le (n := B.m) fun b _ => sa.ql b
    unfold SMu
    rw [List.length_append, List.length_append, List.length_append]
    simp only [List.length_singleton]
    omega
/-- the pupil stays with c -/
theorem SM.stay (wf : Wf B) (p : SM B r qs fs kv rl (ws ++ [b])) (k : Ask B r qs fs a b) (hr : r a = some c) (hbc : (B.W a).idxOf c ≤ (B.W a).idxOf b) :
    SM B r (qs.set b (kf qs b + 1)) ((fs.set b (kf fs b - 1)).set b (kf (fs.set b (kf fs b - 1)) b + 1)) (putN kv a c) (rl ++ [(a, b)]) ((ws ++ [b]) ++ [b]) ∧ SMu B (qs.set b (kf qs b + 1)) ((ws ++ [b]) ++ [b]) < SMu B qs (ws ++ [b]) := by
  have eq := kf_q p k.hb
  have tq := p.tq k.hb
  obtain ⟨d1, d2, d3⟩ := putN_ok p.kn p.km a c
  have er : up r a (some c) = r := by
    funext x
    by_cases e : x = a
    · rw [e, up_same, hr]
    · rw [up_ne e]
  rw [er] at d2
  obtain ⟨sa, ncb⟩ := p.sa.refuse wf k.hc k.ha hr hbc
  rw [← eq] at sa
  refine ⟨⟨sa, by rw [List.length_set]; exact p.ql, by rw [List.length_set, List.length_set]; exact p.fl, fun d hd => ?_, d1, d2, by have := p.kl; omega, by rw [eq]; exact p.rf.refuse wf k.ha hr ncb, by rw [List.length_append]; have := p.rn; simp only [List.length_singleton]; omega, fun x hx => ?_, ?_, fun d hd hw => ?_⟩, ?_⟩
  · by_cases e : d = b
    · subst e
      rw [kf_eq (by rw [List.length_set, p.fl]; exact hd), kf_eq (by rw [p.fl]; exact hd), p.fv d hd]
      have := k.hc
      omega
    · rw [kf_ne e, kf_ne e]
      exact p.fv d hd
  · simp only [List.mem_append, List.mem_singleton] at hx
    rcases hx with (hx | hx) | hx
    · exact p.wr x (by simp [hx])
    · rw [hx]; exact k.hb
    · rw [hx]; exact k.hb
  · have := p.wl
    rw [List.length_append] at this ⊢
    rw [List.length_append]
    simp only [List.length_singleton] at this ⊢
    omega
  · simp only [List.mem_append, List.mem_singleton, not_or] at hw
    rw [kf_ne hw.2]
    exact p.dn d hd (by simp [hw.1.1, hw.2])
  · have h6 := tot_le (n := B.m) fun b _ => sa.ql b
    unfold SMu
    rw [List.length_append, List.length_append]
    simp only [List.length_singleton]
    omega
end
end Z
namespace Z
open PySem PySem.Spec PyProof.Rows L2 Ma
theorem sortIt_out {K : PySem.W.Frag} {H : Hp} {ts : List Addr} {ys : List (Int × Int)} {kv : List (Nat × Nat)} (hl : ts.length = ys.length) (hat : ∀ (i : Nat) (t : Addr) (p : Int × Int), ts[i]? = some t → ys[i]? = some p → H t = some (.tup [.int p.1, .int p.2])) (pm : ys.Perm (kv.map cp)) (sr : ys.Pairwise fun p q => SrtO.lexB q p = false) (hn : kv.Nodup) : ∃ ps, LsP K H ts ps ∧ Asc ps ∧ ps.Perm kv := by
  have e : ys = (ys.map np).map cp := by
    rw [List.map_map]
    conv => lhs; rw [← List.map_id ys]
    apply List.map_congr_left
    intro y hy
    obtain ⟨p, _, rfl⟩ := List.mem_map.mp (pm.mem_iff.mp hy)
    show cp p = cp (np (cp p))
    rw [np_cp]
  have p1 : (ys.map np).Perm kv := by
    have := pm.map np
    rw [List.map_map, show (np ∘ cp) = id from funext np_cp, List.map_id] at this
    exact this
  refine ⟨ys.map np, ⟨by rw [List.length_map]; exact hl, fun i t p h1 h2 => ?_⟩, asc_of ?_ (hn.perm p1.symm), p1⟩
  · have h3 : ys[i]? = some (cp p) := by
      rw [e, List.getElem?_map, h2]
      rfl
    exact hat i t _ h1 h3
  · rw [e, List.pairwise_map] at sr
    refine sr.imp fun {x y} h z => ?_
    rw [lexB_cp.mpr z] at h
    cases h
theorem cutIf {t : TT} {ta tb : TE} {σ : L2.St} {H : Hp} {Q : VK} (C : V → Hp → Prop) (h : ∀ v H, C v H → Q v H) (g : ∀ Q' : VK, (∀ v H, C v H → Q' v H) → tIf t ta tb σ H Q') : tIf t ta tb σ H Q := g Q h
theorem En.drop {T : Tb} {L : List Addr} {H0 H : Hp} {cs : List (Addr × HO)} {c : Addr × HO} (x : En T L H0 H (cs ++ [c])) : En T L H0 H cs :=
  ⟨by have := x.nd; rw [List.map_append] at this; exact (List.nodup_append.mp this).1, fun d hd => x.fr d (by simp [hd]), fun d hd => x.at_ d (by simp [hd]), fun d hd => x.mu d (by simp [hd]), x.st⟩
theorem LsP.put {K : PySem.W.Frag} {H : Hp} {ts : List Addr} {rl : List (Nat × Nat)} {p : Addr} {o u : HO} (h : LsP K H ts rl) (e : H p = some o) (m : Mu o) (mu : Mu u) : LsP K (upd H p u) ts rl := h.st (St.put (T := []) (L := [p]) e m mu (by simp))
theorem kvE (kv : List (Nat × Nat)) : kv.map dKp = (kv.map cp).map fun p => (Sum.inl p.1, V.int p.2) := by
  rw [List.map_map]
  rfl
/-- the cells of schools that ask -/
abbrev sCs (f pl fr rf wt : Addr) (qs fs : List Nat) (kv : List (Nat × Nat)) (ts : List Addr) (ws : List Nat) : List (Addr × HO) :=
  [(f, .lst (qs.map nV)), (pl, .dK (kv.map dKp)), (fr, .lst (fs.map nV)), (rf, .lst (ts.map V.ref)), (wt, .lst (ws.map nV))]
def SLoop (K : PySem.W.Frag) (T : Tb) (B : Bo) (H0 : Hp) (a wa ra sa f pl fr rf wt : Addr) (m : Nat) (σ : L2.St) (H' : Hp) : Prop :=
  ∃ qs fs kv ts rl ws r y10 y11 y12 y13, σ = [some (.ref a), some (.ref wa), some (.ref ra), some (.ref sa), some (.ref f), none, some (.ref pl), some (.ref fr), some (.ref rf), some (.ref wt), y10, y11, y12, y13] ∧
    En T [] H0 H' (sCs f pl fr rf wt qs fs kv ts ws) ∧ LsP K H' ts rl ∧ SM (bk B) r qs fs kv rl ws ∧ m = SMu (bk B) qs ws
section
variable {P : Program} {w : World} {K : PySem.W.Frag} {mg : Str → Option Value} {base : Heap} {T : Tb}
def spSAsk (K : PySem.W.Frag) (T : Tb) : Sp := fun vs H Q _ => ∃ (v : V) (B : Bo), vs = [v] ∧ BkR K H v B ∧ Gd B ∧ LamX.Tabs T H ∧ ∀ (t : Addr) (x y : V) (H' : Hp) (r : Ma.Row) (ps rs : List (Nat × Nat)), Worst (bk B) r → St T [] H H' →
  SqT K H' t [x, y] → PrT K H' x ps → IsDeal r ps → PrT K H' y rs → IsPassBy (bk B) r rs → Q (.ref t) H'
theorem ok_sask {f fL : Addr} {fd fdL : FuncData} {k : Nat} (F : Fun K "_schools_ask" "_schools_ask" s_schools_ask f fd) (B : Bt mg) (G_first : FnOk P w K mg base CX0 k fL fdL ["wish", "schools"] (spFirst T)) (g_first : mg "_best_of" = some (.ref fL)) (kp_first : PySem.W.keepIn K (.ref fL) = true) (b_first : Binds K fdL ["wish", "schools"] []) :
    FnOk P w K mg base CX0 (k + 1) f fd ["book"] (spSAsk K T) := by
  refine F.ok sc_schools_ask (fun vs H Q E h => ?_) (fun cdv A outer s H vs Q E hr h => ?_)
  · obtain ⟨v, B, rfl, _⟩ := h
    rfl
  · obtain ⟨v, Bk, rfl, hB, gd, hT, q⟩ := h
    refine ⟨_, (pss_cons (ps_asg (pv 0) (pg_tup (by rfl) (pgs_cons (pg_name (i := 1) sc_schools_ask.nd rfl (Or.inl rfl)) (pgs_cons (pg_name (i := 2) sc_schools_ask.nd rfl (Or.inl rfl)) (pgs_cons (pg_name (i := 3) sc_schools_ask.nd rfl (Or.inl rfl)) pgs_nil)))))
      (pss_cons (ps_setLc (i := 4) (own := [("_", 5)]) (tt := tYes) (by rfl) sc_schools_ask.nd rfl rfl (sw_true rfl rfl rfl (by decide +kernel)) (kpi_tup K (pv 2)) (blkOk_by (own := [("_", 5)]) (N := n_schools_ask) (sc := defScope s_schools_ask) (by decide +kernel)) (fun _ _ _ _ _ => (pg_name (i := 5) sc_schools_ask.nd rfl (Or.inl rfl))) (fun _ _ _ _ _ => pts_nil) (fun _ _ _ _ _ => pe_int))
      (pss_cons (ps_set (i := 6) sc_schools_ask.nd rfl (Or.inl rfl) pe_dnewK)
      (pss_cons (ps_set (i := 7) sc_schools_ask.nd rfl (Or.inl rfl) (pe_callTy (klist_of K) (by rfl) B.list (by decide +kernel) (pa_cons (pv 3) pa_nil)))
      (pss_cons (ps_set (i := 8) sc_schools_ask.nd rfl (Or.inl rfl) (pe_lst pa_nil))
      (pss_cons (ps_set (i := 9) sc_schools_ask.nd rfl (Or.inl rfl) (pe_listRg (by rfl) (by rfl) B.list (prg_1 (by rfl) B.range (pe_callB (klen K) (by rfl) B.len (by decide +kernel) (pa_cons (pv 2) pa_nil)))))
      (pss_cons (ps_while PassesOwn.never (ktruth K (pv 9) (by intro _; rfl))
        (pss_cons (ps_set (i := 10) sc_schools_ask.nd rfl (Or.inl rfl) (kbm0 K PySem.F.plainAttrs_list PySem.F.slot_list_pop PySem.F.type_list_pop mt_pop (pv 9)))
        (pss_one (ps_if (PW.pt (pw_and (pt_cmpR op_gt (pe_ix (kix_list K) (pv 7) (pv 10) (fun _ _ => rfl)) pe_int (nomark _)) (pw_and1 (pt_cmpR op_lt (pe_ix (kix_list K) (pv 4) (pv 10) (fun _ _ => rfl)) (pe_callB (klen K) (by rfl) B.len (by decide +kernel) (pa_cons (pe_ix (kix_tup K) (pv 2) (pv 10) (fun _ _ => rfl)) pa_nil)) (nomark _)))))
          (pss_cons (ps_set (i := 11) sc_schools_ask.nd rfl (Or.inl rfl) (pe_ix (kix_tup K) (pe_ix (kix_tup K) (pv 2) (pv 10) (fun _ _ => rfl)) (pe_ix (kix_list K) (pv 4) (pv 10) (fun _ _ => rfl)) (fun _ _ => rfl)))
          (pss_cons (ps_augS (pv 4) (pv 10) get_list pe_int ip_add set_list)
          (pss_cons (ps_augS (pv 7) (pv 10) get_list pe_int ip_sub set_list)
          (pss_cons (ps_set (i := 12) sc_schools_ask.nd rfl (Or.inl rfl) (pe_ifExp (pt_cmp (pc_din (hu_of hr) (pv 11) (pv 6))) (pe_lst (pa_cons (pv 10) (pa_cons (pe_dget (hu_of hr) (pv 6) (pv 11) (fun _ _ => rfl)) pa_nil))) (pe_lst (pa_cons (pv 10) pa_nil))))
          (pss_cons (ps_dput (hu_of hr) (pv 6) (pv 11) (pe_call G_first hr (by rfl) g_first kp_first b_first .nil pass0 (pa_cons (pe_ix (kix_tup K) (pv 1) (pv 11) (fun _ _ => rfl)) (pa_cons (pv 12) pa_nil))) rfl)
          (pss_cons (ps_for PassesOwn.never rfl (kpi_list K (pv 12)) (pg_name (i := 13) sc_schools_ask.nd rfl (Or.inl rfl))
            (pss_one (ps_if (pt_cmpR op_ne (pv 13) (pe_dget (hu_of hr) (pv 6) (pv 11) (fun _ _ => rfl)) (nomark _))
              (pss_cons (ps_expr (kbm K PySem.F.plainAttrs_list PySem.F.slot_list_append PySem.F.type_list_append mt_append (pv 8) (pa_cons (pe_tup (pa_cons (pv 11) (pa_cons (pv 13) pa_nil))) pa_nil)))
              (pss_cons (ps_augS (pv 7) (pv 13) get_list pe_int ip_add set_list)
              (pss_one (ps_expr (kbm K PySem.F.plainAttrs_list PySem.F.slot_list_append PySem.F.type_list_append mt_append (pv 9) (pa_cons (pv 13) pa_nil))))))
              pss_nil)))
          (pss_one (ps_expr (kbm K PySem.F.plainAttrs_list PySem.F.slot_list_append PySem.F.type_list_append mt_append (pv 9) (pa_cons (pv 10) pa_nil))))))))))
          pss_nil))))
      (pss_one (ps_ret (pe_tup (pa_cons (pe_callTy call_tuple_of (by rfl) B.tuple (by decide +kernel) (pa_cons (pe_sortIt hr.hd (by rfl) B.sorted (pv 6)) pa_nil)) (pa_cons (pe_callTy call_tuple_of (by rfl) B.tuple (by decide +kernel) (pa_cons (pe_callB cr_sortedPO (by rfl) B.sorted (by decide +kernel) (pa_cons (pv 8) pa_nil)) pa_nil)) pa_nil)))))))))))), ?_⟩
    obtain ⟨a, wa, ra, sa, wv, rv, rfl, h1, h2, h3, h4, h5, h6⟩ := hB
    refine ⟨.ref a, rfl, a, [.ref wa, .ref ra, .ref sa], rfl, h1, rfl, .ref wa, _, rfl, .ref ra, _, rfl, .ref sa, _, rfl, rfl, ?_⟩
    have wfB := gd.wf
    have lw : wv.length = Bk.W.length := h3.1
    have lr : rv.length = Bk.R.length := h5.1
    have hnl := gd.nl
    have hml := gd.ml
    have hsl := gd.sl
    -- asked
    refine ⟨.ref ra, rfl, ra, rfl, ⟨rv, h4⟩, fun f hf => lc_tup (K := K) (a := ra) (xs := rv) (fun i H' => H' = upd H f (.lst (List.replicate i (nV 0)))) rfl (fun i H' _ e => by rw [e]; exact (St.new (T := T) (L := []) hf).sqT h4)
      (fun i x H' hx e => by
        subst e
        exact ⟨rfl, yes ⟨_, upd_same, by rw [List.length_replicate]; exact small' (by have := (List.getElem?_eq_some_iff.mp hx).1; omega), by rw [upd_upd, List.replicate_succ']; rfl⟩⟩) (fun H1 e => ?_)⟩
    subst e
    have n0 : List.replicate rv.length (nV 0) = (List.replicate rv.length 0).map nV := by simp
    rw [n0]
    have c1 := (En.nil (T := T) (L := []) H).new hf (Mu.l (xs := (List.replicate rv.length 0).map nV))
    generalize upd H f (.lst ((List.replicate rv.length 0).map nV)) = H1 at c1 ⊢
    -- places
    refine fun pl hpl => ?_
    have c2 := c1.new hpl (Mu.d (kvs := []))
    generalize upd H1 pl (.dK []) = H2 at c2 ⊢
    -- free
    refine ⟨_, rfl, sa, _, rfl, .inr (c2.st.sqT h6), fun fr hfr => ?_⟩
    have c3 := c2.new hfr (Mu.l (xs := Bk.S.map nV))
    generalize upd H2 fr (.lst (Bk.S.map nV)) = H3 at c3 ⊢
    -- refused
    refine ⟨Nat.zero_le _, fun rf hrf => ?_⟩
    have c4 := c3.new hrf (Mu.l (xs := []))
    generalize upd H3 rf (.lst []) = H4 at c4 ⊢
    -- waiting
    refine ⟨.ref ra, rfl, ra, rv, rfl, .inr (c4.st.sqT h4), _, rfl, .of_le (by decide) (by omega) (by decide) (by omega), fun wt hwt => ?_⟩
    have er : rgV 0 (rv.length : Int) = (List.range rv.length).map nV := by
      unfold rgV
      rw [Int.sub_zero, Int.toNat_natCast]
      exact List.map_congr_left fun i _ => by rw [Int.zero_add]
    rw [er]
    have c5 : En T [] H _ (sCs f pl fr rf wt (List.replicate rv.length 0) Bk.S [] [] (List.range rv.length)) := c4.new hwt (Mu.l (xs := (List.range rv.length).map nV))
    clear c1 c2 c3 c4
    generalize upd H4 wt (.lst ((List.range rv.length).map nV)) = H5 at c5 ⊢
    have k0 : kf (List.replicate rv.length 0) = fun _ => 0 := by
      funext b
      unfold kf
      rw [List.getD_eq_getElem?_getD, List.getElem?_replicate]
      split <;> rfl
    have cz : ∀ b, Ma.cnt (bk Bk) (fun _ => none) b = 0 := fun b => by
      unfold Ma.cnt
      exact List.countP_eq_zero.mpr fun _ _ => by simp
    have m0 : SM (bk Bk) (fun _ => none) (List.replicate rv.length 0) Bk.S [] [] (List.range rv.length) := by
      refine ⟨by rw [k0]; exact .start wfB, by rw [List.length_replicate]; exact lr, hsl, fun b hb => ?_, List.nodup_nil, fun a b => by simp, by rw [k0, tot_zero]; exact Nat.le_refl _, by rw [k0]; exact .start, by rw [k0, tot_zero]; exact Nat.le_refl _,
        fun b hb => by have := List.mem_range.mp hb; rw [lr] at this; exact this, by rw [List.length_range, lr]; exact Nat.le_add_right _ _, fun b hb hw => absurd (List.mem_range.mpr (by rw [lr]; exact hb)) hw⟩
      rw [cz]
      have hS := bkS (B := Bk) (b := b) (by rw [hsl]; exact hb)
      have hS2 := kf_at (ks := Bk.S) (a := b) (by rw [hsl]; exact hb)
      rw [hS] at hS2
      rw [← Option.some.inj hS2]
      rfl
    clear k0 cz
    refine ⟨SLoop K T Bk H a wa ra sa f pl fr rf wt, ⟨_, _, _, _, [], _, _, _, none, none, none, none, rfl, c5, LsP.nil, m0, rfl⟩, fun m σ H' hW => ?_⟩
    obtain ⟨qs, fs, kv, ts, rl, ws, r, y10, y11, y12, y13, rfl, p, tt, sm, rfl⟩ := hW
    clear c5 m0
    have tlen : tot (bk Bk).m (fun b => ((bk Bk).R b).length) ≤ 144 := Nat.le_trans (tot_le (g := fun _ => 12) fun b hb => Nat.le_trans (nodup_lt_len (n := Bk.W.length) (wfB.rn b) fun y hy => (gd.ltW ((wfB.sd y b).mpr hy)).1) hnl) (by
      show tot Bk.R.length (fun _ => 12) ≤ 144
      unfold tot
      rw [List.map_const', List.length_range, List.sum_replicate_nat]
      omega)
    have tq := sm.tl
    rcases List.eq_nil_or_concat ws with rfl | ⟨ws', b, rfl⟩
    · -- the end
      refine ⟨_, rfl, false, .inl ⟨_, .of (p.get (i := 4) rfl), rfl⟩, iteF ?_⟩
      have dn : ∀ b, ((bk Bk).R b).length ≤ kf qs b ∨ (bk Bk).S b ≤ Ma.cnt (bk Bk) r b := fun b => by
        rcases Nat.lt_or_ge b (bk Bk).m with z | z
        · exact sm.dn b z (by simp)
        · rw [wfB.rl b z]
          exact .inl (Nat.zero_le _)
      refine ⟨_, rfl, pl, kv.map cp, rfl, (by rw [← kvE]; exact p.get (i := 1) rfl), fun l H2 ts2 ys ext hl hl2 hlen hat pm sr => ?_⟩
      obtain ⟨ps3, l1, l2, l3⟩ := sortIt_out (K := K) hlen hat pm sr ((List.pairwise_map.mp sm.kn).imp fun h e => h (by rw [e]))
      have y1 : St T [] H H2 := p.st.trans (.ex ext)
      refine ⟨l, _, rfl, .inl ⟨.of hl2, fun td htd => ?_⟩⟩
      have y2 : St T [] H2 (upd H2 td (.tup (ts2.map V.ref))) := .new htd
      have hrf : (upd H2 td (.tup (ts2.map V.ref))) rf = some (.lst (ts.map V.ref)) := y2.lst (ext _ _ (p.get (i := 3) rfl)) (by simp)
      have hts := (tt.st (T := T) (L := []) (.ex ext)).st y2
      have htd' : (upd H2 td (.tup (ts2.map V.ref))) td = some (.tup (ts2.map V.ref)) := upd_same
      have l1' := l1.st y2
      have y4 := y1.trans y2
      clear y1 y2 l1
      generalize upd H2 td (.tup (ts2.map V.ref)) = H3 at hrf hts htd' l1' y4 ⊢
      refine ⟨_, rfl, rf, ts.map V.ref, kH H3, rfl, .of hrf, hts.pairs, fun ys d2 srt2 stb2 hd2 => ?_⟩
      obtain ⟨ts4, ps4, rfl, l4, l5, l6⟩ := sort_out hts sm.rf.nd srt2 stb2
      have z1 : St T [] H3 (upd H3 d2 (.lst (ts4.map V.ref))) := .new hd2
      refine ⟨d2, _, rfl, .inl ⟨.of upd_same, fun td2 htd2 => ?_⟩⟩
      have z2 : St T [] (upd H3 d2 (.lst (ts4.map V.ref))) (upd (upd H3 d2 (.lst (ts4.map V.ref))) td2 (.tup (ts4.map V.ref))) := .new htd2
      refine ⟨by show 2 ≤ sizeLine; decide, fun t ht => ?_⟩
      have z3 : St T [] (upd (upd H3 d2 (.lst (ts4.map V.ref))) td2 (.tup (ts4.map V.ref))) (upd (upd (upd H3 d2 (.lst (ts4.map V.ref))) td2 (.tup (ts4.map V.ref))) t (.tup [.ref td, .ref td2])) := .new ht
      refine q t (.ref td) (.ref td2) _ r ps3 ps4 (sm.sa.worst wfB dn) (y4.trans ((z1.trans z2).trans z3)) (.of upd_same) ⟨td, ts2, rfl, ((z1.trans z2).trans z3).sqT (.of htd'), l1'.st ((z1.trans z2).trans z3)⟩ ⟨l2, fun a b => ?_⟩ ⟨td2, ts4, rfl, z3.sqT (.of upd_same), l4.st ((z1.trans z2).trans z3)⟩ (sm.rf.passBy wfB sm.sa dn l5 l6)
      rw [l3.mem_iff]
      exact sm.km a b
    · rw [List.concat_eq_append] at p sm ⊢
      refine ⟨_, rfl, true, .inl ⟨_, .of (p.get (i := 4) rfl), by simp⟩, iteT ⟨fun σ' H' => ∃ m', m' < SMu (bk Bk) qs (ws' ++ [b]) ∧ SLoop K T Bk H a wa ra sa f pl fr rf wt m' σ' H', fun _ _ n => n, ?_⟩⟩
      have hb := sm.wr b (by simp)
      have hbm : b < Bk.R.length := hb
      have ed : ((ws' ++ [b]).map nV).dropLast = ws'.map nV := by simp
      -- school = waiting.pop()
      refine ⟨_, rfl, .inl ⟨rfl, _, .of (p.get (i := 4) rfl)⟩, wt, _, nV b, rfl, rfl, p.get (i := 4) rfl, by simp, ?_⟩
      rw [ed]
      have p1 : En T [] H _ (sCs f pl fr rf wt qs fs kv ts ws') := p.put (i := 4) rfl (Mu.l (xs := ws'.map nV))
      have tt1 := tt.st (St.put (T := T) (L := [wt]) (p.get (i := 4) rfl) Mu.l (Mu.l (xs := ws'.map nV)) (by simp))
      clear p tt
      generalize upd H' wt (.lst (ws'.map nV)) = H1 at p1 tt1 ⊢
      have hfs : (fs.map nV)[b]? = some (nV (kf fs b)) := by rw [List.getElem?_map, kf_at (by rw [sm.fl]; exact hb)]; rfl
      have hqs : (qs.map nV)[b]? = some (nV (kf qs b)) := by rw [List.getElem?_map, kf_at (by rw [sm.ql]; exact hb)]; rfl
      obtain ⟨pr, er, frr⟩ := h5.2 b _ (bkRl hbm)
      refine ⟨_, rfl, _, rfl, fr, _, (b : Int), nV (kf fs b), rfl, rfl, .of (p1.get (i := 2) rfl), atI_nat hfs, _, _, rfl, rfl, _, rfl, ite2 (fun e1 => ?_) (fun e1 => ?_)⟩
      · have e1 := of_decide_eq_true e1
        have e1 : 0 < kf fs b := by omega
        refine ⟨_, rfl, _, rfl, f, _, (b : Int), nV (kf qs b), rfl, rfl, .of (p1.get (i := 0) rfl), atI_nat hqs, _, rfl, _, rfl, ra, rv, (b : Int), .ref pr, rfl, rfl, p1.st.sqT h4, atI_nat er, pr, _, rfl, .inr (p1.st.ft frr).sq, _, _, rfl, rfl, _, rfl, ite2 (fun e2 => ?_) (fun e2 => ?_)⟩
        · have e2 := of_decide_eq_true e2
          rw [List.length_map] at e2
          have e2 : kf qs b < ((bk Bk).R b).length := by omega
          obtain ⟨c, hc⟩ : ∃ c, ((bk Bk).R b)[kf qs b]? = some c := ⟨_, List.getElem?_eq_getElem e2⟩
          have ask := sm.ask wfB e1 hc
          obtain ⟨hcn, _⟩ := gd.ltW ask.hw
          refine ⟨_, rfl, _, rfl, ra, rv, (b : Int), .ref pr, rfl, rfl, p1.st.sqT h4, atI_nat er, _, rfl, _, rfl, f, _, (b : Int), nV (kf qs b), rfl, rfl, .of (p1.get (i := 0) rfl), atI_nat hqs, pr, _, (kf qs b : Int), nV c, rfl, rfl, (p1.st.ft frr).sq, atI_nat (by rw [List.getElem?_map, hc]; rfl), ?_⟩
          -- asked[school] += 1
          refine ⟨_, rfl, _, rfl, f, _, b, nV (kf qs b), rfl, rfl, by omega, p1.get (i := 0) rfl, hqs, (kf qs b : Int), 1, rfl, rfl, f, _, (b : Int), b, rfl, rfl, p1.get (i := 0) rfl, Evl.ixN_nat (by rw [List.length_map, sm.ql]; exact hb), ?_⟩
          rw [show (qs.map nV).set b (V.int ((kf qs b : Int) + 1)) = (qs.set b (kf qs b + 1)).map nV by rw [List.map_set]; rfl]
          have p2 : En T [] H _ (sCs f pl fr rf wt (qs.set b (kf qs b + 1)) fs kv ts ws') := p1.put (i := 0) rfl (Mu.l (xs := (qs.set b (kf qs b + 1)).map nV))
          have tt2 := tt1.put (p1.get (i := 0) rfl) Mu.l (Mu.l (xs := (qs.set b (kf qs b + 1)).map nV))
          clear p1 tt1
          generalize upd H1 f (.lst ((qs.set b (kf qs b + 1)).map nV)) = H2 at p2 tt2 ⊢
          -- free[school] -= 1
          refine ⟨_, rfl, _, rfl, fr, _, b, nV (kf fs b), rfl, rfl, by omega, p2.get (i := 2) rfl, hfs, (kf fs b : Int), 1, rfl, rfl, fr, _, (b : Int), b, rfl, rfl, p2.get (i := 2) rfl, Evl.ixN_nat (by rw [List.length_map, sm.fl]; exact hb), ?_⟩
          rw [show (fs.map nV).set b (V.int ((kf fs b : Int) - 1)) = (fs.set b (kf fs b - 1)).map nV by rw [List.map_set]; congr 2; omega]
          have p3 : En T [] H _ (sCs f pl fr rf wt (qs.set b (kf qs b + 1)) (fs.set b (kf fs b - 1)) kv ts ws') := p2.put (i := 2) rfl (Mu.l (xs := (fs.set b (kf fs b - 1)).map nV))
          have tt3 := tt2.put (p2.get (i := 2) rfl) Mu.l (Mu.l (xs := (fs.set b (kf fs b - 1)).map nV))
          clear p2 tt2
          generalize upd H2 fr (.lst ((fs.set b (kf fs b - 1)).map nV)) = H3 at p3 tt3 ⊢
          dsimp only [tSeq, tAsg]
          refine cutIf (fun v H4 => ∃ (of : Addr) (offs : List Nat), v = .ref of ∧ En T [] H H4 (sCs f pl fr rf wt (qs.set b (kf qs b + 1)) (fs.set b (kf fs b - 1)) kv ts ws' ++ [(of, .lst (offs.map nV))]) ∧ LsP K H4 ts rl ∧ ((r c = none ∧ offs = [b]) ∨ ∃ d, r c = some d ∧ offs = [b, d])) (fun v H4 hC => ?_) (fun Q' hQ => ?_)
          · obtain ⟨of, offs, rfl, p4, tt4, hoff⟩ := hC
            obtain ⟨px, ex, fx⟩ := h3.2 c _ (bkW hcn)
            have hdm : ∀ d, r c = some d → d ∈ (bk Bk).W c ∧ d < Bk.R.length := fun d hd => by
              have h1 := (wfB.sd c d).mpr (sm.sa.mem hd)
              exact ⟨h1, (gd.ltW h1).2⟩
            have ho : ∀ o ∈ offs, o ∈ (bk Bk).W c ∧ o < Bk.R.length := fun o ho => by
              rcases hoff with ⟨_, rfl⟩ | ⟨d, hd, rfl⟩
              · rw [List.mem_singleton.mp ho]
                exact ⟨ask.hw, hbm⟩
              · simp only [List.mem_cons, List.not_mem_nil, or_false] at ho
                rcases ho with rfl | rfl
                · exact ⟨ask.hw, hbm⟩
                · exact hdm _ hd
            have hol : offs.length ≤ 2 ∧ offs ≠ [] := by
              rcases hoff with ⟨_, rfl⟩ | ⟨d, hd, rfl⟩ <;> simp
            have hkl := sm.kl
            have hrn := sm.rn
            have hwl := sm.wl
            have hmm : (bk Bk).m = Bk.R.length := rfl
            refine ⟨_, rfl, _, rfl, wa, wv, (c : Int), .ref px, rfl, rfl, p4.st.sqT h2, atI_nat ex, _, rfl, px, of, offs, (bk Bk).W c, rfl, p4.st.ft fx, p4.get (i := 5) rfl, hol.2, fun o h => (ho o h).1, p4.st.b hT, fun n H5 hn hmin st => ?_⟩
            have p5 := p4.step st
            have tt5 := tt4.st st
            clear p4 tt4 st
            obtain ⟨d1, d2, d3⟩ := putN_ok sm.kn sm.km c n
            refine ⟨_, rfl, _, rfl, pl, _, rfl, .inl ⟨_, .inl (ci c), p5.get (i := 1) rfl, rfl, by rw [List.length_map]; exact small' (by omega), rfl⟩, ?_⟩
            rw [put_dK]
            have p6 : En T [] H _ (sCs f pl fr rf wt (qs.set b (kf qs b + 1)) (fs.set b (kf fs b - 1)) (putN kv c n) ts ws' ++ [(of, .lst (offs.map nV))]) := p5.put (i := 1) rfl (Mu.d (kvs := (putN kv c n).map dKp))
            have tt6 := tt5.put (p5.get (i := 1) rfl) Mu.d (Mu.d (kvs := (putN kv c n).map dKp))
            clear p5 tt5
            generalize upd H5 pl (.dK ((putN kv c n).map dKp)) = H6 at p6 tt6 ⊢
            refine ⟨_, rfl, of, rfl, ⟨_, .of (p6.get (i := 5) rfl)⟩, for_list (xs := offs.map nV) (fun i σ H7 => ∃ ts' os fs' z13, σ = [some (.ref a), some (.ref wa), some (.ref ra), some (.ref sa), some (.ref f), none, some (.ref pl), some (.ref fr), some (.ref rf), some (.ref wt), some (nV b), some (nV c), some (.ref of), z13] ∧ os = (offs.take i).filter (fun o => decide (o ≠ n)) ∧ fs' = os.foldl (fun l o => l.set o (kf l o + 1)) (fs.set b (kf fs b - 1)) ∧ fs'.length = Bk.R.length ∧
              En T [] H H7 (sCs f pl fr rf wt (qs.set b (kf qs b + 1)) fs' (putN kv c n) ts' (ws' ++ os) ++ [(of, .lst (offs.map nV))]) ∧ LsP K H7 ts' (rl ++ os.map fun o => (c, o))) ?_ ?_ ?_ ?_⟩
            · exact ⟨ts, [], _, _, rfl, by simp, rfl, by show (fs.set b (kf fs b - 1)).length = _; rw [List.length_set]; exact sm.fl, by rw [List.append_nil]; exact p6, by rw [List.map_nil, List.append_nil]; exact tt6⟩
            · rintro i σ H7 _ ⟨ts', os, fs', z, _, _, _, _, p7, _⟩
              exact .of (p7.get (i := 5) rfl)
            · rintro i x σ H7 hx ⟨ts', os, fs', z, rfl, eos, efs, hfl, p7, tt7⟩
              rw [List.getElem?_map] at hx
              cases hoi : offs[i]? with
              | none => rw [hoi] at hx; cases hx
              | some o =>
                rw [hoi] at hx
                cases Option.some.inj hx
                obtain ⟨o1, o2⟩ := ho o (List.mem_of_getElem? hoi)
                have etk : offs.take (i + 1) = offs.take i ++ [o] := by rw [List.take_add_one, hoi]; rfl
                have osl : os.length ≤ 2 := by
                  rw [eos]
                  refine Nat.le_trans (List.length_filter_le _ _) ?_
                  rw [List.length_take]
                  omega
                have vd := val_dK fun y => d2 c y
                rw [up_same] at vd
                refine ⟨_, rfl, _, rfl, _, rfl, pl, nV n, rfl, .inl ⟨_, .inl (ci c), .of (p7.get (i := 1) rfl), rfl, vd.symm⟩, rfl, _, rfl, ite2 (fun e => ?_) (fun e => ?_)⟩
                · have e : o ≠ n := fun z => by rw [z] at e; simp at e
                  refine ⟨_, rfl, .inl ⟨rfl, _, .of (p7.get (i := 3) rfl)⟩, _, rfl, _, rfl, by show 2 ≤ sizeLine; decide, fun t ht => ⟨rf, _, .ref t, rfl, rfl, (p7.step (.new ht)).get (i := 3) rfl, by
                    rw [List.length_map, tt7.1, List.length_append, List.length_map]
                    exact small' (by omega), ?_⟩⟩
                  have p8 := p7.step (.new (o := .tup [nV c, nV o]) ht)
                  have tt8 := tt7.st (.new (T := T) (L := []) (o := .tup [nV c, nV o]) ht)
                  rw [show ts'.map V.ref ++ [V.ref t] = (ts' ++ [t]).map V.ref by simp]
                  have p9 : En T [] H _ (sCs f pl fr rf wt (qs.set b (kf qs b + 1)) fs' (putN kv c n) (ts' ++ [t]) (ws' ++ os) ++ [(of, .lst (offs.map nV))]) := p8.put (i := 3) rfl (Mu.l (xs := (ts' ++ [t]).map V.ref))
                  have tt9 := (tt8.put (p8.get (i := 3) rfl) Mu.l (Mu.l (xs := (ts' ++ [t]).map V.ref))).snoc (p := (c, o)) (t := t) (p8.putT (K := K) (i := 3) rfl upd_same)
                  clear p7 p8 tt7 tt8
                  generalize upd (upd H7 t (.tup [nV c, nV o])) rf (.lst ((ts' ++ [t]).map V.ref)) = H9 at p9 tt9 ⊢
                  have hfo : (fs'.map nV)[o]? = some (nV (kf fs' o)) := by rw [List.getElem?_map, kf_at (by rw [hfl]; exact o2)]; rfl
                  refine ⟨_, rfl, _, rfl, fr, _, o, nV (kf fs' o), rfl, rfl, by omega, p9.get (i := 2) rfl, hfo, (kf fs' o : Int), 1, rfl, rfl, fr, _, (o : Int), o, rfl, rfl, p9.get (i := 2) rfl, Evl.ixN_nat (by rw [List.length_map, hfl]; exact o2), ?_⟩
                  rw [show (fs'.map nV).set o (V.int ((kf fs' o : Int) + 1)) = (fs'.set o (kf fs' o + 1)).map nV by rw [List.map_set]; rfl]
                  have p10 : En T [] H _ (sCs f pl fr rf wt (qs.set b (kf qs b + 1)) (fs'.set o (kf fs' o + 1)) (putN kv c n) (ts' ++ [t]) (ws' ++ os) ++ [(of, .lst (offs.map nV))]) := p9.put (i := 2) rfl (Mu.l (xs := (fs'.set o (kf fs' o + 1)).map nV))
                  have tt10 := tt9.put (p9.get (i := 2) rfl) Mu.l (Mu.l (xs := (fs'.set o (kf fs' o + 1)).map nV))
                  clear p9 tt9
                  generalize upd H9 fr (.lst ((fs'.set o (kf fs' o + 1)).map nV)) = H10 at p10 tt10 ⊢
                  refine ⟨_, rfl, .inl ⟨rfl, _, .of (p10.get (i := 4) rfl)⟩, _, rfl, wt, _, nV o, rfl, rfl, p10.get (i := 4) rfl, by
                    rw [List.length_map, List.length_append]
                    rw [List.length_append] at hwl
                    exact small' (by omega), ?_⟩
                  rw [show (ws' ++ os).map nV ++ [nV o] = (ws' ++ (os ++ [o])).map nV by simp]
                  have p11 : En T [] H _ (sCs f pl fr rf wt (qs.set b (kf qs b + 1)) (fs'.set o (kf fs' o + 1)) (putN kv c n) (ts' ++ [t]) (ws' ++ (os ++ [o])) ++ [(of, .lst (offs.map nV))]) := p10.put (i := 4) rfl (Mu.l (xs := (ws' ++ (os ++ [o])).map nV))
                  have tt11 := tt10.put (p10.get (i := 4) rfl) Mu.l (Mu.l (xs := (ws' ++ (os ++ [o])).map nV))
                  refine ⟨ts' ++ [t], os ++ [o], _, _, rfl, ?_, ?_, by rw [List.length_set]; exact hfl, p11, ?_⟩
                  · rw [etk, List.filter_append, eos]
                    simp [e]
                  · rw [List.foldl_append, ← efs]
                    rfl
                  · rw [show (os ++ [o]).map (fun o => (c, o)) = os.map (fun o => (c, o)) ++ [(c, o)] by simp, ← List.append_assoc rl]
                    exact tt11
                · have e : o = n := by
                    simp only [Bool.not_eq_true', decide_eq_false_iff_not, Decidable.not_not] at e
                    injection e with e
                    omega
                  exact ⟨ts', os, fs', _, rfl, by rw [etk, List.filter_append, ← eos]; simp [e], efs, hfl, p7, tt7⟩
            · rintro σ H7 ⟨ts', os, fs', z, rfl, eos, efs, hfl, p7, tt7⟩
              rw [List.length_map, List.take_length] at eos
              have osl : os.length ≤ 2 := by
                rw [eos]
                exact Nat.le_trans (List.length_filter_le _ _) hol.1
              refine ⟨_, rfl, .inl ⟨rfl, _, .of (p7.get (i := 4) rfl)⟩, _, rfl, wt, _, nV b, rfl, rfl, p7.get (i := 4) rfl, by
                rw [List.length_map, List.length_append]
                rw [List.length_append] at hwl
                exact small' (by omega), ?_⟩
              rw [show (ws' ++ os).map nV ++ [nV b] = (ws' ++ os ++ [b]).map nV by simp]
              have p8 : En T [] H _ (sCs f pl fr rf wt (qs.set b (kf qs b + 1)) fs' (putN kv c n) ts' (ws' ++ os ++ [b]) ++ [(of, .lst (offs.map nV))]) := p7.put (i := 4) rfl (Mu.l (xs := (ws' ++ os ++ [b]).map nV))
              have tt8 := tt7.put (p7.get (i := 4) rfl) Mu.l (Mu.l (xs := (ws' ++ os ++ [b]).map nV))
              have p9 := p8.drop
              clear p7 tt7 p8
              generalize upd H7 wt (.lst ((ws' ++ os ++ [b]).map nV)) = H8 at p9 tt8 ⊢
              rcases hoff with ⟨hr, rfl⟩ | ⟨d, hd, rfl⟩
              · obtain rfl := List.mem_singleton.mp hn
                obtain rfl : os = [] := by rw [eos]; simp
                subst efs
                obtain ⟨m1, m2⟩ := sm.take1 wfB ask hr
                rw [List.append_nil] at p9
                rw [List.map_nil, List.append_nil] at tt8
                exact ⟨_, m2, _, _, _, _, _, _, _, _, _, _, _, rfl, p9, tt8, m1, rfl⟩
              · have hne := sm.ne wfB ask hd
                simp only [List.mem_cons, List.not_mem_nil, or_false] at hn
                rcases hn with rfl | rfl
                · obtain rfl : os = [d] := by rw [eos]; simp [hne]
                  subst efs
                  obtain ⟨m1, m2⟩ := sm.take2 wfB ask hd (hdm d hd).2 (hmin d (by simp))
                  exact ⟨_, m2, _, _, _, _, _, _, _, _, _, _, _, rfl, p9, tt8, m1, rfl⟩
                · obtain rfl : os = [b] := by rw [eos]; simp [Ne.symm hne]
                  subst efs
                  obtain ⟨m1, m2⟩ := sm.stay wfB ask hd (hmin b (by simp))
                  exact ⟨_, m2, _, _, _, _, _, _, _, _, _, _, _, rfl, p9, tt8, m1, rfl⟩
          · have vd := val_dK fun y => sm.km c y
            cases hr : r c with
            | none =>
              rw [hr] at vd
              refine ⟨_, rfl, _, rfl, pl, none, rfl, .inl ⟨_, .inl (ci c), .of (p3.get (i := 1) rfl), rfl, vd.symm⟩, false, rfl, iteF ⟨_, rfl, by show 1 ≤ sizeLine; decide, fun of hof => hQ _ _ ⟨of, [b], rfl, p3.new hof Mu.l, tt3.st (.new (T := T) (L := []) hof), .inl ⟨hr, rfl⟩⟩⟩⟩
            | some d =>
              rw [hr] at vd
              refine ⟨_, rfl, _, rfl, pl, some (nV d), rfl, .inl ⟨_, .inl (ci c), .of (p3.get (i := 1) rfl), rfl, vd.symm⟩, true, rfl, iteT ⟨_, rfl, _, rfl, _, rfl, pl, nV d, rfl, .inl ⟨_, .inl (ci c), .of (p3.get (i := 1) rfl), rfl, vd.symm⟩, by show 2 ≤ sizeLine; decide, fun of hof => hQ _ _ ⟨of, [b, d], rfl, p3.new hof Mu.l, tt3.st (.new (T := T) (L := []) hof), .inr ⟨d, hr, rfl⟩⟩⟩⟩
        · have e2 := of_decide_eq_false (eq_false_of_ne_true e2)
          rw [List.length_map] at e2
          obtain ⟨m1, m2⟩ := sm.rest (b := b) (by omega)
          exact ⟨_, m2, qs, fs, kv, ts, rl, ws', r, _, _, _, _, rfl, p1, tt1, m1, rfl⟩
      · have e1 := of_decide_eq_false (eq_false_of_ne_true e1)
        obtain ⟨m1, m2⟩ := sm.rest (b := b) (by omega)
        exact ⟨_, m2, qs, fs, kv, ts, rl, ws', r, _, _, _, _, rfl, p1, tt1, m1, rfl⟩
end
end Z
namespace Z
open PySem PySem.Spec PyProof.Rows L2 Ma
section
variable {P : Program} {w : World} {K : PySem.W.Frag} {mg : Str → Option Value} {base : Heap} {T : Tb}
def spPDeal (K : PySem.W.Frag) (T : Tb) : Sp := fun vs H Q _ => ∃ (v : V) (B : Bo), vs = [v] ∧ BkR K H v B ∧ Gd B ∧ LamX.Tabs T H ∧ ∀ (x : V) (H' : Hp) (r : Ma.Row) (ps : List (Nat × Nat)), Best (bk B) r → St T [] H H' → PrT K H' x ps → IsDeal r ps → Q x H'
def spSDeal (K : PySem.W.Frag) (T : Tb) : Sp := fun vs H Q _ => ∃ (v : V) (B : Bo), vs = [v] ∧ BkR K H v B ∧ Gd B ∧ LamX.Tabs T H ∧ ∀ (x : V) (H' : Hp) (r : Ma.Row) (ps : List (Nat × Nat)), Worst (bk B) r → St T [] H H' → PrT K H' x ps → IsDeal r ps → Q x H'
def spPRef (K : PySem.W.Frag) (T : Tb) : Sp := fun vs H Q _ => ∃ (v : V) (B : Bo), vs = [v] ∧ BkR K H v B ∧ Gd B ∧ LamX.Tabs T H ∧ ∀ (x : V) (H' : Hp) (r : Ma.Row) (ps : List (Nat × Nat)), Best (bk B) r → St T [] H H' → PrT K H' x ps → IsPass (bk B) r ps → Q x H'
def spSRef (K : PySem.W.Frag) (T : Tb) : Sp := fun vs H Q _ => ∃ (v : V) (B : Bo), vs = [v] ∧ BkR K H v B ∧ Gd B ∧ LamX.Tabs T H ∧ ∀ (x : V) (H' : Hp) (r : Ma.Row) (ps : List (Nat × Nat)), Worst (bk B) r → St T [] H H' → PrT K H' x ps → IsPassBy (bk B) r ps → Q x H'
theorem ok_pupils_deal {f fL : Addr} {fd fdL : FuncData} {k : Nat} (F : Fun K "pupils_deal" "pupils_deal" s_pupils_deal f fd) (G_ask : FnOk P w K mg base CX0 k fL fdL ["book"] (spPAsk K T)) (g_ask : mg "_pupils_ask" = some (.ref fL)) (kp_ask : PySem.W.keepIn K (.ref fL) = true) (b_ask : Binds K fdL ["book"] []) :
    FnOk P w K mg base CX0 (k + 1) f fd ["book"] (spPDeal K T) := by
  refine F.ok sc_pupils_deal (fun vs H Q E h => ?_) (fun cdv A outer s H vs Q E hr h => ?_)
  · obtain ⟨v, B, rfl, _⟩ := h
    rfl
  · obtain ⟨v, Bk, rfl, hB, gd, hT, q⟩ := h
    refine ⟨_, (pss_cons (ps_asg (pe_call G_ask hr (by rfl) g_ask kp_ask b_ask .nil pass0 (pa_cons (pv 0) pa_nil)) (pg_tup (by rfl) (pgs_cons (pg_name (i := 1) sc_pupils_deal.nd rfl (Or.inl rfl)) (pgs_cons (pg_name (i := 2) sc_pupils_deal.nd rfl (Or.inl rfl)) pgs_nil))))
      (pss_one (ps_ret (pv 1)))), ?_⟩
    refine ⟨_, rfl, v, Bk, rfl, hB, gd, hT, fun t x y H' r ps rs hr hst ht hx hd hy hp => ⟨t, [x, y], rfl, ht, rfl, ?_⟩⟩
    exact ⟨x, _, rfl, y, _, rfl, rfl, _, rfl, q x H' r ps hr hst hx hd⟩
theorem ok_schools_deal {f fL : Addr} {fd fdL : FuncData} {k : Nat} (F : Fun K "schools_deal" "schools_deal" s_schools_deal f fd) (G_ask : FnOk P w K mg base CX0 k fL fdL ["book"] (spSAsk K T)) (g_ask : mg "_schools_ask" = some (.ref fL)) (kp_ask : PySem.W.keepIn K (.ref fL) = true) (b_ask : Binds K fdL ["book"] []) :
    FnOk P w K mg base CX0 (k + 1) f fd ["book"] (spSDeal K T) := by
  refine F.ok sc_schools_deal (fun vs H Q E h => ?_) (fun cdv A outer s H vs Q E hr h => ?_)
  · obtain ⟨v, B, rfl, _⟩ := h
    rfl
  · obtain ⟨v, Bk, rfl, hB, gd, hT, q⟩ := h
    refine ⟨_, (pss_cons (ps_asg (pe_call G_ask hr (by rfl) g_ask kp_ask b_ask .nil pass0 (pa_cons (pv 0) pa_nil)) (pg_tup (by rfl) (pgs_cons (pg_name (i := 1) sc_schools_deal.nd rfl (Or.inl rfl)) (pgs_cons (pg_name (i := 2) sc_schools_deal.nd rfl (Or.inl rfl)) pgs_nil))))
      (pss_one (ps_ret (pv 1)))), ?_⟩
    refine ⟨_, rfl, v, Bk, rfl, hB, gd, hT, fun t x y H' r ps rs hr hst ht hx hd hy hp => ⟨t, [x, y], rfl, ht, rfl, ?_⟩⟩
    exact ⟨x, _, rfl, y, _, rfl, rfl, _, rfl, q x H' r ps hr hst hx hd⟩
theorem ok_refused_asked {f fL : Addr} {fd fdL : FuncData} {k : Nat} (F : Fun K "refused_asked" "refused_asked" s_refused_asked f fd) (G_ask : FnOk P w K mg base CX0 k fL fdL ["book"] (spPAsk K T)) (g_ask : mg "_pupils_ask" = some (.ref fL)) (kp_ask : PySem.W.keepIn K (.ref fL) = true) (b_ask : Binds K fdL ["book"] []) :
    FnOk P w K mg base CX0 (k + 1) f fd ["book"] (spPRef K T) := by
  refine F.ok sc_refused_asked (fun vs H Q E h => ?_) (fun cdv A outer s H vs Q E hr h => ?_)
  · obtain ⟨v, B, rfl, _⟩ := h
    rfl
  · obtain ⟨v, Bk, rfl, hB, gd, hT, q⟩ := h
    refine ⟨_, (pss_cons (ps_asg (pe_call G_ask hr (by rfl) g_ask kp_ask b_ask .nil pass0 (pa_cons (pv 0) pa_nil)) (pg_tup (by rfl) (pgs_cons (pg_name (i := 1) sc_refused_asked.nd rfl (Or.inl rfl)) (pgs_cons (pg_name (i := 2) sc_refused_asked.nd rfl (Or.inl rfl)) pgs_nil))))
      (pss_one (ps_ret (pv 2)))), ?_⟩
    refine ⟨_, rfl, v, Bk, rfl, hB, gd, hT, fun t x y H' r ps rs hr hst ht hx hd hy hp => ⟨t, [x, y], rfl, ht, rfl, ?_⟩⟩
    exact ⟨x, _, rfl, y, _, rfl, rfl, _, rfl, q y H' r rs hr hst hy hp⟩
theorem ok_refused_asking {f fL : Addr} {fd fdL : FuncData} {k : Nat} (F : Fun K "refused_asking" "refused_asking" s_refused_asking f fd) (G_ask : FnOk P w K mg base CX0 k fL fdL ["book"] (spSAsk K T)) (g_ask : mg "_schools_ask" = some (.ref fL)) (kp_ask : PySem.W.keepIn K (.ref fL) = true) (b_ask : Binds K fdL ["book"] []) :
    FnOk P w K mg base CX0 (k + 1) f fd ["book"] (spSRef K T) := by
  refine F.ok sc_refused_asking (fun vs H Q E h => ?_) (fun cdv A outer s H vs Q E hr h => ?_)
  · obtain ⟨v, B, rfl, _⟩ := h
    rfl
  · obtain ⟨v, Bk, rfl, hB, gd, hT, q⟩ := h
    refine ⟨_, (pss_cons (ps_asg (pe_call G_ask hr (by rfl) g_ask kp_ask b_ask .nil pass0 (pa_cons (pv 0) pa_nil)) (pg_tup (by rfl) (pgs_cons (pg_name (i := 1) sc_refused_asking.nd rfl (Or.inl rfl)) (pgs_cons (pg_name (i := 2) sc_refused_asking.nd rfl (Or.inl rfl)) pgs_nil))))
      (pss_one (ps_ret (pv 2)))), ?_⟩
    refine ⟨_, rfl, v, Bk, rfl, hB, gd, hT, fun t x y H' r ps rs hr hst ht hx hd hy hp => ⟨t, [x, y], rfl, ht, rfl, ?_⟩⟩
    exact ⟨x, _, rfl, y, _, rfl, rfl, _, rfl, q y H' r rs hr hst hy hp⟩
end
end Z
namespace Z
open PySem PySem.Spec PyProof.Rows L2 Ma
/-! ### rows as lists -/
def encO : Option Nat → Int
  | none => -1
  | some b => (b : Int)
def enc (n : Nat) (r : Ma.Row) : List V := (List.range n).map fun a => V.int (encO (r a))
theorem enc_len (n : Nat) (r : Ma.Row) : (enc n r).length = n := by
  unfold enc
  rw [List.length_map, List.length_range]
theorem enc_at {n a : Nat} (r : Ma.Row) (h : a < n) : (enc n r)[a]? = some (.int (encO (r a))) := by
  unfold enc
  rw [List.getElem?_map, List.getElem?_range h]
  rfl
theorem encO_neg {x : Option Nat} : encO x < 0 ↔ x = none := by
  cases x with
  | none => simp [encO]
  | some b => simp [encO]
theorem encO_eq {x : Option Nat} {b : Nat} : encO x = (b : Int) ↔ x = some b := by
  cases x with
  | none => simp [encO]
  | some c =>
    simp [encO]
    omega
def dealL (n : Nat) (r : Ma.Row) : List (Nat × Nat) := (List.range n).filterMap fun a => (r a).map fun b => (a, b)
theorem dealL_succ (n : Nat) (r : Ma.Row) : dealL (n + 1) r = dealL n r ++ match r n with | none => [] | some b => [(n, b)] := by
  unfold dealL
  rw [List.range_succ, List.filterMap_append]
  congr 1
  cases h : r n <;> simp [h]
theorem dealL_mem {n a b : Nat} {r : Ma.Row} : (a, b) ∈ dealL n r ↔ a < n ∧ r a = some b := by
  unfold dealL
  rw [List.mem_filterMap]
  constructor
  · rintro ⟨x, hx, e⟩
    cases h : r x with
    | none => rw [h] at e; cases e
    | some c =>
      rw [h] at e
      cases e
      exact ⟨List.mem_range.mp hx, h⟩
  · rintro ⟨h1, h2⟩
    exact ⟨a, List.mem_range.mpr h1, by rw [h2]; rfl⟩
theorem dealL_len (n : Nat) (r : Ma.Row) : (dealL n r).length ≤ n := by
  unfold dealL
  refine Nat.le_trans (List.length_filterMap_le _ _) ?_
  rw [List.length_range]
  exact Nat.le_refl _
theorem dealL_asc (r : Ma.Row) : ∀ n, Asc (dealL n r)
  | 0 => List.Pairwise.nil
  | n + 1 => by
    rw [dealL_succ]
    refine List.pairwise_append.mpr ⟨dealL_asc r n, ?_, fun p hp q hq => ?_⟩
    · cases r n <;> simp
    · cases h : r n with
      | none => rw [h] at hq; cases hq
      | some b =>
        rw [h] at hq
        rw [List.mem_singleton.mp hq]
        exact .inl (dealL_mem.mp (show (p.1, p.2) ∈ _ from hp)).1
theorem dealL_is {n : Nat} {r : Ma.Row} (h : ∀ a, n ≤ a → r a = none) : IsDeal r (dealL n r) := by
  refine ⟨dealL_asc r n, fun a b => ?_⟩
  rw [dealL_mem]
  refine ⟨fun z => z.2, fun z => ⟨?_, z⟩⟩
  rcases Nat.lt_or_ge a n with y | y
  · exact y
  · rw [h a y] at z
    cases z
section
variable {K : PySem.W.Frag} {T : Tb} {L : List Addr} {H H' : Hp} {a : Addr} {xs : List V}
theorem St.sqL (x : St T L H H') (h : SqL K H a xs) (hn : a ∉ L := by simp) : SqL K H' a xs := by
  rcases h with (h | ⟨o, h⟩) | h
  · exact .inl (.inl (x.lst h hn))
  · exact .inl (.inr ⟨o, x.g _ _ h (fun ps e => by cases e) nm_frz⟩)
  · exact .inr h
end
section
variable {P : Program} {w : World} {K : PySem.W.Frag} {mg : Str → Option Value} {base : Heap} {T : Tb}
def spTold (K : PySem.W.Frag) (T : Tb) : Sp := fun vs H Q _ => ∃ (p : Addr) (n : Nat) (r : Ma.Row), vs = [.ref p] ∧ SqL K H p (enc n r) ∧ n ≤ 12 ∧ (∀ a, n ≤ a → r a = none) ∧ ∀ x H' ps, PrT K H' x ps → IsDeal r ps → St T [] H H' → Q x H'
theorem ok_told {f : Addr} {fd : FuncData} {k : Nat} (F : Fun K "_law_told" "_law_told" s_Ltold f fd) (B : Bt mg) : FnOk P w K mg base CX0 (k + 1) f fd ["_law_row"] (spTold K T) := by
  refine F.ok sc_Ltold (fun vs H Q E h => ?_) (fun cdv A outer s H vs Q E hr h => ?_)
  · obtain ⟨p, n, r, rfl, _⟩ := h
    rfl
  · obtain ⟨p, n, r, rfl, hp, hn, h0, q⟩ := h
    refine ⟨_, (pss_one (ps_ret (pe_callTy call_tuple_of (by rfl) B.tuple (by decide +kernel) (pa_cons (pe_lc (own := [("_law_a", 1)]) (tt := _) (by rfl) sc_Ltold.nd (pi_range1 (by rfl) B.range (pa_cons (pe_callB (klen K) (by rfl) B.len (by decide +kernel) (pa_cons (pv 0) pa_nil)) pa_nil)) (blkOk_by (own := [("_law_a", 1)]) (N := n_Ltold) (sc := defScope s_Ltold) (by decide +kernel)) (fun _ _ _ _ _ => (pg_name (i := 1) sc_Ltold.nd rfl (Or.inl rfl))) (fun _ _ _ _ _ => (pts_one (pt_cmpR op_ge (pe_ix (kix_list K) (pv 0) (pv 1) (fun _ _ => rfl)) pe_int (nomark _)))) (fun _ _ _ _ _ => (pe_tup (pa_cons (pv 1) (pa_cons (pe_ix (kix_list K) (pv 0) (pv 1) (fun _ _ => rfl)) pa_nil))))) pa_nil)))), ?_⟩
    refine ⟨_, rfl, p, _, rfl, .inl hp, _, rfl, by rw [enc_len]; omega, by rw [enc_len]; omega, ?_⟩
    rw [enc_len, Int.toNat_natCast]
    refine fun D hD => lc_range (fun i H' => ∃ ts, (∀ b o, H b = some o → H' b = some o) ∧ H' D = some (.lst (ts.map V.ref)) ∧ LsP K H' ts (dealL i r)) ⟨[], fun b o e => by rw [upd_ne (ne_of_none e hD)]; exact e, upd_same, LsP.nil⟩ (fun i H' hi ⟨ts, c1, c2, c3⟩ => ?_) (fun H' ⟨ts, c1, c2, c3⟩ => ?_)
    · have hp' : SqL K H' p (enc n r) := (St.ex (T := T) (L := []) c1).sqL hp
      rw [Int.zero_add]
      refine ⟨rfl, _, rfl, _, rfl, p, _, (i : Int), _, rfl, rfl, hp', atI_nat (enc_at r hi), _, _, rfl, rfl, _, rfl, ite2 (fun e => ?_) (fun e => ?_)⟩
      · have e : (0 : Int) ≤ encO (r i) := of_decide_eq_true e
        cases hr : r i with
        | none => rw [hr] at e; exact absurd e (by decide)
        | some b =>
          refine ⟨_, rfl, _, rfl, _, rfl, p, _, (i : Int), _, rfl, rfl, hp', atI_nat (enc_at r hi), by show 2 ≤ sizeLine; decide, fun t ht => ⟨ts.map V.ref, by rw [upd_ne (ne_of_none c2 ht)]; exact c2, by
            rw [List.length_map, c3.1]
            exact small' (by have := dealL_len i r; omega), ts ++ [t], ?_, ?_, ?_⟩⟩
          · intro b o e
            have hDn : b ≠ D := ne_of_none e hD
            rw [upd_ne hDn, upd_ne (ne_of_none (c1 b o e) ht)]
            exact c1 b o e
          · rw [upd_same, List.map_append]
            rfl
          · have htD : t ≠ D := (ne_of_none c2 ht).symm
            rw [dealL_succ, hr]
            have c4 := c3.st (.new (T := T) (L := []) (o := .tup [nV i, .int (encO (some b))]) ht)
            have e2 : (upd H' t (.tup [nV i, .int (encO (some b))])) D = some (.lst (ts.map V.ref)) := by rw [upd_ne (ne_of_none c2 ht)]; exact c2
            refine (c4.st (.put (T := T) (L := [D]) e2 (.inl ⟨_, rfl⟩) (.inl ⟨_, rfl⟩) (by simp))).snoc (p := (i, b)) ?_
            rw [upd_ne htD, upd_same]
            rfl
      · have e : ¬ (0 : Int) ≤ encO (r i) := of_decide_eq_false (eq_false_of_ne_true e)
        have hr : r i = none := encO_neg.mp (by omega)
        refine ⟨ts, c1, c2, ?_⟩
        rw [dealL_succ, hr, List.append_nil]
        exact c3
    · refine ⟨D, _, rfl, .inl ⟨.of c2, fun td htd => ?_⟩⟩
      have x : St T [] H' (upd H' td (.tup (ts.map V.ref))) := .new htd
      exact q _ _ _ ⟨td, ts, rfl, .of upd_same, c3.st x⟩ (dealL_is h0) ((St.ex c1).trans x)
def spSpot (K : PySem.W.Frag) : Sp := fun vs H Q _ => ∃ (v : V) (B : Bo) (a : Nat) (x : Option Nat), vs = [v, nV a, .int (encO x)] ∧ BkR K H v B ∧ a < B.W.length ∧ (∀ b, x = some b → b ∈ (bk B).W a) ∧ Q (nV (spot (bk B) a x)) H
theorem ok_spot {f : Addr} {fd : FuncData} {k : Nat} (F : Fun K "_law_spot" "_law_spot" s_Lspot f fd) (B : Bt mg) : FnOk P w K mg base CX0 (k + 1) f fd ["_law_office_here", "_law_a", "_law_b"] (spSpot K) := by
  refine F.ok sc_Lspot (fun vs H Q E h => ?_) (fun cdv A outer s H vs Q E hr h => ?_)
  · obtain ⟨v, B, a, x, rfl, _⟩ := h
    rfl
  · obtain ⟨v, Bk, a, x, rfl, hB, ha, hx, q⟩ := h
    refine ⟨_, (pss_cons (ps_if (pt_cmpR op_lt (pv 2) pe_int (nomark _))
        (pss_one (ps_ret (pe_callB (klen K) (by rfl) B.len (by decide +kernel) (pa_cons (pe_ix (kix_tup K) (pe_ix (kix_tup K) (pv 0) pe_int (fun _ _ => rfl)) (pv 1) (fun _ _ => rfl)) pa_nil))))
        pss_nil)
      (pss_one (ps_ret (pe_tidx (pe_ix (kix_tup K) (pe_ix (kix_tup K) (pv 0) pe_int (fun _ _ => rfl)) (pv 1) (fun _ _ => rfl)) (pv 2))))), ?_⟩
    obtain ⟨ad, wa, ra, sa, wv, rv, rfl, h1, h2, h3, h4, h5, h6⟩ := hB
    obtain ⟨px, ex, fx⟩ := h3.2 a _ (bkW ha)
    cases x with
    | none =>
      refine ⟨_, rfl, _, _, rfl, rfl, _, rfl, ite2 (fun _ => ?_) (fun e => absurd (show decide ((-1 : Int) < 0) = true from rfl) e)⟩
      refine ⟨_, rfl, ad, _, 0, .ref wa, rfl, rfl, h1, atI_nat (j := 0) rfl, _, rfl, wa, wv, (a : Int), .ref px, rfl, rfl, h2, atI_nat ex, px, _, rfl, .inr fx.sq, ?_⟩
      rw [List.length_map]
      exact q
    | some b =>
      refine ⟨_, rfl, _, _, rfl, rfl, _, rfl, ite2 (fun e => ?_) (fun _ => ?_)⟩
      · have e : ((b : Int) < 0) := of_decide_eq_true e
        omega
      · refine ⟨_, rfl, ad, _, 0, .ref wa, rfl, rfl, h1, atI_nat (j := 0) rfl, _, rfl, wa, wv, (a : Int), .ref px, rfl, rfl, h2, atI_nat ex, ?_⟩
        exact ⟨⟨_, _, rfl, fx⟩, _, rfl, px, ((bk Bk).W a).map ci, (b : Int), rfl, rfl, by rw [← map_nV]; exact fx, mem_ci (hx b rfl), by
          rw [show ((b : Int)) = ci b from rfl, idx_ci]
          exact q⟩
end
end Z
namespace Z
open PySem PySem.Spec PyProof.Rows L2 Ma
/-! ### pairs told row by row -/
def flg (h : Nat → Nat → Nat × Nat) (g : Nat → List Nat) (n : Nat) : List (Nat × Nat) := (List.range n).flatMap fun i => (g i).map (h i)
section
variable {h : Nat → Nat → Nat × Nat} {g : Nat → List Nat} {n : Nat}
theorem flg_succ : flg h g (n + 1) = flg h g n ++ (g n).map (h n) := by
  unfold flg
  rw [List.range_succ, List.flatMap_append]
  simp
theorem flg_mem {p : Nat × Nat} : p ∈ flg h g n ↔ ∃ i, i < n ∧ ∃ x, x ∈ g i ∧ h i x = p := by
  unfold flg
  rw [List.mem_flatMap]
  constructor
  · rintro ⟨i, hi, hp⟩
    obtain ⟨x, hx, e⟩ := List.mem_map.mp hp
    exact ⟨i, List.mem_range.mp hi, x, hx, e⟩
  · rintro ⟨i, hi, x, hx, e⟩
    exact ⟨i, List.mem_range.mpr hi, List.mem_map.mpr ⟨x, hx, e⟩⟩
theorem flg_nd (hg : ∀ i, (g i).Nodup) (hh : ∀ i j x y, h i x = h j y → i = j ∧ x = y) : ∀ n, (flg h g n).Nodup
  | 0 => List.nodup_nil
  | n + 1 => by
    rw [flg_succ]
    refine List.nodup_append.mpr ⟨flg_nd hg hh n, ?_, fun p hp q hq e => ?_⟩
    · unfold List.Nodup
      rw [List.pairwise_map]
      exact (hg n).imp fun z e => z (hh _ _ _ _ e).2
    · obtain ⟨i, hi, x, _, e1⟩ := flg_mem.mp hp
      obtain ⟨y, _, e2⟩ := List.mem_map.mp hq
      have := (hh i n x y (by rw [e1, e2, e])).1
      omega
theorem flg_len (hg : ∀ i, (g i).length ≤ 12) : ∀ n, (flg h g n).length ≤ 12 * n
  | 0 => Nat.le_refl _
  | n + 1 => by
    rw [flg_succ, List.length_append, List.length_map]
    have := flg_len hg n
    have := hg n
    omega
end
theorem Gd.row12 {B : Bo} (g : Gd B) (a : Nat) : ((bk B).W a).length ≤ 12 := by
  refine Nat.le_trans (nodup_lt_len (n := B.R.length) (g.wf.wn a) fun y hy => (g.ltW hy).2) ?_
  have := g.ml
  omega
theorem Gd.rol12 {B : Bo} (g : Gd B) (b : Nat) : ((bk B).R b).length ≤ 12 := by
  refine Nat.le_trans (nodup_lt_len (n := B.W.length) (g.wf.rn b) fun y hy => (g.ltW ((g.wf.sd y b).mpr hy)).1) ?_
  have := g.nl
  omega
/-! ### a list of pairs that grows -/
structure PL (K : PySem.W.Frag) (T : Tb) (H0 H : Hp) (out : Addr) (cs : List (Addr × HO)) (ts : List Addr) (ps : List (Nat × Nat)) : Prop where
  en : En T [] H0 H ((out, .lst (ts.map V.ref)) :: cs)
  ls : LsP K H ts ps
section
variable {K : PySem.W.Frag} {T : Tb} {H0 H H' : Hp} {out t : Addr} {cs : List (Addr × HO)} {ts : List Addr} {ps : List (Nat × Nat)} {p : Nat × Nat}
theorem PL.step (x : PL K T H0 H out cs ts ps) (y : St T [] H H') : PL K T H0 H' out cs ts ps := ⟨x.en.step y, x.ls.st y⟩
theorem PL.at (x : PL K T H0 H out cs ts ps) : H out = some (.lst (ts.map V.ref)) := x.en.get (i := 0) rfl
theorem PL.app (x : PL K T H0 H out cs ts ps) (ht : H t = none) : PL K T H0 (upd (upd H t (.tup [nV p.1, nV p.2])) out (.lst (ts.map V.ref ++ [.ref t]))) out cs (ts ++ [t]) (ps ++ [p]) := by
  rw [show ts.map V.ref ++ [V.ref t] = (ts ++ [t]).map V.ref by simp]
  have y := x.step (.new (o := .tup [nV p.1, nV p.2]) ht)
  have e := y.en.put (i := 0) rfl (Mu.l (xs := (ts ++ [t]).map V.ref))
  exact ⟨e, (y.ls.put y.at Mu.l Mu.l).snoc (y.en.putT (K := K) (i := 0) rfl upd_same)⟩
theorem rSlA_take {Q : VK} {a : Addr} {xs : List V} {j : Nat} (h : SqT K H a xs) (hj : j ≤ xs.length) (q : ∀ p H', St T [] H H' → SqT K H' p (xs.take j) → Q (.ref p) H') : rSlA K (.ref a) none (some (j : Int)) H Q := by
  have e2 : HT.sIx xs.length xs.length (some (j : Int)) = j := by
    show (if ((j : Int) < 0) then ((j : Int) + (xs.length : Int)).toNat else min ((j : Int)).toNat xs.length) = j
    rw [if_neg (by omega)]
    omega
  refine ⟨a, xs, rfl, h, fun e => ?_, fun _ p hp => ?_⟩
  · rw [e2] at e
    refine q a H (.refl H) ?_
    rw [e.2, List.take_length]
    exact h
  · have e3 : cutV xs none (some (j : Int)) = xs.take j := by
      show List.take (HT.sIx xs.length xs.length (some (j : Int)) - 0) (List.drop 0 xs) = _
      rw [e2]
      rfl
    rw [e3]
    exact q p _ (.new hp) (.of upd_same)
end
def pr1 (a b : Nat) : Nat × Nat := (a, b)
theorem pr1_inj : ∀ i j x y, pr1 i x = pr1 j y → i = j ∧ x = y := fun i j x y e => by
  unfold pr1 at e
  injection e with e1 e2
  exact ⟨e1, e2⟩
section
variable {P : Program} {w : World} {K : PySem.W.Frag} {mg : Str → Option Value} {base : Heap} {T : Tb}
def spPassed (K : PySem.W.Frag) (T : Tb) : Sp := fun vs H Q _ => ∃ (v : V) (B : Bo) (p : Addr) (r : Ma.Row), vs = [v, .ref p] ∧ BkR K H v B ∧ Gd B ∧ SqL K H p (enc B.W.length r) ∧ (∀ a b, r a = some b → b ∈ (bk B).W a) ∧ ∀ x H' ps, PrT K H' x ps → IsPass (bk B) r ps → St T [] H H' → Q x H'
theorem ok_passed {f fL : Addr} {fd fdL : FuncData} {k : Nat} (F : Fun K "_law_passed" "_law_passed" s_Lpassed f fd) (B : Bt mg) (G_spot : FnOk P w K mg base CX0 k fL fdL ["_law_office_here", "_law_a", "_law_b"] (spSpot K)) (g_spot : mg "_law_spot" = some (.ref fL)) (kp_spot : PySem.W.keepIn K (.ref fL) = true) (b_spot : Binds K fdL ["_law_office_here", "_law_a", "_law_b"] []) :
    FnOk P w K mg base CX0 (k + 1) f fd ["_law_office_here", "_law_row"] (spPassed K T) := by
  refine F.ok sc_Lpassed (fun vs H Q E h => ?_) (fun cdv A outer s H vs Q E hr h => ?_)
  · obtain ⟨v, B, p, r, rfl, _⟩ := h
    rfl
  · obtain ⟨v, Bk, p, r, rfl, hB, gd, hp, hfe, q⟩ := h
    refine ⟨_, (pss_cons (ps_set (i := 2) sc_Lpassed.nd rfl (Or.inl rfl) (pe_lst pa_nil))
      (pss_cons (ps_for PassesOwn.never rfl (pi_range1 (by rfl) B.range (pa_cons (pe_callB (klen K) (by rfl) B.len (by decide +kernel) (pa_cons (pe_ix (kix_tup K) (pv 0) pe_int (fun _ _ => rfl)) pa_nil)) pa_nil)) (pg_name (i := 3) sc_Lpassed.nd rfl (Or.inl rfl))
        (pss_one (ps_for PassesOwn.never rfl (kpi_tup K (pe_slice sl_tupA (pe_ix (kix_tup K) (pe_ix (kix_tup K) (pv 0) pe_int (fun _ _ => rfl)) (pv 3) (fun _ _ => rfl)) po_none (po_some (pe_call G_spot hr (by rfl) g_spot kp_spot b_spot .nil pass0 (pa_cons (pv 0) (pa_cons (pv 3) (pa_cons (pe_ix (kix_list K) (pv 1) (pv 3) (fun _ _ => rfl)) pa_nil))))))) (pg_name (i := 4) sc_Lpassed.nd rfl (Or.inl rfl))
          (pss_one (ps_expr (kbm K PySem.F.plainAttrs_list PySem.F.slot_list_append PySem.F.type_list_append mt_append (pv 2) (pa_cons (pe_tup (pa_cons (pv 3) (pa_cons (pv 4) pa_nil))) pa_nil)))))))
      (pss_one (ps_ret (pe_callTy call_tuple_of (by rfl) B.tuple (by decide +kernel) (pa_cons (pe_callB cr_sortedPO (by rfl) B.sorted (by decide +kernel) (pa_cons (pv 2) pa_nil)) pa_nil)))))), ?_⟩
    have hB0 := hB
    obtain ⟨ad, wa, ra, sa, wv, rv, rfl, h1, h2, h3, h4, h5, h6⟩ := hB
    have lw : wv.length = Bk.W.length := h3.1
    have hnl := gd.nl
    have sple : ∀ a, spot (bk Bk) a (r a) ≤ ((bk Bk).W a).length := fun a => by
      cases hx : r a with
      | none => exact Nat.le_refl _
      | some b => exact Nat.le_of_lt (List.idxOf_lt_length_of_mem (hfe a b hx))
    refine ⟨Nat.zero_le _, fun out hout => ?_⟩
    have p0 : PL K T H (upd H out (.lst [])) out [] [] [] := ⟨(En.nil (T := T) (L := []) H).new hout (Mu.l (xs := [])), LsP.nil⟩
    generalize upd H out (.lst []) = H1 at p0 ⊢
    refine ⟨_, rfl, ad, _, 0, .ref wa, rfl, rfl, p0.en.st.sqT h1, atI_nat (j := 0) rfl, wa, wv, rfl, .inr (p0.en.st.sqT h2), _, rfl, by omega, by omega, ?_⟩
    rw [lw, Int.toNat_natCast]
    refine for_range (fun i σ H' => ∃ ts y3 y4, σ = [some (.ref ad), some (.ref p), some (.ref out), y3, y4] ∧ PL K T H H' out [] ts (flg pr1 (fun a => ((bk Bk).W a).take (spot (bk Bk) a (r a))) i)) ⟨_, none, none, rfl, p0⟩ ?_ ?_
    · rintro i σ H' hi ⟨ts, y3, y4, rfl, pl⟩
      rw [Int.zero_add]
      obtain ⟨px, ex, fx⟩ := h3.2 i _ (bkW hi)
      refine ⟨_, rfl, ad, _, 0, .ref wa, rfl, rfl, pl.en.st.sqT h1, atI_nat (j := 0) rfl, _, rfl, wa, wv, (i : Int), .ref px, rfl, rfl, pl.en.st.sqT h2, atI_nat ex, _, rfl, _, rfl, _, rfl, _, rfl, p, _, (i : Int), _, rfl, rfl, pl.en.st.sqL hp, atI_nat (enc_at r hi), .ref ad, Bk, i, r i, rfl, hB0.st pl.en.st, hi, hfe i, _, rfl, rSlA_take (T := T) (pl.en.st.ft fx).sq (by rw [List.length_map]; exact sple i) fun pc H2 st hpc => ?_⟩
      have pl2 := pl.step st
      clear pl st
      refine ⟨pc, rfl, ⟨_, hpc⟩, for_tup (xs := (((bk Bk).W i).map nV).take (spot (bk Bk) i (r i))) (fun j σ H' => ∃ ts y4, σ = [some (.ref ad), some (.ref p), some (.ref out), some (nV i), y4] ∧ SqT K H' pc ((((bk Bk).W i).map nV).take (spot (bk Bk) i (r i))) ∧ PL K T H H' out [] ts (flg pr1 (fun a => ((bk Bk).W a).take (spot (bk Bk) a (r a))) i ++ ((((bk Bk).W i).take (spot (bk Bk) i (r i))).take j).map (pr1 i))) ?_ ?_ ?_ ?_⟩
      · exact ⟨ts, y4, rfl, hpc, by rw [List.take_zero, List.map_nil, List.append_nil]; exact pl2⟩
      · rintro j σ H3 _ ⟨_, _, _, e, _⟩
        exact e
      · rintro j x σ H3 hx ⟨ts3, z4, rfl, hpc3, pl3⟩
        rw [← List.map_take, List.getElem?_map] at hx
        cases hb : (((bk Bk).W i).take (spot (bk Bk) i (r i)))[j]? with
        | none => rw [hb] at hx; cases hx
        | some b =>
          rw [hb] at hx
          cases Option.some.inj hx
          refine ⟨_, rfl, .inl ⟨rfl, _, .of pl3.at⟩, _, rfl, _, rfl, by show 2 ≤ sizeLine; decide, fun t ht => ⟨out, _, .ref t, rfl, rfl, (pl3.step (.new ht)).at, by
            rw [List.length_map, pl3.ls.1, List.length_append, List.length_map]
            have h1 := flg_len (h := pr1) (g := fun a => ((bk Bk).W a).take (spot (bk Bk) a (r a))) (fun a => Nat.le_trans (List.length_take_le _ _) (Nat.le_trans (sple a) (gd.row12 a))) i
            have h2 := gd.row12 i
            have h3 := sple i
            rw [List.length_take, List.length_take]
            exact small' (by omega), ?_⟩⟩
          have pl4 := pl3.app (p := pr1 i b) ht
          refine ⟨ts3 ++ [t], _, rfl, ?_, ?_⟩
          · exact (pl3.step (.new (o := .tup [nV i, nV b]) ht)).en.st |> fun _ => (St.put (T := T) (L := [out]) (pl3.step (.new (o := .tup [nV i, nV b]) ht)).at Mu.l Mu.l (by simp)).sqT ((St.new (T := T) (L := []) ht).sqT hpc3)
          · rw [List.take_add_one, hb, List.map_append, ← List.append_assoc]
            exact pl4
      · rintro σ H3 ⟨ts3, z4, rfl, _, pl3⟩
        refine ⟨ts3, _, _, rfl, ?_⟩
        rw [flg_succ]
        rw [List.length_take, List.length_map, ← List.length_take, List.take_length] at pl3
        exact pl3
    · rintro σ H2 ⟨ts, y3, y4, rfl, pl⟩
      have nd : (flg pr1 (fun a => ((bk Bk).W a).take (spot (bk Bk) a (r a))) Bk.W.length).Nodup := flg_nd (fun a => (List.take_sublist _ _).nodup (gd.wf.wn a)) pr1_inj _
      refine ⟨_, rfl, out, _, kH H2, rfl, .of pl.at, pl.ls.pairs, fun ys d2 srt2 stb2 hd2 => ?_⟩
      obtain ⟨ts4, ps4, rfl, l4, l5, l6⟩ := sort_out pl.ls nd srt2 stb2
      have z1 : St T [] H2 (upd H2 d2 (.lst (ts4.map V.ref))) := .new hd2
      refine ⟨d2, _, rfl, .inl ⟨.of upd_same, fun td2 htd2 => ?_⟩⟩
      have z2 : St T [] (upd H2 d2 (.lst (ts4.map V.ref))) (upd (upd H2 d2 (.lst (ts4.map V.ref))) td2 (.tup (ts4.map V.ref))) := .new htd2
      refine q _ _ ps4 ⟨td2, ts4, rfl, .of upd_same, l4.st (z1.trans z2)⟩ ⟨l5, fun a b => ?_⟩ (pl.en.st.trans (z1.trans z2))
      rw [l6.mem_iff, flg_mem]
      constructor
      · rintro ⟨i, hi, x, hx, e⟩
        cases e
        obtain ⟨m1, m2⟩ := (mem_take_idx (gd.wf.wn a)).mp hx
        exact ⟨m1, m2⟩
      · rintro ⟨m1, m2⟩
        exact ⟨a, (gd.ltW m1).1, b, (mem_take_idx (gd.wf.wn a)).mpr ⟨m1, m2⟩, rfl⟩
end
end Z
namespace Z
open PySem PySem.Spec PyProof.Rows L2 Ma
theorem dV {x : Option Nat} {b : Nat} : decide (V.int (encO x) = nV b) = true ↔ x = some b := by
  rw [decide_eq_true_iff, ← encO_eq (x := x) (b := b)]
  constructor
  · intro h
    injection h
  · intro h
    rw [h]
/-! ### who is held, by places in the roll -/
def pB (B : Ma.Bk) (r : Ma.Row) (b : Nat) (k : Nat) : Bool := decide (r ((B.R b).getD k 0) = some b)
def hkL (B : Ma.Bk) (r : Ma.Row) (b i : Nat) : List Nat := (List.range i).filter (pB B r b)
section
variable {B : Ma.Bk} {r : Ma.Row} {b i : Nat}
theorem hkL_succ : hkL B r b (i + 1) = hkL B r b i ++ if pB B r b i = true then [i] else [] := by
  unfold hkL
  rw [List.range_succ, List.filter_append]
  congr 1
  by_cases h : pB B r b i = true <;> simp [h]
theorem hkL_mem {k : Nat} : k ∈ hkL B r b i ↔ k < i ∧ pB B r b k = true := by
  unfold hkL
  rw [List.mem_filter, List.mem_range]
theorem count_range (l : List Nat) (p : Nat → Bool) : ∀ i, i ≤ l.length → ((List.range i).filter fun k => p (l.getD k 0)).length = (l.take i).countP p
  | 0, _ => rfl
  | i + 1, h => by
    have e : l[i]? = some (l.getD i 0) := by rw [List.getD_eq_getElem?_getD, List.getElem?_eq_getElem (by omega)]; rfl
    rw [List.range_succ, List.filter_append, List.length_append, count_range l p i (by omega), List.take_add_one, e, List.countP_append]
    congr 1
    show ([i].filter fun k => p (l.getD k 0)).length = [l.getD i 0].countP p
    by_cases z : p (l.getD i 0) = true
    · simp only [List.filter_cons, List.countP_cons, z]
      rfl
    · simp only [List.filter_cons, List.countP_cons, z]
      rfl
theorem hkL_len : (hkL B r b (B.R b).length).length = Ma.cnt B r b := by
  have h := count_range (B.R b) (fun a => r a == some b) (B.R b).length (Nat.le_refl _)
  rw [List.take_length] at h
  rw [show Ma.cnt B r b = (B.R b).countP fun a => r a == some b from rfl, ← h]
  unfold hkL pB
  congr 2
  funext k
  rw [Bool.eq_iff_iff, decide_eq_true_iff, beq_iff_eq]
theorem hkL_last {k y : Nat} (hk : k ∈ hkL B r b i) (hy : (hkL B r b i)[(hkL B r b i).length - 1]? = some y) : k ≤ y := by
  have pw : (hkL B r b i).Pairwise (· < ·) := List.Pairwise.filter _ List.pairwise_lt_range
  obtain ⟨j, hj⟩ := List.getElem?_of_mem hk
  obtain ⟨hj1, hj2⟩ := List.getElem?_eq_some_iff.mp hj
  obtain ⟨hy1, hy2⟩ := List.getElem?_eq_some_iff.mp hy
  rcases Nat.lt_or_ge j ((hkL B r b i).length - 1) with z | z
  · have := List.pairwise_iff_getElem.mp pw j _ hj1 hy1 z
    omega
  · have e : j = (hkL B r b i).length - 1 := by omega
    subst e
    omega
theorem atI_end {l : List Nat} {y : Nat} (hy : l[l.length - 1]? = some y) : atI (l.map nV) (-1) = some (nV y) := by
  rcases List.eq_nil_or_concat l with rfl | ⟨l', z, rfl⟩
  · simp at hy
  · rw [List.concat_eq_append] at hy ⊢
    rw [List.length_append, List.length_singleton, Nat.add_sub_cancel, List.getElem?_append_right (Nat.le_refl _), Nat.sub_self] at hy
    cases hy
    rw [List.map_append]
    exact atI_last _ _
/-- the bar of a school -/
def Bar (B : Ma.Bk) (r : Ma.Row) (b x : Nat) : Prop := x ≤ (B.R b).length ∧ ∀ a, a ∈ B.R b → r a ≠ some b → ((B.R b).idxOf a < x ↔ SW B r b a)
theorem bar_free (h : Ma.cnt B r b < B.S b) : Bar B r b (B.R b).length :=
  ⟨Nat.le_refl _, fun a ha hr => ⟨fun _ => ⟨hr, .inl h⟩, fun _ => List.idxOf_lt_length_of_mem ha⟩⟩
theorem bar_full (wf : Wf B) {y : Nat} (h : B.S b ≤ Ma.cnt B r b) (hy : (hkL B r b (B.R b).length)[(hkL B r b (B.R b).length).length - 1]? = some y) : Bar B r b y := by
  obtain ⟨y1, y2⟩ := hkL_mem.mp (List.mem_of_getElem? hy)
  refine ⟨Nat.le_of_lt y1, fun a ha hr => ⟨fun z => ⟨hr, .inr ⟨(B.R b).getD y 0, ?_, of_decide_eq_true y2, ?_⟩⟩, fun z => ?_⟩⟩
  · rw [List.getD_eq_getElem?_getD, List.getElem?_eq_getElem y1]
    exact List.getElem_mem _
  · have e : (B.R b)[y]? = some ((B.R b).getD y 0) := by rw [List.getD_eq_getElem?_getD, List.getElem?_eq_getElem y1]; rfl
    rw [idx_get (wf.rn b) e]
    exact z
  · rcases z.2 with z | ⟨a', h1, h2, h3⟩
    · omega
    · have hm : (B.R b).idxOf a' ∈ hkL B r b (B.R b).length := hkL_mem.mpr ⟨List.idxOf_lt_length_of_mem h1, by
        unfold pB
        rw [List.getD_eq_getElem?_getD, get_idx h1]
        exact decide_eq_true h2⟩
      have := hkL_last hm hy
      omega
end
section
variable {P : Program} {w : World} {K : PySem.W.Frag} {mg : Str → Option Value} {base : Heap} {T : Tb}
def spBars (K : PySem.W.Frag) (T : Tb) : Sp := fun vs H Q _ => ∃ (v : V) (B : Bo) (p : Addr) (r : Ma.Row), vs = [v, .ref p] ∧ BkR K H v B ∧ Gd B ∧ SqL K H p (enc B.W.length r) ∧
  ∀ (l : Addr) (H' : Hp) (bs : List Nat), H' l = some (.lst (bs.map nV)) → bs.length = B.R.length → (∀ b x, bs[b]? = some x → Bar (bk B) r b x) → Nw H l → St T [] H H' → Q (.ref l) H'
theorem ok_bars {f : Addr} {fd : FuncData} {k : Nat} (F : Fun K "_law_bars" "_law_bars" s_Lbars f fd) (B : Bt mg) :
    FnOk P w K mg base CX0 (k + 1) f fd ["_law_office_here", "_law_row"] (spBars K T) := by
  refine F.ok sc_Lbars (fun vs H Q E h => ?_) (fun cdv A outer s H vs Q E hr h => ?_)
  · obtain ⟨v, B, p, r, rfl, _⟩ := h
    rfl
  · obtain ⟨v, Bk, p, r, rfl, hB, gd, hp, q⟩ := h
    refine ⟨_, (pss_cons (ps_set (i := 2) sc_Lbars.nd rfl (Or.inl rfl) (pe_lst pa_nil))
      (pss_cons (ps_for PassesOwn.never rfl (pi_range1 (by rfl) B.range (pa_cons (pe_callB (klen K) (by rfl) B.len (by decide +kernel) (pa_cons (pe_ix (kix_tup K) (pv 0) pe_int (fun _ _ => rfl)) pa_nil)) pa_nil)) (pg_name (i := 3) sc_Lbars.nd rfl (Or.inr rfl))
        (pss_cons (ps_set (i := 4) sc_Lbars.nd rfl (Or.inr rfl) (pe_ix (kix_tup K) (pe_ix (kix_tup K) (pv 0) pe_int (fun _ _ => rfl)) (pv 3) (fun _ _ => rfl)))
        (pss_cons (ps_setLc (i := 5) (own := [("_law_k", 6)]) (tt := _) (by rfl) sc_Lbars.nd rfl rfl (sw_true rfl rfl rfl (by decide +kernel)) (pi_range1 (by rfl) B.range (pa_cons (pe_callB (klen K) (by rfl) B.len (by decide +kernel) (pa_cons (pv 4) pa_nil)) pa_nil)) (blkOk_by (own := [("_law_k", 6)]) (N := n_Lbars) (sc := defScope s_Lbars) (by decide +kernel)) (fun _ _ _ _ _ => (pg_name (i := 6) sc_Lbars.nd rfl (Or.inl rfl))) (fun _ _ _ _ _ => (pts_one (pt_cmpR op_eq (pe_ix (kix_list K) (pv 1) (pe_ix (kix_tup K) (pv 4) (pv 6) (fun _ _ => rfl)) (fun _ _ => rfl)) (pv 3) (nomark _)))) (fun _ _ _ _ _ => (pv 6)))
        (pss_one (ps_if (pt_cmpR op_lt (pe_callB (klen K) (by rfl) B.len (by decide +kernel) (pa_cons (pv 5) pa_nil)) (pe_ix (kix_tup K) (pe_ix (kix_tup K) (pv 0) pe_int (fun _ _ => rfl)) (pv 3) (fun _ _ => rfl)) (nomark _))
          (pss_one (ps_expr (kbm K PySem.F.plainAttrs_list PySem.F.slot_list_append PySem.F.type_list_append mt_append (pv 2) (pa_cons (pe_callB (klen K) (by rfl) B.len (by decide +kernel) (pa_cons (pv 4) pa_nil)) pa_nil))))
          (pss_one (ps_expr (kbm K PySem.F.plainAttrs_list PySem.F.slot_list_append PySem.F.type_list_append mt_append (pv 2) (pa_cons (pe_ix (kix_list K) (pv 5) (pe_un un_neg pe_int) (fun _ _ => rfl)) pa_nil)))))))))
      (pss_one (ps_ret (pv 2))))), ?_⟩
    obtain ⟨ad, wa, ra, sa, wv, rv, rfl, h1, h2, h3, h4, h5, h6⟩ := hB
    have lr : rv.length = Bk.R.length := h5.1
    have hml := gd.ml
    refine ⟨Nat.zero_le _, fun l hl => ?_⟩
    have p0 : En T [] H (upd H l (.lst [])) [(l, .lst (([] : List Nat).map nV))] := (En.nil (T := T) (L := []) H).new hl (Mu.l (xs := []))
    generalize upd H l (.lst []) = H1 at p0 ⊢
    refine ⟨_, rfl, ad, _, 1, .ref ra, rfl, rfl, p0.st.sqT h1, atI_nat (j := 1) rfl, ra, rv, rfl, .inr (p0.st.sqT h4), _, rfl, by omega, by omega, ?_⟩
    rw [lr, Int.toNat_natCast]
    refine for_range (fun i σ H' => ∃ bs y3 y4 y5, σ = [some (.ref ad), some (.ref p), some (.ref l), y3, y4, y5, none] ∧ En T [] H H' [(l, .lst (bs.map nV))] ∧ bs.length = i ∧ ∀ b x, bs[b]? = some x → Bar (bk Bk) r b x) ⟨[], none, none, none, rfl, p0, rfl, fun b x e => by simp at e⟩ ?_ ?_
    · rintro i σ H' hi ⟨bs, y3, y4, y5, rfl, en, hbl, hbar⟩
      rw [Int.zero_add]
      obtain ⟨px, ex, fx⟩ := h5.2 i _ (bkRl hi)
      have r12 := gd.rol12 i
      refine ⟨_, rfl, ad, _, 1, .ref ra, rfl, rfl, en.st.sqT h1, atI_nat (j := 1) rfl, _, rfl, ra, rv, (i : Int), .ref px, rfl, rfl, en.st.sqT h4, atI_nat ex, ?_⟩
      refine ⟨_, rfl, px, _, rfl, .inr (en.st.ft fx).sq, _, rfl, by rw [List.length_map]; omega, by rw [List.length_map]; omega, ?_⟩
      rw [List.length_map, Int.toNat_natCast]
      refine fun D hD => lc_range (fun j H2 => (∀ b o, H' b = some o → H2 b = some o) ∧ H2 D = some (.lst ((hkL (bk Bk) r i j).map nV))) ⟨fun b o e => by rw [upd_ne (ne_of_none e hD)]; exact e, upd_same⟩ (fun j H2 hj ⟨c1, c2⟩ => ?_) (fun H2 ⟨c1, c2⟩ => ?_)
      · have st : St T [] H' H2 := .ex c1
        have st' := en.st.trans st
        rw [Int.zero_add]
        have ha : ((bk Bk).R i)[j]? = some (((bk Bk).R i).getD j 0) := by rw [List.getD_eq_getElem?_getD, List.getElem?_eq_getElem hj]; rfl
        have han : ((bk Bk).R i).getD j 0 < Bk.W.length := (gd.ltW ((gd.wf.sd _ i).mpr (List.mem_of_getElem? ha))).1
        refine ⟨rfl, _, rfl, _, rfl, _, rfl, px, _, (j : Int), nV (((bk Bk).R i).getD j 0), rfl, rfl, (st'.ft fx).sq, atI_nat (by rw [List.getElem?_map, ha]; rfl), p, _, _, _, rfl, rfl, st'.sqL hp, atI_nat (enc_at r han), _, rfl, rfl, _, rfl, ite2 (fun e => ?_) (fun e => ?_)⟩
        · have e : pB (bk Bk) r i j = true := decide_eq_true (dV.mp e)
          refine ⟨_, rfl, _, c2, by
            rw [List.length_map]
            have := List.length_filter_le (pB (bk Bk) r i) (List.range j)
            rw [List.length_range] at this
            exact small' (by unfold hkL; omega), fun b o e => by rw [upd_ne (ne_of_none e hD)]; exact c1 b o e, ?_⟩
          rw [hkL_succ, if_pos e, List.map_append]
          exact upd_same
        · have e : ¬ pB (bk Bk) r i j = true := fun z => e (dV.mpr (of_decide_eq_true z))
          refine ⟨c1, ?_⟩
          rw [hkL_succ, if_neg e, List.append_nil]
          exact c2
      · have st : St T [] H' H2 := .ex c1
        have en2 := en.step st
        have hS := bkS (B := Bk) (b := i) (by rw [gd.sl]; exact hi)
        refine ⟨_, rfl, D, _, rfl, .inl (.of c2), _, rfl, ad, _, 2, .ref sa, rfl, rfl, en2.st.sqT h1, atI_nat (j := 2) rfl, _, rfl, sa, _, (i : Int), nV ((bk Bk).S i), rfl, rfl, en2.st.sqT h6, atI_nat (by rw [List.getElem?_map, hS]; rfl), _, _, rfl, rfl, _, rfl, ite2 (fun e => ?_) (fun e => ?_)⟩
        · have e := of_decide_eq_true e
          rw [List.length_map, hkL_len] at e
          refine ⟨_, rfl, .inl ⟨rfl, _, .of (en2.get (i := 0) rfl)⟩, _, rfl, px, _, rfl, .inr (en2.st.ft fx).sq, l, _, _, rfl, rfl, en2.get (i := 0) rfl, by
            rw [List.length_map, hbl]
            exact small' (by omega), ?_⟩
          rw [List.length_map, show bs.map nV ++ [V.int ((((bk Bk).R i).length : Nat) : Int)] = (bs ++ [((bk Bk).R i).length]).map nV by simp]
          refine ⟨bs ++ [((bk Bk).R i).length], _, _, _, rfl, en2.put (i := 0) rfl Mu.l, by rw [List.length_append, hbl]; rfl, fun b x hx => ?_⟩
          rcases Nat.lt_or_ge b bs.length with z | z
          · rw [List.getElem?_append_left z] at hx
            exact hbar b x hx
          · rw [List.getElem?_append_right z] at hx
            have eb : b = i := by
              have := (List.getElem?_eq_some_iff.mp hx).1
              simp at this
              omega
            subst eb
            rw [hbl, Nat.sub_self] at hx
            cases hx
            exact bar_free (by omega)
        · have e := of_decide_eq_false (eq_false_of_ne_true e)
          rw [List.length_map, hkL_len] at e
          have hs1 := gd.wf.sp i
          have hl1 := hkL_len (B := bk Bk) (r := r) (b := i)
          obtain ⟨y, hy⟩ : ∃ y, (hkL (bk Bk) r i ((bk Bk).R i).length)[(hkL (bk Bk) r i ((bk Bk).R i).length).length - 1]? = some y := ⟨_, List.getElem?_eq_getElem (by omega)⟩
          refine ⟨_, rfl, .inl ⟨rfl, _, .of (en2.get (i := 0) rfl)⟩, _, rfl, ?_⟩
          refine ⟨1, rfl, D, _, -1, nV y, rfl, rfl, .of c2, atI_end hy, l, _, _, rfl, rfl, en2.get (i := 0) rfl, by
            rw [List.length_map, hbl]
            exact small' (by omega), ?_⟩
          rw [show bs.map nV ++ [nV y] = (bs ++ [y]).map nV by simp]
          refine ⟨bs ++ [y], _, _, _, rfl, en2.put (i := 0) rfl Mu.l, by rw [List.length_append, hbl]; rfl, fun b x hx => ?_⟩
          rcases Nat.lt_or_ge b bs.length with z | z
          · rw [List.getElem?_append_left z] at hx
            exact hbar b x hx
          · rw [List.getElem?_append_right z] at hx
            have eb : b = i := by
              have := (List.getElem?_eq_some_iff.mp hx).1
              simp at this
              omega
            subst eb
            rw [hbl, Nat.sub_self] at hx
            cases hx
            exact bar_full gd.wf (by omega) hy
    · rintro σ H2 ⟨bs, y3, y4, y5, rfl, en, hbl, hbar⟩
      exact ⟨_, rfl, q l H2 bs (en.get (i := 0) rfl) hbl hbar (en.fr (l, .lst (bs.map nV)) (by simp)) en.st⟩
end
end Z
namespace Z
open PySem PySem.Spec PyProof.Rows L2 Ma
theorem En.join {T : Tb} {L : List Addr} {H0 H H' : Hp} {cs : List (Addr × HO)} {p : Addr} {o : HO} (x : En T L H0 H cs) (y : St T [] H H') (e : H' p = some o) (m : Mu o) (nw : Nw H p) : En T L H0 H' (cs ++ [(p, o)]) := by
  have z := x.step y
  refine ⟨?_, fun c hc => ?_, fun c hc => ?_, fun c hc => ?_, z.st⟩
  · rw [List.map_append]
    refine List.nodup_append.mpr ⟨x.nd, by simp, fun a ha b hb e => ?_⟩
    obtain ⟨c, hc, rfl⟩ := List.mem_map.mp ha
    rw [List.map_cons, List.map_nil, List.mem_singleton] at hb
    exact nw.ne (x.at_ c hc) (x.mu c hc).nt (e.trans hb)
  · rcases List.mem_append.mp hc with hc | hc
    · exact x.fr c hc
    · rw [List.mem_singleton.mp hc]
      exact x.st.back nw
  · rcases List.mem_append.mp hc with hc | hc
    · exact z.at_ c hc
    · rw [List.mem_singleton.mp hc]
      exact e
  · rcases List.mem_append.mp hc with hc | hc
    · exact x.mu c hc
    · rw [List.mem_singleton.mp hc]
      exact m
def pr2 (b a : Nat) : Nat × Nat := (a, b)
theorem pr2_inj : ∀ i j x y, pr2 i x = pr2 j y → i = j ∧ x = y := fun i j x y e => by
  unfold pr2 at e
  injection e with e1 e2
  exact ⟨e2, e1⟩
theorem take_filter_len {l : List Nat} {j k : Nat} {p : Nat → Bool} (h : l.length ≤ 12) : (((l.take k).take j).filter p).length ≤ 12 := by
  refine Nat.le_trans (List.length_filter_le _ _) ?_
  rw [List.length_take, List.length_take]
  omega
section
variable {P : Program} {w : World} {K : PySem.W.Frag} {mg : Str → Option Value} {base : Heap} {T : Tb}
def spPassedBy (K : PySem.W.Frag) (T : Tb) : Sp := fun vs H Q _ => ∃ (v : V) (B : Bo) (p : Addr) (r : Ma.Row), vs = [v, .ref p] ∧ BkR K H v B ∧ Gd B ∧ SqL K H p (enc B.W.length r) ∧ ∀ x H' ps, PrT K H' x ps → IsPassBy (bk B) r ps → St T [] H H' → Q x H'
theorem ok_passed_by {f fL : Addr} {fd fdL : FuncData} {k : Nat} (F : Fun K "_law_passed_by" "_law_passed_by" s_Lpassed_by f fd) (B : Bt mg) (G_bars : FnOk P w K mg base CX0 k fL fdL ["_law_office_here", "_law_row"] (spBars K T)) (g_bars : mg "_law_bars" = some (.ref fL)) (kp_bars : PySem.W.keepIn K (.ref fL) = true) (b_bars : Binds K fdL ["_law_office_here", "_law_row"] []) :
    FnOk P w K mg base CX0 (k + 1) f fd ["_law_office_here", "_law_row"] (spPassedBy K T) := by
  refine F.ok sc_Lpassed_by (fun vs H Q E h => ?_) (fun cdv A outer s H vs Q E hr h => ?_)
  · obtain ⟨v, B, p, r, rfl, _⟩ := h
    rfl
  · obtain ⟨v, Bk, p, r, rfl, hB, gd, hp, q⟩ := h
    refine ⟨_, (pss_cons (ps_set (i := 2) sc_Lpassed_by.nd rfl (Or.inl rfl) (pe_lst pa_nil))
      (pss_cons (ps_set (i := 3) sc_Lpassed_by.nd rfl (Or.inl rfl) (pe_call G_bars hr (by rfl) g_bars kp_bars b_bars .nil pass0 (pa_cons (pv 0) (pa_cons (pv 1) pa_nil))))
      (pss_cons (ps_for PassesOwn.never rfl (pi_range1 (by rfl) B.range (pa_cons (pe_callB (klen K) (by rfl) B.len (by decide +kernel) (pa_cons (pe_ix (kix_tup K) (pv 0) pe_int (fun _ _ => rfl)) pa_nil)) pa_nil)) (pg_name (i := 4) sc_Lpassed_by.nd rfl (Or.inl rfl))
        (pss_one (ps_for PassesOwn.never rfl (kpi_tup K (pe_slice sl_tupA (pe_ix (kix_tup K) (pe_ix (kix_tup K) (pv 0) pe_int (fun _ _ => rfl)) (pv 4) (fun _ _ => rfl)) po_none (po_some (pe_ix (kix_list K) (pv 3) (pv 4) (fun _ _ => rfl))))) (pg_name (i := 5) sc_Lpassed_by.nd rfl (Or.inl rfl))
          (pss_one (ps_if (pt_cmpR op_ne (pe_ix (kix_list K) (pv 1) (pv 5) (fun _ _ => rfl)) (pv 4) (nomark _))
            (pss_one (ps_expr (kbm K PySem.F.plainAttrs_list PySem.F.slot_list_append PySem.F.type_list_append mt_append (pv 2) (pa_cons (pe_tup (pa_cons (pv 5) (pa_cons (pv 4) pa_nil))) pa_nil))))
            pss_nil)))))
      (pss_one (ps_ret (pe_callTy call_tuple_of (by rfl) B.tuple (by decide +kernel) (pa_cons (pe_callB cr_sortedPO (by rfl) B.sorted (by decide +kernel) (pa_cons (pv 2) pa_nil)) pa_nil))))))), ?_⟩
    have hB0 := hB
    obtain ⟨ad, wa, ra, sa, wv, rv, rfl, h1, h2, h3, h4, h5, h6⟩ := hB
    have lr : rv.length = Bk.R.length := h5.1
    have hml := gd.ml
    refine ⟨Nat.zero_le _, fun out hout => ?_⟩
    have p0 : PL K T H (upd H out (.lst [])) out [] [] [] := ⟨(En.nil (T := T) (L := []) H).new hout (Mu.l (xs := [])), LsP.nil⟩
    generalize upd H out (.lst []) = H1 at p0 ⊢
    refine ⟨_, rfl, _, rfl, .ref ad, Bk, p, r, rfl, hB0.st p0.en.st, gd, p0.en.st.sqL hp, fun lb H2 bs hb1 hb2 hb3 hb4 st => ?_⟩
    have p1 : PL K T H H2 out [(lb, .lst (bs.map nV))] [] [] := ⟨p0.en.join st hb1 Mu.l hb4, LsP.nil⟩
    clear p0 st hb1 hb4
    refine ⟨_, rfl, ad, _, 1, .ref ra, rfl, rfl, p1.en.st.sqT h1, atI_nat (j := 1) rfl, ra, rv, rfl, .inr (p1.en.st.sqT h4), _, rfl, by omega, by omega, ?_⟩
    rw [lr, Int.toNat_natCast]
    refine for_range (fun i σ H' => ∃ ts y4 y5, σ = [some (.ref ad), some (.ref p), some (.ref out), some (.ref lb), y4, y5] ∧ PL K T H H' out [(lb, .lst (bs.map nV))] ts (flg pr2 (fun b => (((bk Bk).R b).take (bs.getD b 0)).filter fun a => decide (r a ≠ some b)) i)) ⟨_, none, none, rfl, p1⟩ ?_ ?_
    · rintro i σ H' hi ⟨ts, y4, y5, rfl, pl⟩
      rw [Int.zero_add]
      obtain ⟨px, ex, fx⟩ := h5.2 i _ (bkRl hi)
      have r12 := gd.rol12 i
      have hbs : bs[i]? = some (bs.getD i 0) := by rw [List.getD_eq_getElem?_getD, List.getElem?_eq_getElem (by omega)]; rfl
      have bar := hb3 i _ hbs
      refine ⟨_, rfl, ad, _, 1, .ref ra, rfl, rfl, pl.en.st.sqT h1, atI_nat (j := 1) rfl, _, rfl, ra, rv, (i : Int), .ref px, rfl, rfl, pl.en.st.sqT h4, atI_nat ex, _, rfl, _, rfl, lb, _, (i : Int), nV (bs.getD i 0), rfl, rfl, .of (pl.en.get (i := 1) rfl), atI_nat (by rw [List.getElem?_map, hbs]; rfl), _, rfl, rSlA_take (T := T) (pl.en.st.ft fx).sq (by rw [List.length_map]; exact bar.1) fun pc H2 st hpc => ?_⟩
      have pl2 := pl.step st
      clear pl st
      refine ⟨pc, rfl, ⟨_, hpc⟩, for_tup (xs := (((bk Bk).R i).map nV).take (bs.getD i 0)) (fun j σ H' => ∃ ts y5, σ = [some (.ref ad), some (.ref p), some (.ref out), some (.ref lb), some (nV i), y5] ∧ SqT K H' pc ((((bk Bk).R i).map nV).take (bs.getD i 0)) ∧ PL K T H H' out [(lb, .lst (bs.map nV))] ts (flg pr2 (fun b => (((bk Bk).R b).take (bs.getD b 0)).filter fun a => decide (r a ≠ some b)) i ++ (((((bk Bk).R i).take (bs.getD i 0)).take j).filter fun a => decide (r a ≠ some i)).map (pr2 i))) ?_ ?_ ?_ ?_⟩
      · exact ⟨ts, y5, rfl, hpc, by rw [List.take_zero, List.filter_nil, List.map_nil, List.append_nil]; exact pl2⟩
      · rintro j σ H3 _ ⟨_, _, _, e, _⟩
        exact e
      · rintro j x σ H3 hx ⟨ts3, z5, rfl, hpc3, pl3⟩
        rw [← List.map_take, List.getElem?_map] at hx
        cases hb : (((bk Bk).R i).take (bs.getD i 0))[j]? with
        | none => rw [hb] at hx; cases hx
        | some a =>
          rw [hb] at hx
          cases Option.some.inj hx
          have han : a < Bk.W.length := (gd.ltW ((gd.wf.sd a i).mpr (List.mem_of_mem_take (List.mem_of_getElem? hb)))).1
          refine ⟨_, rfl, _, rfl, p, _, (a : Int), _, rfl, rfl, pl3.en.st.sqL hp, atI_nat (enc_at r han), _, rfl, rfl, _, rfl, ite2 (fun e => ?_) (fun e => ?_)⟩
          · have e : r a ≠ some i := fun z => by
              rw [dV.mpr z] at e
              cases e
            refine ⟨_, rfl, .inl ⟨rfl, _, .of pl3.at⟩, _, rfl, _, rfl, by show 2 ≤ sizeLine; decide, fun t ht => ⟨out, _, .ref t, rfl, rfl, (pl3.step (.new ht)).at, by
              rw [List.length_map, pl3.ls.1, List.length_append, List.length_map]
              have h1 := flg_len (h := pr2) (g := fun b => (((bk Bk).R b).take (bs.getD b 0)).filter fun a => decide (r a ≠ some b)) (fun b => by
                refine Nat.le_trans (List.length_filter_le _ _) ?_
                rw [List.length_take]
                have := gd.rol12 b
                omega) i
              have h2 := take_filter_len (l := (bk Bk).R i) (k := bs.getD i 0) (j := j) (p := fun a => decide (r a ≠ some i)) (gd.rol12 i)
              exact small' (by omega), ?_⟩⟩
            have pl4 := pl3.app (p := pr2 i a) ht
            refine ⟨ts3 ++ [t], _, rfl, ?_, ?_⟩
            · exact (St.put (T := T) (L := [out]) (pl3.step (.new (o := .tup [nV a, nV i]) ht)).at Mu.l Mu.l (by simp)).sqT ((St.new (T := T) (L := []) ht).sqT hpc3)
            · rw [List.take_add_one, hb, List.filter_append, List.map_append, ← List.append_assoc]
              rw [show (Option.some a).toList.filter (fun a => decide (r a ≠ some i)) = [a] by simp [e]]
              exact pl4
          · have e : r a = some i := by
              have e : (!decide (V.int (encO (r a)) = nV i)) ≠ true := e
              exact dV.mp (by simpa using e)
            refine ⟨ts3, _, rfl, hpc3, ?_⟩
            rw [List.take_add_one, hb, List.filter_append, show (Option.some a).toList.filter (fun a => decide (r a ≠ some i)) = [] by simp [e], List.append_nil]
            exact pl3
      · rintro σ H3 ⟨ts3, z5, rfl, _, pl3⟩
        refine ⟨ts3, _, _, rfl, ?_⟩
        rw [flg_succ]
        rw [List.length_take, List.length_map, ← List.length_take, List.take_length] at pl3
        exact pl3
    · rintro σ H2 ⟨ts, y4, y5, rfl, pl⟩
      have nd : (flg pr2 (fun b => (((bk Bk).R b).take (bs.getD b 0)).filter fun a => decide (r a ≠ some b)) Bk.R.length).Nodup := flg_nd (fun b => ((List.filter_sublist).trans (List.take_sublist _ _)).nodup (gd.wf.rn b)) pr2_inj _
      refine ⟨_, rfl, out, _, kH H2, rfl, .of pl.at, pl.ls.pairs, fun ys d2 srt2 stb2 hd2 => ?_⟩
      obtain ⟨ts4, ps4, rfl, l4, l5, l6⟩ := sort_out pl.ls nd srt2 stb2
      have z1 : St T [] H2 (upd H2 d2 (.lst (ts4.map V.ref))) := .new hd2
      refine ⟨d2, _, rfl, .inl ⟨.of upd_same, fun td2 htd2 => ?_⟩⟩
      have z2 : St T [] (upd H2 d2 (.lst (ts4.map V.ref))) (upd (upd H2 d2 (.lst (ts4.map V.ref))) td2 (.tup (ts4.map V.ref))) := .new htd2
      refine q _ _ ps4 ⟨td2, ts4, rfl, .of upd_same, l4.st (z1.trans z2)⟩ ⟨l5, fun a b => ?_⟩ (pl.en.st.trans (z1.trans z2))
      rw [l6.mem_iff, flg_mem]
      constructor
      · rintro ⟨i, hi, x, hx, e⟩
        cases e
        obtain ⟨m1, m2⟩ := List.mem_filter.mp hx
        have m2 := of_decide_eq_true m2
        obtain ⟨m3, m4⟩ := (mem_take_idx (gd.wf.rn b)).mp m1
        have hbs : bs[b]? = some (bs.getD b 0) := by rw [List.getD_eq_getElem?_getD, List.getElem?_eq_getElem (by omega)]; rfl
        exact ⟨m3, ((hb3 b _ hbs).2 a m3 m2).mp m4⟩
      · rintro ⟨m1, m2⟩
        have hbm := (gd.ltW ((gd.wf.sd a b).mpr m1)).2
        have hbs : bs[b]? = some (bs.getD b 0) := by rw [List.getD_eq_getElem?_getD, List.getElem?_eq_getElem (by omega)]; rfl
        exact ⟨b, hbm, a, List.mem_filter.mpr ⟨(mem_take_idx (gd.wf.rn b)).mpr ⟨m1, ((hb3 b _ hbs).2 a m1 m2.1).mpr m2⟩, decide_eq_true m2.1⟩, rfl⟩
end
end Z
namespace Z
open PySem PySem.Spec PyProof.Rows L2 Ma
/-- what stops the walk along a pupil's wishes -/
theorem spot_some {B : Ma.Bk} {r : Ma.Row} {a b : Nat} (h : r a = some b) : spot B a (r a) = (B.W a).idxOf b := by
  rw [h]
  rfl
def NoB (B : Ma.Bk) (r : Ma.Row) : Prop := ∀ a b, b ∈ B.W a → PW B r a b → SW B r b a → False
section
variable {P : Program} {w : World} {K : PySem.W.Frag} {mg : Str → Option Value} {base : Heap} {T : Tb}
def spClaims (K : PySem.W.Frag) (T : Tb) : Sp := fun vs H Q _ => ∃ (v : V) (B : Bo) (p : Addr) (r : Ma.Row), vs = [v, .ref p] ∧ BkR K H v B ∧ Gd B ∧ SqL K H p (enc B.W.length r) ∧ (∀ a b, r a = some b → b ∈ (bk B).W a) ∧ ∀ (l : Addr) (H' : Hp) (xs : List V), H' l = some (.lst xs) → (xs = [] ↔ NoB (bk B) r) → St T [] H H' → Q (.ref l) H'
theorem ok_claims {f fL : Addr} {fd fdL : FuncData} {k : Nat} (F : Fun K "_law_claims" "_law_claims" s_Lclaims f fd) (B : Bt mg) (G_bars : FnOk P w K mg base CX0 k fL fdL ["_law_office_here", "_law_row"] (spBars K T)) (g_bars : mg "_law_bars" = some (.ref fL)) (kp_bars : PySem.W.keepIn K (.ref fL) = true) (b_bars : Binds K fdL ["_law_office_here", "_law_row"] []) :
    FnOk P w K mg base CX0 (k + 1) f fd ["_law_office_here", "_law_row"] (spClaims K T) := by
  refine F.ok sc_Lclaims (fun vs H Q E h => ?_) (fun cdv A outer s H vs Q E hr h => ?_)
  · obtain ⟨v, B, p, r, rfl, _⟩ := h
    rfl
  · obtain ⟨v, Bk, p, r, rfl, hB, gd, hp, hfe, q⟩ := h
    refine ⟨_, (pss_cons (ps_set (i := 2) sc_Lclaims.nd rfl (Or.inl rfl) (pe_call G_bars hr (by rfl) g_bars kp_bars b_bars .nil pass0 (pa_cons (pv 0) (pa_cons (pv 1) pa_nil))))
      (pss_cons (ps_set (i := 3) sc_Lclaims.nd rfl (Or.inl rfl) (pe_lst pa_nil))
      (pss_cons (ps_for PassesOwn.never rfl (pi_range1 (by rfl) B.range (pa_cons (pe_callB (klen K) (by rfl) B.len (by decide +kernel) (pa_cons (pe_ix (kix_tup K) (pv 0) pe_int (fun _ _ => rfl)) pa_nil)) pa_nil)) (pg_name (i := 4) sc_Lclaims.nd rfl (Or.inl rfl))
        (pss_one (ps_for PassesOwn.never rfl (kpi_tup K (pe_ix (kix_tup K) (pe_ix (kix_tup K) (pv 0) pe_int (fun _ _ => rfl)) (pv 4) (fun _ _ => rfl))) (pg_name (i := 5) sc_Lclaims.nd rfl (Or.inl rfl))
          (pss_cons (ps_if (pt_cmpR op_eq (pv 5) (pe_ix (kix_list K) (pv 1) (pv 4) (fun _ _ => rfl)) (nomark _))
            (pss_one ps_break)
            pss_nil)
          (pss_one (ps_if (pt_cmpR op_lt (pe_tidx (pe_ix (kix_tup K) (pe_ix (kix_tup K) (pv 0) pe_int (fun _ _ => rfl)) (pv 5) (fun _ _ => rfl)) (pv 4)) (pe_ix (kix_list K) (pv 2) (pv 5) (fun _ _ => rfl)) (nomark _))
            (pss_one (ps_expr (kbm K PySem.F.plainAttrs_list PySem.F.slot_list_append PySem.F.type_list_append mt_append (pv 3) (pa_cons (pe_tup (pa_cons (pv 4) (pa_cons (pv 5) pa_nil))) pa_nil))))
            pss_nil))))))
      (pss_one (ps_ret (pe_callB cr_sortedPO (by rfl) B.sorted (by decide +kernel) (pa_cons (pv 3) pa_nil))))))), ?_⟩
    have hB0 := hB
    obtain ⟨ad, wa, ra, sa, wv, rv, rfl, h1, h2, h3, h4, h5, h6⟩ := hB
    have lw : wv.length = Bk.W.length := h3.1
    have hnl := gd.nl
    refine ⟨_, rfl, _, rfl, .ref ad, Bk, p, r, rfl, hB0, gd, hp, fun lb H1 bs hb1 hb2 hb3 hb4 st => ⟨Nat.zero_le _, fun out hout => ?_⟩⟩
    have p1 : PL K T H (upd H1 out (.lst [])) out [(lb, .lst (bs.map nV))] [] [] := by
      have e := ((En.nil (T := T) (L := []) H).join st hb1 Mu.l hb4).new hout (Mu.l (xs := ([] : List V)))
      refine ⟨⟨?_, fun c hc => e.fr c ?_, fun c hc => e.at_ c ?_, fun c hc => e.mu c ?_, e.st⟩, LsP.nil⟩
      · have := e.nd
        simp only [List.nil_append, List.map_cons, List.map_nil, List.cons_append, List.nodup_cons, List.mem_singleton] at this ⊢
        exact ⟨fun z => this.1 z.symm, by simp, List.nodup_nil⟩
      all_goals
        simp only [List.map_nil, List.mem_cons, List.nil_append, List.cons_append, List.not_mem_nil, or_false] at hc ⊢
        exact hc.symm
    clear st hb1 hb4
    generalize upd H1 out (.lst []) = H2 at p1 ⊢
    refine ⟨_, rfl, ad, _, 0, .ref wa, rfl, rfl, p1.en.st.sqT h1, atI_nat (j := 0) rfl, wa, wv, rfl, .inr (p1.en.st.sqT h2), _, rfl, by omega, by omega, ?_⟩
    rw [lw, Int.toNat_natCast]
    refine for_range (fun i σ H' => ∃ ts y4 y5, σ = [some (.ref ad), some (.ref p), some (.ref lb), some (.ref out), y4, y5] ∧ PL K T H H' out [(lb, .lst (bs.map nV))] ts (flg pr1 (fun a => (((bk Bk).W a).take (spot (bk Bk) a (r a))).filter fun b => decide (((bk Bk).R b).idxOf a < bs.getD b 0)) i)) ⟨_, none, none, rfl, p1⟩ ?_ ?_
    · rintro i σ H' hi ⟨ts, y4, y5, rfl, pl⟩
      rw [Int.zero_add]
      obtain ⟨px, ex, fx⟩ := h3.2 i _ (bkW hi)
      have r12 := gd.row12 i
      refine ⟨_, rfl, ad, _, 0, .ref wa, rfl, rfl, pl.en.st.sqT h1, atI_nat (j := 0) rfl, _, rfl, wa, wv, (i : Int), .ref px, rfl, rfl, pl.en.st.sqT h2, atI_nat ex, px, rfl, ⟨_, (pl.en.st.ft fx).sq⟩, ?_⟩
      refine for_tup (xs := ((bk Bk).W i).map nV) (fun j σ H' => ∃ ts y5, σ = [some (.ref ad), some (.ref p), some (.ref lb), some (.ref out), some (nV i), y5] ∧ j ≤ spot (bk Bk) i (r i) ∧ PL K T H H' out [(lb, .lst (bs.map nV))] ts (flg pr1 (fun a => (((bk Bk).W a).take (spot (bk Bk) a (r a))).filter fun b => decide (((bk Bk).R b).idxOf a < bs.getD b 0)) i ++ ((((bk Bk).W i).take j).filter fun b => decide (((bk Bk).R b).idxOf i < bs.getD b 0)).map (pr1 i))) ?_ ?_ ?_ ?_
      · exact ⟨ts, y5, rfl, Nat.zero_le _, by rw [List.take_zero, List.filter_nil, List.map_nil, List.append_nil]; exact pl⟩
      · rintro j σ H3 _ ⟨_, _, _, _, pl3⟩
        exact (pl3.en.st.ft fx).sq
      · rintro j x σ H3 hx ⟨ts3, z5, rfl, hjs, pl3⟩
        rw [List.getElem?_map] at hx
        cases hb : ((bk Bk).W i)[j]? with
        | none => rw [hb] at hx; cases hx
        | some b =>
          rw [hb] at hx
          cases Option.some.inj hx
          have hbw := List.mem_of_getElem? hb
          have hbm := (gd.ltW hbw).2
          refine ⟨_, rfl, _, rfl, _, rfl, p, _, (i : Int), _, rfl, rfl, pl3.en.st.sqL hp, atI_nat (enc_at r hi), rfl, _, rfl, ite2 (fun e => ?_) (fun e => ?_)⟩
          · have e : r i = some b := dV.mp (decide_eq_true (of_decide_eq_true e).symm)
            have es : j = spot (bk Bk) i (r i) := by rw [spot_some e]; exact (idx_get (gd.wf.wn i) hb).symm
            refine ⟨ts3, _, _, rfl, ?_⟩
            rw [flg_succ, ← es]
            exact pl3
          · have e : r i ≠ some b := fun z => e (decide_eq_true (of_decide_eq_true (dV.mpr z)).symm)
            have hjs2 : j + 1 ≤ spot (bk Bk) i (r i) := by
              rcases Nat.lt_or_eq_of_le hjs with z | z
              · exact z
              · exfalso
                cases hx : r i with
                | none =>
                  rw [hx] at z
                  have := (List.getElem?_eq_some_iff.mp hb).1
                  have z : j = ((bk Bk).W i).length := z
                  omega
                | some c =>
                  rw [spot_some hx] at z
                  have := get_idx (hfe i c hx)
                  rw [← z, hb] at this
                  rw [← this] at hx
                  exact e hx
            obtain ⟨pr, er, frr⟩ := h5.2 b _ (bkRl hbm)
            have hbs : bs[b]? = some (bs.getD b 0) := by rw [List.getD_eq_getElem?_getD, List.getElem?_eq_getElem (by omega)]; rfl
            refine ⟨_, rfl, ad, _, 1, .ref ra, rfl, rfl, pl3.en.st.sqT h1, atI_nat (j := 1) rfl, _, rfl, ra, rv, (b : Int), .ref pr, rfl, rfl, pl3.en.st.sqT h4, atI_nat er, ⟨_, _, rfl, pl3.en.st.ft frr⟩, _, rfl, pr, ((bk Bk).R b).map ci, ci i, rfl, rfl, by rw [← map_nV]; exact pl3.en.st.ft frr, mem_ci ((gd.wf.sd i b).mp hbw), ?_⟩
            rw [idx_ci]
            refine ⟨_, rfl, _, rfl, lb, _, (b : Int), nV (bs.getD b 0), rfl, rfl, .of (pl3.en.get (i := 1) rfl), atI_nat (by rw [List.getElem?_map, hbs]; rfl), _, _, rfl, rfl, _, rfl, ite2 (fun e2 => ?_) (fun e2 => ?_)⟩
            · have e2 := of_decide_eq_true e2
              have e2 : ((bk Bk).R b).idxOf i < bs.getD b 0 := by omega
              refine ⟨_, rfl, .inl ⟨rfl, _, .of pl3.at⟩, _, rfl, _, rfl, by show 2 ≤ sizeLine; decide, fun t ht => ⟨out, _, .ref t, rfl, rfl, (pl3.step (.new ht)).at, by
                rw [List.length_map, pl3.ls.1, List.length_append, List.length_map]
                have h1 := flg_len (h := pr1) (g := fun a => (((bk Bk).W a).take (spot (bk Bk) a (r a))).filter fun b => decide (((bk Bk).R b).idxOf a < bs.getD b 0)) (fun a => by
                  refine Nat.le_trans (List.length_filter_le _ _) ?_
                  rw [List.length_take]
                  have := gd.row12 a
                  omega) i
                have h2 := List.length_filter_le (fun b => decide (((bk Bk).R b).idxOf i < bs.getD b 0)) (((bk Bk).W i).take j)
                rw [List.length_take] at h2
                exact small' (by omega), ?_⟩⟩
              have pl4 := pl3.app (p := pr1 i b) ht
              refine ⟨ts3 ++ [t], _, rfl, hjs2, ?_⟩
              rw [List.take_add_one, hb, List.filter_append, List.map_append, ← List.append_assoc]
              rw [show (Option.some b).toList.filter (fun b => decide (((bk Bk).R b).idxOf i < bs.getD b 0)) = [b] by
                show [b].filter _ = [b]
                rw [List.filter_cons, if_pos (decide_eq_true e2)]
                rfl]
              exact pl4
            · have e2 := of_decide_eq_false (eq_false_of_ne_true e2)
              have e2 : ¬ ((bk Bk).R b).idxOf i < bs.getD b 0 := by omega
              refine ⟨ts3, _, rfl, hjs2, ?_⟩
              rw [List.take_add_one, hb, List.filter_append]
              rw [show (Option.some b).toList.filter (fun b => decide (((bk Bk).R b).idxOf i < bs.getD b 0)) = [] by
                show [b].filter _ = []
                rw [List.filter_cons, if_neg (fun z => e2 (of_decide_eq_true z))]
                rfl, List.append_nil]
              exact pl3
      · rintro σ H3 ⟨ts3, z5, rfl, hjs, pl3⟩
        rw [List.length_map] at hjs pl3
        refine ⟨ts3, _, _, rfl, ?_⟩
        rw [flg_succ, List.take_of_length_le hjs]
        rw [List.take_length] at pl3
        exact pl3
    · rintro σ H2 ⟨ts, y4, y5, rfl, pl⟩
      refine ⟨_, rfl, out, _, kH H2, rfl, .of pl.at, pl.ls.pairs, fun ys d2 srt2 stb2 hd2 => ?_⟩
      have z1 : St T [] H2 (upd H2 d2 (.lst ys)) := .new hd2
      refine q d2 _ ys upd_same ⟨fun e => ?_, fun e => ?_⟩ (pl.en.st.trans z1)
      · have tn : ts = [] := by
          have := stb2.perm
          rw [e] at this
          exact List.map_eq_nil_iff.mp this.symm.eq_nil
        intro a b hb h1 h2
        have hm : (a, b) ∈ flg pr1 (fun a => (((bk Bk).W a).take (spot (bk Bk) a (r a))).filter fun b => decide (((bk Bk).R b).idxOf a < bs.getD b 0)) Bk.W.length := by
          have hbm := (gd.ltW hb).2
          have hbs : bs[b]? = some (bs.getD b 0) := by rw [List.getD_eq_getElem?_getD, List.getElem?_eq_getElem (by omega)]; rfl
          exact flg_mem.mpr ⟨a, (gd.ltW hb).1, b, List.mem_filter.mpr ⟨(mem_take_idx (gd.wf.wn a)).mpr ⟨hb, h1⟩, decide_eq_true (((hb3 b _ hbs).2 a ((gd.wf.sd a b).mp hb) h2.1).mpr h2)⟩, rfl⟩
        have hl := pl.ls.1
        rw [tn] at hl
        rw [List.length_eq_zero_iff.mp hl.symm] at hm
        cases hm
      · rcases ys with _ | ⟨y, ys'⟩
        · rfl
        · exfalso
          have hy : y ∈ ts.map V.ref := stb2.perm.mem_iff.mp List.mem_cons_self
          obtain ⟨t, ht, _⟩ := List.mem_map.mp hy
          obtain ⟨pq, hpq, _⟩ := pl.ls.at_mem ht
          obtain ⟨a, ha, b, hb, e2⟩ := flg_mem.mp hpq
          obtain ⟨m1, m2⟩ := List.mem_filter.mp hb
          have m2 := of_decide_eq_true m2
          obtain ⟨m3, m4⟩ := (mem_take_idx (gd.wf.wn a)).mp m1
          have hbm := (gd.ltW m3).2
          have hbs : bs[b]? = some (bs.getD b 0) := by rw [List.getD_eq_getElem?_getD, List.getElem?_eq_getElem (by omega)]; rfl
          have hne : r a ≠ some b := fun z => by
            rw [spot_some z] at m4
            omega
          exact e a b m3 m4 (((hb3 b _ hbs).2 a ((gd.wf.sd a b).mp m3) hne).mp m2)
end
end Z
namespace Ma
def eO : Option Nat → Int
  | none => -1
  | some b => (b : Int)
def eL (n : Nat) (r : Row) : List Int := (List.range n).map fun a => eO (r a)
def x1 (B : Bk) (row : List Int) (b : Int) : Option (List Int) := if b < 0 ∨ row.count b < B.S b.toNat then some (row ++ [b]) else none
def xt (B : Bk) (a : Nat) (row : List Int) : List (List Int) := ((B.W a).map (fun b : Nat => (b : Int)) ++ [-1]).filterMap (x1 B row)
def rowsL (B : Bk) : Nat → List (List Int)
  | 0 => [[]]
  | a + 1 => (rowsL B a).flatMap (xt B a)
section
variable {B : Bk} {r : Row} {a b : Nat}
theorem eL_succ : eL (a + 1) r = eL a r ++ [eO (r a)] := by
  unfold eL
  rw [List.range_succ, List.map_append]
  rfl
theorem eL_congr {v : Row} (h : ∀ x, x < a → r x = v x) : eL a r = eL a v := by
  unfold eL
  apply List.map_congr_left
  intro x hx
  rw [h x (List.mem_range.mp hx)]
theorem eO_some {x : Option Nat} : eO x = (b : Int) ↔ x = some b := by
  cases x with
  | none => simp [eO]
  | some c =>
    simp [eO]
    omega
theorem eL_count (wf : Wf B) (hp : ∀ a b, r a = some b → b ∈ B.W a) (h0 : ∀ x, a ≤ x → r x = none) : (eL a r).count (b : Int) = cnt B r b := by
  rw [cnt_len (hl := (List.range a).filter fun x => decide (r x = some b)) wf ((List.filter_sublist).nodup List.nodup_range) (fun x => ?_) hp]
  · unfold eL
    rw [List.count_eq_countP, List.countP_map, List.countP_eq_length_filter]
    congr 2
    funext x
    show (eO (r x) == (b : Int)) = decide (r x = some b)
    rw [Bool.eq_iff_iff, beq_iff_eq, decide_eq_true_iff]
    exact eO_some
  · rw [List.mem_filter, List.mem_range, decide_eq_true_iff]
    refine ⟨fun z => z.2, fun z => ⟨?_, z⟩⟩
    rcases Nat.lt_or_ge x a with y | y
    · exact y
    · rw [h0 x y] at z
      cases z
theorem rowsL_iff (wf : Wf B) : ∀ a xs, xs ∈ rowsL B a ↔ ∃ r, xs = eL a r ∧ (∀ x, a ≤ x → r x = none) ∧ Fe B r
  | 0, xs => by
    constructor
    · intro h
      refine ⟨fun _ => none, List.mem_singleton.mp h, fun _ _ => rfl, fun a b e => (nomatch e), fun b => ?_⟩
      have : cnt B (fun _ => none) b = 0 := by
        unfold cnt
        exact List.countP_eq_zero.mpr fun _ _ => by simp
      omega
    · rintro ⟨r, rfl, _⟩
      exact List.mem_singleton.mpr rfl
  | a + 1, xs => by
    show xs ∈ (rowsL B a).flatMap (xt B a) ↔ _
    rw [List.mem_flatMap]
    constructor
    · rintro ⟨row, hrow, hx⟩
      obtain ⟨r, rfl, h0, fe⟩ := (rowsL_iff wf a row).mp hrow
      obtain ⟨b, hb, e⟩ := List.mem_filterMap.mp hx
      unfold x1 at e
      split at e
      · rename_i hc
        cases e
        rcases List.mem_append.mp hb with hb | hb
        · obtain ⟨c, hcw, rfl⟩ := List.mem_map.mp hb
          have hlt : (eL a r).count (c : Int) < B.S c := by
            rcases hc with hc | hc
            · omega
            · rwa [Int.toNat_natCast] at hc
          rw [eL_count wf fe.pr h0] at hlt
          have hn := h0 a (Nat.le_refl _)
          refine ⟨up r a (some c), ?_, fun x hx => ?_, fun x d e => ?_, fun d => ?_⟩
          · rw [eL_succ, up_same]
            congr 1
            exact eL_congr fun x hx => (up_ne (by omega)).symm
          · rw [up_ne (by omega)]
            exact h0 x (by omega)
          · by_cases hx : x = a
            · subst hx
              rw [up_same] at e
              cases e
              exact hcw
            · rw [up_ne hx] at e
              exact fe.pr x d e
          · by_cases hd : d = c
            · rw [hd, cnt_up wf hn hcw]
              omega
            · rw [cnt_up_ne hn hd]
              exact fe.le d
        · rw [List.mem_singleton.mp hb]
          refine ⟨r, ?_, fun x hx => h0 x (by omega), fe⟩
          rw [eL_succ, h0 a (Nat.le_refl _)]
          rfl
      · cases e
    · rintro ⟨r, rfl, h0, fe⟩
      cases hr : r a with
      | none =>
        refine ⟨eL a r, (rowsL_iff wf a _).mpr ⟨r, rfl, fun x hx => ?_, fe⟩, List.mem_filterMap.mpr ⟨-1, by simp, ?_⟩⟩
        · rcases Nat.lt_or_eq_of_le hx with z | z
          · exact h0 x z
          · rw [← z]; exact hr
        · unfold x1
          rw [if_pos (.inl (by decide)), eL_succ, hr]
          rfl
      | some c =>
        have hcw := fe.pr a c hr
        have e2 : r = up (up r a none) a (some c) := by
          funext x
          by_cases hx : x = a
          · rw [hx, up_same, hr]
          · rw [up_ne hx, up_ne hx]
        have hn : (up r a none) a = none := up_same
        have h0' : ∀ x, a ≤ x → up r a none x = none := fun x hx => by
          rcases Nat.lt_or_eq_of_le hx with z | z
          · rw [up_ne (by omega)]; exact h0 x z
          · rw [← z]; exact up_same
        have c1 := cnt_up wf hn hcw
        rw [← e2] at c1
        have pr' : ∀ x d, up r a none x = some d → d ∈ B.W x := fun x d e => by
          by_cases hx : x = a
          · rw [hx, up_same] at e; cases e
          · rw [up_ne hx] at e; exact fe.pr x d e
        have fe' : Fe B (up r a none) := ⟨pr', fun d => by
          by_cases hd : d = c
          · subst hd
            have := fe.le d
            omega
          · have c2 := cnt_up_ne (B := B) hn hd
            rw [← e2] at c2
            rw [← c2]
            exact fe.le d⟩
        refine ⟨eL a (up r a none), (rowsL_iff wf a _).mpr ⟨_, rfl, h0', fe'⟩, List.mem_filterMap.mpr ⟨(c : Int), List.mem_append.mpr (.inl (List.mem_map.mpr ⟨c, hcw, rfl⟩)), ?_⟩⟩
        unfold x1
        rw [if_pos (.inr (by
          rw [eL_count wf pr' h0', Int.toNat_natCast]
          have := fe.le c
          omega)), eL_succ, hr]
        congr 2
        exact eL_congr fun x hx => up_ne (by omega)
theorem xt_len (row : List Int) : (xt B a row).length ≤ (B.W a).length + 1 := by
  unfold xt
  refine Nat.le_trans (List.length_filterMap_le _ _) ?_
  simp
theorem fm_len {c : Nat} (h : (B.W a).length ≤ c) : ∀ l : List (List Int), (l.flatMap (xt B a)).length ≤ (c + 1) * l.length
  | [] => by simp
  | x :: l => by
    rw [List.flatMap_cons, List.length_append, List.length_cons]
    have h1 := fm_len h l
    have h2 := xt_len (B := B) (a := a) x
    have h3 : (c + 1) * (l.length + 1) = (c + 1) * l.length + (c + 1) := by rw [Nat.mul_add, Nat.mul_one]
    omega
theorem rowsL_len {c : Nat} (h : ∀ a, (B.W a).length ≤ c) : ∀ a, (rowsL B a).length ≤ (c + 1) ^ a
  | 0 => Nat.le_refl _
  | a + 1 => by
    show ((rowsL B a).flatMap (xt B a)).length ≤ _
    refine Nat.le_trans (fm_len (h a) _) ?_
    rw [Nat.pow_succ, Nat.mul_comm]
    exact Nat.mul_le_mul_right _ (rowsL_len h a)
def dL (xs : List Int) : Row := fun a => match xs[a]? with
  | some (Int.ofNat b) => some b
  | _ => none
theorem dL_eL {n : Nat} (h0 : ∀ x, n ≤ x → r x = none) : dL (eL n r) = r := by
  funext x
  unfold dL eL
  rw [List.getElem?_map]
  rcases Nat.lt_or_ge x n with z | z
  · rw [List.getElem?_range z]
    show (match some (eO (r x)) with | some (Int.ofNat b) => some b | _ => none) = r x
    cases r x with
    | none => rfl
    | some b => rfl
  · rw [List.getElem?_eq_none_iff.mpr (by rw [List.length_range]; exact z), h0 x z]
    rfl
theorem Fe.out (wf : Wf B) (fe : Fe B r) (x : Nat) (h : B.n ≤ x) : r x = none := by
  cases e : r x with
  | none => rfl
  | some b =>
    have := fe.pr x b e
    rw [wf.wl x h] at this
    cases this
end
end Ma
namespace Z
open PySem PySem.Spec PyProof.Rows L2 Ma
theorem enc_eL (n : Nat) (r : Ma.Row) : enc n r = (eL n r).map V.int := by
  unfold enc eL
  rw [List.map_map]
  apply List.map_congr_left
  intro a _
  show V.int (encO (r a)) = V.int (eO (r a))
  cases r a <;> rfl
/-! ### lists of rows in the heap -/
def Rl (H : Hp) (hs : List Addr) (ls : List (List Int)) : Prop := hs.length = ls.length ∧ ∀ (i : Nat) (x : Addr) (xs : List Int), hs[i]? = some x → ls[i]? = some xs → H x = some (.lst (xs.map V.int))
theorem Rl.st {T : Tb} {H H' : Hp} {hs : List Addr} {ls : List (List Int)} (h : Rl H hs ls) (y : St T [] H H') : Rl H' hs ls := ⟨h.1, fun i x xs e1 e2 => y.lst (h.2 i x xs e1 e2) (by simp)⟩
structure RS (T : Tb) (H0 H : Hp) (D : Addr) (hs : List Addr) (ls : List (List Int)) : Prop where
  en : En T [] H0 H [(D, .lst (hs.map V.ref))]
  rl : Rl H hs ls
  nd : D ∉ hs
section
variable {T : Tb} {H0 H H' : Hp} {D t : Addr} {hs : List Addr} {ls : List (List Int)} {xs : List Int}
theorem RS.step (x : RS T H0 H D hs ls) (y : St T [] H H') : RS T H0 H' D hs ls := ⟨x.en.step y, x.rl.st y, x.nd⟩
theorem RS.at (x : RS T H0 H D hs ls) : H D = some (.lst (hs.map V.ref)) := x.en.get (i := 0) rfl
theorem RS.app (x : RS T H0 H D hs ls) (ht : H t = some (.lst (xs.map V.int))) (hn : t ≠ D) : RS T H0 (upd H D (.lst (hs.map V.ref ++ [.ref t]))) D (hs ++ [t]) (ls ++ [xs]) := by
  rw [show hs.map V.ref ++ [V.ref t] = (hs ++ [t]).map V.ref by simp]
  have e := x.en.put (i := 0) rfl (Mu.l (xs := (hs ++ [t]).map V.ref))
  refine ⟨e, ⟨by rw [List.length_append, List.length_append, x.rl.1]; rfl, fun i y ys e1 e2 => ?_⟩, fun z => ?_⟩
  · rcases Nat.lt_or_ge i hs.length with z | z
    · rw [List.getElem?_append_left z] at e1
      rw [List.getElem?_append_left (by rw [← x.rl.1]; exact z)] at e2
      rw [upd_ne fun q => x.nd (by rw [← q]; exact List.mem_of_getElem? e1)]
      exact x.rl.2 i y ys e1 e2
    · rw [List.getElem?_append_right z] at e1
      rw [List.getElem?_append_right (by rw [← x.rl.1]; exact z)] at e2
      rw [← x.rl.1] at e2
      cases j : i - hs.length with
      | zero =>
        rw [j] at e1 e2
        cases Option.some.inj e1
        cases Option.some.inj e2
        rw [upd_ne hn]
        exact ht
      | succ j' =>
        rw [j] at e1
        simp at e1
  · rcases List.mem_append.mp z with z | z
    · exact x.nd z
    · exact hn (List.mem_singleton.mp z).symm
end
theorem cutT {t : TT} {σ : L2.St} {H : Hp} {Q : Bool → Hp → Prop} (C : Bool → Hp → Prop) (h : ∀ b H, C b H → Q b H) (g : ∀ Q' : Bool → Hp → Prop, (∀ b H, C b H → Q' b H) → t σ H Q') : t σ H Q := g Q h
structure Sm (B : Bo) : Prop where
  n5 : B.W.length ≤ 5
  m5 : B.R.length ≤ 5
theorem Sm.row {B : Bo} (s : Sm B) (g : Gd B) (a : Nat) : ((bk B).W a).length ≤ 5 := by
  refine Nat.le_trans (nodup_lt_len (n := B.R.length) (g.wf.wn a) fun y hy => (g.ltW hy).2) ?_
  exact s.m5
section
variable {P : Program} {w : World} {K : PySem.W.Frag} {mg : Str → Option Value} {base : Heap} {T : Tb}
/-- rows as a function list -/
def RwL (H : Hp) (l : Addr) (n : Nat) (rs : List Ma.Row) : Prop := ∃ hs : List Addr, H l = some (.lst (hs.map V.ref)) ∧ hs.length = rs.length ∧ ∀ (i : Nat) (x : Addr) (r : Ma.Row), hs[i]? = some x → rs[i]? = some r → H x = some (.lst (enc n r))
def spRows (K : PySem.W.Frag) (T : Tb) : Sp := fun vs H Q _ => ∃ (v : V) (B : Bo), vs = [v] ∧ BkR K H v B ∧ Gd B ∧ Sm B ∧ ∀ (l : Addr) (H' : Hp) (rs : List Ma.Row), RwL H' l B.W.length rs → (∀ r, r ∈ rs ↔ Fe (bk B) r) → rs.length ≤ 7776 → St T [] H H' → Q (.ref l) H'
theorem ok_rows {f : Addr} {fd : FuncData} {k : Nat} (F : Fun K "_law_rows" "_law_rows" s_Lrows f fd) (B : Bt mg) :
    FnOk P w K mg base CX0 (k + 1) f fd ["_law_office_here"] (spRows K T) := by
  refine F.ok sc_Lrows (fun vs H Q E h => ?_) (fun cdv A outer s H vs Q E hr h => ?_)
  · obtain ⟨v, B, rfl, _⟩ := h
    rfl
  · obtain ⟨v, Bk, rfl, hB, gd, sm, q⟩ := h
    refine ⟨_, (pss_cons (ps_set (i := 1) sc_Lrows.nd rfl (Or.inl rfl) (pe_lst (pa_cons (pe_lst pa_nil) pa_nil)))
      (pss_cons (ps_for PassesOwn.never rfl (kpi_tup K (pe_ix (kix_tup K) (pv 0) pe_int (fun _ _ => rfl))) (pg_name (i := 2) sc_Lrows.nd rfl (Or.inl rfl))
        (pss_cons (ps_set (i := 3) sc_Lrows.nd rfl (Or.inl rfl) (pe_lst pa_nil))
        (pss_cons (ps_for PassesOwn.never rfl (kpi_list K (pv 1)) (pg_name (i := 4) sc_Lrows.nd rfl (Or.inl rfl))
          (pss_one (ps_for PassesOwn.never rfl (kpi_list K (pe_op op_cat (pe_callTy (klist_of K) (by rfl) B.list (by decide +kernel) (pa_cons (pv 2) pa_nil)) (pe_lst (pa_cons (pe_un un_neg pe_int) pa_nil)))) (pg_name (i := 5) sc_Lrows.nd rfl (Or.inl rfl))
            (pss_one (ps_if (PW.pt (pw_or (pt_cmpR op_lt (pv 5) pe_int (nomark _)) (pw_or1 (pt_cmpR op_lt (kbm K PySem.F.plainAttrs_list PySem.F.slot_list_count PySem.F.type_list_count (kcount K) (pv 4) (pa_cons (pv 5) pa_nil)) (pe_ix (kix_tup K) (pe_ix (kix_tup K) (pv 0) pe_int (fun _ _ => rfl)) (pv 5) (fun _ _ => rfl)) (nomark _)))))
              (pss_one (ps_expr (kbm K PySem.F.plainAttrs_list PySem.F.slot_list_append PySem.F.type_list_append mt_append (pv 3) (pa_cons (pe_op op_cat (pv 4) (pe_lst (pa_cons (pv 5) pa_nil))) pa_nil))))
              pss_nil)))))
        (pss_one (ps_set (i := 1) sc_Lrows.nd rfl (Or.inl rfl) (pv 3))))))
      (pss_one (ps_ret (pv 1))))), ?_⟩
    obtain ⟨ad, wa, ra, sa, wv, rv, rfl, h1, h2, h3, h4, h5, h6⟩ := hB
    have lw : wv.length = Bk.W.length := h3.1
    have hn5 := sm.n5
    have r5 := sm.row gd
    have rl5 := rowsL_len (B := bk Bk) r5
    refine ⟨Nat.zero_le _, fun x0 hx0 => ⟨by show 1 ≤ sizeLine; decide, fun l0 hl0 => ?_⟩⟩
    have s0 : St T [] H (upd (upd H x0 (.lst [])) l0 (.lst [.ref x0])) := (St.new hx0).trans (.new hl0)
    have r0 : Rl (upd (upd H x0 (.lst [])) l0 (.lst [.ref x0])) [x0] (rowsL (bk Bk) 0) := ⟨rfl, fun i x xs e1 e2 => by
      rcases i with _ | i
      · cases Option.some.inj e1
        cases Option.some.inj e2
        rw [upd_ne (ne_of_none upd_same hl0)]
        exact upd_same
      · simp at e1⟩
    have l0' : (upd (upd H x0 (.lst [])) l0 (.lst [.ref x0])) l0 = some (.lst ([x0].map V.ref)) := upd_same
    generalize upd (upd H x0 (.lst [])) l0 (.lst [.ref x0]) = H1 at s0 r0 l0' ⊢
    refine ⟨_, rfl, ad, _, 0, .ref wa, rfl, rfl, s0.sqT h1, atI_nat (j := 0) rfl, wa, rfl, ⟨_, s0.sqT h2⟩, ?_⟩
    refine for_tup (xs := wv) (fun i σ H' => ∃ l hs y2 y3 y4 y5, σ = [some (.ref ad), some (.ref l), y2, y3, y4, y5] ∧ St T [] H H' ∧ H' l = some (.lst (hs.map V.ref)) ∧ Rl H' hs (rowsL (bk Bk) i)) ⟨l0, [x0], none, none, none, none, rfl, s0, l0', r0⟩ ?_ ?_ ?_
    · rintro i σ H' _ ⟨_, _, _, _, _, _, _, st, _⟩
      exact st.sqT h2
    · rintro i x σ H' hx ⟨l, hs, y2, y3, y4, y5, rfl, st, hl, rl⟩
      have hi : i < Bk.W.length := by rw [← lw]; exact (List.getElem?_eq_some_iff.mp hx).1
      obtain ⟨px, ex, fx⟩ := h3.2 i _ (bkW hi)
      rw [hx] at ex
      cases Option.some.inj ex
      refine ⟨Nat.zero_le _, fun D hD => ?_⟩
      have p0 : RS T H' (upd H' D (.lst [])) D [] [] := ⟨(En.nil (T := T) (L := []) H').new hD (Mu.l (xs := [])), ⟨rfl, fun i x xs e => by simp at e⟩, by simp⟩
      generalize upd H' D (.lst []) = H2 at p0 ⊢
      have rli : (rowsL (bk Bk) i).length ≤ 1296 := Nat.le_trans (rl5 i) (Nat.pow_le_pow_right (n := 6) (by decide) (show i ≤ 4 by omega))
      refine ⟨_, rfl, l, rfl, ⟨_, .of (p0.en.st.lst hl (by simp))⟩, ?_⟩
      refine for_list (xs := hs.map V.ref) (fun j σ H3 => ∃ hs' y4 y5, σ = [some (.ref ad), some (.ref l), some (.ref px), some (.ref D), y4, y5] ∧ RS T H' H3 D hs' (((rowsL (bk Bk) i).take j).flatMap (xt (bk Bk) i))) ⟨[], y4, y5, rfl, p0⟩ ?_ ?_ ?_
      · rintro j σ H3 _ ⟨_, _, _, _, p⟩
        exact .of (p.en.st.lst hl (by simp))
      · rintro j xr σ H3 hxr ⟨hs', z4, z5, rfl, p⟩
        rw [List.getElem?_map] at hxr
        cases hh : hs[j]? with
        | none => rw [hh] at hxr; cases hxr
        | some xj =>
          rw [hh] at hxr
          cases Option.some.inj hxr
          have hjl : j < (rowsL (bk Bk) i).length := by rw [← rl.1]; exact (List.getElem?_eq_some_iff.mp hh).1
          obtain ⟨row, hrow⟩ : ∃ row, (rowsL (bk Bk) i)[j]? = some row := ⟨_, List.getElem?_eq_getElem hjl⟩
          have hxj := rl.2 j xj row hh hrow
          have rowmem := (rowsL_iff gd.wf i row).mp (List.mem_of_getElem? hrow)
          have rowlen : row.length = i := by
            obtain ⟨r, rfl, _⟩ := rowmem
            unfold eL
            rw [List.length_map, List.length_range]
          have st3 := st.trans p.en.st
          refine ⟨_, rfl, px, _, rfl, .inr (st3.ft fx).sq, fun c1 hc1 => ?_⟩
          have q1 : St T [] H3 (upd H3 c1 (.lst (((bk Bk).W i).map nV))) := .new hc1
          have hc1' : (upd H3 c1 (.lst (((bk Bk).W i).map nV))) c1 = some (.lst (((bk Bk).W i).map nV)) := upd_same
          generalize upd H3 c1 (.lst (((bk Bk).W i).map nV)) = H4 at q1 hc1' ⊢
          refine ⟨1, rfl, by show 1 ≤ sizeLine; decide, fun c2 hc2 => ?_⟩
          have q2 : St T [] H4 (upd H4 c2 (.lst [.int (-1)])) := .new hc2
          have hc2' : (upd H4 c2 (.lst [.int (-1)])) c2 = some (.lst [.int (-1)]) := upd_same
          generalize upd H4 c2 (.lst [.int (-1)]) = H5 at q2 hc2' ⊢
          refine ⟨c1, c2, _, _, rfl, rfl, q2.lst hc1' (by simp), hc2', by
            rw [List.length_map]
            have := r5 i
            exact small (by show _ + 1 ≤ _; omega), fun c3 hc3 => ?_⟩
          have q3 : St T [] H5 (upd H5 c3 (.lst (((bk Bk).W i).map nV ++ [.int (-1)]))) := .new hc3
          have hc3' : (upd H5 c3 (.lst (((bk Bk).W i).map nV ++ [.int (-1)]))) c3 = some (.lst ((((bk Bk).W i).map (fun b : Nat => (b : Int)) ++ [-1]).map V.int)) := by
            rw [upd_same, List.map_append, List.map_map]
            rfl
          have hcD : c3 ≠ D := (ne_of_none ((p.step (q1.trans q2)).at) hc3).symm
          have p5 := p.step ((q1.trans q2).trans q3)
          clear q1 q2 q3 hc1 hc2 hc3 hc1' hc2' p
          generalize upd H5 c3 (.lst (((bk Bk).W i).map nV ++ [.int (-1)])) = H6 at p5 hc3' ⊢
          refine ⟨c3, rfl, ⟨_, .of hc3'⟩, ?_⟩
          refine for_list (xs := (((bk Bk).W i).map (fun b : Nat => (b : Int)) ++ [-1]).map V.int) (fun kk σ H7 => ∃ hs' y5, σ = [some (.ref ad), some (.ref l), some (.ref px), some (.ref D), some (.ref xj), y5] ∧ H7 c3 = some (.lst ((((bk Bk).W i).map (fun b : Nat => (b : Int)) ++ [-1]).map V.int)) ∧ c3 ≠ D ∧ RS T H' H7 D hs' (((rowsL (bk Bk) i).take j).flatMap (xt (bk Bk) i) ++ ((((bk Bk).W i).map (fun b : Nat => (b : Int)) ++ [-1]).take kk).filterMap (x1 (bk Bk) row))) ?_ ?_ ?_ ?_
          · exact ⟨hs', z5, rfl, hc3', hcD, by rw [List.take_zero, List.filterMap_nil, List.append_nil]; exact p5⟩
          · rintro kk σ H7 _ ⟨_, _, _, e, _⟩
            exact .of e
          · rintro kk xb σ H7 hxb ⟨hs7, w5, rfl, hc7, hcD, p7⟩
            rw [List.getElem?_map] at hxb
            cases hb : (((bk Bk).W i).map (fun b : Nat => (b : Int)) ++ [-1])[kk]? with
            | none => rw [hb] at hxb; cases hxb
            | some b =>
              rw [hb] at hxb
              cases Option.some.inj hxb
              have st7 := st.trans p7.en.st
              have hxj7 := p7.en.st.lst hxj (by simp)
              have etk : ((((bk Bk).W i).map (fun b : Nat => (b : Int)) ++ [-1]).take (kk + 1)).filterMap (x1 (bk Bk) row) = ((((bk Bk).W i).map (fun b : Nat => (b : Int)) ++ [-1]).take kk).filterMap (x1 (bk Bk) row) ++ (x1 (bk Bk) row b).toList := by
                rw [List.take_add_one, hb, List.filterMap_append]
                congr 1
              have bpos : ¬ b < 0 → ∃ c, c ∈ (bk Bk).W i ∧ b = (c : Int) := fun hn => by
                rcases List.mem_append.mp (List.mem_of_getElem? hb) with z | z
                · obtain ⟨c, hc, e⟩ := List.mem_map.mp z
                  exact ⟨c, hc, e.symm⟩
                · rw [List.mem_singleton.mp z] at hn
                  exact absurd (by decide) hn
              dsimp only [gName, tIfS]
              refine cutT (fun c H8 => H8 = H7 ∧ c = decide (b < 0 ∨ row.count b < (bk Bk).S b.toNat)) (fun c H8 hC => ?_) (fun Q' hQ => ?_)
              · obtain ⟨rfl, rfl⟩ := hC
                refine ite2 (fun e => ?_) (fun e => ?_)
                · have e := of_decide_eq_true e
                  have ex1 : x1 (bk Bk) row b = some (row ++ [b]) := if_pos e
                  refine ⟨_, rfl, .inl ⟨rfl, _, .of p7.at⟩, _, rfl, _, rfl, by show 1 ≤ sizeLine; decide, fun c4 hc4 => ?_⟩
                  refine ⟨xj, c4, _, _, rfl, rfl, (St.new (T := T) (L := []) hc4).lst hxj7 (by simp), upd_same, by rw [List.length_map]; exact small (by show _ + 1 ≤ _; omega), fun t ht => ?_⟩
                  have p8 := p7.step ((St.new (o := .lst [.int b]) hc4).trans (St.new (o := .lst (row.map V.int ++ [.int b])) ht))
                  have hcc := ((St.new (T := T) (L := []) (o := .lst [.int b]) hc4).trans (St.new (o := .lst (row.map V.int ++ [.int b])) ht)).lst hc7 (by simp)
                  have htD : t ≠ D := (ne_of_none ((p7.step (St.new (o := .lst [.int b]) hc4)).at) ht).symm
                  have ht' : (upd (upd H8 c4 (.lst [.int b])) t (.lst (row.map V.int ++ [.int b]))) t = some (.lst ((row ++ [b]).map V.int)) := by
                    rw [upd_same, List.map_append]
                    rfl
                  generalize upd (upd H8 c4 (.lst [.int b])) t (.lst (row.map V.int ++ [.int b])) = H9 at p8 hcc ht' ⊢
                  refine ⟨D, _, .ref t, rfl, rfl, p8.at, by
                    rw [List.length_map, p8.rl.1, List.length_append]
                    have f1 := fm_len (B := bk Bk) (a := i) (c := 5) (r5 i) ((rowsL (bk Bk) i).take j)
                    have f2 := List.length_filterMap_le (x1 (bk Bk) row) ((((bk Bk).W i).map (fun b : Nat => (b : Int)) ++ [-1]).take kk)
                    rw [List.length_take] at f1 f2
                    rw [List.length_append, List.length_map, List.length_singleton] at f2
                    have := r5 i
                    exact small' (by omega), ?_⟩
                  have p9 := p8.app ht' htD
                  refine ⟨hs7 ++ [t], _, rfl, by rw [upd_ne hcD]; exact hcc, hcD, ?_⟩
                  rw [etk, ex1, ← List.append_assoc]
                  exact p9
                · have e := of_decide_eq_false (eq_false_of_ne_true e)
                  have ex1 : x1 (bk Bk) row b = none := if_neg e
                  refine ⟨hs7, _, rfl, hc7, hcD, ?_⟩
                  rw [etk, ex1]
                  show RS T H' H8 D hs7 (_ ++ (_ ++ []))
                  rw [List.append_nil]
                  exact p7
              · refine ⟨_, rfl, _, _, rfl, rfl, _, rfl, ite2 (fun e => ?_) (fun e => ?_)⟩
                · have e := of_decide_eq_true e
                  exact hQ _ _ ⟨rfl, (decide_eq_true (.inl e)).symm⟩
                · have e := of_decide_eq_false (eq_false_of_ne_true e)
                  obtain ⟨c, hcw, rfl⟩ := bpos e
                  have hcm := (gd.ltW hcw).2
                  have hS := bkS (B := Bk) (b := c) (by rw [gd.sl]; exact hcm)
                  refine ⟨_, rfl, .inl ⟨rfl, _, .of hxj7⟩, _, rfl, xj, row, (c : Int), rfl, rfl, .of hxj7, _, rfl, ad, _, 2, .ref sa, rfl, rfl, st7.sqT h1, atI_nat (j := 2) rfl, _, rfl, sa, _, (c : Int), nV ((bk Bk).S c), rfl, rfl, st7.sqT h6, atI_nat (by rw [List.getElem?_map, hS]; rfl), _, _, rfl, rfl, _, rfl, hQ _ _ ⟨rfl, ?_⟩⟩
                  rw [decide_eq_decide, Int.toNat_natCast]
                  omega
          · rintro σ H7 ⟨hs7, w5, rfl, hc7, hcD, p7⟩
            refine ⟨hs7, _, _, rfl, ?_⟩
            rw [List.length_map, List.take_length] at p7
            rw [List.take_add_one, hrow, List.flatMap_append]
            show RS T H' H7 D hs7 (_ ++ [row].flatMap _)
            rw [List.flatMap_cons, List.flatMap_nil, List.append_nil]
            exact p7
      · rintro σ H3 ⟨hs', z4, z5, rfl, p⟩
        rw [List.length_map, rl.1, List.take_length] at p
        exact ⟨_, rfl, D, hs', _, _, _, _, rfl, st.trans p.en.st, p.at, p.rl⟩
    · rintro σ H2 ⟨l, hs, y2, y3, y4, y5, rfl, st, hl, rl⟩
      rw [lw] at rl
      refine ⟨_, rfl, q l H2 ((rowsL (bk Bk) Bk.W.length).map dL) ⟨hs, hl, by rw [List.length_map]; exact rl.1, fun i x r e1 e2 => ?_⟩ (fun r => ?_) ?_ st⟩
      · rw [List.getElem?_map] at e2
        cases e3 : (rowsL (bk Bk) Bk.W.length)[i]? with
        | none => rw [e3] at e2; cases e2
        | some xs =>
          rw [e3] at e2
          cases Option.some.inj e2
          obtain ⟨r, rfl, h0, fe⟩ := (rowsL_iff gd.wf _ xs).mp (List.mem_of_getElem? e3)
          rw [dL_eL h0, enc_eL]
          exact rl.2 i x _ e1 e3
      · rw [List.mem_map]
        constructor
        · rintro ⟨xs, hxs, rfl⟩
          obtain ⟨r, rfl, h0, fe⟩ := (rowsL_iff gd.wf _ xs).mp hxs
          rw [dL_eL h0]
          exact fe
        · intro fe
          have h0 := fe.out gd.wf
          exact ⟨eL Bk.W.length r, (rowsL_iff gd.wf _ _).mpr ⟨r, rfl, h0, fe⟩, dL_eL h0⟩
      · rw [List.length_map]
        exact Nat.le_trans (rl5 _) (Nat.pow_le_pow_right (n := 6) (by decide) hn5)
end
end Z
namespace Z
open PySem PySem.Spec PyProof.Rows L2 Ma
section
variable {P : Program} {w : World} {K : PySem.W.Frag} {mg : Str → Option Value} {base : Heap} {T : Tb}
def spPlain (K : PySem.W.Frag) (T : Tb) : Sp := fun vs H Q _ => ∃ (v : V) (B : Bo), vs = [v] ∧ BkR K H v B ∧ Gd B ∧ Sm B ∧ ∀ (l : Addr) (H' : Hp) (rs : List Ma.Row), RwL H' l B.W.length rs → (∀ r, r ∈ rs ↔ Sta (bk B) r) → rs.length ≤ 7776 → St T [] H H' → Q (.ref l) H'
theorem ok_plain {f fL fM : Addr} {fd fdL fdM : FuncData} {k : Nat} (F : Fun K "_law_plain_rows" "_law_plain_rows" s_Lplain_rows f fd) (B : Bt mg) (G_rows : FnOk P w K mg base CX0 k fL fdL ["_law_office_here"] (spRows K T)) (g_rows : mg "_law_rows" = some (.ref fL)) (kp_rows : PySem.W.keepIn K (.ref fL) = true) (b_rows : Binds K fdL ["_law_office_here"] [])
    (G_claims : FnOk P w K mg base CX0 k fM fdM ["_law_office_here", "_law_row"] (spClaims K T)) (g_claims : mg "_law_claims" = some (.ref fM)) (kp_claims : PySem.W.keepIn K (.ref fM) = true) (b_claims : Binds K fdM ["_law_office_here", "_law_row"] []) :
    FnOk P w K mg base CX0 (k + 1) f fd ["_law_office_here"] (spPlain K T) := by
  refine F.ok sc_Lplain_rows (fun vs H Q E h => ?_) (fun cdv A outer s H vs Q E hr h => ?_)
  · obtain ⟨v, B, rfl, _⟩ := h
    rfl
  · obtain ⟨v, Bk, rfl, hB, gd, sm, q⟩ := h
    refine ⟨_, (pss_one (ps_ret (pe_lc (own := [("_law_row", 1)]) (tt := _) (by rfl) sc_Lplain_rows.nd (kpi_list K (pe_call G_rows hr (by rfl) g_rows kp_rows b_rows .nil pass0 (pa_cons (pv 0) pa_nil))) (blkOk_by (own := [("_law_row", 1)]) (N := n_Lplain_rows) (sc := defScope s_Lplain_rows) (by decide +kernel)) (fun _ _ _ _ _ => (pg_name (i := 1) sc_Lplain_rows.nd rfl (Or.inl rfl))) (fun _ _ _ _ _ => (pts_one (pt_not (ktruth K (pe_call G_claims hr (by rfl) g_claims kp_claims b_claims .nil pass0 (pa_cons (pv 0) (pa_cons (pv 1) pa_nil))) (by intro _; rfl))))) (fun _ _ _ _ _ => (pv 1))))), ?_⟩
    refine ⟨_, rfl, v, Bk, rfl, hB, gd, sm, fun l H1 rs hl hrs hrl st => ?_⟩
    obtain ⟨hs, hl1, hl2, hl3⟩ := hl
    refine ⟨l, rfl, ⟨_, .of hl1⟩, fun D hD => ?_⟩
    refine lc_list (xs := hs.map V.ref) (fun i H' => ∃ (hs' : List Addr) (rs' : List Ma.Row), En T [] H1 H' [(D, .lst (hs'.map V.ref))] ∧ hs'.length = rs'.length ∧ (∀ (j : Nat) (x : Addr) (r : Ma.Row), hs'[j]? = some x → rs'[j]? = some r → H1 x = some (.lst (enc Bk.W.length r))) ∧ rs'.length ≤ i ∧ ∀ r, r ∈ rs' ↔ r ∈ rs.take i ∧ Sta (bk Bk) r) ?_ ?_ ?_ ?_
    · exact ⟨[], [], (En.nil (T := T) (L := []) H1).new hD (Mu.l (xs := [])), rfl, fun j x r e => by simp at e, Nat.zero_le _, fun r => by simp⟩
    · rintro i H' _ ⟨_, _, en, _⟩
      exact .of (en.st.lst hl1 (by simp))
    · rintro i x H' hx ⟨hs', rs', en, c1, c2, c3, c4⟩
      rw [List.getElem?_map] at hx
      cases hh : hs[i]? with
      | none => rw [hh] at hx; cases hx
      | some xi =>
        rw [hh] at hx
        cases Option.some.inj hx
        obtain ⟨r, hr⟩ : ∃ r, rs[i]? = some r := ⟨_, List.getElem?_eq_getElem (by rw [← hl2]; exact (List.getElem?_eq_some_iff.mp hh).1)⟩
        have fe := (hrs r).mp (List.mem_of_getElem? hr)
        have hxi := hl3 i xi r hh hr
        have tk : ∀ v, v ∈ rs.take (i + 1) ↔ v ∈ rs.take i ∨ v = r := fun v => by
          rw [List.take_add_one, hr, List.mem_append]
          simp
        refine ⟨rfl, _, rfl, _, rfl, v, Bk, xi, r, rfl, hB.st (st.trans en.st), gd, .of (en.st.lst hxi (by simp)), fe.pr, fun lc H3 xs hlc hemp st3 => ?_⟩
        have en3 := en.step st3
        rcases xs with _ | ⟨y, xs⟩
        · have sta : Sta (bk Bk) r := ⟨fe, hemp.mp rfl⟩
          refine ⟨false, .inl ⟨_, .of hlc, rfl⟩, iteT ⟨_, rfl, hs'.map V.ref, en3.get (i := 0) rfl, by
            rw [List.length_map, c1]
            have := (List.getElem?_eq_some_iff.mp hr).1
            exact small' (by omega), hs' ++ [xi], rs' ++ [r], ?_, by rw [List.length_append, List.length_append, c1]; rfl, fun j x v e1 e2 => ?_, by rw [List.length_append]; simp only [List.length_singleton]; omega, fun v => ?_⟩⟩
          · rw [show hs'.map V.ref ++ [V.ref xi] = (hs' ++ [xi]).map V.ref by simp]
            exact en3.put (i := 0) rfl Mu.l
          · rcases Nat.lt_or_ge j hs'.length with z | z
            · rw [List.getElem?_append_left z] at e1
              rw [List.getElem?_append_left (by rw [← c1]; exact z)] at e2
              exact c2 j x v e1 e2
            · rw [List.getElem?_append_right z] at e1
              rw [List.getElem?_append_right (by rw [← c1]; exact z), ← c1] at e2
              cases jj : j - hs'.length with
              | zero =>
                rw [jj] at e1 e2
                cases Option.some.inj e1
                cases Option.some.inj e2
                exact hxi
              | succ j' =>
                rw [jj] at e1
                simp at e1
          · rw [List.mem_append, c4, List.mem_singleton, tk]
            constructor
            · rintro (z | rfl)
              · exact ⟨.inl z.1, z.2⟩
              · exact ⟨.inr rfl, sta⟩
            · rintro ⟨z | z, z2⟩
              · exact .inl ⟨z, z2⟩
              · exact .inr z
        · have nsta : ¬ Sta (bk Bk) r := fun z => nomatch hemp.mpr z.no
          refine ⟨true, .inl ⟨_, .of hlc, rfl⟩, iteF ⟨hs', rs', en3, c1, c2, by omega, fun v => ?_⟩⟩
          rw [c4, tk]
          constructor
          · exact fun z => ⟨.inl z.1, z.2⟩
          · rintro ⟨z | z, z2⟩
            · exact ⟨z, z2⟩
            · rw [z] at z2
              exact absurd z2 nsta
    · rintro H' ⟨hs', rs', en, c1, c2, c3, c4⟩
      rw [List.length_map, hl2] at c3 c4
      exact q D H' rs' ⟨hs', en.get (i := 0) rfl, c1, fun j x r e1 e2 => en.st.lst (c2 j x r e1 e2) (by simp)⟩ (fun r => by
        rw [c4, List.take_length, hrs]
        exact ⟨fun z => z.2, fun z => ⟨z.fe, z⟩⟩) (by omega) (st.trans en.st)
end
end Z
namespace Ma
theorem exMax (f : Nat → Nat) : ∀ l : List Nat, l ≠ [] → ∃ n, n ∈ l ∧ ∀ k, k ∈ l → f k ≤ f n
  | [], h => absurd rfl h
  | [x], _ => ⟨x, by simp, fun k hk => by rw [List.mem_singleton.mp hk]; exact Nat.le_refl _⟩
  | x :: y :: l, _ => by
    obtain ⟨n, h1, h2⟩ := exMax f (y :: l) (by simp)
    rcases Nat.lt_or_ge (f n) (f x) with z | z
    · exact ⟨x, by simp, fun k hk => by
        rcases List.mem_cons.mp hk with rfl | hk
        · exact Nat.le_refl _
        · exact Nat.le_trans (h2 k hk) (Nat.le_of_lt z)⟩
    · exact ⟨n, List.mem_cons_of_mem _ h1, fun k hk => by
        rcases List.mem_cons.mp hk with rfl | hk
        · exact z
        · exact h2 k hk⟩
end Ma
namespace Z
open PySem PySem.Spec PyProof.Rows L2 Ma
theorem ex_best0 {B : Ma.Bk} (wf : Wf B) : ∀ (m : Nat) (r : Ma.Row) (ks : List Nat) (hl : Nat → List Nat) (rl : List (Nat × Nat)) (ws : List Nat), PM B r ks hl rl ws → PMu B ks ws = m → ∃ r, Best B r := fun m => by
  induction m using Nat.strongRecOn with
  | ind m ih =>
    intro r ks hl rl ws pm e
    subst e
    rcases List.eq_nil_or_concat ws with rfl | ⟨ws', x, rfl⟩
    · exact ⟨r, pm.pa.best wf fun x hx => pm.dn x (by simp) hx⟩
    · rw [List.concat_eq_append] at pm ih
      rcases Nat.lt_or_ge (kf ks x) (B.W x).length with h | h
      · obtain ⟨b, hb⟩ : ∃ b, (B.W x)[kf ks x]? = some b := ⟨_, List.getElem?_eq_getElem h⟩
        rcases Nat.lt_or_ge (B.S b) (hl b ++ [x]).length with e2 | e2
        · obtain ⟨l, hl1, hl2⟩ := exMax (fun n => (B.R b).idxOf n) (hl b ++ [x]) (by simp)
          obtain ⟨m1, m2, _⟩ := pm.refuse wf hb e2 hl1 hl2
          exact ih _ m2 _ _ _ _ _ m1 rfl
        · obtain ⟨m1, m2⟩ := pm.place wf hb e2
          exact ih _ m2 _ _ _ _ _ m1 rfl
      · obtain ⟨m1, m2⟩ := pm.rest (a := x) h
        exact ih _ m2 _ _ _ _ _ m1 rfl
theorem ex_best {B : Ma.Bk} (wf : Wf B) : ∃ r, Best B r := by
  have k0 : kf (List.replicate B.n 0) = fun _ => 0 := by
    funext b
    unfold kf
    rw [List.getD_eq_getElem?_getD, List.getElem?_replicate]
    split <;> rfl
  refine ex_best0 wf _ (fun _ => none) (List.replicate B.n 0) (fun _ => []) [] (List.range B.n) ⟨by rw [k0]; exact .start, by rw [List.length_replicate], fun _ => List.nodup_nil, fun b x => by simp, by rw [k0]; exact .start, by rw [k0, tot_zero]; rfl, List.nodup_range, fun x hx => ⟨List.mem_range.mp hx, rfl⟩, fun x hx _ => ?_⟩ rfl
  rw [wf.wl x (by
    have : ¬ x < B.n := fun z => hx (List.mem_range.mpr z)
    omega)]
  exact Nat.zero_le _
theorem ex_worst0 {B : Ma.Bk} (wf : Wf B) : ∀ (m : Nat) (r : Ma.Row) (qs fs : List Nat) (kv rl : List (Nat × Nat)) (ws : List Nat), SM B r qs fs kv rl ws → SMu B qs ws = m → ∃ r, Worst B r := fun m => by
  induction m using Nat.strongRecOn with
  | ind m ih =>
    intro r qs fs kv rl ws sm e
    subst e
    rcases List.eq_nil_or_concat ws with rfl | ⟨ws', b, rfl⟩
    · refine ⟨r, sm.sa.worst wf fun b => ?_⟩
      rcases Nat.lt_or_ge b B.m with z | z
      · exact sm.dn b z (by simp)
      · rw [wf.rl b z]
        exact .inl (Nat.zero_le _)
    · rw [List.concat_eq_append] at sm ih
      by_cases h : 0 < kf fs b ∧ kf qs b < (B.R b).length
      · obtain ⟨c, hc⟩ : ∃ c, (B.R b)[kf qs b]? = some c := ⟨_, List.getElem?_eq_getElem h.2⟩
        have ask := sm.ask wf h.1 hc
        cases hr : r c with
        | none =>
          obtain ⟨m1, m2⟩ := sm.take1 wf ask hr
          exact ih _ m2 _ _ _ _ _ _ m1 rfl
        | some d =>
          have hd := sm.sa.mem hr
          have hdm : d < B.m := by
            rcases Nat.lt_or_ge d B.m with z | z
            · exact z
            · rw [wf.rl d z] at hd
              cases hd
          rcases Nat.le_total ((B.W c).idxOf b) ((B.W c).idxOf d) with z | z
          · obtain ⟨m1, m2⟩ := sm.take2 wf ask hr hdm z
            exact ih _ m2 _ _ _ _ _ _ m1 rfl
          · obtain ⟨m1, m2⟩ := sm.stay wf ask hr z
            exact ih _ m2 _ _ _ _ _ _ m1 rfl
      · obtain ⟨m1, m2⟩ := sm.rest h
        exact ih _ m2 _ _ _ _ _ _ m1 rfl
theorem ex_worst {B : Ma.Bk} (wf : Wf B) : ∃ r, Worst B r := by
  have k0 : kf (List.replicate B.m 0) = fun _ => 0 := by
    funext b
    unfold kf
    rw [List.getD_eq_getElem?_getD, List.getElem?_replicate]
    split <;> rfl
  have cz : ∀ b, Ma.cnt B (fun _ => none) b = 0 := fun b => by
    unfold Ma.cnt
    exact List.countP_eq_zero.mpr fun _ _ => by simp
  refine ex_worst0 wf _ (fun _ => none) (List.replicate B.m 0) ((List.range B.m).map B.S) [] [] (List.range B.m) ⟨by rw [k0]; exact .start wf, by rw [List.length_replicate], by rw [List.length_map, List.length_range], fun b hb => ?_, List.nodup_nil, fun a b => by simp, by rw [k0, tot_zero]; exact Nat.le_refl _, by rw [k0]; exact .start, by rw [k0, tot_zero]; exact Nat.le_refl _,
    fun b hb => List.mem_range.mp hb, by rw [List.length_range]; exact Nat.le_add_right _ _, fun b hb hw => absurd (List.mem_range.mpr hb) hw⟩ rfl
  rw [cz]
  unfold kf
  rw [List.getD_eq_getElem?_getD, List.getElem?_map, List.getElem?_range hb]
  rfl
theorem cutS {t : TS} {D : Ends} {σ : L2.St} {H : Hp} (C : L2.St → Hp → Prop) (h : ∀ σ' H', C σ' H' → D.nx σ' H') (g : ∀ D' : Ends, (∀ σ' H', C σ' H' → D'.nx σ' H') → t D' σ H) : t D σ H := g D h
theorem enc_succ (n : Nat) (r : Ma.Row) : enc (n + 1) r = enc n r ++ [V.int (encO (r n))] := by
  unfold enc
  rw [List.range_succ, List.map_append]
  rfl
section
variable {P : Program} {w : World} {K : PySem.W.Frag} {mg : Str → Option Value} {base : Heap} {T : Tb}
def spEnd (K : PySem.W.Frag) (T : Tb) : Sp := fun vs H Q _ => ∃ (v : V) (B : Bo) (l : Addr) (c : Bool) (rs : List Ma.Row) (r0 : Ma.Row), vs = [v, .ref l, .bl c] ∧ BkR K H v B ∧ Gd B ∧ RwL H l B.W.length rs ∧ rs.length ≤ 7776 ∧ (∀ r, r ∈ rs ↔ Sta (bk B) r) ∧ (c = true → Best (bk B) r0) ∧ (c = false → Worst (bk B) r0) ∧
  ∀ (d : Addr) (H' : Hp), H' d = some (.lst (enc B.W.length r0)) → St T [] H H' → Q (.ref d) H'
theorem ok_end {f fL : Addr} {fd fdL : FuncData} {k : Nat} (F : Fun K "_law_end" "_law_end" s_Lend f fd) (B : Bt mg) (G_spot : FnOk P w K mg base CX0 k fL fdL ["_law_office_here", "_law_a", "_law_b"] (spSpot K)) (g_spot : mg "_law_spot" = some (.ref fL)) (kp_spot : PySem.W.keepIn K (.ref fL) = true) (b_spot : Binds K fdL ["_law_office_here", "_law_a", "_law_b"] []) :
    FnOk P w K mg base CX0 (k + 1) f fd ["_law_office_here", "_law_rows_here", "_law_best"] (spEnd K T) := by
  refine F.ok sc_Lend (fun vs H Q E h => ?_) (fun cdv A outer s H vs Q E hr h => ?_)
  · obtain ⟨v, B, l, c, rs, r0, rfl, _⟩ := h
    rfl
  · obtain ⟨v, Bk, l, c, rs, r0, rfl, hB, gd, hl, hrl, hrs, hbest, hworst, q⟩ := h
    refine ⟨_, (pss_cons (ps_set (i := 3) sc_Lend.nd rfl (Or.inl rfl) (pe_lst pa_nil))
      (pss_cons (ps_for PassesOwn.never rfl (pi_range1 (by rfl) B.range (pa_cons (pe_callB (klen K) (by rfl) B.len (by decide +kernel) (pa_cons (pe_ix (kix_tup K) (pv 0) pe_int (fun _ _ => rfl)) pa_nil)) pa_nil)) (pg_name (i := 4) sc_Lend.nd rfl (Or.inr rfl))
        (pss_cons (ps_setLc (i := 5) (own := [("_law_row", 6)]) (tt := tYes) (by rfl) sc_Lend.nd rfl rfl (sw_true rfl rfl rfl (by decide +kernel)) (kpi_list K (pv 1)) (blkOk_by (own := [("_law_row", 6)]) (N := n_Lend) (sc := defScope s_Lend) (by decide +kernel)) (fun _ _ _ _ _ => (pg_name (i := 6) sc_Lend.nd rfl (Or.inl rfl))) (fun _ _ _ _ _ => pts_nil) (fun _ _ _ _ _ => (pe_call G_spot hr (by rfl) g_spot kp_spot b_spot .nil pass0 (pa_cons (pv 0) (pa_cons (pv 4) (pa_cons (pe_ix (kix_list K) (pv 6) (pv 4) (fun _ _ => rfl)) pa_nil))))))
        (pss_cons (ps_set (i := 7) sc_Lend.nd rfl (Or.inl rfl) (pe_callB (cr_max rfl) (by rfl) B.max (by decide +kernel) (pa_cons (pv 5) pa_nil)))
        (pss_cons (ps_if (pt_val (pv 2))
          (pss_one (ps_set (i := 7) sc_Lend.nd rfl (Or.inl rfl) (pe_callB (cr_min rfl) (by rfl) B.min (by decide +kernel) (pa_cons (pv 5) pa_nil))))
          pss_nil)
        (pss_one (ps_if (pt_cmpR op_eq (pv 7) (pe_callB (klen K) (by rfl) B.len (by decide +kernel) (pa_cons (pe_ix (kix_tup K) (pe_ix (kix_tup K) (pv 0) pe_int (fun _ _ => rfl)) (pv 4) (fun _ _ => rfl)) pa_nil)) (nomark _))
          (pss_one (ps_expr (kbm K PySem.F.plainAttrs_list PySem.F.slot_list_append PySem.F.type_list_append mt_append (pv 3) (pa_cons (pe_un un_neg pe_int) pa_nil))))
          (pss_one (ps_expr (kbm K PySem.F.plainAttrs_list PySem.F.slot_list_append PySem.F.type_list_append mt_append (pv 3) (pa_cons (pe_ix (kix_tup K) (pe_ix (kix_tup K) (pe_ix (kix_tup K) (pv 0) pe_int (fun _ _ => rfl)) (pv 4) (fun _ _ => rfl)) (pv 7) (fun _ _ => rfl)) pa_nil))))))))))
      (pss_one (ps_ret (pv 3))))), ?_⟩
    have hB0 := hB
    obtain ⟨ad, wa, ra, sa, wv, rv, rfl, h1, h2, h3, h4, h5, h6⟩ := hB
    have lw : wv.length = Bk.W.length := h3.1
    have hnl := gd.nl
    obtain ⟨hs, hl1, hl2, hl3⟩ := hl
    have sta0 : Sta (bk Bk) r0 := by
      cases c with
      | true => exact (hbest rfl).st
      | false => exact (hworst rfl).st
    have r0m := (hrs r0).mpr sta0
    refine ⟨Nat.zero_le _, fun d hd => ?_⟩
    have p0 : En T [] H (upd H d (.lst [])) [(d, .lst (enc 0 r0))] := (En.nil (T := T) (L := []) H).new hd (Mu.l (xs := []))
    generalize upd H d (.lst []) = H1 at p0 ⊢
    refine ⟨_, rfl, ad, _, 0, .ref wa, rfl, rfl, p0.st.sqT h1, atI_nat (j := 0) rfl, wa, wv, rfl, .inr (p0.st.sqT h2), _, rfl, by omega, by omega, ?_⟩
    rw [lw, Int.toNat_natCast]
    refine for_range (fun i σ H' => ∃ y4 y5 y7, σ = [some (.ref ad), some (.ref l), some (.bl c), some (.ref d), y4, y5, none, y7] ∧ En T [] H H' [(d, .lst (enc i r0))]) ⟨none, none, none, rfl, p0⟩ ?_ ?_
    · rintro i σ H' hi ⟨y4, y5, y7, rfl, en⟩
      rw [Int.zero_add]
      obtain ⟨px, ex, fx⟩ := h3.2 i _ (bkW hi)
      have r12 := gd.row12 i
      have hl1' := en.st.lst hl1 (by simp)
      refine ⟨_, rfl, l, rfl, ⟨_, .of hl1'⟩, fun D hD => ?_⟩
      refine lc_list (xs := hs.map V.ref) (fun j H2 => En T [] H' H2 [(D, .lst (((rs.take j).map fun r => spot (bk Bk) i (r i)).map nV))]) ((En.nil (T := T) (L := []) H').new hD (Mu.l (xs := []))) ?_ ?_ ?_
      · rintro j H2 _ e2
        exact .of (e2.st.lst hl1' (by simp))
      · rintro j x H2 hx e2
        rw [List.getElem?_map] at hx
        cases hh : hs[j]? with
        | none => rw [hh] at hx; cases hx
        | some xi =>
          rw [hh] at hx
          cases Option.some.inj hx
          obtain ⟨r, hr⟩ : ∃ r, rs[j]? = some r := ⟨_, List.getElem?_eq_getElem (by rw [← hl2]; exact (List.getElem?_eq_some_iff.mp hh).1)⟩
          have sta := (hrs r).mp (List.mem_of_getElem? hr)
          have st2 := en.st.trans e2.st
          have hxi := st2.lst (hl3 j xi r hh hr) (by simp)
          refine ⟨rfl, yes ⟨_, rfl, _, rfl, _, rfl, _, rfl, xi, _, (i : Int), _, rfl, rfl, .of hxi, atI_nat (enc_at r hi), .ref ad, Bk, i, r i, rfl, hB0.st st2, hi, fun b hb => sta.fe.pr i b hb, _, e2.get (i := 0) rfl, by
            rw [List.length_map, List.length_map, List.length_take]
            exact small' (by omega), ?_⟩⟩
          rw [List.take_add_one, hr, List.map_append, List.map_append]
          exact e2.put (i := 0) rfl Mu.l
      · intro H2 e2
        rw [List.length_map, hl2, List.take_length] at e2
        have en2 := en.step e2.st
        have hD2 : H2 D = some (.lst (((rs.map fun r => spot (bk Bk) i (r i)).map ci).map V.int)) := by rw [← map_nV]; exact e2.get (i := 0) rfl
        have ne : 0 < ((rs.map fun r => spot (bk Bk) i (r i)).map ci).length := by
          rw [List.length_map, List.length_map]
          exact List.length_pos_of_mem r0m
        have inn : ci (spot (bk Bk) i (r0 i)) ∈ (rs.map fun r => spot (bk Bk) i (r i)).map ci := mem_ci (List.mem_map.mpr ⟨r0, r0m, rfl⟩)
        have out : ∀ z, z ∈ (rs.map fun r => spot (bk Bk) i (r i)).map ci → ∃ r, Sta (bk Bk) r ∧ z = ci (spot (bk Bk) i (r i)) := fun z hz => by
          obtain ⟨n, hn, rfl⟩ := of_mem_ci hz
          obtain ⟨r, hr, rfl⟩ := List.mem_map.mp hn
          exact ⟨r, (hrs r).mp hr, rfl⟩
        refine ⟨_, rfl, D, _, rfl, .of hD2, ne, fun mx hmx hle => ?_⟩
        dsimp only [gName, tSeq]
        refine cutS (fun σ3 H3 => H3 = H2 ∧ σ3 = [some (.ref ad), some (.ref l), some (.bl c), some (.ref d), some (nV i), some (.ref D), none, some (nV (spot (bk Bk) i (r0 i)))]) (fun σ3 H3 hC => ?_) (fun D' hQ => ?_)
        · obtain ⟨rfl, rfl⟩ := hC
          have sq0 := (en2.st.ft fx).sq (K := K)
          refine ⟨_, rfl, _, rfl, ad, _, 0, .ref wa, rfl, rfl, en2.st.sqT h1, atI_nat (j := 0) rfl, _, rfl, wa, wv, (i : Int), .ref px, rfl, rfl, en2.st.sqT h2, atI_nat ex, px, _, rfl, .inr sq0, rfl, _, rfl, ite2 (fun e => ?_) (fun e => ?_)⟩
          · have e := of_decide_eq_true e
            rw [List.length_map] at e
            injection e with e
            have hn : r0 i = none := by
              cases hx : r0 i with
              | none => rfl
              | some b =>
                have := List.idxOf_lt_length_of_mem (sta0.fe.pr i b hx)
                rw [spot_some hx] at e
                omega
            refine ⟨_, rfl, .inl ⟨rfl, _, .of (en2.get (i := 0) rfl)⟩, 1, rfl, d, _, _, rfl, rfl, en2.get (i := 0) rfl, by rw [enc_len]; exact small' (by omega), ?_⟩
            refine ⟨_, _, _, rfl, ?_⟩
            rw [enc_succ, hn]
            exact en2.put (i := 0) rfl Mu.l
          · have e : ¬ nV (spot (bk Bk) i (r0 i)) = V.int ((((bk Bk).W i).map nV).length : Int) := of_decide_eq_false (eq_false_of_ne_true e)
            cases hx : r0 i with
            | none =>
              rw [hx] at e
              rw [List.length_map] at e
              exact absurd rfl e
            | some b =>
              have hg := get_idx (sta0.fe.pr i b hx)
              refine ⟨_, rfl, .inl ⟨rfl, _, .of (en2.get (i := 0) rfl)⟩, _, rfl, ad, _, 0, .ref wa, rfl, rfl, en2.st.sqT h1, atI_nat (j := 0) rfl, _, rfl, wa, wv, (i : Int), .ref px, rfl, rfl, en2.st.sqT h2, atI_nat ex, _, rfl, px, _, (spot (bk Bk) i (some b) : Int), nV b, rfl, rfl, sq0, atI_nat (by rw [List.getElem?_map]; show Option.map nV (((bk Bk).W i)[((bk Bk).W i).idxOf b]?) = _; rw [hg]; rfl), d, _, _, rfl, rfl, en2.get (i := 0) rfl, by rw [enc_len]; exact small' (by omega), ?_⟩
              refine ⟨_, _, _, rfl, ?_⟩
              rw [enc_succ, hx]
              exact en2.put (i := 0) rfl Mu.l
        · cases c with
          | true =>
            refine ⟨_, rfl, true, rfl, iteT ⟨_, rfl, D, _, rfl, .of hD2, ne, fun mn hmn hle2 => hQ _ _ ⟨rfl, ?_⟩⟩⟩
            obtain ⟨r, sta, rfl⟩ := out mn hmn
            have h1 := (hbest rfl).le r sta i
            have h2 := hle2 _ inn
            unfold ci at h2
            have : spot (bk Bk) i (r i) = spot (bk Bk) i (r0 i) := by omega
            rw [this]
            rfl
          | false =>
            refine ⟨_, rfl, false, rfl, iteF (hQ _ _ ⟨rfl, ?_⟩)⟩
            obtain ⟨r, sta, rfl⟩ := out mx hmx
            have h1 := (hworst rfl).le r sta i
            have h2 := hle _ inn
            unfold ci at h2
            have : spot (bk Bk) i (r i) = spot (bk Bk) i (r0 i) := by omega
            rw [this]
            rfl
    · rintro σ H2 ⟨y4, y5, y7, rfl, en⟩
      exact ⟨_, rfl, q d H2 (en.get (i := 0) rfl) en.st⟩
end
end Z
namespace Z
open PySem PySem.Spec PyProof.Rows L2 Ma
theorem sqT_ty {K : PySem.W.Frag} {H : Hp} {a : Addr} {xs : List V} (h : SqT K H a xs) : TyX K H (.ref a) (.type "tuple") := by
  rcases h with (h | ⟨o, h⟩) | ⟨o, its, n, h, c, _⟩
  · exact .base (.tup h)
  · exact .fTuple h
  · exact .kTuple h c
/-- two values of the same shape with the same numbers -/
def Eqv (K : PySem.W.Frag) (H : Hp) : Nat → V → V → Prop
  | 0, x, y => ∃ i : Int, x = .int i ∧ y = .int i
  | d + 1, x, y => ∃ (t u : Addr) (xs ys : List V), x = .ref t ∧ y = .ref u ∧ SqT K H t xs ∧ SqT K H u ys ∧ xs.length = ys.length ∧ ys.length ≤ 1000 ∧ ∀ (k : Nat) (v w : V), xs[k]? = some v → ys[k]? = some w → Eqv K H d v w
section
variable {P : Program} {w : World} {K : PySem.W.Frag} {mg : Str → Option Value} {base : Heap} {T : Tb}
def spSame (K : PySem.W.Frag) (d : Nat) : Sp := fun vs H Q _ => ∃ x y, vs = [x, y] ∧ Eqv K H d x y ∧ Q (.bl true) H
def spNo : Sp := fun _ _ _ _ => False
theorem ok_no {k : Nat} {f : Addr} {fd : FuncData} {ps : List Str} : FnOk P w K mg base CX0 k f fd ps spNo := ⟨fun _ _ _ _ h => h.elim, fun _ _ _ _ _ _ _ _ _ _ _ _ _ h => h.elim⟩
theorem ok_same0 {f : Addr} {fd : FuncData} {k : Nat} (F : Fun K "_law_same" "_law_same" s_Lsame f fd) (B : Bt mg) (g_same : mg "_law_same" = some (.ref f)) (kp_same : PySem.W.keepIn K (.ref f) = true) (b_same : Binds K fd ["_law_told_here", "_law_due"] []) :
    FnOk P w K mg base CX0 (k + 1) f fd ["_law_told_here", "_law_due"] (spSame K 0) := by
  have G_same : FnOk P w K mg base CX0 k f fd ["_law_told_here", "_law_due"] spNo := ok_no
  refine F.ok sc_Lsame (fun vs H Q E h => ?_) (fun cdv A outer s H vs Q E hr h => ?_)
  · obtain ⟨x, y, rfl, _⟩ := h
    rfl
  · obtain ⟨x, y, rfl, ⟨i, rfl, rfl⟩, q⟩ := h
    refine ⟨_, (pss_cons (ps_if (pt_val (pe_callB call_isi (by rfl) B.isinstance (by decide +kernel) (pa_cons (pv 1) (pa_cons (pe_bltn (v := .ty "tuple") (u := .type "tuple") (by rfl) B.tuple (by decide +kernel) rfl) pa_nil))))
        (pss_cons (ps_if (PW.pt (pw_or (pt_not (pt_val (pe_callB call_isi (by rfl) B.isinstance (by decide +kernel) (pa_cons (pv 0) (pa_cons (pe_bltn (v := .ty "tuple") (u := .type "tuple") (by rfl) B.tuple (by decide +kernel) rfl) pa_nil))))) (pw_or1 (pt_cmpR op_ne (pe_callB (klen K) (by rfl) B.len (by decide +kernel) (pa_cons (pv 0) pa_nil)) (pe_callB (klen K) (by rfl) B.len (by decide +kernel) (pa_cons (pv 1) pa_nil)) (nomark _)))))
          (pss_one (ps_ret pe_bl))
          pss_nil)
        (pss_cons (ps_for PassesOwn.never rfl (pi_range1 (by rfl) B.range (pa_cons (pe_callB (klen K) (by rfl) B.len (by decide +kernel) (pa_cons (pv 1) pa_nil)) pa_nil)) (pg_name (i := 2) sc_Lsame.nd rfl (Or.inl rfl))
          (pss_one (ps_if (pt_not (pt_val (pe_call G_same hr (by rfl) g_same kp_same b_same .nil pass0 (pa_cons (pe_ix (kix_tup K) (pv 0) (pv 2) (fun _ _ => rfl)) (pa_cons (pe_ix (kix_tup K) (pv 1) (pv 2) (fun _ _ => rfl)) pa_nil)))))
            (pss_one (ps_ret pe_bl))
            pss_nil)))
        (pss_one (ps_ret pe_bl))))
        pss_nil)
      (pss_cons (ps_if (pt_cmpR op_isN (pv 1) pe_non (nomark _))
        (pss_one (ps_ret (pe_cmpR op_isN (pv 0) pe_non (nomark _))))
        pss_nil)
      (pss_cons (ps_if (pt_val (pe_callB call_isi (by rfl) B.isinstance (by decide +kernel) (pa_cons (pv 1) (pa_cons (pe_bltn (v := .ty "str") (u := .type "str") (by rfl) B.str (by decide +kernel) rfl) pa_nil))))
        (pss_one (ps_ret (pe_and (pe_callB call_isi (by rfl) B.isinstance (by decide +kernel) (pa_cons (pv 0) (pa_cons (pe_bltn (v := .ty "str") (u := .type "str") (by rfl) B.str (by decide +kernel) rfl) pa_nil))) (pe_one (pe_cmpR op_eq (pv 0) (pv 1) (nomark _))))))
        pss_nil)
      (pss_one (ps_ret (pe_and (pe_callB call_isi (by rfl) B.isinstance (by decide +kernel) (pa_cons (pv 0) (pa_cons (pe_bltn (v := .ty "int") (u := .type "int") (by rfl) B.int (by decide +kernel) rfl) pa_nil))) (pe_and (pe_not (pe_callB call_isi (by rfl) B.isinstance (by decide +kernel) (pa_cons (pv 0) (pa_cons (pe_bltn (v := .ty "bool") (u := .type "bool") (by rfl) B.bool (by decide +kernel) rfl) pa_nil)))) (pe_one (pe_cmpR op_eq (pv 0) (pv 1) (nomark _)))))))))), ?_⟩
    refine ⟨_, rfl, _, .ty "tuple", .type "int", .type "tuple", false, rfl, .ty _, .base (.int i), kit_ty (by decide +kernel), false, rfl, iteF ?_⟩
    refine ⟨_, rfl, rfl, _, rfl, iteF ?_⟩
    refine ⟨_, rfl, _, .ty "str", .type "int", .type "str", false, rfl, .ty _, .base (.int i), kit_ty (by decide +kernel), false, rfl, iteF ?_⟩
    refine ⟨_, rfl, _, .ty "int", .type "int", .type "int", true, rfl, .ty _, .base (.int i), kit_ty (by decide +kernel), true, rfl, iteT ?_⟩
    refine ⟨_, rfl, _, .ty "bool", .type "int", .type "bool", false, rfl, .ty _, .base (.int i), kit_ty (by decide +kernel), false, rfl, true, rfl, iteT ?_⟩
    refine ⟨_, rfl, _, rfl, rfl, ?_⟩
    rw [decide_eq_true (rfl : V.int i = V.int i)]
    exact q
theorem ok_sameS {f : Addr} {fd : FuncData} {k d : Nat} (F : Fun K "_law_same" "_law_same" s_Lsame f fd) (B : Bt mg) (g_same : mg "_law_same" = some (.ref f)) (kp_same : PySem.W.keepIn K (.ref f) = true) (b_same : Binds K fd ["_law_told_here", "_law_due"] []) (G_same : FnOk P w K mg base CX0 k f fd ["_law_told_here", "_law_due"] (spSame K d)) :
    FnOk P w K mg base CX0 (k + 1) f fd ["_law_told_here", "_law_due"] (spSame K (d + 1)) := by
  refine F.ok sc_Lsame (fun vs H Q E h => ?_) (fun cdv A outer s H vs Q E hr h => ?_)
  · obtain ⟨x, y, rfl, _⟩ := h
    rfl
  · obtain ⟨x, y, rfl, ⟨t, u, xs, ys, rfl, rfl, ht, hu, hl, hy, he⟩, q⟩ := h
    refine ⟨_, (pss_cons (ps_if (pt_val (pe_callB call_isi (by rfl) B.isinstance (by decide +kernel) (pa_cons (pv 1) (pa_cons (pe_bltn (v := .ty "tuple") (u := .type "tuple") (by rfl) B.tuple (by decide +kernel) rfl) pa_nil))))
        (pss_cons (ps_if (PW.pt (pw_or (pt_not (pt_val (pe_callB call_isi (by rfl) B.isinstance (by decide +kernel) (pa_cons (pv 0) (pa_cons (pe_bltn (v := .ty "tuple") (u := .type "tuple") (by rfl) B.tuple (by decide +kernel) rfl) pa_nil))))) (pw_or1 (pt_cmpR op_ne (pe_callB (klen K) (by rfl) B.len (by decide +kernel) (pa_cons (pv 0) pa_nil)) (pe_callB (klen K) (by rfl) B.len (by decide +kernel) (pa_cons (pv 1) pa_nil)) (nomark _)))))
          (pss_one (ps_ret pe_bl))
          pss_nil)
        (pss_cons (ps_for PassesOwn.never rfl (pi_range1 (by rfl) B.range (pa_cons (pe_callB (klen K) (by rfl) B.len (by decide +kernel) (pa_cons (pv 1) pa_nil)) pa_nil)) (pg_name (i := 2) sc_Lsame.nd rfl (Or.inl rfl))
          (pss_one (ps_if (pt_not (pt_val (pe_call G_same hr (by rfl) g_same kp_same b_same .nil pass0 (pa_cons (pe_ix (kix_tup K) (pv 0) (pv 2) (fun _ _ => rfl)) (pa_cons (pe_ix (kix_tup K) (pv 1) (pv 2) (fun _ _ => rfl)) pa_nil)))))
            (pss_one (ps_ret pe_bl))
            pss_nil)))
        (pss_one (ps_ret pe_bl))))
        pss_nil)
      (pss_cons (ps_if (pt_cmpR op_isN (pv 1) pe_non (nomark _))
        (pss_one (ps_ret (pe_cmpR op_isN (pv 0) pe_non (nomark _))))
        pss_nil)
      (pss_cons (ps_if (pt_val (pe_callB call_isi (by rfl) B.isinstance (by decide +kernel) (pa_cons (pv 1) (pa_cons (pe_bltn (v := .ty "str") (u := .type "str") (by rfl) B.str (by decide +kernel) rfl) pa_nil))))
        (pss_one (ps_ret (pe_and (pe_callB call_isi (by rfl) B.isinstance (by decide +kernel) (pa_cons (pv 0) (pa_cons (pe_bltn (v := .ty "str") (u := .type "str") (by rfl) B.str (by decide +kernel) rfl) pa_nil))) (pe_one (pe_cmpR op_eq (pv 0) (pv 1) (nomark _))))))
        pss_nil)
      (pss_one (ps_ret (pe_and (pe_callB call_isi (by rfl) B.isinstance (by decide +kernel) (pa_cons (pv 0) (pa_cons (pe_bltn (v := .ty "int") (u := .type "int") (by rfl) B.int (by decide +kernel) rfl) pa_nil))) (pe_and (pe_not (pe_callB call_isi (by rfl) B.isinstance (by decide +kernel) (pa_cons (pv 0) (pa_cons (pe_bltn (v := .ty "bool") (u := .type "bool") (by rfl) B.bool (by decide +kernel) rfl) pa_nil)))) (pe_one (pe_cmpR op_eq (pv 0) (pv 1) (nomark _)))))))))), ?_⟩
    refine ⟨_, rfl, _, .ty "tuple", .type "tuple", .type "tuple", true, rfl, .ty _, sqT_ty hu, kit_ty (by decide +kernel), true, rfl, iteT ?_⟩
    refine ⟨_, rfl, _, .ty "tuple", .type "tuple", .type "tuple", true, rfl, .ty _, sqT_ty ht, kit_ty (by decide +kernel), true, rfl, iteF ⟨_, rfl, t, xs, rfl, .inr ht, _, rfl, u, ys, rfl, .inr hu, rfl, _, rfl, ?_⟩⟩
    rw [show (!decide (V.int (xs.length : Int) = V.int (ys.length : Int))) = false by rw [hl]; simp]
    refine iteF ?_
    refine ⟨_, rfl, u, ys, rfl, .inr hu, _, rfl, by omega, by omega, ?_⟩
    rw [Int.toNat_natCast]
    refine for_range (fun i σ H' => ∃ z, σ = [some (.ref t), some (.ref u), z] ∧ H' = H) ⟨none, rfl, rfl⟩ ?_ ?_
    · rintro i σ H' hi ⟨z, rfl, rfl⟩
      rw [Int.zero_add]
      have e2 : ys[i]? = some ys[i] := List.getElem?_eq_getElem hi
      have e1 : xs[i]? = some (xs[i]'(by omega)) := List.getElem?_eq_getElem _
      exact ⟨_, rfl, _, rfl, t, xs, (i : Int), _, rfl, rfl, ht, atI_nat e1, _, rfl, _, rfl, u, ys, (i : Int), _, rfl, rfl, hu, atI_nat e2, _, _, rfl, he i _ _ e1 e2, true, rfl, iteF ⟨_, rfl, rfl⟩⟩
    · rintro σ H' ⟨z, rfl, rfl⟩
      exact q
/-- two tuples of the same pairs -/
theorem eqv_pairs {H : Hp} {x y : V} {ps : List (Nat × Nat)} (hx : PrT K H x ps) (hy : PrT K H y ps) (hl : ps.length ≤ 1000) : Eqv K H 2 x y := by
  obtain ⟨t, ts, rfl, h1, h2⟩ := hx
  obtain ⟨u, us, rfl, h3, h4⟩ := hy
  refine ⟨t, u, _, _, rfl, rfl, h1, h3, by rw [List.length_map, List.length_map, h2.1, h4.1], by rw [List.length_map, h4.1]; exact hl, fun k v w e1 e2 => ?_⟩
  rw [List.getElem?_map] at e1 e2
  cases e3 : ts[k]? with
  | none => rw [e3] at e1; cases e1
  | some a =>
    cases e4 : us[k]? with
    | none => rw [e4] at e2; cases e2
    | some b =>
      rw [e3] at e1
      rw [e4] at e2
      cases Option.some.inj e1
      cases Option.some.inj e2
      have e5 : ps[k]? = some (ps[k]'(by rw [← h2.1]; exact (List.getElem?_eq_some_iff.mp e3).1)) := List.getElem?_eq_getElem _
      refine ⟨a, b, _, _, rfl, rfl, .of (h2.2 k a _ e3 e5), .of (h4.2 k b _ e4 e5), rfl, by simp, fun j v w e6 e7 => ?_⟩
      rw [e6] at e7
      cases Option.some.inj e7
      have hm := List.mem_of_getElem? e6
      simp only [List.mem_cons, List.not_mem_nil, or_false] at hm
      rcases hm with rfl | rfl
      · exact ⟨_, rfl, rfl⟩
      · exact ⟨_, rfl, rfl⟩
end
end Z
namespace Z
open PySem PySem.Spec PyProof.Rows L2 Ma
theorem sqi {i n : Nat} (h : i < n) : seqIndex? (i : Int) n = some i := by
  unfold seqIndex?
  have h1 : ¬ (i : Int) < 0 := by omega
  simp only [if_neg h1]
  rw [if_pos (by simp; exact h)]
  rfl
theorem erIdx_perm : ∀ {l : List Nat} {k y : Nat}, l[k]? = some y → (y :: l.eraseIdx k).Perm l
  | [], k, y, h => by simp at h
  | x :: l, 0, y, h => by
    cases Option.some.inj h
    exact List.Perm.refl _
  | x :: l, k + 1, y, h => by
    have ih := erIdx_perm (l := l) (k := k) (y := y) h
    rw [List.eraseIdx_cons_succ]
    exact (List.Perm.swap x y _).trans (ih.cons x)
/-- what a def that throws the dice has made -/
structure ED (T : Tb) (d : Addr) (H0 H : Hp) (cs : List (Addr × HO)) : Prop where
  en : En T [d] H0 H cs
  dc : Dice H d
  d0 : Dice H0 d
section
variable {T : Tb} {d : Addr} {H0 H H' : Hp} {cs : List (Addr × HO)} {p : Addr} {o u : HO} {i : Nat}
theorem Dice.st (h : Dice H d) (x : St T [] H H') : Dice H' d := by
  obtain ⟨ns, h1, h2, h3⟩ := h
  exact ⟨ns, h1, h2, x.lst h3 (by simp)⟩
theorem Dice.ne {x : Addr} (h : Dice H d) (n : Nw H x) : d ≠ x := by
  obtain ⟨ns, _, _, h3⟩ := h
  exact n.ne h3 nt_lst
theorem ED.nil (h : Dice H d) : ED T d H H [] := ⟨.nil H, h, h⟩
theorem ED.ned (x : ED T d H0 H cs) : ∀ c ∈ cs, d ≠ c.1 := fun c hc => x.d0.ne (x.en.fr c hc)
theorem ED.get (x : ED T d H0 H cs) (h : cs[i]? = some (p, o)) : H p = some o := x.en.get h
theorem ED.step (x : ED T d H0 H cs) (y : St T [] H H') : ED T d H0 H' cs := ⟨x.en.step y, x.dc.st y, x.d0⟩
theorem ED.take (x : ED T d H0 H cs) (y : St T [d] H H') (h : Dice H' d) : ED T d H0 H' cs :=
  ⟨⟨x.en.nd, x.en.fr, fun c hc => y.g _ _ (x.en.at_ c hc) (x.en.mu c hc).nt fun _ z => x.ned c hc (List.mem_singleton.mp z).symm, x.en.mu, x.en.st.trans y⟩, h, x.d0⟩
theorem ED.new (x : ED T d H0 H cs) (h : H p = none) (m : Mu o) : ED T d H0 (upd H p o) (cs ++ [(p, o)]) := ⟨x.en.new h m, x.dc.st (T := T) (.new h), x.d0⟩
theorem ED.put (x : ED T d H0 H cs) (h : cs[i]? = some (p, o)) (m : Mu u) : ED T d H0 (upd H p u) (cs.set i (p, u)) := by
  refine ⟨x.en.put h m, ?_, x.d0⟩
  obtain ⟨ns, h1, h2, h3⟩ := x.dc
  exact ⟨ns, h1, h2, by rw [upd_ne (x.ned _ (List.mem_of_getElem? h))]; exact h3⟩
theorem ED.join (x : ED T d H0 H cs) (y : St T [d] H H') (hd : Dice H' d) (e : H' p = some o) (m : Mu o) (nw : Nw H p) : ED T d H0 H' (cs ++ [(p, o)]) := by
  have z := x.take y hd
  refine ⟨⟨?_, fun c hc => ?_, fun c hc => ?_, fun c hc => ?_, z.en.st⟩, hd, x.d0⟩
  · rw [List.map_append]
    refine List.nodup_append.mpr ⟨x.en.nd, by simp, fun a ha b hb e => ?_⟩
    obtain ⟨c, hc, rfl⟩ := List.mem_map.mp ha
    rw [List.map_cons, List.map_nil, List.mem_singleton] at hb
    exact nw.ne (x.en.at_ c hc) (x.en.mu c hc).nt (e.trans hb)
  · rcases List.mem_append.mp hc with hc | hc
    · exact x.en.fr c hc
    · rw [List.mem_singleton.mp hc]
      exact x.en.st.back nw
  · rcases List.mem_append.mp hc with hc | hc
    · exact z.en.at_ c hc
    · rw [List.mem_singleton.mp hc]
      exact e
  · rcases List.mem_append.mp hc with hc | hc
    · exact x.en.mu c hc
    · rw [List.mem_singleton.mp hc]
      exact m
end
section
variable {P : Program} {w : World} {K : PySem.W.Frag} {mg : Str → Option Value} {base : Heap} {T : Tb}
def spShuf (K : PySem.W.Frag) (T : Tb) : Sp := fun vs H Q _ => ∃ (d l : Addr) (xs : List Nat), vs = [.ref d, .ref l] ∧ Dice H d ∧ l ≠ d ∧ SqL K H l (xs.map nV) ∧ xs.length ≤ 100 ∧
  ∀ (lo : Addr) (H' : Hp) (ys : List Nat), H' lo = some (.lst (ys.map nV)) → ys.Perm xs → Nw H lo → St T [d] H H' → Dice H' d → Q (.ref lo) H'
theorem ok_shuf {f fL : Addr} {fd fdL : FuncData} {k : Nat} (F : Fun K "_law_shuffled" "_law_shuffled" s_Lshuffled f fd) (B : Bt mg) (G_take : FnOk P w K mg base CX0 k fL fdL ["_law_dice_here", "_law_many"] (spTake T)) (g_take : mg "_law_take" = some (.ref fL)) (kp_take : PySem.W.keepIn K (.ref fL) = true) (b_take : Binds K fdL ["_law_dice_here", "_law_many"] []) :
    FnOk P w K mg base CX0 (k + 1) f fd ["_law_dice_here", "_law_things"] (spShuf K T) := by
  refine F.ok sc_Lshuffled (fun vs H Q E h => ?_) (fun cdv A outer s H vs Q E hr h => ?_)
  · obtain ⟨d, l, xs, rfl, _⟩ := h
    rfl
  · obtain ⟨d, l, xs, rfl, hd, hld, hl, hn, q⟩ := h
    refine ⟨_, (pss_cons (ps_set (i := 2) sc_Lshuffled.nd rfl (Or.inl rfl) (pe_callTy (klist_of K) (by rfl) B.list (by decide +kernel) (pa_cons (pv 1) pa_nil)))
      (pss_cons (ps_set (i := 3) sc_Lshuffled.nd rfl (Or.inl rfl) (pe_lst pa_nil))
      (pss_cons (ps_for PassesOwn.never rfl (pi_range1 (by rfl) B.range (pa_cons (pe_callB (klen K) (by rfl) B.len (by decide +kernel) (pa_cons (pv 1) pa_nil)) pa_nil)) (pg_name (i := 4) sc_Lshuffled.nd rfl (Or.inl rfl))
        (pss_one (ps_expr (kbm K PySem.F.plainAttrs_list PySem.F.slot_list_append PySem.F.type_list_append mt_append (pv 3) (pa_cons (kbm K PySem.F.plainAttrs_list PySem.F.slot_list_pop PySem.F.type_list_pop mt_popAt (pv 2) (pa_cons (pe_call G_take hr (by rfl) g_take kp_take b_take .nil pass0 (pa_cons (pv 0) (pa_cons (pe_callB (klen K) (by rfl) B.len (by decide +kernel) (pa_cons (pv 2) pa_nil)) pa_nil))) pa_nil)) pa_nil)))))
      (pss_one (ps_ret (pv 3)))))), ?_⟩
    refine ⟨_, rfl, l, _, rfl, .inl hl, fun lf hlf => ?_⟩
    have p0 := (ED.nil (T := T) hd).new hlf (Mu.l (xs := xs.map nV))
    generalize upd H lf (.lst (xs.map nV)) = H1 at p0 ⊢
    refine ⟨Nat.zero_le _, fun out hout => ?_⟩
    have p1 : ED T d H (upd H1 out (.lst [])) [(lf, .lst (xs.map nV)), (out, .lst (([] : List Nat).map nV))] := p0.new hout (Mu.l (xs := []))
    clear p0
    generalize upd H1 out (.lst []) = H2 at p1 ⊢
    refine ⟨_, rfl, l, _, rfl, .inl (p1.en.st.sqL hl (by simp [hld])), _, rfl, by rw [List.length_map]; omega, by rw [List.length_map]; omega, ?_⟩
    rw [List.length_map, Int.toNat_natCast]
    refine for_range (fun i σ H' => ∃ y4 le oe, σ = [some (.ref d), some (.ref l), some (.ref lf), some (.ref out), y4] ∧ ED T d H H' [(lf, .lst (le.map nV)), (out, .lst (oe.map nV))] ∧ oe.length = i ∧ (oe ++ le).Perm xs) ⟨none, xs, [], rfl, p1, rfl, .refl _⟩ ?_ ?_
    · rintro i σ H' hi ⟨y4, le, oe, rfl, p, ho, pm⟩
      have hle : le.length + i = xs.length := by
        have := pm.length_eq
        rw [List.length_append, ho] at this
        omega
      refine ⟨_, rfl, .inl ⟨rfl, _, .of (p.get (i := 1) rfl)⟩, _, rfl, .inl ⟨rfl, _, .of (p.get (i := 0) rfl)⟩, _, rfl, _, rfl, lf, _, rfl, .inl (.of (p.get (i := 0) rfl)), d, _, rfl, by rw [List.length_map]; omega, p.dc, fun t H3 htm st dc => ?_⟩
      rw [List.length_map] at htm
      have p3 := p.take st dc
      obtain ⟨y, hy⟩ : ∃ y, le[t]? = some y := ⟨_, List.getElem?_eq_getElem (by omega)⟩
      refine ⟨lf, _, (t : Int), t, nV y, rfl, rfl, p3.get (i := 0) rfl, by omega, by omega, sqi (by rw [List.length_map]; omega), by rw [List.getElem?_map, hy]; rfl, ?_⟩
      rw [map_erIdx]
      have p4 : ED T d H _ [(lf, .lst ((le.eraseIdx t).map nV)), (out, .lst (oe.map nV))] := p3.put (i := 0) rfl (Mu.l (xs := (le.eraseIdx t).map nV))
      clear p p3
      generalize upd H3 lf (.lst ((le.eraseIdx t).map nV)) = H4 at p4 ⊢
      refine ⟨out, _, _, rfl, rfl, p4.get (i := 1) rfl, by rw [List.length_map, ho]; exact small' (by omega), ?_⟩
      rw [show oe.map nV ++ [nV y] = (oe ++ [y]).map nV by simp]
      have p5 : ED T d H _ [(lf, .lst ((le.eraseIdx t).map nV)), (out, .lst ((oe ++ [y]).map nV))] := p4.put (i := 1) rfl (Mu.l (xs := (oe ++ [y]).map nV))
      refine ⟨_, _, _, rfl, p5, by rw [List.length_append, ho]; rfl, ?_⟩
      rw [List.append_assoc]
      exact ((erIdx_perm hy).append_left oe).trans pm
    · rintro σ H' ⟨y4, le, oe, rfl, p, ho, pm⟩
      have hle : le = [] := by
        have := pm.length_eq
        rw [List.length_append, ho] at this
        exact List.length_eq_zero_iff.mp (by omega)
      subst hle
      rw [List.append_nil] at pm
      exact ⟨_, rfl, q out H' oe (p.get (i := 1) rfl) pm (p.en.fr (out, .lst (oe.map nV)) (by simp)) p.en.st p.dc⟩
end
end Z
namespace Z
open PySem PySem.Spec PyProof.Rows L2 Ma
section
variable {P : Program} {w : World} {K : PySem.W.Frag} {mg : Str → Option Value} {base : Heap} {T : Tb}
def spDice (K : PySem.W.Frag) (T : Tb) : Sp := fun vs H Q _ => ∃ (s : Addr) (cs : List Int), vs = [.ref s] ∧ SqL K H s (cs.map V.int) ∧ cs.length ≤ 63 ∧ ∀ (d : Addr) (H' : Hp), Dice H' d → St T [] H H' → Q (.ref d) H'
theorem ok_dice {f : Addr} {fd : FuncData} {k : Nat} (F : Fun K "_law_dice" "_law_dice" s_Ldice f fd) (B : Bt mg) :
    FnOk P w K mg base CX0 (k + 1) f fd ["_law_script"] (spDice K T) := by
  refine F.ok sc_Ldice (fun vs H Q E h => ?_) (fun cdv A outer s H vs Q E hr h => ?_)
  · obtain ⟨sc, cs, rfl, _⟩ := h
    rfl
  · obtain ⟨sc, cs, rfl, hs, hn, q⟩ := h
    refine ⟨_, (pss_cons (ps_set (i := 1) sc_Ldice.nd rfl (Or.inl rfl) pe_int)
      (pss_cons (ps_set (i := 2) sc_Ldice.nd rfl (Or.inl rfl) (pe_lst pa_nil))
      (pss_cons (ps_for PassesOwn.never rfl (kpi_list K (pv 0)) (pg_name (i := 3) sc_Ldice.nd rfl (Or.inl rfl))
        (pss_cons (ps_set (i := 4) sc_Ldice.nd rfl (Or.inl rfl) (pe_callB call_abs (by rfl) B.abs (by decide +kernel) (pa_cons (pv 3) pa_nil)))
        (pss_cons (ps_set (i := 1) sc_Ldice.nd rfl (Or.inl rfl) (pe_op op_mod (pe_callTy call_int1 (by rfl) B.int (by decide +kernel) (pa_cons (pe_op op_add (pe_op op_add (pe_op op_add (pe_op op_mul (pv 1) pe_int) (pv 4)) (pe_op op_mul pe_int (pe_callTy call_int1 (by rfl) B.int (by decide +kernel) (pa_cons (pe_cmpR op_lt (pv 3) pe_int (nomark _)) pa_nil)))) pe_int) pa_nil)) pe_int))
        (pss_one (ps_if (pt_cmpR op_ge (pv 4) pe_int (nomark _))
          (pss_one (ps_for PassesOwn.never rfl (pi_range1 (by rfl) B.range (pa_cons pe_int pa_nil)) (pg_name (i := 5) sc_Ldice.nd rfl (Or.inl rfl))
            (pss_cons (ps_if (pt_cmpR op_eq (pv 4) pe_int (nomark _))
              (pss_one ps_break)
              pss_nil)
            (pss_cons (ps_expr (kbm K PySem.F.plainAttrs_list PySem.F.slot_list_append PySem.F.type_list_append mt_append (pv 2) (pa_cons (pe_op op_mod (pe_callTy call_int1 (by rfl) B.int (by decide +kernel) (pa_cons (pv 4) pa_nil)) pe_int) pa_nil)))
            (pss_one (ps_set (i := 4) sc_Ldice.nd rfl (Or.inl rfl) (pe_op op_fdiv (pv 4) pe_int)))))))
          pss_nil)))))
      (pss_one (ps_ret (pe_op op_cat (pe_lst (pa_cons (pv 1) pa_nil)) (pv 2))))))), ?_⟩
    refine ⟨Nat.zero_le _, fun dg hdg => ?_⟩
    have p0 : En T [] H (upd H dg (.lst [])) [(dg, .lst (([] : List Int).map V.int))] := (En.nil (T := T) (L := []) H).new hdg (Mu.l (xs := []))
    generalize upd H dg (.lst []) = H1 at p0 ⊢
    refine ⟨_, rfl, sc, rfl, ⟨_, p0.st.sqL hs⟩, ?_⟩
    refine for_list (xs := cs.map V.int) (fun i σ H' => ∃ (st : Int), ∃ y3 y4 y5 ds, σ = [some (.ref sc), some (.int st), some (.ref dg), y3, y4, y5] ∧ En T [] H H' [(dg, .lst (ds.map V.int))] ∧ ds.length ≤ 60 * i) ⟨0, none, none, none, [], rfl, p0, Nat.zero_le _⟩ ?_ ?_ ?_
    · rintro i σ H' _ ⟨_, _, _, _, _, _, p, _⟩
      exact p.st.sqL hs
    · rintro i x σ H' hx ⟨st, y3, y4, y5, ds, rfl, p, hl⟩
      rw [List.getElem?_map] at hx
      cases hc : cs[i]? with
      | none => rw [hc] at hx; cases hx
      | some c =>
        rw [hc] at hx
        cases Option.some.inj hx
        have hi := (List.getElem?_eq_some_iff.mp hc).1
        refine ⟨_, rfl, _, rfl, ?_⟩
        generalize (if c < 0 then -c else c) = sz
        refine ⟨_, rfl, st, 16807, rfl, rfl, .inr (by constructor <;> decide), _, rfl, _, _, rfl, rfl, _, rfl, c, 0, rfl, rfl, .inr ⟨_, rfl, 5, _, rfl, rfl, .inl (by constructor <;> decide), _, _, rfl, rfl, _, 40009, rfl, rfl, .inl ⟨_, rfl, _, 2147483647, rfl, rfl, by show (0 : Int) < 2147483647; decide, _, rfl, _, _, rfl, rfl, _, rfl, ite2 (fun e => ?_) (fun e => ?_)⟩⟩⟩
        · refine ⟨60, rfl, by decide, by decide, ?_⟩
          refine for_range (n := 60) (fun j σ H2 => ∃ st2 : Int, ∃ sz2 : Int, ∃ y5 ds2, σ = [some (.ref sc), some (.int st2), some (.ref dg), some (.int c), some (.int sz2), y5] ∧ En T [] H H2 [(dg, .lst (ds2.map V.int))] ∧ ds2.length ≤ 60 * i + j) ⟨_, sz, y5, ds, rfl, p, hl⟩ ?_ ?_
          · rintro j σ H2 hj ⟨st2, sz2, z5, ds2, rfl, p2, hl2⟩
            refine ⟨_, rfl, rfl, _, rfl, ite2 (fun e => ?_) (fun e => ?_)⟩
            · exact ⟨st2, _, _, _, ds2, rfl, p2, by omega⟩
            · refine ⟨_, rfl, .inl ⟨rfl, _, .of (p2.get (i := 0) rfl)⟩, _, rfl, .inl ⟨_, rfl, _, 840, rfl, rfl, by show (0 : Int) < 840; decide, dg, _, _, rfl, rfl, p2.get (i := 0) rfl, by
                rw [List.length_map]
                exact small' (by omega), ?_⟩⟩
              rw [show ds2.map V.int ++ [V.int (sz2 % 840)] = (ds2 ++ [sz2 % 840]).map V.int by simp]
              have p3 : En T [] H _ [(dg, .lst ((ds2 ++ [sz2 % 840]).map V.int))] := p2.put (i := 0) rfl Mu.l
              exact ⟨_, rfl, _, 840, rfl, rfl, by constructor <;> decide, st2, _, _, _, rfl, p3, by rw [List.length_append]; simp only [List.length_singleton]; omega⟩
          · rintro σ H2 ⟨st2, sz2, z5, ds2, rfl, p2, hl2⟩
            exact ⟨st2, _, _, _, ds2, rfl, p2, by omega⟩
        · exact ⟨_, _, _, _, ds, rfl, p, by omega⟩
    · rintro σ H' ⟨st, y3, y4, y5, ds, rfl, p, hl⟩
      rw [List.length_map] at hl
      refine ⟨_, rfl, by show 1 ≤ sizeLine; decide, fun l2 hl2 => ?_⟩
      refine ⟨_, rfl, l2, dg, _, _, rfl, rfl, upd_same, (p.step (.new hl2)).get (i := 0) rfl, by rw [List.length_map]; exact small (by show 1 + _ ≤ _; omega), fun l3 hl3 => q l3 _ ⟨st :: ds, by simp, by rw [List.length_cons]; omega, upd_same⟩ (p.st.trans ((St.new hl2).trans (.new hl3)))⟩
end
end Z
namespace Z
open PySem PySem.Spec PyProof.Rows L2 Ma
theorem flat_all (xs : List Nat) : (xs.map nV).all flatV = true := by
  rw [List.all_map, List.all_eq_true]
  intro x _
  rfl
theorem inV_nV {b : Nat} {xs : List Nat} : inV (nV b) (xs.map nV) = decide (b ∈ xs) := by
  unfold inV
  rw [Bool.eq_iff_iff, List.any_eq_true, decide_eq_true_iff]
  constructor
  · rintro ⟨y, hy, e⟩
    obtain ⟨n, hn, rfl⟩ := List.mem_map.mp hy
    have e : (n : Int) = (b : Int) := by simpa [eqV] using e
    have : n = b := by omega
    rw [← this]
    exact hn
  · intro h
    exact ⟨nV b, List.mem_map.mpr ⟨b, h, rfl⟩, by simp [eqV]⟩
theorem rgV_nat (m : Nat) : rgV 0 (m : Int) = (List.range m).map nV := by
  unfold rgV
  rw [Int.sub_zero, Int.toNat_natCast]
  exact List.map_congr_left fun i _ => by rw [Int.zero_add]
theorem cutV_nat (xs : List V) (j : Nat) : cutV xs none (some (j : Int)) = xs.take j := by
  have e2 : HT.sIx xs.length xs.length (some (j : Int)) = min j xs.length := by
    show (if ((j : Int) < 0) then ((j : Int) + (xs.length : Int)).toNat else min ((j : Int)).toNat xs.length) = _
    rw [if_neg (by omega), Int.toNat_natCast]
  show List.take (HT.sIx xs.length xs.length (some (j : Int)) - 0) (List.drop 0 xs) = _
  rw [e2, Nat.sub_zero, List.drop_zero]
  rcases Nat.le_total j xs.length with z | z
  · rw [Nat.min_eq_left z]
  · rw [Nat.min_eq_right z, List.take_length, List.take_of_length_le z]
theorem range_shuf {m : Nat} {ys : List Nat} (h : ys.Perm (List.range m)) (c : Nat) : (ys.take c).Nodup ∧ (ys.take c).length ≤ c ∧ ∀ b ∈ ys.take c, b < m := by
  refine ⟨(List.take_sublist _ _).nodup (List.nodup_range.perm h.symm), List.length_take_le _ _, fun b hb => ?_⟩
  exact List.mem_range.mp (h.mem_iff.mp (List.mem_of_mem_take hb))
def FTs (H : Hp) (ps : List Addr) (rows : List (List Nat)) : Prop := ps.length = rows.length ∧ ∀ (j : Nat) (p : Addr) (row : List Nat), ps[j]? = some p → rows[j]? = some row → FT H p (row.map nV)
theorem FTs.st {T : Tb} {L : List Addr} {H H' : Hp} {ps : List Addr} {rows : List (List Nat)} (h : FTs H ps rows) (y : St T L H H') : FTs H' ps rows := ⟨h.1, fun j p row e1 e2 => y.ft (h.2 j p row e1 e2)⟩
theorem FTs.snoc {H : Hp} {ps : List Addr} {rows : List (List Nat)} {p : Addr} {row : List Nat} (h : FTs H ps rows) (hp : FT H p (row.map nV)) : FTs H (ps ++ [p]) (rows ++ [row]) := by
  refine ⟨by rw [List.length_append, List.length_append, h.1]; rfl, fun i t' p' e1 e2 => ?_⟩
  rcases Nat.lt_or_ge i ps.length with z | z
  · rw [List.getElem?_append_left z] at e1
    rw [List.getElem?_append_left (by rw [← h.1]; exact z)] at e2
    exact h.2 i t' p' e1 e2
  · rw [List.getElem?_append_right z] at e1
    rw [List.getElem?_append_right (by rw [← h.1]; exact z)] at e2
    rw [← h.1] at e2
    cases j : i - ps.length with
    | zero =>
      rw [j] at e1 e2
      cases Option.some.inj e1
      cases Option.some.inj e2
      exact hp
    | succ j' =>
      rw [j] at e1
      simp at e1
theorem FTs.rws {H : Hp} {ps : List Addr} {rows : List (List Nat)} (h : FTs H ps rows) : Rws H (ps.map V.ref) rows := ⟨by rw [List.length_map]; exact h.1, fun i row e => by
  have : i < ps.length := by rw [h.1]; exact (List.getElem?_eq_some_iff.mp e).1
  exact ⟨ps[i], by rw [List.getElem?_map, List.getElem?_eq_getElem this]; rfl, h.2 i _ row (List.getElem?_eq_getElem this) e⟩⟩
theorem FTs.nil {H : Hp} : FTs H [] [] := ⟨rfl, fun j p row e => by simp at e⟩
theorem st_ftnew {T : Tb} {L : List Addr} {H H' : Hp} {l : Addr} {ys : List V} (h : H l = none) (k : ∀ b, b ≠ l → H' b = H b) : St T L H H' := .ex fun b o e => by
  rw [k b (ne_of_none e h)]
  exact e
theorem getD_some {α : Type} {l : List α} {i : Nat} {x : α} {z : α} (h : l[i]? = some x) : l.getD i z = x := by
  rw [List.getD_eq_getElem?_getD, h]
  rfl
theorem getD_none {α : Type} {l : List α} {i : Nat} {z : α} (h : l.length ≤ i) : l.getD i z = z := by
  rw [List.getD_eq_getElem?_getD, List.getElem?_eq_none_iff.mpr h]
  rfl
theorem getD_at {α : Type} {l : List α} {i : Nat} {z : α} (h : i < l.length) : l[i]? = some (l.getD i z) := by
  rw [List.getD_eq_getElem?_getD, List.getElem?_eq_getElem h]
  rfl
/-- the rows of pupils, and of schools, of a drawn book -/
def WsOk (c m : Nat) (rows : List (List Nat)) : Prop := ∀ row ∈ rows, row.Nodup ∧ row.length ≤ c ∧ ∀ b ∈ row, b < m
def RsOk (W : List (List Nat)) (rows : List (List Nat)) : Prop := ∀ (b : Nat) (row : List Nat), rows[b]? = some row → row.Perm ((List.range W.length).filter fun c => decide (b ∈ W.getD c []))
theorem drawn_wf {W R : List (List Nat)} {S : List Nat} {c : Nat} (h1 : WsOk c R.length W) (h2 : RsOk W R) (h3 : ∀ s ∈ S, 1 ≤ s) : Wf (bk ⟨W, R, S⟩) := by
  have wmem : ∀ a, W.getD a [] ∈ W ∨ W.getD a [] = [] := fun a => by
    rcases Nat.lt_or_ge a W.length with z | z
    · exact .inl (List.mem_of_getElem? (getD_at z))
    · exact .inr (getD_none z)
  have rmem : ∀ b, (b < R.length ∧ (R.getD b []).Perm ((List.range W.length).filter fun c => decide (b ∈ W.getD c []))) ∨ (R.length ≤ b ∧ R.getD b [] = []) := fun b => by
    rcases Nat.lt_or_ge b R.length with z | z
    · exact .inl ⟨z, h2 b _ (getD_at z)⟩
    · exact .inr ⟨z, getD_none z⟩
  refine ⟨fun a => ?_, fun b => ?_, fun a b => ?_, fun b => ?_, fun a h => getD_none h, fun b h => getD_none h⟩
  · show (W.getD a []).Nodup
    rcases wmem a with z | z
    · exact (h1 _ z).1
    · rw [z]; exact List.nodup_nil
  · show (R.getD b []).Nodup
    rcases rmem b with ⟨_, z⟩ | ⟨_, z⟩
    · exact ((List.filter_sublist).nodup List.nodup_range).perm z.symm
    · rw [z]; exact List.nodup_nil
  · show b ∈ W.getD a [] ↔ a ∈ R.getD b []
    rcases rmem b with ⟨_, z⟩ | ⟨hb, z⟩
    · rw [z.mem_iff, List.mem_filter, List.mem_range, decide_eq_true_iff]
      refine ⟨fun h => ⟨?_, h⟩, fun h => h.2⟩
      rcases Nat.lt_or_ge a W.length with y | y
      · exact y
      · rw [getD_none y] at h
        cases h
    · rw [z]
      refine ⟨fun h => ?_, fun h => nomatch h⟩
      rcases wmem a with y | y
      · have := (h1 _ y).2.2 b h
        omega
      · rw [y] at h
        cases h
  · show 1 ≤ S.getD b 1
    rcases Nat.lt_or_ge b S.length with z | z
    · exact h3 _ (List.mem_of_getElem? (getD_at z))
    · rw [getD_none z]
      exact Nat.le_refl _
theorem tot_const {n c : Nat} {f : Nat → Nat} (h : ∀ a, a < n → f a ≤ c) : tot n f ≤ n * c := by
  refine Nat.le_trans (tot_le (g := fun _ => c) h) ?_
  unfold tot
  rw [List.map_const', List.length_range, List.sum_replicate_nat]
  exact Nat.le_refl _
end Z
namespace Z
open PySem PySem.Spec PyProof.Rows L2 Ma
section
variable {P : Program} {w : World} {K : PySem.W.Frag} {mg : Str → Option Value} {base : Heap} {T : Tb}
def spLarge (K : PySem.W.Frag) (T : Tb) : Sp := fun vs H Q _ => ∃ (d : Addr), vs = [.ref d] ∧ Dice H d ∧ ∀ (v : V) (H' : Hp) (B : Bo), BkR K H' v B → Gd B → St T [d] H H' → Dice H' d → Q v H'
theorem ok_large {f fL fM : Addr} {fd fdL fdM : FuncData} {k : Nat} (F : Fun K "_law_large" "_law_large" s_Llarge f fd) (B : Bt mg) (G_take : FnOk P w K mg base CX0 k fL fdL ["_law_dice_here", "_law_many"] (spTake T)) (g_take : mg "_law_take" = some (.ref fL)) (kp_take : PySem.W.keepIn K (.ref fL) = true) (b_take : Binds K fdL ["_law_dice_here", "_law_many"] [])
    (G_shuf : FnOk P w K mg base CX0 k fM fdM ["_law_dice_here", "_law_things"] (spShuf K T)) (g_shuf : mg "_law_shuffled" = some (.ref fM)) (kp_shuf : PySem.W.keepIn K (.ref fM) = true) (b_shuf : Binds K fdM ["_law_dice_here", "_law_things"] []) :
    FnOk P w K mg base CX0 (k + 1) f fd ["_law_dice_here"] (spLarge K T) := by
  refine F.ok sc_Llarge (fun vs H Q E h => ?_) (fun cdv A outer s H vs Q E hr h => ?_)
  · obtain ⟨d, rfl, _⟩ := h
    rfl
  · obtain ⟨d, rfl, hd, q⟩ := h
    refine ⟨_, (pss_cons (ps_set (i := 1) sc_Llarge.nd rfl (Or.inl rfl) (pe_op op_add pe_int (pe_call G_take hr (by rfl) g_take kp_take b_take .nil pass0 (pa_cons (pv 0) (pa_cons pe_int pa_nil)))))
      (pss_cons (ps_set (i := 2) sc_Llarge.nd rfl (Or.inl rfl) (pe_op op_add pe_int (pe_call G_take hr (by rfl) g_take kp_take b_take .nil pass0 (pa_cons (pv 0) (pa_cons pe_int pa_nil)))))
      (pss_cons (ps_set (i := 3) sc_Llarge.nd rfl (Or.inr rfl) (pe_lst pa_nil))
      (pss_cons (ps_for PassesOwn.never rfl (pi_range1 (by rfl) B.range (pa_cons (pv 1) pa_nil)) (pg_name (i := 4) sc_Llarge.nd rfl (Or.inl rfl))
        (pss_one (ps_expr (kbm K PySem.F.plainAttrs_list PySem.F.slot_list_append PySem.F.type_list_append mt_append (pv 3) (pa_cons (pe_callTy call_tupleF (by rfl) B.tuple (by decide +kernel) (pa_cons (pe_slice sl_list (pe_call G_shuf hr (by rfl) g_shuf kp_shuf b_shuf .nil pass0 (pa_cons (pv 0) (pa_cons (pe_listRg (by rfl) (by rfl) B.list (prg_1 (by rfl) B.range (pv 2))) pa_nil))) po_none (po_some (pe_op op_add pe_int (pe_call G_take hr (by rfl) g_take kp_take b_take .nil pass0 (pa_cons (pv 0) (pa_cons pe_int pa_nil)))))) pa_nil)) pa_nil)))))
      (pss_cons (ps_set (i := 5) sc_Llarge.nd rfl (Or.inl rfl) (pe_lst pa_nil))
      (pss_cons (ps_for PassesOwn.never rfl (pi_range1 (by rfl) B.range (pa_cons (pv 2) pa_nil)) (pg_name (i := 6) sc_Llarge.nd rfl (Or.inr rfl))
        (pss_one (ps_expr (kbm K PySem.F.plainAttrs_list PySem.F.slot_list_append PySem.F.type_list_append mt_append (pv 5) (pa_cons (pe_callTy call_tupleF (by rfl) B.tuple (by decide +kernel) (pa_cons (pe_call G_shuf hr (by rfl) g_shuf kp_shuf b_shuf .nil pass0 (pa_cons (pv 0) (pa_cons (pe_lc (own := [("_law_c", 7)]) (tt := _) (by rfl) sc_Llarge.nd (pi_range1 (by rfl) B.range (pa_cons (pv 1) pa_nil)) (blkOk_by (own := [("_law_c", 7)]) (N := n_Llarge) (sc := defScope s_Llarge) (by decide +kernel)) (fun _ _ _ _ _ => (pg_name (i := 7) sc_Llarge.nd rfl (Or.inl rfl))) (fun _ _ _ _ _ => (pts_one (pt_cmpR (kin_seq K) (pv 6) (pe_ix (kix_list K) (pv 3) (pv 7) (fun _ _ => rfl)) (by rfl)))) (fun _ _ _ _ _ => (pv 7))) pa_nil))) pa_nil)) pa_nil)))))
      (pss_cons (ps_setLc (i := 8) (own := [("_law_b", 6)]) (tt := tYes) (by rfl) sc_Llarge.nd rfl rfl (sw_true rfl rfl rfl (by decide +kernel)) (pi_range1 (by rfl) B.range (pa_cons (pv 2) pa_nil)) (blkOk_by (own := [("_law_b", 6)]) (N := n_Llarge) (sc := defScope s_Llarge) (by decide +kernel)) (fun _ _ _ _ _ => (pg_name (i := 6) sc_Llarge.nd rfl (Or.inl rfl))) (fun _ _ _ _ _ => pts_nil) (fun _ _ _ _ _ => (pe_op op_add pe_int (pe_callB (call_max2 rfl) (by rfl) B.max (by decide +kernel) (pa_cons pe_int (pa_cons (pe_op op_sub (pe_call G_take hr (by rfl) g_take kp_take b_take .nil pass0 (pa_cons (pv 0) (pa_cons pe_int pa_nil))) pe_int) pa_nil))))))
      (pss_cons (ps_if (pt_cmpR op_eq (pe_call G_take hr (by rfl) g_take kp_take b_take .nil pass0 (pa_cons (pv 0) (pa_cons pe_int pa_nil))) pe_int (nomark _))
        (pss_one (ps_asg (pe_op op_add (pe_op op_pow pe_int pe_int) (pe_call G_take hr (by rfl) g_take kp_take b_take .nil pass0 (pa_cons (pv 0) (pa_cons pe_int pa_nil)))) (pg_sub (pv 8) (pe_call G_take hr (by rfl) g_take kp_take b_take .nil pass0 (pa_cons (pv 0) (pa_cons (pv 2) pa_nil))) set_list)))
        pss_nil)
      (pss_one (ps_ret (pe_tup (pa_cons (pe_callTy call_tuple_of (by rfl) B.tuple (by decide +kernel) (pa_cons (pv 3) pa_nil)) (pa_cons (pe_callTy call_tuple_of (by rfl) B.tuple (by decide +kernel) (pa_cons (pv 5) pa_nil)) (pa_cons (pe_callTy call_tupleF (by rfl) B.tuple (by decide +kernel) (pa_cons (pv 8) pa_nil)) pa_nil)))))))))))))), ?_⟩
    refine ⟨_, rfl, d, 8, rfl, by decide, hd, fun t1 H1 ht1 st1 dc1 => ⟨5, _, rfl, rfl, ?_⟩⟩
    refine ⟨_, rfl, d, 8, rfl, by decide, dc1, fun t2 H2 ht2 st2 dc2 => ⟨5, _, rfl, rfl, ?_⟩⟩
    obtain ⟨n, en⟩ : ∃ n : Nat, n = 5 + t1 := ⟨_, rfl⟩
    obtain ⟨m, em⟩ : ∃ m : Nat, m = 5 + t2 := ⟨_, rfl⟩
    have en' : V.int (5 + (t1 : Int)) = nV n := by rw [en]; rfl
    have em' : V.int (5 + (t2 : Int)) = nV m := by rw [em]; rfl
    dsimp only [gName]
    rw [en', em']
    have hn : n ≤ 12 := by omega
    have hm : m ≤ 12 := by omega
    have hm0 : 5 ≤ m := by omega
    have p0 := ((ED.nil (T := T) hd).take st1 dc1).take (st2) dc2
    clear st1 st2 dc1 dc2 ht1 ht2 en em en' em'
    refine ⟨Nat.zero_le _, fun wl hwl => ?_⟩
    have p1 : ED T d H (upd H2 wl (.lst [])) [(wl, .lst (([] : List Addr).map V.ref))] := p0.new hwl (Mu.l (xs := []))
    clear p0
    generalize upd H2 wl (.lst []) = H3 at p1 ⊢
    refine ⟨_, rfl, _, rfl, by omega, by omega, ?_⟩
    rw [Int.toNat_natCast]
    refine for_range (fun i σ H' => ∃ y4 ps rows, σ = [some (.ref d), some (nV n), some (nV m), some (.ref wl), y4, none, none, none, none] ∧ ED T d H H' [(wl, .lst (ps.map V.ref))] ∧ FTs H' ps rows ∧ rows.length = i ∧ WsOk 5 m rows) ⟨none, [], [], rfl, p1, FTs.nil, rfl, fun row h => nomatch h⟩ ?_ ?_
    · rintro i σ H' hi ⟨y4, ps, rows, rfl, p, ft, hl, ok⟩
      refine ⟨_, rfl, .inl ⟨rfl, _, .of (p.get (i := 0) rfl)⟩, _, rfl, _, rfl, _, rfl, .of_le (by decide) (by omega) (by decide) (by omega), fun qa hqa => ?_⟩
      rw [rgV_nat]
      have p2 := p.step (.new (o := .lst ((List.range m).map nV)) hqa)
      have ft2 := ft.st (St.new (T := T) (L := []) (o := .lst ((List.range m).map nV)) hqa)
      have hqd : qa ≠ d := by
        obtain ⟨ns, _, _, z⟩ := p.dc
        exact (ne_of_none z hqa).symm
      refine ⟨d, qa, List.range m, rfl, p2.dc, hqd, .of upd_same, by rw [List.length_range]; omega, fun lo H5 ys hlo pm nw st dc => ?_⟩
      have p3 := p2.take st dc
      have ft3 := ft2.st st
      have hlod : lo ≠ d := (p2.dc.ne nw).symm
      clear p2 ft2 st dc nw
      refine ⟨_, rfl, d, 5, rfl, by decide, p3.dc, fun t H6 ht st dc => ⟨1, _, rfl, rfl, _, rfl, ?_⟩⟩
      have p4 := p3.take st dc
      have ft4 := ft3.st st
      have hlo4 := st.lst hlo (by simp [hlod])
      clear p3 ft3 st dc hlo
      refine ⟨lo, _, rfl, .of hlo4, fun c1 hc1 => ?_⟩
      have ec : cutV (ys.map nV) none (some (1 + (t : Int))) = (ys.take (1 + t)).map nV := by rw [List.map_take]; exact cutV_nat _ (1 + t)
      rw [ec]
      refine ⟨c1, _, rfl, .of upd_same, fun lt H7 hlt hft keep => ?_⟩
      have s1 : St T [] H6 (upd H6 c1 (.lst ((ys.take (1 + t)).map nV))) := .new hc1
      have s2 : St T [] (upd H6 c1 (.lst ((ys.take (1 + t)).map nV))) H7 := st_ftnew (ys := []) hlt keep
      have p5 := p4.step (s1.trans s2)
      have ft5 := (ft4.st (s1.trans s2)).snoc hft
      refine ⟨wl, _, .ref lt, rfl, rfl, p5.get (i := 0) rfl, by
        rw [List.length_map, ft.1, hl]
        exact small' (by omega), ?_⟩
      rw [show ps.map V.ref ++ [V.ref lt] = (ps ++ [lt]).map V.ref by simp]
      refine ⟨_, ps ++ [lt], rows ++ [ys.take (1 + t)], rfl, p5.put (i := 0) rfl Mu.l, ft5.st (St.put (T := T) (L := [wl]) (p5.get (i := 0) rfl) Mu.l Mu.l (by simp)), by rw [List.length_append, hl]; rfl, fun row hrow => ?_⟩
      rcases List.mem_append.mp hrow with z | z
      · exact ok row z
      · rw [List.mem_singleton.mp z]
        obtain ⟨z1, z2, z3⟩ := range_shuf pm (1 + t)
        exact ⟨z1, by omega, z3⟩
    · rintro σ H4 ⟨y4, pw, W, rfl, p, fw, hW, okW⟩
      clear p1
      -- rolls
      refine ⟨Nat.zero_le _, fun rl hrl => ?_⟩
      have p1 : ED T d H (upd H4 rl (.lst [])) [(wl, .lst (pw.map V.ref)), (rl, .lst (([] : List Addr).map V.ref))] := p.new hrl (Mu.l (xs := []))
      have fw1 := fw.st (St.new (T := T) (L := []) (o := .lst []) hrl)
      clear p fw
      generalize upd H4 rl (.lst []) = H5 at p1 fw1 ⊢
      refine ⟨_, rfl, _, rfl, by omega, by omega, ?_⟩
      rw [Int.toNat_natCast]
      refine for_range (fun i σ H' => ∃ y6 ps rows, σ = [some (.ref d), some (nV n), some (nV m), some (.ref wl), y4, some (.ref rl), y6, none, none] ∧ ED T d H H' [(wl, .lst (pw.map V.ref)), (rl, .lst (ps.map V.ref))] ∧ FTs H' pw W ∧ FTs H' ps rows ∧ rows.length = i ∧ RsOk W rows) ⟨none, [], [], rfl, p1, fw1, FTs.nil, rfl, fun b row e => by simp at e⟩ ?_ ?_
      · rintro i σ H' hi ⟨y6, ps, rows, rfl, p, fw, ft, hl, ok⟩
        rw [Int.zero_add]
        refine ⟨_, rfl, .inl ⟨rfl, _, .of (p.get (i := 1) rfl)⟩, _, rfl, _, rfl, _, rfl, by omega, by omega, ?_⟩
        rw [Int.toNat_natCast]
        refine fun D hD => lc_range (fun j H2 => (∀ b o, H' b = some o → H2 b = some o) ∧ H2 D = some (.lst (((List.range j).filter fun c => decide (i ∈ W.getD c [])).map nV))) ⟨fun b o e => by rw [upd_ne (ne_of_none e hD)]; exact e, upd_same⟩ (fun j H2 hj ⟨c1, c2⟩ => ?_) (fun H2 ⟨c1, c2⟩ => ?_)
        · have st : St T [] H' H2 := .ex c1
          rw [Int.zero_add]
          have hjw : j < pw.length := by rw [fw.1, hW]; exact hj
          have e1 : pw[j]? = some pw[j] := List.getElem?_eq_getElem hjw
          have e2 : W[j]? = some (W.getD j []) := getD_at (by rw [hW]; exact hj)
          have e3 := st.ft (fw.2 j _ _ e1 e2)
          refine ⟨rfl, _, rfl, _, rfl, _, rfl, wl, _, (j : Int), .ref pw[j], rfl, rfl, .of (st.lst (p.get (i := 0) rfl) (by simp)), atI_nat (by rw [List.getElem?_map, e1]; rfl), pw[j], _, rfl, .inr e3.sq, rfl, flat_all _, _, rfl, ?_⟩
          rw [List.range_succ, List.filter_append]
          refine ite2 (fun e => ?_) (fun e => ?_)
          · have e : inV (nV i) ((W.getD j []).map nV) = true := e
            rw [inV_nV] at e
            refine ⟨_, rfl, _, c2, by
              rw [List.length_map]
              have := List.length_filter_le (fun c => decide (i ∈ W.getD c [])) (List.range j)
              rw [List.length_range] at this
              exact small' (by omega), fun b o e => by rw [upd_ne (ne_of_none e hD)]; exact c1 b o e, ?_⟩
            rw [show [j].filter (fun c => decide (i ∈ W.getD c [])) = [j] by rw [List.filter_cons, if_pos e]; rfl, List.map_append]
            exact upd_same
          · have e : ¬ inV (nV i) ((W.getD j []).map nV) = true := e
            rw [inV_nV] at e
            refine ⟨c1, ?_⟩
            rw [show [j].filter (fun c => decide (i ∈ W.getD c [])) = [] by rw [List.filter_cons, if_neg e]; rfl, List.append_nil]
            exact c2
        · have st0 : St T [] H' H2 := .ex c1
          have p2 := p.step st0
          have fw2 := fw.st st0
          have ft2 := ft.st st0
          have hDd : D ≠ d := by
            obtain ⟨ns, _, _, z⟩ := p.dc
            exact (ne_of_none z hD).symm
          refine ⟨d, D, (List.range n).filter (fun c => decide (i ∈ W.getD c [])), rfl, p2.dc, hDd, .of c2, by
            have := List.length_filter_le (fun c => decide (i ∈ W.getD c [])) (List.range n)
            rw [List.length_range] at this
            omega, fun lo H6 ys hlo pm nw st dc => ?_⟩
          have p3 := p2.take st dc
          have fw3 := fw2.st st
          have ft3 := ft2.st st
          refine ⟨lo, _, rfl, .of hlo, fun lt H7 hlt hft keep => ?_⟩
          have s2 : St T [] H6 H7 := st_ftnew (ys := []) hlt keep
          have p4 := p3.step s2
          have ft4 := (ft3.st s2).snoc hft
          refine ⟨rl, _, .ref lt, rfl, rfl, p4.get (i := 1) rfl, by
            rw [List.length_map, ft.1, hl]
            exact small' (by omega), ?_⟩
          rw [show ps.map V.ref ++ [V.ref lt] = (ps ++ [lt]).map V.ref by simp]
          have sp := St.put (T := T) (L := [rl]) (u := .lst ((ps ++ [lt]).map V.ref)) (p4.get (i := 1) rfl) Mu.l Mu.l (by simp)
          refine ⟨_, ps ++ [lt], rows ++ [ys], rfl, p4.put (i := 1) rfl Mu.l, (fw3.st s2).st sp, ft4.st sp, by rw [List.length_append, hl]; rfl, fun b row e => ?_⟩
          rcases Nat.lt_or_ge b rows.length with z | z
          · rw [List.getElem?_append_left z] at e
            exact ok b row e
          · rw [List.getElem?_append_right z] at e
            have eb : b = i := by
              have := (List.getElem?_eq_some_iff.mp e).1
              simp at this
              omega
            subst eb
            rw [hl, Nat.sub_self] at e
            cases e
            rw [hW]
            exact pm
      · rintro σ H6 ⟨y6, pr, R, rfl, p, fw, fr, hR, okR⟩
        clear p1 fw1
        -- seats
        refine ⟨_, rfl, _, rfl, by omega, by omega, ?_⟩
        rw [Int.toNat_natCast]
        refine fun D hD => lc_range (fun j H2 => ∃ ss : List Nat, ED T d H H2 [(wl, .lst (pw.map V.ref)), (rl, .lst (pr.map V.ref)), (D, .lst (ss.map nV))] ∧ FTs H2 pw W ∧ FTs H2 pr R ∧ ss.length = j ∧ ∀ s ∈ ss, 1 ≤ s) ⟨[], p.new hD Mu.l, fw.st (St.new (T := T) (L := []) hD), fr.st (St.new (T := T) (L := []) hD), rfl, fun s hs => nomatch hs⟩ (fun j H2 hj ⟨ss, p2, fw2, fr2, hs1, hs2⟩ => ?_) (fun H2 ⟨ss, p2, fw2, fr2, hs1, hs2⟩ => ?_)
        · refine ⟨rfl, yes ⟨_, rfl, d, 5, rfl, by decide, p2.dc, fun t H3 ht st dc => ⟨_, 2, rfl, rfl, 0, _, rfl, 1, _, rfl, rfl, ?_⟩⟩⟩
          have p3 := p2.take st dc
          refine ⟨_, p3.get (i := 2) rfl, by rw [List.length_map]; exact small' (by omega), ?_⟩
          have ev : V.int (1 + (if ((t : Int) - 2) > 0 then ((t : Int) - 2) else 0)) = nV (1 + (t - 2)) := by
            unfold nV
            congr 1
            split <;> omega
          dsimp only
          rw [ev, show ss.map nV ++ [nV (1 + (t - 2))] = (ss ++ [1 + (t - 2)]).map nV by simp]
          have sp := St.put (T := T) (L := [D]) (u := .lst ((ss ++ [1 + (t - 2)]).map nV)) (p3.get (i := 2) rfl) Mu.l Mu.l (by simp)
          refine ⟨_, p3.put (i := 2) rfl Mu.l, (fw2.st st).st sp, (fr2.st st).st sp, by rw [List.length_append, hs1]; rfl, fun s hs => ?_⟩
          rcases List.mem_append.mp hs with z | z
          · exact hs2 s z
          · rw [List.mem_singleton.mp z]
            omega
        · dsimp only [gName, tSeq]
          refine cutS (fun σ3 H3 => ∃ y6 y7, ∃ ss : List Nat, σ3 = [some (.ref d), some (nV n), some (nV m), some (.ref wl), y4, some (.ref rl), y6, y7, some (.ref D)] ∧ ED T d H H3 [(wl, .lst (pw.map V.ref)), (rl, .lst (pr.map V.ref)), (D, .lst (ss.map nV))] ∧ FTs H3 pw W ∧ FTs H3 pr R ∧ ss.length = m ∧ ∀ s ∈ ss, 1 ≤ s) (fun σ3 H3 hC => ?_) (fun D' hQ => ?_)
          · obtain ⟨y6, y7, ss, rfl, p3, fw3, fr3, hs1, hs2⟩ := hC
            refine ⟨_, rfl, wl, _, rfl, .inl ⟨.of (p3.get (i := 0) rfl), fun tw htw => ?_⟩⟩
            have s1 : St T [] H3 (upd H3 tw (.tup (pw.map V.ref))) := .new htw
            have k1 : SqT K (upd H3 tw (.tup (pw.map V.ref))) tw (pw.map V.ref) := .of upd_same
            have p4 := p3.step s1
            have fw4 := fw3.st s1
            have fr4 := fr3.st s1
            clear p3 fw3 fr3 s1
            generalize upd H3 tw (.tup (pw.map V.ref)) = H4 at p4 fw4 fr4 k1 ⊢
            refine ⟨_, rfl, rl, _, rfl, .inl ⟨.of (p4.get (i := 1) rfl), fun tr htr => ?_⟩⟩
            have s1 : St T [] H4 (upd H4 tr (.tup (pr.map V.ref))) := .new htr
            have k2 : SqT K (upd H4 tr (.tup (pr.map V.ref))) tr (pr.map V.ref) := .of upd_same
            have p5 := p4.step s1
            have fw5 := fw4.st s1
            have fr5 := fr4.st s1
            have k1' := s1.sqT k1
            clear p4 fw4 fr4 s1 k1
            generalize upd H4 tr (.tup (pr.map V.ref)) = H5 at p5 fw5 fr5 k1' k2 ⊢
            refine ⟨_, rfl, D, _, rfl, .of (p5.get (i := 2) rfl), fun tS H6 htS fS keep => ?_⟩
            have s1 : St T [] H5 H6 := st_ftnew (ys := []) htS keep
            refine ⟨by show 3 ≤ sizeLine; decide, fun tb htb => ?_⟩
            have s2 : St T [] H6 (upd H6 tb (.tup [.ref tw, .ref tr, .ref tS])) := .new htb
            have p6 := (p5.step s1).step s2
            refine q (.ref tb) _ ⟨W, R, ss⟩ ⟨tb, tw, tr, tS, _, _, rfl, .of upd_same, (s1.trans s2).sqT k1', (fw5.st (s1.trans s2)).rws, (s1.trans s2).sqT k2, (fr5.st (s1.trans s2)).rws, s2.sqT fS.sq⟩ ⟨drawn_wf (c := 5) (by rw [hR]; exact okW) okR hs2, ?_, ?_, ?_, ?_⟩ p6.en.st p6.dc
            · show ss.length = R.length
              rw [hs1, hR]
            · show W.length ≤ 12
              rw [hW]; exact hn
            · show R.length ≤ 12
              rw [hR]; exact hm
            · refine Nat.le_trans (tot_const (c := 5) fun a ha => (okW _ (List.mem_of_getElem? (getD_at ha))).2.1) ?_
              show W.length * 5 ≤ 60
              rw [hW]
              omega
          · refine ⟨_, rfl, d, 4, rfl, by decide, p2.dc, fun t H3 ht st dc => ⟨rfl, _, rfl, ite2 (fun _ => ?_) (fun _ => ?_)⟩⟩
            · have p3 := p2.take st dc
              have fw3 := fw2.st st
              have fr3 := fr2.st st
              refine ⟨10, 29, rfl, rfl, ⟨by decide, by decide, by decide⟩, _, rfl, d, 800, rfl, by decide, p3.dc, fun t2 H4 ht2 st2 dc2 => ⟨_, _, rfl, rfl, _, rfl, _, rfl, _, rfl, d, m, rfl, by omega, dc2, fun t3 H5 ht3 st3 dc3 => ?_⟩⟩
              have p4 := (p3.take st2 dc2).take st3 dc3
              have ht3 : t3 < m := by omega
              refine ⟨D, _, t3, t3, rfl, rfl, p4.get (i := 2) rfl, Evl.ixN_nat (by rw [List.length_map, hs1]; exact ht3), hQ _ _ ?_⟩
              have ev : V.int ((10 : Int) ^ (29 : Int).toNat + (t2 : Int)) = nV (10 ^ 29 + t2) := by
                unfold nV
                congr 1
              dsimp only
              rw [ev, show (ss.map nV).set t3 (nV (10 ^ 29 + t2)) = (ss.set t3 (10 ^ 29 + t2)).map nV by rw [List.map_set]]
              have sp := St.put (T := T) (L := [D]) (u := .lst ((ss.set t3 (10 ^ 29 + t2)).map nV)) (p4.get (i := 2) rfl) Mu.l Mu.l (by simp)
              refine ⟨_, _, _, rfl, p4.put (i := 2) rfl Mu.l, ((fw3.st st2).st st3).st sp, ((fr3.st st2).st st3).st sp, by rw [List.length_set]; exact hs1, fun s hs => ?_⟩
              rcases List.mem_or_eq_of_mem_set hs with z | z
              · exact hs2 s z
              · rw [z]
                exact Nat.le_trans (by decide) (Nat.le_add_right (10 ^ 29) t2)
            · exact hQ _ _ ⟨_, _, ss, rfl, p2.take st dc, fw2.st st, fr2.st st, hs1, hs2⟩
end
end Z
namespace Ma
/-- how far a pupil has come -/
def phi (r : Row) (k : Nat → Nat) (a : Nat) : Nat := k a + match r a with
  | none => 0
  | some _ => 1
section
variable {B : Bk} {r : Row} {k : Nat → Nat} {a b l : Nat}
theorem phi_none (h : r a = none) : phi r k a = k a := by
  unfold phi
  rw [h]
  rfl
theorem phi_some (h : r a = some b) : phi r k a = k a + 1 := by
  unfold phi
  rw [h]
theorem phi_place (hn : r a = none) : phi (up r a (some b)) k = up (phi r k) a (k a + 1) := by
  funext x
  by_cases h : x = a
  · subst h
    rw [up_same, phi_some up_same]
  · rw [up_ne h]
    unfold phi
    rw [up_ne h]
theorem phi_refuse (hn : r a = none) (hl : up r a (some b) l = some b) : phi (up (up r a (some b)) l none) (up k l (k l + 1)) = up (phi r k) a (k a + 1) := by
  funext x
  by_cases hx : x = l
  · subst hx
    rw [phi_none up_same, up_same]
    by_cases h : x = a
    · subst h
      rw [up_same]
    · rw [up_ne h]
      rw [up_ne h] at hl
      rw [phi_some hl]
  · have e : phi (up (up r a (some b)) l none) (up k l (k l + 1)) x = phi (up r a (some b)) k x := by
      unfold phi
      rw [up_ne hx, up_ne hx]
    rw [e, phi_place hn]
theorem PA.phi_le (p : PA B r k) (a : Nat) : phi r k a ≤ (B.W a).length := by
  cases h : r a with
  | none => rw [phi_none h]; exact p.kl a
  | some b =>
    rw [phi_some h]
    exact (List.getElem?_eq_some_iff.mp (p.at_ a b h)).1
theorem filt_last {l : List Nat} (hn : l.Nodup) {p : Nat → Bool} {x y : Nat} (hx : x ∈ l.filter p) (hy : (l.filter p)[(l.filter p).length - 1]? = some y) : l.idxOf x ≤ l.idxOf y := by
  have pl : l.Pairwise fun u v => l.idxOf u < l.idxOf v := by
    rw [List.pairwise_iff_getElem]
    intro i j hi hj hij
    rw [idx_get hn (List.getElem?_eq_getElem hi), idx_get hn (List.getElem?_eq_getElem hj)]
    exact hij
  have pw : (l.filter p).Pairwise fun u v => l.idxOf u < l.idxOf v := List.Pairwise.filter _ pl
  obtain ⟨j, hj⟩ := List.getElem?_of_mem hx
  obtain ⟨hj1, hj2⟩ := List.getElem?_eq_some_iff.mp hj
  obtain ⟨hy1, hy2⟩ := List.getElem?_eq_some_iff.mp hy
  rcases Nat.lt_or_ge j ((l.filter p).length - 1) with z | z
  · have := List.pairwise_iff_getElem.mp pw j _ hj1 hy1 z
    rw [hj2, hy2] at this
    exact Nat.le_of_lt this
  · have e : j = (l.filter p).length - 1 := by omega
    subst e
    rw [← hj2, ← hy2]
    exact Nat.le_refl _
end
end Ma
namespace Z
open PySem PySem.Spec PyProof.Rows L2 Ma
theorem enc_set {n a : Nat} {r : Ma.Row} {x : Option Nat} (h : a < n) : (enc n r).set a (.int (encO x)) = enc n (up r a x) := by
  apply List.ext_getElem?
  intro j
  rw [List.getElem?_set]
  unfold enc
  rw [List.getElem?_map, List.length_map, List.length_range, List.getElem?_map]
  by_cases e : a = j
  · subst e
    rw [if_pos rfl, if_pos h, List.getElem?_range h]
    show some (V.int (encO x)) = some (V.int (encO (up r a x a)))
    rw [up_same]
  · rw [if_neg e]
    rcases Nat.lt_or_ge j n with z | z
    · rw [List.getElem?_range z]
      show some (V.int (encO (r j))) = some (V.int (encO (up r a x j)))
      rw [up_ne (Ne.symm e)]
    · rw [List.getElem?_eq_none_iff.mpr (by rw [List.length_range]; exact z)]
      rfl
theorem enc_none (n : Nat) : enc n (fun _ => none) = List.replicate n (V.int (-1)) := by
  unfold enc
  rw [List.map_const' , List.length_range]
  rfl
theorem rep_flat (n : Nat) (v : V) : (List.replicate n [v]).flatten = List.replicate n v := by
  induction n with
  | zero => rfl
  | succ n ih => rw [List.replicate_succ, List.flatten_cons, ih]; rfl
section
variable {P : Program} {w : World} {K : PySem.W.Frag} {mg : Str → Option Value} {base : Heap} {T : Tb}
def spLP (K : PySem.W.Frag) (T : Tb) : Sp := fun vs H Q _ => ∃ (d : Addr) (v : V) (B : Bo), vs = [.ref d, v] ∧ Dice H d ∧ BkR K H v B ∧ Gd B ∧ ∀ (t p : Addr) (y : V) (H' : Hp) (r : Ma.Row) (rs : List (Nat × Nat)), Best (bk B) r →
  SqT K H' t [.ref p, y] → H' p = some (.lst (enc B.W.length r)) → Nw H p → PrT K H' y rs → IsPass (bk B) r rs → St T [d] H H' → Dice H' d → Q (.ref t) H'
abbrev lC (ro as rf : Addr) (n : Nat) (r : Ma.Row) (ks : List Nat) (ts : List Addr) : List (Addr × HO) := [(ro, .lst (enc n r)), (as, .lst (ks.map nV)), (rf, .lst (ts.map V.ref))]
theorem ok_Lpask {f fL : Addr} {fd fdL : FuncData} {k : Nat} (F : Fun K "_law_pupils_ask" "_law_pupils_ask" s_Lpupils_ask f fd) (B : Bt mg) (G_take : FnOk P w K mg base CX0 k fL fdL ["_law_dice_here", "_law_many"] (spTake T)) (g_take : mg "_law_take" = some (.ref fL)) (kp_take : PySem.W.keepIn K (.ref fL) = true) (b_take : Binds K fdL ["_law_dice_here", "_law_many"] []) :
    FnOk P w K mg base CX0 (k + 1) f fd ["_law_dice_here", "_law_office_here"] (spLP K T) := by
  refine F.ok sc_Lpupils_ask (fun vs H Q E h => ?_) (fun cdv A outer s H vs Q E hr h => ?_)
  · obtain ⟨d, v, B, rfl, _⟩ := h
    rfl
  · obtain ⟨d, v, Bk, rfl, hd, hB, gd, q⟩ := h
    refine ⟨_, (pss_cons (ps_set (i := 2) sc_Lpupils_ask.nd rfl (Or.inr rfl) (pe_op op_rep (pe_lst (pa_cons (pe_un un_neg pe_int) pa_nil)) (pe_callB (klen K) (by rfl) B.len (by decide +kernel) (pa_cons (pe_ix (kix_tup K) (pv 1) pe_int (fun _ _ => rfl)) pa_nil))))
      (pss_cons (ps_set (i := 3) sc_Lpupils_ask.nd rfl (Or.inr rfl) (pe_op op_rep (pe_lst (pa_cons pe_int pa_nil)) (pe_callB (klen K) (by rfl) B.len (by decide +kernel) (pa_cons (pe_ix (kix_tup K) (pv 1) pe_int (fun _ _ => rfl)) pa_nil))))
      (pss_cons (ps_set (i := 4) sc_Lpupils_ask.nd rfl (Or.inl rfl) (pe_lst pa_nil))
      (pss_cons (ps_for PassesOwn.never rfl (pi_range1 (by rfl) B.range (pa_cons pe_int pa_nil)) (pg_name (i := 5) sc_Lpupils_ask.nd rfl (Or.inl rfl))
        (pss_cons (ps_setLc (i := 6) (own := [("_law_a", 7)]) (tt := _) (by rfl) sc_Lpupils_ask.nd rfl rfl (sw_true rfl rfl rfl (by decide +kernel)) (pi_range1 (by rfl) B.range (pa_cons (pe_callB (klen K) (by rfl) B.len (by decide +kernel) (pa_cons (pv 2) pa_nil)) pa_nil)) (blkOk_by (own := [("_law_a", 7)]) (N := n_Lpupils_ask) (sc := defScope s_Lpupils_ask) (by decide +kernel)) (fun _ _ _ _ _ => (pg_name (i := 7) sc_Lpupils_ask.nd rfl (Or.inl rfl))) (fun _ _ _ _ _ => (pts_one (PW.pt (pw_and (pt_cmpR op_lt (pe_ix (kix_list K) (pv 2) (pv 7) (fun _ _ => rfl)) pe_int (nomark _)) (pw_and1 (pt_cmpR op_lt (pe_ix (kix_list K) (pv 3) (pv 7) (fun _ _ => rfl)) (pe_callB (klen K) (by rfl) B.len (by decide +kernel) (pa_cons (pe_ix (kix_tup K) (pe_ix (kix_tup K) (pv 1) pe_int (fun _ _ => rfl)) (pv 7) (fun _ _ => rfl)) pa_nil)) (nomark _))))))) (fun _ _ _ _ _ => (pv 7)))
        (pss_cons (ps_if (pt_not (ktruth K (pv 6) (by intro _; rfl)))
          (pss_one ps_break)
          pss_nil)
        (pss_cons (ps_set (i := 7) sc_Lpupils_ask.nd rfl (Or.inl rfl) (pe_ix (kix_list K) (pv 6) (pe_call G_take hr (by rfl) g_take kp_take b_take .nil pass0 (pa_cons (pv 0) (pa_cons (pe_callB (klen K) (by rfl) B.len (by decide +kernel) (pa_cons (pv 6) pa_nil)) pa_nil))) (fun _ _ => rfl)))
        (pss_cons (ps_set (i := 8) sc_Lpupils_ask.nd rfl (Or.inr rfl) (pe_ix (kix_tup K) (pe_ix (kix_tup K) (pe_ix (kix_tup K) (pv 1) pe_int (fun _ _ => rfl)) (pv 7) (fun _ _ => rfl)) (pe_ix (kix_list K) (pv 3) (pv 7) (fun _ _ => rfl)) (fun _ _ => rfl)))
        (pss_cons (ps_asg (pv 8) (pg_sub (pv 2) (pv 7) set_list))
        (pss_cons (ps_setLc (i := 9) (own := [("_law_c", 10)]) (tt := _) (by rfl) sc_Lpupils_ask.nd rfl rfl (sw_true rfl rfl rfl (by decide +kernel)) (kpi_tup K (pe_ix (kix_tup K) (pe_ix (kix_tup K) (pv 1) pe_int (fun _ _ => rfl)) (pv 8) (fun _ _ => rfl))) (blkOk_by (own := [("_law_c", 10)]) (N := n_Lpupils_ask) (sc := defScope s_Lpupils_ask) (by decide +kernel)) (fun _ _ _ _ _ => (pg_name (i := 10) sc_Lpupils_ask.nd rfl (Or.inl rfl))) (fun _ _ _ _ _ => (pts_one (pt_cmpR op_eq (pe_ix (kix_list K) (pv 2) (pv 10) (fun _ _ => rfl)) (pv 8) (nomark _)))) (fun _ _ _ _ _ => (pv 10)))
        (pss_one (ps_if (pt_cmpR op_gt (pe_callB (klen K) (by rfl) B.len (by decide +kernel) (pa_cons (pv 9) pa_nil)) (pe_ix (kix_tup K) (pe_ix (kix_tup K) (pv 1) pe_int (fun _ _ => rfl)) (pv 8) (fun _ _ => rfl)) (nomark _))
          (pss_cons (ps_set (i := 11) sc_Lpupils_ask.nd rfl (Or.inl rfl) (pe_ix (kix_list K) (pv 9) (pe_un un_neg pe_int) (fun _ _ => rfl)))
          (pss_cons (ps_asg (pe_un un_neg pe_int) (pg_sub (pv 2) (pv 11) set_list))
          (pss_cons (ps_asg (pe_op op_add (pe_ix (kix_list K) (pv 3) (pv 11) (fun _ _ => rfl)) pe_int) (pg_sub (pv 3) (pv 11) set_list))
          (pss_one (ps_expr (kbm K PySem.F.plainAttrs_list PySem.F.slot_list_append PySem.F.type_list_append mt_append (pv 4) (pa_cons (pe_tup (pa_cons (pv 11) (pa_cons (pv 8) pa_nil))) pa_nil)))))))
          pss_nil)))))))))
      (pss_one (ps_ret (pe_tup (pa_cons (pv 2) (pa_cons (pe_callTy call_tuple_of (by rfl) B.tuple (by decide +kernel) (pa_cons (pe_callB cr_sortedPO (by rfl) B.sorted (by decide +kernel) (pa_cons (pv 4) pa_nil)) pa_nil)) pa_nil))))))))), ?_⟩
    obtain ⟨ad, wa, ra, sa, wv, rv, rfl, h1, h2, h3, h4, h5, h6⟩ := hB
    have lw : wv.length = Bk.W.length := h3.1
    have hnl := gd.nl
    have hpl := gd.pl
    have wfB := gd.wf
    -- row
    refine ⟨1, rfl, by show 1 ≤ sizeLine; decide, fun c1 hc1 => ?_⟩
    have p0 := (ED.nil (T := T) hd).step (.new (o := .lst [V.int (-1)]) hc1)
    have e1 : (upd H c1 (.lst [V.int (-1)])) c1 = some (.lst [V.int (-1)]) := upd_same
    generalize upd H c1 (.lst [V.int (-1)]) = H1 at p0 e1 ⊢
    refine ⟨_, rfl, ad, _, 0, .ref wa, rfl, rfl, p0.en.st.sqT h1, atI_nat (j := 0) rfl, wa, wv, rfl, .inr (p0.en.st.sqT h2), c1, _, _, rfl, rfl, e1, by rw [lw]; omega, by rw [lw]; omega, by rw [lw, Int.toNat_natCast]; exact small (by show 1 * _ ≤ _; omega), fun ro hro => ?_⟩
    rw [lw, Int.toNat_natCast, rep_flat, ← enc_none]
    have p1 := p0.new hro (Mu.l (xs := enc Bk.W.length fun _ => none))
    clear p0 e1 hc1
    generalize upd H1 ro (.lst (enc Bk.W.length fun _ => none)) = H2 at p1 ⊢
    -- asked
    refine ⟨by show 1 ≤ sizeLine; decide, fun c2 hc2 => ?_⟩
    have p2 := p1.step (.new (o := .lst [V.int 0]) hc2)
    have e2 : (upd H2 c2 (.lst [V.int 0])) c2 = some (.lst [V.int 0]) := upd_same
    generalize upd H2 c2 (.lst [V.int 0]) = H3 at p2 e2 ⊢
    refine ⟨_, rfl, ad, _, 0, .ref wa, rfl, rfl, p2.en.st.sqT h1, atI_nat (j := 0) rfl, wa, wv, rfl, .inr (p2.en.st.sqT h2), c2, _, _, rfl, rfl, e2, by rw [lw]; omega, by rw [lw]; omega, by rw [lw, Int.toNat_natCast]; exact small (by show 1 * _ ≤ _; omega), fun as has => ?_⟩
    rw [lw, Int.toNat_natCast, rep_flat, show List.replicate Bk.W.length (V.int 0) = (List.replicate Bk.W.length 0).map nV by simp]
    have p3 := p2.new has (Mu.l (xs := (List.replicate Bk.W.length 0).map nV))
    clear p1 p2 e2 hc2
    generalize upd H3 as (.lst ((List.replicate Bk.W.length 0).map nV)) = H4 at p3 ⊢
    refine ⟨Nat.zero_le _, fun rf hrf => ?_⟩
    have p4 : ED T d H (upd H4 rf (.lst [])) (lC ro as rf Bk.W.length (fun _ => none) (List.replicate Bk.W.length 0) []) := p3.new hrf (Mu.l (xs := []))
    clear p3
    generalize upd H4 rf (.lst []) = H5 at p4 ⊢
    have k0 : kf (List.replicate Bk.W.length 0) = fun _ => 0 := by
      funext b
      unfold kf
      rw [List.getD_eq_getElem?_getD, List.getElem?_replicate]
      split <;> rfl
    have ph0 : phi (fun _ => none) (kf (List.replicate Bk.W.length 0)) = fun _ => 0 := by
      funext a
      rw [phi_none rfl, k0]
    refine ⟨70, rfl, by decide, by decide, ?_⟩
    refine for_range (n := 70) (fun i σ H' => ∃ y5 y6 y7 y8 y9 y11 r ks ts rl, σ = [some (.ref d), some (.ref ad), some (.ref ro), some (.ref as), some (.ref rf), y5, y6, y7, y8, y9, none, y11] ∧ ED T d H H' (lC ro as rf Bk.W.length r ks ts) ∧ LsP K H' ts rl ∧ PA (bk Bk) r (kf ks) ∧ RfP (bk Bk) (kf ks) rl ∧ ks.length = Bk.W.length ∧ rl.length ≤ i ∧ tot Bk.W.length (phi r (kf ks)) = i) ⟨none, none, none, none, none, none, _, _, _, [], rfl, p4, LsP.nil, by rw [k0]; exact .start, by rw [k0]; exact .start, by rw [List.length_replicate], Nat.le_refl _, by rw [ph0, tot_zero]⟩ ?_ ?_
    · rintro i σ H' hi ⟨y5, y6, y7, y8, y9, y11, r, ks, ts, rl, rfl, p, tt, pa, rfp, hks, hrl, hphi⟩
      clear p4 ph0 k0
      rw [Int.zero_add]
      -- able
      refine ⟨_, rfl, ro, _, rfl, .inl (.of (p.get (i := 0) rfl)), _, rfl, by rw [enc_len]; omega, by rw [enc_len]; omega, ?_⟩
      rw [enc_len, Int.toNat_natCast]
      refine fun D hD => lc_range (fun j H2 => (∀ b o, H' b = some o → H2 b = some o) ∧ H2 D = some (.lst (((List.range j).filter fun a => decide (r a = none ∧ kf ks a < ((bk Bk).W a).length)).map nV))) ⟨fun b o e => by rw [upd_ne (ne_of_none e hD)]; exact e, upd_same⟩ (fun j H2 hj ⟨c1, c2⟩ => ?_) (fun H2 ⟨c1, c2⟩ => ?_)
      · have st : St T [] H' H2 := .ex c1
        rw [Int.zero_add, List.range_succ, List.filter_append]
        have p2 := p.step st
        obtain ⟨px, ex, fx⟩ := h3.2 j _ (bkW hj)
        have hkj := kf_at (ks := ks) (a := j) (by rw [hks]; exact hj)
        have no : ¬ (r j = none ∧ kf ks j < ((bk Bk).W j).length) → ((∀ b o, H' b = some o → H2 b = some o) ∧ H2 D = some (.lst (((List.range j).filter (fun a => decide (r a = none ∧ kf ks a < ((bk Bk).W a).length)) ++ [j].filter fun a => decide (r a = none ∧ kf ks a < ((bk Bk).W a).length)).map nV))) := fun e => ⟨c1, by
          rw [show [j].filter (fun a => decide (r a = none ∧ kf ks a < ((bk Bk).W a).length)) = [] by rw [List.filter_cons, if_neg (fun z => e (of_decide_eq_true z))]; rfl, List.append_nil]
          exact c2⟩
        refine ⟨rfl, _, rfl, _, rfl, ro, _, (j : Int), _, rfl, rfl, .of (p2.get (i := 0) rfl), atI_nat (enc_at r hj), _, _, rfl, rfl, _, rfl, ite2 (fun e => ?_) (fun e => ?_)⟩
        · have e : r j = none := encO_neg.mp (of_decide_eq_true e)
          refine ⟨_, rfl, _, rfl, as, _, (j : Int), nV (kf ks j), rfl, rfl, .of (p2.get (i := 1) rfl), atI_nat (by rw [List.getElem?_map, hkj]; rfl), _, rfl, ad, _, 0, .ref wa, rfl, rfl, p2.en.st.sqT h1, atI_nat (j := 0) rfl, _, rfl, wa, wv, (j : Int), .ref px, rfl, rfl, p2.en.st.sqT h2, atI_nat ex, px, _, rfl, .inr (p2.en.st.ft fx).sq, _, _, rfl, rfl, _, rfl, ite2 (fun e2 => ?_) (fun e2 => ?_)⟩
          · have e2 := of_decide_eq_true e2
            rw [List.length_map] at e2
            have e3 : r j = none ∧ kf ks j < ((bk Bk).W j).length := ⟨e, by omega⟩
            refine ⟨_, rfl, _, c2, by
              rw [List.length_map]
              have := List.length_filter_le (fun a => decide (r a = none ∧ kf ks a < ((bk Bk).W a).length)) (List.range j)
              rw [List.length_range] at this
              exact small' (by omega), fun b o e => by rw [upd_ne (ne_of_none e hD)]; exact c1 b o e, ?_⟩
            rw [show [j].filter (fun a => decide (r a = none ∧ kf ks a < ((bk Bk).W a).length)) = [j] by rw [List.filter_cons, if_pos (decide_eq_true e3)]; rfl, List.map_append]
            exact upd_same
          · have e2 := of_decide_eq_false (eq_false_of_ne_true e2)
            rw [List.length_map] at e2
            exact no fun z => e2 (by have := z.2; omega)
        · exact no fun z => e (decide_eq_true (encO_neg.mpr z.1))
      · have st : St T [] H' H2 := .ex c1
        have p2 := p.step st
        have tt2 := tt.st st
        have hDd : D ≠ d := by
          obtain ⟨ns, _, _, z⟩ := p.dc
          exact (ne_of_none z hD).symm
        clear st p tt
        obtain ⟨ab, eab⟩ : ∃ ab, ab = (List.range Bk.W.length).filter fun a => decide (r a = none ∧ kf ks a < ((bk Bk).W a).length) := ⟨_, rfl⟩
        rw [← eab] at c2
        have abm : ∀ a, a ∈ ab ↔ a < Bk.W.length ∧ r a = none ∧ kf ks a < ((bk Bk).W a).length := fun a => by rw [eab, List.mem_filter, List.mem_range, decide_eq_true_iff]
        have abl : ab.length ≤ Bk.W.length := by
          have := List.length_filter_le (fun a => decide (r a = none ∧ kf ks a < ((bk Bk).W a).length)) (List.range Bk.W.length)
          rw [List.length_range, ← eab] at this
          exact this
        clear eab
        rcases ab with _ | ⟨a0, ab'⟩
        · -- break
          refine ⟨_, rfl, false, .inl ⟨_, .of c2, rfl⟩, iteT ?_⟩
          have dn : ∀ x, r x = none → ((bk Bk).W x).length ≤ kf ks x := fun x hx => by
            rcases Nat.lt_or_ge x Bk.W.length with z | z
            · rcases Nat.lt_or_ge (kf ks x) ((bk Bk).W x).length with y | y
              · exact nomatch (abm x).mpr ⟨z, hx, y⟩
              · exact y
            · rw [wfB.wl x z]
              exact Nat.zero_le _
          have best := pa.best wfB dn
          have spots := pa.spot_at wfB dn
          refine ⟨_, rfl, _, rfl, rf, ts.map V.ref, kH H2, rfl, .of (p2.get (i := 2) rfl), tt2.pairs, fun ys d2 srt2 stb2 hd2 => ?_⟩
          obtain ⟨ts4, ps4, rfl, l4, l5, l6⟩ := sort_out tt2 rfp.nd srt2 stb2
          have z1 : St T [] H2 (upd H2 d2 (.lst (ts4.map V.ref))) := .new hd2
          refine ⟨d2, _, rfl, .inl ⟨.of upd_same, fun td2 htd2 => ?_⟩⟩
          have z2 : St T [] (upd H2 d2 (.lst (ts4.map V.ref))) (upd (upd H2 d2 (.lst (ts4.map V.ref))) td2 (.tup (ts4.map V.ref))) := .new htd2
          refine ⟨by show 2 ≤ sizeLine; decide, fun t ht => ?_⟩
          have z3 : St T [] (upd (upd H2 d2 (.lst (ts4.map V.ref))) td2 (.tup (ts4.map V.ref))) (upd (upd (upd H2 d2 (.lst (ts4.map V.ref))) td2 (.tup (ts4.map V.ref))) t (.tup [.ref ro, .ref td2])) := .new ht
          have p3 := p2.step ((z1.trans z2).trans z3)
          exact q t ro (.ref td2) _ r ps4 best (.of upd_same) (p3.get (i := 0) rfl) (p3.en.fr (ro, .lst (enc Bk.W.length r)) (by simp)) ⟨td2, ts4, rfl, z3.sqT (.of upd_same), l4.st ((z1.trans z2).trans z3)⟩ (rfp.pass wfB spots l5 l6) p3.en.st p3.dc
        · refine ⟨_, rfl, true, .inl ⟨_, .of c2, rfl⟩, iteF ?_⟩
          have abp : 0 < (a0 :: ab').length := by simp
          generalize a0 :: ab' = ab at c2 abm abl abp ⊢
          refine ⟨_, rfl, _, rfl, _, rfl, D, _, rfl, .inl (.of c2), d, _, rfl, by rw [List.length_map]; omega, p2.dc, fun t H3 ht st dc => ?_⟩
          rw [List.length_map] at ht
          obtain ⟨a, ha⟩ : ∃ a, ab[t]? = some a := ⟨_, List.getElem?_eq_getElem (by omega)⟩
          obtain ⟨han, har, hak⟩ := (abm a).mp (List.mem_of_getElem? ha)
          have c3 := st.lst c2 (by simp [hDd])
          have p3 := p2.take st dc
          have tt3 := tt2.st st
          clear p2 tt2 st dc c2
          refine ⟨D, _, (t : Int), nV a, rfl, rfl, .of c3, atI_nat (by rw [List.getElem?_map, ha]; rfl), ?_⟩
          obtain ⟨px, ex, fx⟩ := h3.2 a _ (bkW han)
          have hkj := kf_at (ks := ks) (a := a) (by rw [hks]; exact han)
          obtain ⟨b, hb⟩ : ∃ b, ((bk Bk).W a)[kf ks a]? = some b := ⟨_, List.getElem?_eq_getElem hak⟩
          have hbw := List.mem_of_getElem? hb
          obtain ⟨_, hbm⟩ := gd.ltW hbw
          refine ⟨_, rfl, ad, _, 0, .ref wa, rfl, rfl, p3.en.st.sqT h1, atI_nat (j := 0) rfl, _, rfl, wa, wv, (a : Int), .ref px, rfl, rfl, p3.en.st.sqT h2, atI_nat ex, _, rfl, _, rfl, as, _, (a : Int), nV (kf ks a), rfl, rfl, .of (p3.get (i := 1) rfl), atI_nat (by rw [List.getElem?_map, hkj]; rfl), px, _, (kf ks a : Int), nV b, rfl, rfl, (p3.en.st.ft fx).sq, atI_nat (by rw [List.getElem?_map, hb]; rfl), ?_⟩
          -- row[a] = b
          refine ⟨_, rfl, _, rfl, _, rfl, ro, _, (a : Int), a, rfl, rfl, p3.get (i := 0) rfl, Evl.ixN_nat (by rw [enc_len]; exact han), ?_⟩
          rw [show (enc Bk.W.length r).set a (nV b) = enc Bk.W.length (up r a (some b)) from enc_set (r := r) (x := some b) han]
          have p4 : ED T d H _ (lC ro as rf Bk.W.length (up r a (some b)) ks ts) := p3.put (i := 0) rfl (Mu.l (xs := enc Bk.W.length (up r a (some b))))
          have tt4 := tt3.put (p3.get (i := 0) rfl) Mu.l (Mu.l (xs := enc Bk.W.length (up r a (some b))))
          clear p3 tt3 c3
          generalize upd H3 ro (.lst (enc Bk.W.length (up r a (some b)))) = H4 at p4 tt4 ⊢
          -- held
          obtain ⟨pr, er, frr⟩ := h5.2 b _ (bkRl hbm)
          refine ⟨_, rfl, ad, _, 1, .ref ra, rfl, rfl, p4.en.st.sqT h1, atI_nat (j := 1) rfl, _, rfl, ra, rv, (b : Int), .ref pr, rfl, rfl, p4.en.st.sqT h4, atI_nat er, pr, rfl, ⟨_, (p4.en.st.ft frr).sq⟩, fun D2 hD2 => lc_tup (K := K) (a := pr) (xs := ((bk Bk).R b).map nV) (fun j H5 => (∀ b o, H4 b = some o → H5 b = some o) ∧ H5 D2 = some (.lst (((((bk Bk).R b).take j).filter fun c => decide (up r a (some b) c = some b)).map nV))) ⟨fun b o e => by rw [upd_ne (ne_of_none e hD2)]; exact e, by rw [List.take_zero]; exact upd_same⟩ (fun j H5 _ c => (St.ex (T := T) (L := []) c.1).sqT (p4.en.st.ft frr).sq) (fun j x H5 hx ⟨c1, c2⟩ => ?_) (fun H5 ⟨c1, c2⟩ => ?_)⟩
          · rw [List.getElem?_map] at hx
            cases hc : ((bk Bk).R b)[j]? with
            | none => rw [hc] at hx; cases hx
            | some c =>
              rw [hc] at hx
              cases Option.some.inj hx
              have p5 := p4.step (.ex c1)
              have hcn : c < Bk.W.length := (gd.ltW ((wfB.sd c b).mpr (List.mem_of_getElem? hc))).1
              rw [List.take_add_one, hc, List.filter_append]
              refine ⟨rfl, _, rfl, _, rfl, ro, _, (c : Int), _, rfl, rfl, .of (p5.get (i := 0) rfl), atI_nat (enc_at _ hcn), _, rfl, rfl, _, rfl, ite2 (fun e => ?_) (fun e => ?_)⟩
              · have e := dV.mp e
                refine ⟨_, rfl, _, c2, by
                  rw [List.length_map]
                  have h7 := List.length_filter_le (fun c => decide (up r a (some b) c = some b)) (((bk Bk).R b).take j)
                  have h8 := gd.rol12 b
                  rw [List.length_take] at h7
                  exact small' (by omega), fun b o e => by rw [upd_ne (ne_of_none e hD2)]; exact c1 b o e, ?_⟩
                rw [show (Option.some c).toList.filter (fun c => decide (up r a (some b) c = some b)) = [c] by
                  show [c].filter _ = [c]
                  rw [List.filter_cons, if_pos (decide_eq_true e)]
                  rfl, List.map_append]
                exact upd_same
              · have e : ¬ up r a (some b) c = some b := fun z => e (dV.mpr z)
                refine ⟨c1, ?_⟩
                rw [show (Option.some c).toList.filter (fun c => decide (up r a (some b) c = some b)) = [] by
                  show [c].filter _ = []
                  rw [List.filter_cons, if_neg (fun z => e (of_decide_eq_true z))]
                  rfl, List.append_nil]
                exact c2
          · rw [List.length_map, List.take_length] at c2
            have p5 := p4.step (.ex c1)
            have tt5 := tt4.st (T := T) (L := []) (.ex c1)
            clear p4 tt4 c1
            have hS := bkS (B := Bk) (b := b) (by rw [gd.sl]; exact hbm)
            have ecnt : (((bk Bk).R b).filter fun c => decide (up r a (some b) c = some b)).length = Ma.cnt (bk Bk) (up r a (some b)) b := by
              rw [show Ma.cnt (bk Bk) (up r a (some b)) b = ((bk Bk).R b).countP fun c => up r a (some b) c == some b from rfl, List.countP_eq_length_filter]
              congr 2
              funext c
              rw [Bool.eq_iff_iff, decide_eq_true_iff, beq_iff_eq]
            have up_pr : ∀ x c, up r a (some b) x = some c → c ∈ (bk Bk).W x := fun x c e => by
              by_cases hx : x = a
              · subst hx
                rw [up_same] at e
                cases e
                exact hbw
              · rw [up_ne hx] at e
                exact pa.mem e
            have hph : tot Bk.W.length (up (phi r (kf ks)) a (kf ks a + 1)) = i + 1 := by
              have h7 := tot_up (f := phi r (kf ks)) (v := kf ks a + 1) han
              rw [phi_none har] at h7
              omega
            refine ⟨_, rfl, D2, _, rfl, .inl (.of c2), _, rfl, ad, _, 2, .ref sa, rfl, rfl, p5.en.st.sqT h1, atI_nat (j := 2) rfl, _, rfl, sa, _, (b : Int), nV ((bk Bk).S b), rfl, rfl, p5.en.st.sqT h6, atI_nat (by rw [List.getElem?_map, hS]; rfl), _, _, rfl, rfl, _, rfl, ite2 (fun e => ?_) (fun e => ?_)⟩
            · have e := of_decide_eq_true e
              rw [List.length_map, ecnt] at e
              have e : (bk Bk).S b < Ma.cnt (bk Bk) (up r a (some b)) b := by omega
              obtain ⟨l, hl⟩ : ∃ l, (((bk Bk).R b).filter fun c => decide (up r a (some b) c = some b))[(((bk Bk).R b).filter fun c => decide (up r a (some b) c = some b)).length - 1]? = some l := ⟨_, List.getElem?_eq_getElem (by omega)⟩
              obtain ⟨hl1, hl2⟩ := List.mem_filter.mp (List.mem_of_getElem? hl)
              have hl2 := of_decide_eq_true hl2
              have hln : l < Bk.W.length := (gd.ltW ((wfB.sd l b).mpr hl1)).1
              obtain ⟨pa2, hlb⟩ := pa.refuse wfB har hb e hl2 fun x hx => filt_last (wfB.rn b) (List.mem_filter.mpr ⟨(wfB.sd x b).mp (up_pr x b hx), decide_eq_true hx⟩) hl
              have rfp2 := rfp.add wfB hlb
              rw [← phi_refuse har hl2] at hph
              have hkl := kf_at (ks := ks) (a := l) (by rw [hks]; exact hln)
              have eks : kf (ks.set l (kf ks l + 1)) = up (kf ks) l (kf ks l + 1) := kf_set (by rw [hks]; exact hln)
              rw [← eks] at pa2 rfp2 hph
              refine ⟨_, rfl, 1, rfl, D2, _, -1, nV l, rfl, rfl, .of c2, atI_end hl, ?_⟩
              refine ⟨1, rfl, _, rfl, _, rfl, ro, _, (l : Int), l, rfl, rfl, p5.get (i := 0) rfl, Evl.ixN_nat (by rw [enc_len]; exact hln), ?_⟩
              rw [show (enc Bk.W.length (up r a (some b))).set l (V.int (-1)) = enc Bk.W.length (up (up r a (some b)) l none) from enc_set (r := up r a (some b)) (x := none) hln]
              have p6 : ED T d H _ (lC ro as rf Bk.W.length (up (up r a (some b)) l none) ks ts) := p5.put (i := 0) rfl (Mu.l (xs := enc Bk.W.length (up (up r a (some b)) l none)))
              have tt6 := tt5.put (p5.get (i := 0) rfl) Mu.l (Mu.l (xs := enc Bk.W.length (up (up r a (some b)) l none)))
              clear p5 tt5 c2
              generalize upd H5 ro (.lst (enc Bk.W.length (up (up r a (some b)) l none))) = H6 at p6 tt6 ⊢
              refine ⟨_, rfl, _, rfl, as, _, (l : Int), nV (kf ks l), rfl, rfl, .of (p6.get (i := 1) rfl), atI_nat (by rw [List.getElem?_map, hkl]; rfl), _, 1, rfl, rfl, _, rfl, _, rfl, as, _, (l : Int), l, rfl, rfl, p6.get (i := 1) rfl, Evl.ixN_nat (by rw [List.length_map, hks]; exact hln), ?_⟩
              dsimp only
              rw [show (ks.map nV).set l (V.int ((kf ks l : Int) + 1)) = (ks.set l (kf ks l + 1)).map nV by rw [List.map_set]; rfl]
              have p7 : ED T d H _ (lC ro as rf Bk.W.length (up (up r a (some b)) l none) (ks.set l (kf ks l + 1)) ts) := p6.put (i := 1) rfl (Mu.l (xs := (ks.set l (kf ks l + 1)).map nV))
              have tt7 := tt6.put (p6.get (i := 1) rfl) Mu.l (Mu.l (xs := (ks.set l (kf ks l + 1)).map nV))
              clear p6 tt6
              generalize upd H6 as (.lst ((ks.set l (kf ks l + 1)).map nV)) = H7 at p7 tt7 ⊢
              refine ⟨_, rfl, .inl ⟨rfl, _, .of (p7.get (i := 2) rfl)⟩, _, rfl, _, rfl, by show 2 ≤ sizeLine; decide, fun t2 ht2 => ⟨rf, _, .ref t2, rfl, rfl, (p7.step (.new ht2)).get (i := 2) rfl, by
                rw [List.length_map, tt7.1]
                exact small' (by omega), ?_⟩⟩
              have p8 := p7.step (.new (o := .tup [nV l, nV b]) ht2)
              have tt8 := tt7.st (.new (T := T) (L := []) (o := .tup [nV l, nV b]) ht2)
              rw [show ts.map V.ref ++ [V.ref t2] = (ts ++ [t2]).map V.ref by simp]
              have p9 : ED T d H _ (lC ro as rf Bk.W.length (up (up r a (some b)) l none) (ks.set l (kf ks l + 1)) (ts ++ [t2])) := p8.put (i := 2) rfl (Mu.l (xs := (ts ++ [t2]).map V.ref))
              have tt9 := (tt8.put (p8.get (i := 2) rfl) Mu.l (Mu.l (xs := (ts ++ [t2]).map V.ref))).snoc (p := (l, b)) (t := t2) (p8.en.putT (K := K) (i := 2) rfl upd_same)
              exact ⟨_, _, _, _, _, _, _, _, _, _, rfl, p9, tt9, pa2, rfp2, by rw [List.length_set]; exact hks, by rw [List.length_append]; simp only [List.length_singleton]; omega, hph⟩
            · have e := of_decide_eq_false (eq_false_of_ne_true e)
              rw [List.length_map, ecnt] at e
              have pa2 := pa.place wfB har hb (by omega)
              rw [← phi_place (b := b) har] at hph
              exact ⟨_, _, _, _, _, _, _, _, _, _, rfl, p5, tt5, pa2, rfp, hks, by omega, hph⟩
    · rintro σ H2 ⟨y5, y6, y7, y8, y9, y11, r, ks, ts, rl, rfl, p, tt, pa, rfp, hks, hrl, hphi⟩
      have h1 := tot_le (n := Bk.W.length) fun a _ => pa.phi_le a
      have h2 : tot Bk.W.length (fun a => ((bk Bk).W a).length) ≤ 60 := hpl
      omega
end
end Z
namespace Ma
theorem tot_add (n : Nat) (f g : Nat → Nat) : tot n (fun a => f a + g a) = tot n f + tot n g := by
  induction n with
  | zero => rfl
  | succ n ih =>
    rw [tot_succ, tot_succ, tot_succ, ih]
    omega
theorem tot_swap (f : Nat → Nat → Nat) (n : Nat) : ∀ m, tot m (fun b => tot n fun a => f a b) = tot n fun a => tot m fun b => f a b
  | 0 => by
    rw [show (fun a => tot 0 fun b => f a b) = fun _ => 0 from rfl, tot_zero]
    rfl
  | m + 1 => by
    rw [tot_succ, tot_swap f n m, ← tot_add]
    exact tot_congr fun a _ => (tot_succ m fun b => f a b).symm
theorem tot_ite (p : Nat → Bool) : ∀ n, tot n (fun a => if p a = true then 1 else 0) = ((List.range n).filter p).length
  | 0 => rfl
  | n + 1 => by
    rw [tot_succ, tot_ite p n, List.range_succ, List.filter_append, List.length_append]
    congr 1
    by_cases h : p n = true
    · simp [h]
    · simp [h]
theorem len_tot {l : List Nat} {n : Nat} (hn : l.Nodup) (hl : ∀ x ∈ l, x < n) : l.length = tot n fun a => if decide (a ∈ l) = true then 1 else 0 := by
  rw [tot_ite]
  apply List.Perm.length_eq
  rw [List.perm_ext_iff_of_nodup hn ((List.filter_sublist).nodup List.nodup_range)]
  intro x
  rw [List.mem_filter, List.mem_range, decide_eq_true_iff]
  exact ⟨fun h => ⟨hl x h, h⟩, fun h => h.2⟩
theorem tot_sides {B : Bk} (wf : Wf B) : tot B.m (fun b => (B.R b).length) = tot B.n fun a => (B.W a).length := by
  have wlt : ∀ a b, b ∈ B.W a → a < B.n ∧ b < B.m := fun a b h => by
    refine ⟨?_, ?_⟩
    · rcases Nat.lt_or_ge a B.n with z | z
      · exact z
      · rw [wf.wl a z] at h
        cases h
    · rcases Nat.lt_or_ge b B.m with z | z
      · exact z
      · have h := (wf.sd a b).mp h
        rw [wf.rl b z] at h
        cases h
  rw [tot_congr (g := fun b => tot B.n fun a => if decide (b ∈ B.W a) = true then 1 else 0) fun b _ => ?_, tot_swap]
  · exact tot_congr fun a _ => (len_tot (wf.wn a) fun b hb => (wlt a b hb).2).symm
  · rw [len_tot (wf.rn b) fun a ha => (wlt a b ((wf.sd a b).mpr ha)).1]
    exact tot_congr fun a _ => by
      congr 1
      rw [decide_eq_true_iff, decide_eq_true_iff]
      exact propext (wf.sd a b).symm
end Ma
namespace Z
open PySem PySem.Spec PyProof.Rows L2 Ma
section
variable {P : Program} {w : World} {K : PySem.W.Frag} {mg : Str → Option Value} {base : Heap} {T : Tb}
def spLS (K : PySem.W.Frag) (T : Tb) : Sp := fun vs H Q _ => ∃ (d : Addr) (v : V) (B : Bo), vs = [.ref d, v] ∧ Dice H d ∧ BkR K H v B ∧ Gd B ∧ ∀ (t p : Addr) (y : V) (H' : Hp) (r : Ma.Row) (rs : List (Nat × Nat)), Worst (bk B) r →
  SqT K H' t [.ref p, y] → H' p = some (.lst (enc B.W.length r)) → Nw H p → PrT K H' y rs → IsPassBy (bk B) r rs → St T [d] H H' → Dice H' d → Q (.ref t) H'
theorem ok_Lsask {f fL : Addr} {fd fdL : FuncData} {k : Nat} (F : Fun K "_law_schools_ask" "_law_schools_ask" s_Lschools_ask f fd) (B : Bt mg) (G_take : FnOk P w K mg base CX0 k fL fdL ["_law_dice_here", "_law_many"] (spTake T)) (g_take : mg "_law_take" = some (.ref fL)) (kp_take : PySem.W.keepIn K (.ref fL) = true) (b_take : Binds K fdL ["_law_dice_here", "_law_many"] [])
    {fM : Addr} {fdM : FuncData} (G_spot : FnOk P w K mg base CX0 k fM fdM ["_law_office_here", "_law_a", "_law_b"] (spSpot K)) (g_spot : mg "_law_spot" = some (.ref fM)) (kp_spot : PySem.W.keepIn K (.ref fM) = true) (b_spot : Binds K fdM ["_law_office_here", "_law_a", "_law_b"] []) :
    FnOk P w K mg base CX0 (k + 1) f fd ["_law_dice_here", "_law_office_here"] (spLS K T) := by
  refine F.ok sc_Lschools_ask (fun vs H Q E h => ?_) (fun cdv A outer s H vs Q E hr h => ?_)
  · obtain ⟨d, v, B, rfl, _⟩ := h
    rfl
  · obtain ⟨d, v, Bk, rfl, hd, hB, gd, q⟩ := h
    refine ⟨_, (pss_cons (ps_set (i := 2) sc_Lschools_ask.nd rfl (Or.inr rfl) (pe_op op_rep (pe_lst (pa_cons (pe_un un_neg pe_int) pa_nil)) (pe_callB (klen K) (by rfl) B.len (by decide +kernel) (pa_cons (pe_ix (kix_tup K) (pv 1) pe_int (fun _ _ => rfl)) pa_nil))))
      (pss_cons (ps_set (i := 3) sc_Lschools_ask.nd rfl (Or.inr rfl) (pe_op op_rep (pe_lst (pa_cons pe_int pa_nil)) (pe_callB (klen K) (by rfl) B.len (by decide +kernel) (pa_cons (pe_ix (kix_tup K) (pv 1) pe_int (fun _ _ => rfl)) pa_nil))))
      (pss_cons (ps_set (i := 4) sc_Lschools_ask.nd rfl (Or.inl rfl) (pe_lst pa_nil))
      (pss_cons (ps_for PassesOwn.never rfl (pi_range1 (by rfl) B.range (pa_cons pe_int pa_nil)) (pg_name (i := 5) sc_Lschools_ask.nd rfl (Or.inl rfl))
        (pss_cons (ps_setLc (i := 6) (own := [("_law_b", 7)]) (tt := _) (by rfl) sc_Lschools_ask.nd rfl rfl (sw_true rfl rfl rfl (by decide +kernel)) (pi_range1 (by rfl) B.range (pa_cons (pe_callB (klen K) (by rfl) B.len (by decide +kernel) (pa_cons (pv 3) pa_nil)) pa_nil)) (blkOk_by (own := [("_law_b", 7)]) (N := n_Lschools_ask) (sc := defScope s_Lschools_ask) (by decide +kernel)) (fun _ _ _ _ _ => (pg_name (i := 7) sc_Lschools_ask.nd rfl (Or.inl rfl))) (fun _ _ _ _ _ => (pts_one (PW.pt (pw_and (pt_cmpR op_lt (pe_ix (kix_list K) (pv 3) (pv 7) (fun _ _ => rfl)) (pe_callB (klen K) (by rfl) B.len (by decide +kernel) (pa_cons (pe_ix (kix_tup K) (pe_ix (kix_tup K) (pv 1) pe_int (fun _ _ => rfl)) (pv 7) (fun _ _ => rfl)) pa_nil)) (nomark _)) (pw_and1 (pt_cmpR op_lt (kbm K PySem.F.plainAttrs_list PySem.F.slot_list_count PySem.F.type_list_count (kcount K) (pv 2) (pa_cons (pv 7) pa_nil)) (pe_ix (kix_tup K) (pe_ix (kix_tup K) (pv 1) pe_int (fun _ _ => rfl)) (pv 7) (fun _ _ => rfl)) (nomark _))))))) (fun _ _ _ _ _ => (pv 7)))
        (pss_cons (ps_if (pt_not (ktruth K (pv 6) (by intro _; rfl)))
          (pss_one ps_break)
          pss_nil)
        (pss_cons (ps_set (i := 7) sc_Lschools_ask.nd rfl (Or.inl rfl) (pe_ix (kix_list K) (pv 6) (pe_call G_take hr (by rfl) g_take kp_take b_take .nil pass0 (pa_cons (pv 0) (pa_cons (pe_callB (klen K) (by rfl) B.len (by decide +kernel) (pa_cons (pv 6) pa_nil)) pa_nil))) (fun _ _ => rfl)))
        (pss_cons (ps_set (i := 8) sc_Lschools_ask.nd rfl (Or.inl rfl) (pe_ix (kix_tup K) (pe_ix (kix_tup K) (pe_ix (kix_tup K) (pv 1) pe_int (fun _ _ => rfl)) (pv 7) (fun _ _ => rfl)) (pe_ix (kix_list K) (pv 3) (pv 7) (fun _ _ => rfl)) (fun _ _ => rfl)))
        (pss_cons (ps_asg (pe_op op_add (pe_ix (kix_list K) (pv 3) (pv 7) (fun _ _ => rfl)) pe_int) (pg_sub (pv 3) (pv 7) set_list))
        (pss_one (ps_if (pt_cmpR op_lt (pe_ix (kix_list K) (pv 2) (pv 8) (fun _ _ => rfl)) pe_int (nomark _))
          (pss_one (ps_asg (pv 7) (pg_sub (pv 2) (pv 8) set_list)))
          (pss_one (ps_if (pt_cmpR op_lt (pe_call G_spot hr (by rfl) g_spot kp_spot b_spot .nil pass0 (pa_cons (pv 1) (pa_cons (pv 8) (pa_cons (pv 7) pa_nil)))) (pe_call G_spot hr (by rfl) g_spot kp_spot b_spot .nil pass0 (pa_cons (pv 1) (pa_cons (pv 8) (pa_cons (pe_ix (kix_list K) (pv 2) (pv 8) (fun _ _ => rfl)) pa_nil)))) (nomark _))
            (pss_cons (ps_expr (kbm K PySem.F.plainAttrs_list PySem.F.slot_list_append PySem.F.type_list_append mt_append (pv 4) (pa_cons (pe_tup (pa_cons (pv 8) (pa_cons (pe_ix (kix_list K) (pv 2) (pv 8) (fun _ _ => rfl)) pa_nil))) pa_nil)))
            (pss_one (ps_asg (pv 7) (pg_sub (pv 2) (pv 8) set_list))))
            (pss_one (ps_expr (kbm K PySem.F.plainAttrs_list PySem.F.slot_list_append PySem.F.type_list_append mt_append (pv 4) (pa_cons (pe_tup (pa_cons (pv 8) (pa_cons (pv 7) pa_nil))) pa_nil))))))))))))))
      (pss_one (ps_ret (pe_tup (pa_cons (pv 2) (pa_cons (pe_callTy call_tuple_of (by rfl) B.tuple (by decide +kernel) (pa_cons (pe_callB cr_sortedPO (by rfl) B.sorted (by decide +kernel) (pa_cons (pv 4) pa_nil)) pa_nil)) pa_nil))))))))), ?_⟩
    have hB0 := hB
    obtain ⟨ad, wa, ra, sa, wv, rv, rfl, h1, h2, h3, h4, h5, h6⟩ := hB
    have lr : rv.length = Bk.R.length := h5.1
    have hml := gd.ml
    have lw : wv.length = Bk.W.length := h3.1
    have hnl := gd.nl
    have hpl := gd.pl
    have wfB := gd.wf
    -- row
    refine ⟨1, rfl, by show 1 ≤ sizeLine; decide, fun c1 hc1 => ?_⟩
    have p0 := (ED.nil (T := T) hd).step (.new (o := .lst [V.int (-1)]) hc1)
    have e1 : (upd H c1 (.lst [V.int (-1)])) c1 = some (.lst [V.int (-1)]) := upd_same
    generalize upd H c1 (.lst [V.int (-1)]) = H1 at p0 e1 ⊢
    refine ⟨_, rfl, ad, _, 0, .ref wa, rfl, rfl, p0.en.st.sqT h1, atI_nat (j := 0) rfl, wa, wv, rfl, .inr (p0.en.st.sqT h2), c1, _, _, rfl, rfl, e1, by rw [lw]; omega, by rw [lw]; omega, by rw [lw, Int.toNat_natCast]; exact small (by show 1 * _ ≤ _; omega), fun ro hro => ?_⟩
    rw [lw, Int.toNat_natCast, rep_flat, ← enc_none]
    have p1 := p0.new hro (Mu.l (xs := enc Bk.W.length fun _ => none))
    clear p0 e1 hc1
    generalize upd H1 ro (.lst (enc Bk.W.length fun _ => none)) = H2 at p1 ⊢
    -- asked
    refine ⟨by show 1 ≤ sizeLine; decide, fun c2 hc2 => ?_⟩
    have p2 := p1.step (.new (o := .lst [V.int 0]) hc2)
    have e2 : (upd H2 c2 (.lst [V.int 0])) c2 = some (.lst [V.int 0]) := upd_same
    generalize upd H2 c2 (.lst [V.int 0]) = H3 at p2 e2 ⊢
    refine ⟨_, rfl, ad, _, 1, .ref ra, rfl, rfl, p2.en.st.sqT h1, atI_nat (j := 1) rfl, ra, rv, rfl, .inr (p2.en.st.sqT h4), c2, _, _, rfl, rfl, e2, by rw [lr]; omega, by rw [lr]; omega, by rw [lr, Int.toNat_natCast]; exact small (by show 1 * _ ≤ _; omega), fun as has => ?_⟩
    rw [lr, Int.toNat_natCast, rep_flat, show List.replicate Bk.R.length (V.int 0) = (List.replicate Bk.R.length 0).map nV by simp]
    have p3 := p2.new has (Mu.l (xs := (List.replicate Bk.R.length 0).map nV))
    clear p1 p2 e2 hc2
    generalize upd H3 as (.lst ((List.replicate Bk.R.length 0).map nV)) = H4 at p3 ⊢
    refine ⟨Nat.zero_le _, fun rf hrf => ?_⟩
    have p4 : ED T d H (upd H4 rf (.lst [])) (lC ro as rf Bk.W.length (fun _ => none) (List.replicate Bk.R.length 0) []) := p3.new hrf (Mu.l (xs := []))
    clear p3
    generalize upd H4 rf (.lst []) = H5 at p4 ⊢
    have k0 : kf (List.replicate Bk.R.length 0) = fun _ => 0 := by
      funext b
      unfold kf
      rw [List.getD_eq_getElem?_getD, List.getElem?_replicate]
      split <;> rfl
    have r60 : tot Bk.R.length (fun b => ((bk Bk).R b).length) ≤ 60 := Nat.le_trans (Nat.le_of_eq (tot_sides wfB)) hpl
    refine ⟨70, rfl, by decide, by decide, ?_⟩
    refine for_range (n := 70) (fun i σ H' => ∃ y5 y6 y7 y8 r qs ts rl, σ = [some (.ref d), some (.ref ad), some (.ref ro), some (.ref as), some (.ref rf), y5, y6, y7, y8] ∧ ED T d H H' (lC ro as rf Bk.W.length r qs ts) ∧ LsP K H' ts rl ∧ SA (bk Bk) r (kf qs) ∧ RfS (bk Bk) r (kf qs) rl ∧ qs.length = Bk.R.length ∧ rl.length ≤ i ∧ tot Bk.R.length (kf qs) = i) ⟨none, none, none, none, _, _, _, [], rfl, p4, LsP.nil, by rw [k0]; exact .start wfB, by rw [k0]; exact .start, by rw [List.length_replicate], Nat.le_refl _, by rw [k0, tot_zero]⟩ ?_ ?_
    · rintro i σ H' hi ⟨y5, y6, y7, y8, r, qs, ts, rl, rfl, p, tt, sa', rfs, hqs, hrl, htq⟩
      clear p4 k0
      rw [Int.zero_add]
      have rpr : ∀ a b, r a = some b → b ∈ (bk Bk).W a := fun a b e => (wfB.sd a b).mpr (sa'.mem e)
      have rout : ∀ x, Bk.W.length ≤ x → r x = none := fun x hx => by
        cases e : r x with
        | none => rfl
        | some b =>
          have := rpr x b e
          rw [wfB.wl x hx] at this
          cases this
      -- able
      refine ⟨_, rfl, as, _, rfl, .inl (.of (p.get (i := 1) rfl)), _, rfl, by rw [List.length_map]; omega, by rw [List.length_map]; omega, ?_⟩
      rw [List.length_map, hqs, Int.toNat_natCast]
      refine fun D hD => lc_range (fun j H2 => (∀ b o, H' b = some o → H2 b = some o) ∧ H2 D = some (.lst (((List.range j).filter fun b => decide (kf qs b < ((bk Bk).R b).length ∧ Ma.cnt (bk Bk) r b < (bk Bk).S b)).map nV))) ⟨fun b o e => by rw [upd_ne (ne_of_none e hD)]; exact e, upd_same⟩ (fun j H2 hj ⟨c1, c2⟩ => ?_) (fun H2 ⟨c1, c2⟩ => ?_)
      · have st : St T [] H' H2 := .ex c1
        rw [Int.zero_add, List.range_succ, List.filter_append]
        have p2 := p.step st
        obtain ⟨px, ex, fx⟩ := h5.2 j _ (bkRl hj)
        have hkj := kf_at (ks := qs) (a := j) (by rw [hqs]; exact hj)
        have hS := bkS (B := Bk) (b := j) (by rw [gd.sl]; exact hj)
        have no : ¬ (kf qs j < ((bk Bk).R j).length ∧ Ma.cnt (bk Bk) r j < (bk Bk).S j) → ((∀ b o, H' b = some o → H2 b = some o) ∧ H2 D = some (.lst (((List.range j).filter (fun b => decide (kf qs b < ((bk Bk).R b).length ∧ Ma.cnt (bk Bk) r b < (bk Bk).S b)) ++ [j].filter fun b => decide (kf qs b < ((bk Bk).R b).length ∧ Ma.cnt (bk Bk) r b < (bk Bk).S b)).map nV))) := fun e => ⟨c1, by
          rw [show [j].filter (fun b => decide (kf qs b < ((bk Bk).R b).length ∧ Ma.cnt (bk Bk) r b < (bk Bk).S b)) = [] by rw [List.filter_cons, if_neg (fun z => e (of_decide_eq_true z))]; rfl, List.append_nil]
          exact c2⟩
        refine ⟨rfl, _, rfl, _, rfl, as, _, (j : Int), nV (kf qs j), rfl, rfl, .of (p2.get (i := 1) rfl), atI_nat (by rw [List.getElem?_map, hkj]; rfl), _, rfl, ad, _, 1, .ref ra, rfl, rfl, p2.en.st.sqT h1, atI_nat (j := 1) rfl, _, rfl, ra, rv, (j : Int), .ref px, rfl, rfl, p2.en.st.sqT h4, atI_nat ex, px, _, rfl, .inr (p2.en.st.ft fx).sq, _, _, rfl, rfl, _, rfl, ite2 (fun e => ?_) (fun e => ?_)⟩
        · have e := of_decide_eq_true e
          rw [List.length_map] at e
          have hro : H2 ro = some (.lst ((eL Bk.W.length r).map V.int)) := by rw [← enc_eL]; exact p2.get (i := 0) rfl
          refine ⟨_, rfl, .inl ⟨rfl, _, .of hro⟩, _, rfl, ro, eL Bk.W.length r, (j : Int), rfl, rfl, .of hro, _, rfl, ad, _, 2, .ref sa, rfl, rfl, p2.en.st.sqT h1, atI_nat (j := 2) rfl, _, rfl, sa, _, (j : Int), nV ((bk Bk).S j), rfl, rfl, p2.en.st.sqT h6, atI_nat (by rw [List.getElem?_map, hS]; rfl), _, _, rfl, rfl, _, rfl, ite2 (fun e2 => ?_) (fun e2 => ?_)⟩
          · have e2 := of_decide_eq_true e2
            rw [eL_count wfB rpr rout] at e2
            have e3 : kf qs j < ((bk Bk).R j).length ∧ Ma.cnt (bk Bk) r j < (bk Bk).S j := ⟨by omega, by omega⟩
            refine ⟨_, rfl, _, c2, by
              rw [List.length_map]
              have := List.length_filter_le (fun b => decide (kf qs b < ((bk Bk).R b).length ∧ Ma.cnt (bk Bk) r b < (bk Bk).S b)) (List.range j)
              rw [List.length_range] at this
              exact small' (by omega), fun b o e => by rw [upd_ne (ne_of_none e hD)]; exact c1 b o e, ?_⟩
            rw [show [j].filter (fun b => decide (kf qs b < ((bk Bk).R b).length ∧ Ma.cnt (bk Bk) r b < (bk Bk).S b)) = [j] by rw [List.filter_cons, if_pos (decide_eq_true e3)]; rfl, List.map_append]
            exact upd_same
          · have e2 := of_decide_eq_false (eq_false_of_ne_true e2)
            rw [eL_count wfB rpr rout] at e2
            exact no fun z => e2 (by have := z.2; omega)
        · have e := of_decide_eq_false (eq_false_of_ne_true e)
          rw [List.length_map] at e
          exact no fun z => e (by have := z.1; omega)
      · have st : St T [] H' H2 := .ex c1
        have p2 := p.step st
        have tt2 := tt.st st
        have hDd : D ≠ d := by
          obtain ⟨ns, _, _, z⟩ := p.dc
          exact (ne_of_none z hD).symm
        clear st p tt
        obtain ⟨ab, eab⟩ : ∃ ab, ab = (List.range Bk.R.length).filter fun b => decide (kf qs b < ((bk Bk).R b).length ∧ Ma.cnt (bk Bk) r b < (bk Bk).S b) := ⟨_, rfl⟩
        rw [← eab] at c2
        have abm : ∀ b, b ∈ ab ↔ b < Bk.R.length ∧ kf qs b < ((bk Bk).R b).length ∧ Ma.cnt (bk Bk) r b < (bk Bk).S b := fun b => by rw [eab, List.mem_filter, List.mem_range, decide_eq_true_iff]
        have abl : ab.length ≤ Bk.R.length := by
          have := List.length_filter_le (fun b => decide (kf qs b < ((bk Bk).R b).length ∧ Ma.cnt (bk Bk) r b < (bk Bk).S b)) (List.range Bk.R.length)
          rw [List.length_range, ← eab] at this
          exact this
        clear eab
        rcases ab with _ | ⟨a0, ab'⟩
        · -- break
          refine ⟨_, rfl, false, .inl ⟨_, .of c2, rfl⟩, iteT ?_⟩
          have dn : ∀ b, ((bk Bk).R b).length ≤ kf qs b ∨ (bk Bk).S b ≤ Ma.cnt (bk Bk) r b := fun b => by
            rcases Nat.lt_or_ge b Bk.R.length with z | z
            · rcases Nat.lt_or_ge (kf qs b) ((bk Bk).R b).length with y | y
              · rcases Nat.lt_or_ge (Ma.cnt (bk Bk) r b) ((bk Bk).S b) with x | x
                · exact nomatch (abm b).mpr ⟨z, y, x⟩
                · exact .inr x
              · exact .inl y
            · rw [wfB.rl b z]
              exact .inl (Nat.zero_le _)
          refine ⟨_, rfl, _, rfl, rf, ts.map V.ref, kH H2, rfl, .of (p2.get (i := 2) rfl), tt2.pairs, fun ys d2 srt2 stb2 hd2 => ?_⟩
          obtain ⟨ts4, ps4, rfl, l4, l5, l6⟩ := sort_out tt2 rfs.nd srt2 stb2
          have z1 : St T [] H2 (upd H2 d2 (.lst (ts4.map V.ref))) := .new hd2
          refine ⟨d2, _, rfl, .inl ⟨.of upd_same, fun td2 htd2 => ?_⟩⟩
          have z2 : St T [] (upd H2 d2 (.lst (ts4.map V.ref))) (upd (upd H2 d2 (.lst (ts4.map V.ref))) td2 (.tup (ts4.map V.ref))) := .new htd2
          refine ⟨by show 2 ≤ sizeLine; decide, fun t ht => ?_⟩
          have z3 : St T [] (upd (upd H2 d2 (.lst (ts4.map V.ref))) td2 (.tup (ts4.map V.ref))) (upd (upd (upd H2 d2 (.lst (ts4.map V.ref))) td2 (.tup (ts4.map V.ref))) t (.tup [.ref ro, .ref td2])) := .new ht
          have p3 := p2.step ((z1.trans z2).trans z3)
          exact q t ro (.ref td2) _ r ps4 (sa'.worst wfB dn) (.of upd_same) (p3.get (i := 0) rfl) (p3.en.fr (ro, .lst (enc Bk.W.length r)) (by simp)) ⟨td2, ts4, rfl, z3.sqT (.of upd_same), l4.st ((z1.trans z2).trans z3)⟩ (rfs.passBy wfB sa' dn l5 l6) p3.en.st p3.dc
        · refine ⟨_, rfl, true, .inl ⟨_, .of c2, rfl⟩, iteF ?_⟩
          have abp : 0 < (a0 :: ab').length := by simp
          generalize a0 :: ab' = ab at c2 abm abl abp ⊢
          refine ⟨_, rfl, _, rfl, _, rfl, D, _, rfl, .inl (.of c2), d, _, rfl, by rw [List.length_map]; omega, p2.dc, fun t H3 ht st dc => ?_⟩
          rw [List.length_map] at ht
          obtain ⟨b, hb⟩ : ∃ b, ab[t]? = some b := ⟨_, List.getElem?_eq_getElem (by omega)⟩
          obtain ⟨hbm, hbk, hbc⟩ := (abm b).mp (List.mem_of_getElem? hb)
          have c3 := st.lst c2 (by simp [hDd])
          have p3 := p2.take st dc
          have tt3 := tt2.st st
          clear p2 tt2 st dc c2
          refine ⟨D, _, (t : Int), nV b, rfl, rfl, .of c3, atI_nat (by rw [List.getElem?_map, hb]; rfl), ?_⟩
          obtain ⟨px, ex, fx⟩ := h5.2 b _ (bkRl hbm)
          have hkj := kf_at (ks := qs) (a := b) (by rw [hqs]; exact hbm)
          obtain ⟨a, ha⟩ : ∃ a, ((bk Bk).R b)[kf qs b]? = some a := ⟨_, List.getElem?_eq_getElem hbk⟩
          have hbw := (wfB.sd a b).mpr (List.mem_of_getElem? ha)
          obtain ⟨han, _⟩ := gd.ltW hbw
          refine ⟨_, rfl, ad, _, 1, .ref ra, rfl, rfl, p3.en.st.sqT h1, atI_nat (j := 1) rfl, _, rfl, ra, rv, (b : Int), .ref px, rfl, rfl, p3.en.st.sqT h4, atI_nat ex, _, rfl, _, rfl, as, _, (b : Int), nV (kf qs b), rfl, rfl, .of (p3.get (i := 1) rfl), atI_nat (by rw [List.getElem?_map, hkj]; rfl), px, _, (kf qs b : Int), nV a, rfl, rfl, (p3.en.st.ft fx).sq, atI_nat (by rw [List.getElem?_map, ha]; rfl), ?_⟩
          -- asked[b] = asked[b] + 1
          refine ⟨_, rfl, _, rfl, as, _, (b : Int), nV (kf qs b), rfl, rfl, .of (p3.get (i := 1) rfl), atI_nat (by rw [List.getElem?_map, hkj]; rfl), _, 1, rfl, rfl, _, rfl, _, rfl, as, _, (b : Int), b, rfl, rfl, p3.get (i := 1) rfl, Evl.ixN_nat (by rw [List.length_map, hqs]; exact hbm), ?_⟩
          dsimp only
          rw [show (qs.map nV).set b (V.int ((kf qs b : Int) + 1)) = (qs.set b (kf qs b + 1)).map nV by rw [List.map_set]; rfl]
          have p4 : ED T d H _ (lC ro as rf Bk.W.length r (qs.set b (kf qs b + 1)) ts) := p3.put (i := 1) rfl (Mu.l (xs := (qs.set b (kf qs b + 1)).map nV))
          have tt4 := tt3.put (p3.get (i := 1) rfl) Mu.l (Mu.l (xs := (qs.set b (kf qs b + 1)).map nV))
          clear p3 tt3 c3
          generalize upd H3 as (.lst ((qs.set b (kf qs b + 1)).map nV)) = H4 at p4 tt4 ⊢
          have eqs : kf (qs.set b (kf qs b + 1)) = up (kf qs) b (kf qs b + 1) := kf_set (by rw [hqs]; exact hbm)
          have htq2 : tot Bk.R.length (kf (qs.set b (kf qs b + 1))) = i + 1 := by
            rw [eqs]
            have h7 := tot_up (f := kf qs) (v := kf qs b + 1) hbm
            omega
          have hql2 : (qs.set b (kf qs b + 1)).length = Bk.R.length := by rw [List.length_set]; exact hqs
          refine ⟨_, rfl, _, rfl, ro, _, (a : Int), _, rfl, rfl, .of (p4.get (i := 0) rfl), atI_nat (enc_at r han), _, _, rfl, rfl, _, rfl, ite2 (fun e => ?_) (fun e => ?_)⟩
          · have har : r a = none := encO_neg.mp (of_decide_eq_true e)
            have sa2 := sa'.take wfB hbc ha fun c z => by rw [har] at z; cases z
            have rf2 := rfs.take wfB ha har sa'
            rw [← eqs] at sa2 rf2
            refine ⟨_, rfl, _, rfl, _, rfl, ro, _, (a : Int), a, rfl, rfl, p4.get (i := 0) rfl, Evl.ixN_nat (by rw [enc_len]; exact han), ?_⟩
            rw [show (enc Bk.W.length r).set a (nV b) = enc Bk.W.length (up r a (some b)) from enc_set (r := r) (x := some b) han]
            have p5 : ED T d H _ (lC ro as rf Bk.W.length (up r a (some b)) (qs.set b (kf qs b + 1)) ts) := p4.put (i := 0) rfl (Mu.l (xs := enc Bk.W.length (up r a (some b))))
            have tt5 := tt4.put (p4.get (i := 0) rfl) Mu.l (Mu.l (xs := enc Bk.W.length (up r a (some b))))
            exact ⟨_, _, _, _, _, _, _, _, rfl, p5, tt5, sa2, rf2, hql2, by omega, htq2⟩
          · obtain ⟨c, hc⟩ : ∃ c, r a = some c := by
              cases hx : r a with
              | none => exact absurd (decide_eq_true (encO_neg.mpr hx)) e
              | some c => exact ⟨c, rfl⟩
            refine ⟨_, rfl, _, rfl, _, rfl, .ref ad, Bk, a, some b, rfl, hB0.st p4.en.st, han, fun x z => by cases z; exact hbw, _, rfl, _, rfl, _, rfl, _, rfl, ro, _, (a : Int), _, rfl, rfl, .of (p4.get (i := 0) rfl), atI_nat (enc_at r han), .ref ad, Bk, a, r a, rfl, hB0.st p4.en.st, han, fun x z => rpr a x z, _, _, rfl, rfl, _, rfl, ite2 (fun e2 => ?_) (fun e2 => ?_)⟩
            · have e2 := of_decide_eq_true e2
              rw [hc] at e2
              have e2 : ((bk Bk).W a).idxOf b < ((bk Bk).W a).idxOf c := by
                have e2 : ((((bk Bk).W a).idxOf b : Nat) : Int) < ((((bk Bk).W a).idxOf c : Nat) : Int) := e2
                omega
              have ncb : c ≠ b := fun z => by
                rw [z] at e2
                omega
              have sa2 := sa'.take wfB hbc ha fun x z => by rw [hc] at z; cases z; exact e2
              have rf2 := rfs.swap wfB ha hc ncb sa'
              rw [← eqs] at sa2 rf2
              have ha4 := enc_at r han
              rw [hc] at ha4
              refine ⟨_, rfl, .inl ⟨rfl, _, .of (p4.get (i := 2) rfl)⟩, _, rfl, _, rfl, _, rfl, ro, _, (a : Int), nV c, rfl, rfl, .of (p4.get (i := 0) rfl), atI_nat ha4, by show 2 ≤ sizeLine; decide, fun t2 ht2 => ⟨rf, _, .ref t2, rfl, rfl, (p4.step (.new ht2)).get (i := 2) rfl, by
                rw [List.length_map, tt4.1]
                exact small' (by omega), ?_⟩⟩
              have p5 := p4.step (.new (o := .tup [nV a, nV c]) ht2)
              have tt5 := tt4.st (.new (T := T) (L := []) (o := .tup [nV a, nV c]) ht2)
              rw [show ts.map V.ref ++ [V.ref t2] = (ts ++ [t2]).map V.ref by simp]
              have p6 : ED T d H _ (lC ro as rf Bk.W.length r (qs.set b (kf qs b + 1)) (ts ++ [t2])) := p5.put (i := 2) rfl (Mu.l (xs := (ts ++ [t2]).map V.ref))
              have tt6 := (tt5.put (p5.get (i := 2) rfl) Mu.l (Mu.l (xs := (ts ++ [t2]).map V.ref))).snoc (p := (a, c)) (t := t2) (p5.en.putT (K := K) (i := 2) rfl upd_same)
              clear p4 tt4 p5 tt5
              generalize upd (upd H4 t2 (.tup [nV a, nV c])) rf (.lst ((ts ++ [t2]).map V.ref)) = H6 at p6 tt6 ⊢
              refine ⟨_, rfl, _, rfl, _, rfl, ro, _, (a : Int), a, rfl, rfl, p6.get (i := 0) rfl, Evl.ixN_nat (by rw [enc_len]; exact han), ?_⟩
              rw [show (enc Bk.W.length r).set a (nV b) = enc Bk.W.length (up r a (some b)) from enc_set (r := r) (x := some b) han]
              have p7 : ED T d H _ (lC ro as rf Bk.W.length (up r a (some b)) (qs.set b (kf qs b + 1)) (ts ++ [t2])) := p6.put (i := 0) rfl (Mu.l (xs := enc Bk.W.length (up r a (some b))))
              have tt7 := tt6.put (p6.get (i := 0) rfl) Mu.l (Mu.l (xs := enc Bk.W.length (up r a (some b))))
              exact ⟨_, _, _, _, _, _, _, _, rfl, p7, tt7, sa2, rf2, hql2, by rw [List.length_append]; simp only [List.length_singleton]; omega, htq2⟩
            · have e2 := of_decide_eq_false (eq_false_of_ne_true e2)
              rw [hc] at e2
              have e2 : ((bk Bk).W a).idxOf c ≤ ((bk Bk).W a).idxOf b := by
                have e2 : ¬ ((((bk Bk).W a).idxOf b : Nat) : Int) < ((((bk Bk).W a).idxOf c : Nat) : Int) := e2
                omega
              obtain ⟨sa2, ncb⟩ := sa'.refuse wfB hbc ha hc e2
              have rf2 := rfs.refuse wfB ha hc ncb
              rw [← eqs] at sa2 rf2
              refine ⟨_, rfl, .inl ⟨rfl, _, .of (p4.get (i := 2) rfl)⟩, _, rfl, _, rfl, by show 2 ≤ sizeLine; decide, fun t2 ht2 => ⟨rf, _, .ref t2, rfl, rfl, (p4.step (.new ht2)).get (i := 2) rfl, by
                rw [List.length_map, tt4.1]
                exact small' (by omega), ?_⟩⟩
              have p5 := p4.step (.new (o := .tup [nV a, nV b]) ht2)
              have tt5 := tt4.st (.new (T := T) (L := []) (o := .tup [nV a, nV b]) ht2)
              rw [show ts.map V.ref ++ [V.ref t2] = (ts ++ [t2]).map V.ref by simp]
              have p6 : ED T d H _ (lC ro as rf Bk.W.length r (qs.set b (kf qs b + 1)) (ts ++ [t2])) := p5.put (i := 2) rfl (Mu.l (xs := (ts ++ [t2]).map V.ref))
              have tt6 := (tt5.put (p5.get (i := 2) rfl) Mu.l (Mu.l (xs := (ts ++ [t2]).map V.ref))).snoc (p := (a, b)) (t := t2) (p5.en.putT (K := K) (i := 2) rfl upd_same)
              exact ⟨_, _, _, _, _, _, _, _, rfl, p6, tt6, sa2, rf2, hql2, by rw [List.length_append]; simp only [List.length_singleton]; omega, htq2⟩
    · rintro σ H2 ⟨y5, y6, y7, y8, r, qs, ts, rl, rfl, p, tt, sa', rfs, hqs, hrl, htq⟩
      have h1 := tot_le (n := Bk.R.length) fun b _ => sa'.ql b
      omega
end
end Z
namespace Z
open PySem PySem.Spec PyProof.Rows L2 Ma
/-! ### written tuples of numbers, of rows, of books -/
section
variable {X : Cx} {e : Expr} {es : List Expr}
theorem pe_imp {t t' : TE} (h : ∀ σ H Q, t' σ H Q → t σ H Q) (p : PE X e t) : PE X e t' := ⟨fun pins s σ H Q I q => p.run pins s σ H Q I (h σ H Q q)⟩
theorem pa_imp {t t' : TA} (h : ∀ σ H Q, t' σ H Q → t σ H Q) (p : PA X es t) : PA X es t' := ⟨fun pos pins s σ H Q I q => p.run pos pins s σ H Q I (h σ H Q q)⟩
def rowsT (K : PySem.W.Frag) (H : Hp) (ps : List Addr) (rows : List (List Nat)) : Prop := ps.length = rows.length ∧ ∀ (i : Nat) (p : Addr) (row : List Nat), ps[i]? = some p → rows[i]? = some row → SqT K H p (row.map nV)
def BkT (K : PySem.W.Frag) (H : Hp) (p : Addr) (b : Bo) : Prop := ∃ (w r s : Addr) (ws rs : List Addr), SqT K H p [.ref w, .ref r, .ref s] ∧ SqT K H w (ws.map V.ref) ∧ SqT K H r (rs.map V.ref) ∧ rowsT K H ws b.W ∧ rowsT K H rs b.R ∧ SqT K H s (b.S.map nV)
def bksT (K : PySem.W.Frag) (H : Hp) (ps : List Addr) (bs : List Bo) : Prop := ps.length = bs.length ∧ ∀ (i : Nat) (p : Addr) (b : Bo), ps[i]? = some p → bs[i]? = some b → BkT K H p b
section
variable {K : PySem.W.Frag} {T : Tb} {L : List Addr} {H H' : Hp} {p : Addr} {b : Bo} {ps : List Addr} {rows : List (List Nat)} {bs : List Bo}
theorem rowsT.st (x : St T L H H') (h : rowsT K H ps rows) : rowsT K H' ps rows := ⟨h.1, fun i p row e1 e2 => x.sqT (h.2 i p row e1 e2)⟩
theorem BkT.st (x : St T L H H') (h : BkT K H p b) : BkT K H' p b := by
  obtain ⟨w, r, s, ws, rs, h1, h2, h3, h4, h5, h6⟩ := h
  exact ⟨w, r, s, ws, rs, x.sqT h1, x.sqT h2, x.sqT h3, h4.st x, h5.st x, x.sqT h6⟩
theorem bksT.st (x : St T L H H') (h : bksT K H ps bs) : bksT K H' ps bs := ⟨h.1, fun i p b e1 e2 => (h.2 i p b e1 e2).st x⟩
theorem rowsT.cons {row : List Nat} (h : rowsT K H ps rows) (e : SqT K H p (row.map nV)) : rowsT K H (p :: ps) (row :: rows) := by
  refine ⟨by rw [List.length_cons, List.length_cons, h.1], fun i q rw' e1 e2 => ?_⟩
  rcases i with _ | i
  · cases Option.some.inj e1
    cases Option.some.inj e2
    exact e
  · exact h.2 i q rw' e1 e2
theorem bksT.cons (h : bksT K H ps bs) (e : BkT K H p b) : bksT K H (p :: ps) (b :: bs) := by
  refine ⟨by rw [List.length_cons, List.length_cons, h.1], fun i q rw' e1 e2 => ?_⟩
  rcases i with _ | i
  · cases Option.some.inj e1
    cases Option.some.inj e2
    exact e
  · exact h.2 i q rw' e1 e2
end
def tRow (T : Tb) (K : PySem.W.Frag) (ns : List Nat) : TE := fun _ H Q => ∀ (p : Addr) H', SqT K H' p (ns.map nV) → St T [] H H' → Q (.ref p) H'
def tRws (T : Tb) (K : PySem.W.Frag) (rows : List (List Nat)) : TA := fun _ H Q => ∀ (ps : List Addr) H', rowsT K H' ps rows → St T [] H H' → Q (ps.map V.ref) H'
def tRwsE (T : Tb) (K : PySem.W.Frag) (rows : List (List Nat)) : TE := fun _ H Q => ∀ (p : Addr) (ps : List Addr) H', SqT K H' p (ps.map V.ref) → rowsT K H' ps rows → St T [] H H' → Q (.ref p) H'
def tBkE (T : Tb) (K : PySem.W.Frag) (b : Bo) : TE := fun _ H Q => ∀ (p : Addr) H', BkT K H' p b → St T [] H H' → Q (.ref p) H'
def tBks (T : Tb) (K : PySem.W.Frag) (bs : List Bo) : TA := fun _ H Q => ∀ (ps : List Addr) H', bksT K H' ps bs → St T [] H H' → Q (ps.map V.ref) H'
variable {T : Tb} {K : PySem.W.Frag}
theorem pa_rnil : PA X [] (tRws T K []) := pa_imp (fun σ H Q q => q [] H ⟨rfl, fun i p row e => by simp at e⟩ (.refl H)) pa_nil
theorem pa_rcons {ns : List Nat} {rows : List (List Nat)} (a : PE X e (tRow T K ns)) (b : PA X es (tRws T K rows)) (hs : starEach (e :: es) X.env = (false, eval e X.env) :: starEach es X.env := by rfl) : PA X (e :: es) (tRws T K (ns :: rows)) :=
  pa_imp (fun σ H Q q => fun p H1 h1 s1 ps H2 h2 s2 => q (p :: ps) H2 (h2.cons (s2.sqT h1)) (s1.trans s2)) (pa_cons a b hs)
theorem pe_rows {rows : List (List Nat)} {pos : Pos} {k : Nat} (hl : rows.length ≤ sizeLine) (a : PA X es (tRws T K rows)) : PE X (.Tuple es k pos) (tRwsE T K rows) :=
  pe_imp (fun σ H Q q => fun ps H1 h1 s1 => ⟨by rw [List.length_map, h1.1]; exact hl, fun p hp => q p ps _ (.of upd_same) (h1.st (St.new (T := T) (L := []) hp)) (s1.trans (.new hp))⟩) (pe_tup a)
theorem pe_book {e1 e2 e3 : Expr} {b : Bo} {pos : Pos} {k : Nat} (h1 : PE X e1 (tRwsE T K b.W)) (h2 : PE X e2 (tRwsE T K b.R)) (h3 : PE X e3 (tRow T K b.S)) (hs1 : starEach [e1, e2, e3] X.env = (false, eval e1 X.env) :: starEach [e2, e3] X.env := by rfl) (hs2 : starEach [e2, e3] X.env = (false, eval e2 X.env) :: starEach [e3] X.env := by rfl) (hs3 : starEach [e3] X.env = (false, eval e3 X.env) :: starEach [] X.env := by rfl) : PE X (.Tuple [e1, e2, e3] k pos) (tBkE T K b) :=
  pe_imp (fun σ H Q q => fun w ws H1 a1 a2 s1 r rs H2 b1 b2 s2 s H3 c1 s3 => ⟨by show 3 ≤ sizeLine; decide, fun p hp => by
    have n : St T [] H3 (upd H3 p (.tup [.ref w, .ref r, .ref s])) := .new hp
    exact q p _ ⟨w, r, s, ws, rs, .of upd_same, n.sqT (s3.sqT (s2.sqT a1)), n.sqT (s3.sqT b1), ((a2.st s2).st s3).st n, (b2.st s3).st n, n.sqT c1⟩ (((s1.trans s2).trans s3).trans n)⟩) (pe_tup (pa_cons h1 (pa_cons h2 (pa_cons h3 pa_nil hs3) hs2) hs1))
theorem pa_bnil : PA X [] (tBks T K []) := pa_imp (fun σ H Q q => q [] H ⟨rfl, fun i p row e => by simp at e⟩ (.refl H)) pa_nil
theorem pa_bcons {b : Bo} {bs : List Bo} (a : PE X e (tBkE T K b)) (c : PA X es (tBks T K bs)) (hs : starEach (e :: es) X.env = (false, eval e X.env) :: starEach es X.env := by rfl) : PA X (e :: es) (tBks T K (b :: bs)) :=
  pa_imp (fun σ H Q q => fun p H1 h1 s1 ps H2 h2 s2 => q (p :: ps) H2 (h2.cons (h1.st s2)) (s1.trans s2)) (pa_cons a c hs)
/-- a row of numbers, whatever its length -/
theorem row_imp {T : Tb} {K : PySem.W.Frag} {ns : List Nat} {t : TA} (h : ∀ σ H (Q : List V → Hp → Prop), Q (ns.map nV) H → t σ H Q) (hl : ns.length ≤ sizeLine) : ∀ σ H Q, tRow T K ns σ H Q → tTup t σ H Q := fun σ H Q q => h σ H _ ⟨by rw [List.length_map]; exact hl, fun p hp => q p _ (.of upd_same) (.new hp)⟩
end
/-! ### cells of lists of lists -/
def rC (hs : List Addr) (rows : List (List Nat)) : List (Addr × HO) := List.zipWith (fun p row => (p, HO.lst (row.map nV))) hs rows
theorem rC_get {hs : List Addr} {rows : List (List Nat)} {i : Nat} {p : Addr} {row : List Nat} (h1 : hs[i]? = some p) (h2 : rows[i]? = some row) : (rC hs rows)[i]? = some (p, .lst (row.map nV)) := by
  unfold rC
  rw [List.getElem?_zipWith, h1, h2]
theorem rC_len {hs : List Addr} {rows : List (List Nat)} (h : hs.length = rows.length) : (rC hs rows).length = hs.length := by
  unfold rC
  rw [List.length_zipWith, h, Nat.min_self]
theorem rC_app {hs : List Addr} {rows : List (List Nat)} {p : Addr} {row : List Nat} (h : hs.length = rows.length) : rC (hs ++ [p]) (rows ++ [row]) = rC hs rows ++ [(p, .lst (row.map nV))] := by
  unfold rC
  rw [List.zipWith_append h]
  rfl
theorem rC_set {hs : List Addr} {rows : List (List Nat)} {i : Nat} {p : Addr} {row : List Nat} (h1 : hs[i]? = some p) : (rC hs rows).set i (p, .lst (row.map nV)) = rC hs (rows.set i row) := by
  apply List.ext_getElem?
  intro j
  rw [List.getElem?_set]
  unfold rC
  rw [List.getElem?_zipWith, List.getElem?_zipWith, List.getElem?_set, List.length_zipWith]
  have hi := (List.getElem?_eq_some_iff.mp h1).1
  by_cases e : i = j
  · subst e
    rw [if_pos rfl, if_pos rfl, h1]
    by_cases z : i < rows.length
    · rw [if_pos z, if_pos (by omega)]
    · rw [if_neg z, if_neg (by omega)]
  · rw [if_neg e, if_neg e]
theorem ED.perm {T : Tb} {d : Addr} {H0 H : Hp} {cs cs' : List (Addr × HO)} (x : ED T d H0 H cs) (p : cs'.Perm cs) : ED T d H0 H cs' :=
  ⟨⟨x.en.nd.perm (p.map (·.1)).symm, fun c hc => x.en.fr c (p.mem_iff.mp hc), fun c hc => x.en.at_ c (p.mem_iff.mp hc), fun c hc => x.en.mu c (p.mem_iff.mp hc), x.en.st⟩, x.dc, x.d0⟩
theorem ED.drop {T : Tb} {d : Addr} {H0 H : Hp} {cs : List (Addr × HO)} {c : Addr × HO} (x : ED T d H0 H (cs ++ [c])) : ED T d H0 H cs := ⟨x.en.drop, x.dc, x.d0⟩
abbrev cano (wl rl : Addr) (hw hr : List Addr) (W R : List (List Nat)) : List (Addr × HO) := (wl, .lst (hw.map V.ref)) :: (rl, .lst (hr.map V.ref)) :: (rC hw W ++ rC hr R)
end Z
namespace Z
open PySem PySem.Spec PyProof.Rows L2 Ma
structure Dr (W R : List (List Nat)) (S : List Nat) : Prop where
  wf : Wf (bk ⟨W, R, S⟩)
  sl : S.length = R.length
  n5 : W.length ≤ 5
  m5 : R.length ≤ 5
def menuB : List Bo := [⟨[[1, 2, 0], [0, 1], [0, 2], [0, 3]], [[0, 3, 1, 2], [1, 0], [2, 0], [3]], [1, 1, 1, 1]⟩, ⟨[[0, 1], [0, 1], [1, 0], [1, 0]], [[2, 3, 0, 1], [0, 1, 2, 3]], [2, 2]⟩, ⟨[[0, 1, 2, 3], [1, 0, 3, 2], [2, 3, 0, 1], [3, 2, 1, 0]], [[3, 2, 1, 0], [2, 3, 0, 1], [1, 0, 3, 2], [0, 1, 2, 3]], [1, 1, 1, 1]⟩, ⟨[[1, 0], [0, 1], [0, 2]], [[0, 2, 1], [1, 0], [2]], [1, 1, 1]⟩, ⟨[[0, 1, 2], [0, 1], [1, 3, 0], [2, 0]], [[2, 3, 0, 1], [0, 1, 2], [0, 3], [2]], [2, 1, 1, 1]⟩, ⟨[[1, 0], [0, 1], [3, 2], [2, 3]], [[0, 1], [1, 0], [2, 3], [3, 2]], [1, 1, 1, 1]⟩, ⟨[[0, 1], [0, 1], [0, 1], [1, 0], [0]], [[3, 0, 1, 2, 4], [0, 1, 2, 3]], [3, 1]⟩]
def okB (b : Bo) : Bool := b.W.all (fun r => decide r.Nodup) && b.R.all (fun r => decide r.Nodup) && (List.range b.W.length).all (fun a => (b.W.getD a []).all fun c => (b.R.getD c []).contains a) && (List.range b.R.length).all (fun c => (b.R.getD c []).all fun a => (b.W.getD a []).contains c) && b.S.all (fun s => decide (1 ≤ s)) && decide (b.S.length = b.R.length) && decide (b.W.length ≤ 5) && decide (b.R.length ≤ 5)
theorem okB_dr {b : Bo} (h : okB b = true) : Dr b.W b.R b.S := by
  unfold okB at h
  simp only [Bool.and_eq_true, List.all_eq_true, decide_eq_true_iff, List.mem_range, List.contains_iff_mem] at h
  obtain ⟨⟨⟨⟨⟨⟨⟨h1, h2⟩, h3⟩, h4⟩, h5⟩, h6⟩, h7⟩, h8⟩ := h
  have wm : ∀ a, b.W.getD a [] ∈ b.W ∨ b.W.getD a [] = [] := fun a => by
    rcases Nat.lt_or_ge a b.W.length with z | z
    · exact .inl (List.mem_of_getElem? (getD_at z))
    · exact .inr (getD_none z)
  have rm : ∀ a, b.R.getD a [] ∈ b.R ∨ b.R.getD a [] = [] := fun a => by
    rcases Nat.lt_or_ge a b.R.length with z | z
    · exact .inl (List.mem_of_getElem? (getD_at z))
    · exact .inr (getD_none z)
  refine ⟨⟨fun a => ?_, fun c => ?_, fun a c => ⟨fun h => ?_, fun h => ?_⟩, fun c => ?_, fun a h => getD_none h, fun a h => getD_none h⟩, h6, h7, h8⟩
  · show (b.W.getD a []).Nodup
    rcases wm a with z | z
    · exact h1 _ z
    · rw [z]; exact List.nodup_nil
  · show (b.R.getD c []).Nodup
    rcases rm c with z | z
    · exact h2 _ z
    · rw [z]; exact List.nodup_nil
  · rcases Nat.lt_or_ge a b.W.length with z | z
    · exact h3 a z c h
    · have h : c ∈ b.W.getD a [] := h
      rw [getD_none z] at h
      cases h
  · rcases Nat.lt_or_ge c b.R.length with z | z
    · exact h4 c z a h
    · have h : a ∈ b.R.getD c [] := h
      rw [getD_none z] at h
      cases h
  · show 1 ≤ b.S.getD c 1
    rcases Nat.lt_or_ge c b.S.length with z | z
    · exact h5 _ (List.mem_of_getElem? (getD_at z))
    · rw [getD_none z]
      exact Nat.le_refl _
theorem menu_ok : ∀ b ∈ menuB, okB b = true := by decide +kernel
theorem grow2 {T : Tb} {d : Addr} {H0 H : Hp} {D l : Addr} {hs : List Addr} {rows : List (List Nat)} {row : List Nat} {ex : List (Addr × HO)} (hl : hs.length = rows.length) (x : ED T d H0 H (((D, .lst (hs.map V.ref)) :: (rC hs rows ++ ex)) ++ [(l, .lst (row.map nV))])) :
    ED T d H0 (upd H D (.lst (hs.map V.ref ++ [.ref l]))) ((D, .lst ((hs ++ [l]).map V.ref)) :: (rC (hs ++ [l]) (rows ++ [row]) ++ ex)) := by
  rw [show hs.map V.ref ++ [V.ref l] = (hs ++ [l]).map V.ref by simp]
  have y : ED T d H0 H ((D, .lst (hs.map V.ref)) :: (rC (hs ++ [l]) (rows ++ [row]) ++ ex)) := by
    refine x.perm ?_
    rw [rC_app hl, List.cons_append, List.append_assoc, List.append_assoc]
    exact ((List.perm_append_comm).append_left _).cons _
  exact y.put (i := 0) rfl (Mu.l (xs := (hs ++ [l]).map V.ref))
theorem rg_nat (lo m : Nat) : rgV (lo : Int) (m : Int) = ((List.range (m - lo)).map fun i => lo + i).map nV := by
  unfold rgV
  rw [List.map_map, show ((m : Int) - (lo : Int)).toNat = m - lo by omega]
  exact List.map_congr_left fun i _ => rfl
theorem rg_ok (lo m : Nat) : ((List.range (m - lo)).map fun i => lo + i).Nodup ∧ ∀ x ∈ (List.range (m - lo)).map fun i => lo + i, x < m := by
  refine ⟨?_, fun x hx => ?_⟩
  · unfold List.Nodup
    rw [List.pairwise_map]
    exact List.nodup_range.imp fun h e => h (by omega)
  · obtain ⟨i, hi, rfl⟩ := List.mem_map.mp hx
    have := List.mem_range.mp hi
    omega
section
variable {P : Program} {w : World} {K : PySem.W.Frag} {mg : Str → Option Value} {base : Heap} {T : Tb}
def spBegun (K : PySem.W.Frag) (T : Tb) : Sp := fun vs H Q _ => ∃ (d : Addr), vs = [.ref d] ∧ Dice H d ∧ ∀ (t wl rl sl : Addr) (hw hr : List Addr) (W R : List (List Nat)) (S : List Nat) (H' : Hp), SqT K H' t [.ref wl, .ref rl, .ref sl] → hw.length = W.length → hr.length = R.length → ED T d H H' (cano wl rl hw hr W R ++ [(sl, .lst (S.map nV))]) → Dr W R S → Q (.ref t) H'
theorem ok_begun {f fL fM : Addr} {fd fdL fdM : FuncData} {k : Nat} (F : Fun K "_law_begun" "_law_begun" s_Lbegun f fd) (B : Bt mg) (G_take : FnOk P w K mg base CX0 k fL fdL ["_law_dice_here", "_law_many"] (spTake T)) (g_take : mg "_law_take" = some (.ref fL)) (kp_take : PySem.W.keepIn K (.ref fL) = true) (b_take : Binds K fdL ["_law_dice_here", "_law_many"] [])
    (G_shuf : FnOk P w K mg base CX0 k fM fdM ["_law_dice_here", "_law_things"] (spShuf K T)) (g_shuf : mg "_law_shuffled" = some (.ref fM)) (kp_shuf : PySem.W.keepIn K (.ref fM) = true) (b_shuf : Binds K fdM ["_law_dice_here", "_law_things"] []) :
    FnOk P w K mg base CX0 (k + 1) f fd ["_law_dice_here"] (spBegun K T) := by
  refine F.ok sc_Lbegun (fun vs H Q E h => ?_) (fun cdv A outer s H vs Q E hr h => ?_)
  · obtain ⟨d, rfl, _⟩ := h
    rfl
  · obtain ⟨d, rfl, hd, q⟩ := h
    refine ⟨_, (pss_cons (ps_set (i := 1) sc_Lbegun.nd rfl (Or.inl rfl) (pe_lst (pa_bcons (pe_book (T := T) (K := K) (b := ⟨[[1, 2, 0], [0, 1], [0, 2], [0, 3]], [[0, 3, 1, 2], [1, 0], [2, 0], [3]], [1, 1, 1, 1]⟩) (pe_rows (by decide) (pa_rcons (pe_imp (row_imp (T := T) (K := K) (ns := [1, 2, 0]) (fun _ _ _ q => q) (by decide)) (pe_tup (pa_cons pe_int (pa_cons pe_int (pa_cons pe_int pa_nil))))) (pa_rcons (pe_imp (row_imp (T := T) (K := K) (ns := [0, 1]) (fun _ _ _ q => q) (by decide)) (pe_tup (pa_cons pe_int (pa_cons pe_int pa_nil)))) (pa_rcons (pe_imp (row_imp (T := T) (K := K) (ns := [0, 2]) (fun _ _ _ q => q) (by decide)) (pe_tup (pa_cons pe_int (pa_cons pe_int pa_nil)))) (pa_rcons (pe_imp (row_imp (T := T) (K := K) (ns := [0, 3]) (fun _ _ _ q => q) (by decide)) (pe_tup (pa_cons pe_int (pa_cons pe_int pa_nil)))) pa_rnil))))) (pe_rows (by decide) (pa_rcons (pe_imp (row_imp (T := T) (K := K) (ns := [0, 3, 1, 2]) (fun _ _ _ q => q) (by decide)) (pe_tup (pa_cons pe_int (pa_cons pe_int (pa_cons pe_int (pa_cons pe_int pa_nil)))))) (pa_rcons (pe_imp (row_imp (T := T) (K := K) (ns := [1, 0]) (fun _ _ _ q => q) (by decide)) (pe_tup (pa_cons pe_int (pa_cons pe_int pa_nil)))) (pa_rcons (pe_imp (row_imp (T := T) (K := K) (ns := [2, 0]) (fun _ _ _ q => q) (by decide)) (pe_tup (pa_cons pe_int (pa_cons pe_int pa_nil)))) (pa_rcons (pe_imp (row_imp (T := T) (K := K) (ns := [3]) (fun _ _ _ q => q) (by decide)) (pe_tup (pa_cons pe_int pa_nil))) pa_rnil))))) (pe_imp (row_imp (T := T) (K := K) (ns := [1, 1, 1, 1]) (fun _ _ _ q => q) (by decide)) (pe_tup (pa_cons pe_int (pa_cons pe_int (pa_cons pe_int (pa_cons pe_int pa_nil))))))) (pa_bcons (pe_book (T := T) (K := K) (b := ⟨[[0, 1], [0, 1], [1, 0], [1, 0]], [[2, 3, 0, 1], [0, 1, 2, 3]], [2, 2]⟩) (pe_rows (by decide) (pa_rcons (pe_imp (row_imp (T := T) (K := K) (ns := [0, 1]) (fun _ _ _ q => q) (by decide)) (pe_tup (pa_cons pe_int (pa_cons pe_int pa_nil)))) (pa_rcons (pe_imp (row_imp (T := T) (K := K) (ns := [0, 1]) (fun _ _ _ q => q) (by decide)) (pe_tup (pa_cons pe_int (pa_cons pe_int pa_nil)))) (pa_rcons (pe_imp (row_imp (T := T) (K := K) (ns := [1, 0]) (fun _ _ _ q => q) (by decide)) (pe_tup (pa_cons pe_int (pa_cons pe_int pa_nil)))) (pa_rcons (pe_imp (row_imp (T := T) (K := K) (ns := [1, 0]) (fun _ _ _ q => q) (by decide)) (pe_tup (pa_cons pe_int (pa_cons pe_int pa_nil)))) pa_rnil))))) (pe_rows (by decide) (pa_rcons (pe_imp (row_imp (T := T) (K := K) (ns := [2, 3, 0, 1]) (fun _ _ _ q => q) (by decide)) (pe_tup (pa_cons pe_int (pa_cons pe_int (pa_cons pe_int (pa_cons pe_int pa_nil)))))) (pa_rcons (pe_imp (row_imp (T := T) (K := K) (ns := [0, 1, 2, 3]) (fun _ _ _ q => q) (by decide)) (pe_tup (pa_cons pe_int (pa_cons pe_int (pa_cons pe_int (pa_cons pe_int pa_nil)))))) pa_rnil))) (pe_imp (row_imp (T := T) (K := K) (ns := [2, 2]) (fun _ _ _ q => q) (by decide)) (pe_tup (pa_cons pe_int (pa_cons pe_int pa_nil))))) (pa_bcons (pe_book (T := T) (K := K) (b := ⟨[[0, 1, 2, 3], [1, 0, 3, 2], [2, 3, 0, 1], [3, 2, 1, 0]], [[3, 2, 1, 0], [2, 3, 0, 1], [1, 0, 3, 2], [0, 1, 2, 3]], [1, 1, 1, 1]⟩) (pe_rows (by decide) (pa_rcons (pe_imp (row_imp (T := T) (K := K) (ns := [0, 1, 2, 3]) (fun _ _ _ q => q) (by decide)) (pe_tup (pa_cons pe_int (pa_cons pe_int (pa_cons pe_int (pa_cons pe_int pa_nil)))))) (pa_rcons (pe_imp (row_imp (T := T) (K := K) (ns := [1, 0, 3, 2]) (fun _ _ _ q => q) (by decide)) (pe_tup (pa_cons pe_int (pa_cons pe_int (pa_cons pe_int (pa_cons pe_int pa_nil)))))) (pa_rcons (pe_imp (row_imp (T := T) (K := K) (ns := [2, 3, 0, 1]) (fun _ _ _ q => q) (by decide)) (pe_tup (pa_cons pe_int (pa_cons pe_int (pa_cons pe_int (pa_cons pe_int pa_nil)))))) (pa_rcons (pe_imp (row_imp (T := T) (K := K) (ns := [3, 2, 1, 0]) (fun _ _ _ q => q) (by decide)) (pe_tup (pa_cons pe_int (pa_cons pe_int (pa_cons pe_int (pa_cons pe_int pa_nil)))))) pa_rnil))))) (pe_rows (by decide) (pa_rcons (pe_imp (row_imp (T := T) (K := K) (ns := [3, 2, 1, 0]) (fun _ _ _ q => q) (by decide)) (pe_tup (pa_cons pe_int (pa_cons pe_int (pa_cons pe_int (pa_cons pe_int pa_nil)))))) (pa_rcons (pe_imp (row_imp (T := T) (K := K) (ns := [2, 3, 0, 1]) (fun _ _ _ q => q) (by decide)) (pe_tup (pa_cons pe_int (pa_cons pe_int (pa_cons pe_int (pa_cons pe_int pa_nil)))))) (pa_rcons (pe_imp (row_imp (T := T) (K := K) (ns := [1, 0, 3, 2]) (fun _ _ _ q => q) (by decide)) (pe_tup (pa_cons pe_int (pa_cons pe_int (pa_cons pe_int (pa_cons pe_int pa_nil)))))) (pa_rcons (pe_imp (row_imp (T := T) (K := K) (ns := [0, 1, 2, 3]) (fun _ _ _ q => q) (by decide)) (pe_tup (pa_cons pe_int (pa_cons pe_int (pa_cons pe_int (pa_cons pe_int pa_nil)))))) pa_rnil))))) (pe_imp (row_imp (T := T) (K := K) (ns := [1, 1, 1, 1]) (fun _ _ _ q => q) (by decide)) (pe_tup (pa_cons pe_int (pa_cons pe_int (pa_cons pe_int (pa_cons pe_int pa_nil))))))) (pa_bcons (pe_book (T := T) (K := K) (b := ⟨[[1, 0], [0, 1], [0, 2]], [[0, 2, 1], [1, 0], [2]], [1, 1, 1]⟩) (pe_rows (by decide) (pa_rcons (pe_imp (row_imp (T := T) (K := K) (ns := [1, 0]) (fun _ _ _ q => q) (by decide)) (pe_tup (pa_cons pe_int (pa_cons pe_int pa_nil)))) (pa_rcons (pe_imp (row_imp (T := T) (K := K) (ns := [0, 1]) (fun _ _ _ q => q) (by decide)) (pe_tup (pa_cons pe_int (pa_cons pe_int pa_nil)))) (pa_rcons (pe_imp (row_imp (T := T) (K := K) (ns := [0, 2]) (fun _ _ _ q => q) (by decide)) (pe_tup (pa_cons pe_int (pa_cons pe_int pa_nil)))) pa_rnil)))) (pe_rows (by decide) (pa_rcons (pe_imp (row_imp (T := T) (K := K) (ns := [0, 2, 1]) (fun _ _ _ q => q) (by decide)) (pe_tup (pa_cons pe_int (pa_cons pe_int (pa_cons pe_int pa_nil))))) (pa_rcons (pe_imp (row_imp (T := T) (K := K) (ns := [1, 0]) (fun _ _ _ q => q) (by decide)) (pe_tup (pa_cons pe_int (pa_cons pe_int pa_nil)))) (pa_rcons (pe_imp (row_imp (T := T) (K := K) (ns := [2]) (fun _ _ _ q => q) (by decide)) (pe_tup (pa_cons pe_int pa_nil))) pa_rnil)))) (pe_imp (row_imp (T := T) (K := K) (ns := [1, 1, 1]) (fun _ _ _ q => q) (by decide)) (pe_tup (pa_cons pe_int (pa_cons pe_int (pa_cons pe_int pa_nil)))))) (pa_bcons (pe_book (T := T) (K := K) (b := ⟨[[0, 1, 2], [0, 1], [1, 3, 0], [2, 0]], [[2, 3, 0, 1], [0, 1, 2], [0, 3], [2]], [2, 1, 1, 1]⟩) (pe_rows (by decide) (pa_rcons (pe_imp (row_imp (T := T) (K := K) (ns := [0, 1, 2]) (fun _ _ _ q => q) (by decide)) (pe_tup (pa_cons pe_int (pa_cons pe_int (pa_cons pe_int pa_nil))))) (pa_rcons (pe_imp (row_imp (T := T) (K := K) (ns := [0, 1]) (fun _ _ _ q => q) (by decide)) (pe_tup (pa_cons pe_int (pa_cons pe_int pa_nil)))) (pa_rcons (pe_imp (row_imp (T := T) (K := K) (ns := [1, 3, 0]) (fun _ _ _ q => q) (by decide)) (pe_tup (pa_cons pe_int (pa_cons pe_int (pa_cons pe_int pa_nil))))) (pa_rcons (pe_imp (row_imp (T := T) (K := K) (ns := [2, 0]) (fun _ _ _ q => q) (by decide)) (pe_tup (pa_cons pe_int (pa_cons pe_int pa_nil)))) pa_rnil))))) (pe_rows (by decide) (pa_rcons (pe_imp (row_imp (T := T) (K := K) (ns := [2, 3, 0, 1]) (fun _ _ _ q => q) (by decide)) (pe_tup (pa_cons pe_int (pa_cons pe_int (pa_cons pe_int (pa_cons pe_int pa_nil)))))) (pa_rcons (pe_imp (row_imp (T := T) (K := K) (ns := [0, 1, 2]) (fun _ _ _ q => q) (by decide)) (pe_tup (pa_cons pe_int (pa_cons pe_int (pa_cons pe_int pa_nil))))) (pa_rcons (pe_imp (row_imp (T := T) (K := K) (ns := [0, 3]) (fun _ _ _ q => q) (by decide)) (pe_tup (pa_cons pe_int (pa_cons pe_int pa_nil)))) (pa_rcons (pe_imp (row_imp (T := T) (K := K) (ns := [2]) (fun _ _ _ q => q) (by decide)) (pe_tup (pa_cons pe_int pa_nil))) pa_rnil))))) (pe_imp (row_imp (T := T) (K := K) (ns := [2, 1, 1, 1]) (fun _ _ _ q => q) (by decide)) (pe_tup (pa_cons pe_int (pa_cons pe_int (pa_cons pe_int (pa_cons pe_int pa_nil))))))) (pa_bcons (pe_book (T := T) (K := K) (b := ⟨[[1, 0], [0, 1], [3, 2], [2, 3]], [[0, 1], [1, 0], [2, 3], [3, 2]], [1, 1, 1, 1]⟩) (pe_rows (by decide) (pa_rcons (pe_imp (row_imp (T := T) (K := K) (ns := [1, 0]) (fun _ _ _ q => q) (by decide)) (pe_tup (pa_cons pe_int (pa_cons pe_int pa_nil)))) (pa_rcons (pe_imp (row_imp (T := T) (K := K) (ns := [0, 1]) (fun _ _ _ q => q) (by decide)) (pe_tup (pa_cons pe_int (pa_cons pe_int pa_nil)))) (pa_rcons (pe_imp (row_imp (T := T) (K := K) (ns := [3, 2]) (fun _ _ _ q => q) (by decide)) (pe_tup (pa_cons pe_int (pa_cons pe_int pa_nil)))) (pa_rcons (pe_imp (row_imp (T := T) (K := K) (ns := [2, 3]) (fun _ _ _ q => q) (by decide)) (pe_tup (pa_cons pe_int (pa_cons pe_int pa_nil)))) pa_rnil))))) (pe_rows (by decide) (pa_rcons (pe_imp (row_imp (T := T) (K := K) (ns := [0, 1]) (fun _ _ _ q => q) (by decide)) (pe_tup (pa_cons pe_int (pa_cons pe_int pa_nil)))) (pa_rcons (pe_imp (row_imp (T := T) (K := K) (ns := [1, 0]) (fun _ _ _ q => q) (by decide)) (pe_tup (pa_cons pe_int (pa_cons pe_int pa_nil)))) (pa_rcons (pe_imp (row_imp (T := T) (K := K) (ns := [2, 3]) (fun _ _ _ q => q) (by decide)) (pe_tup (pa_cons pe_int (pa_cons pe_int pa_nil)))) (pa_rcons (pe_imp (row_imp (T := T) (K := K) (ns := [3, 2]) (fun _ _ _ q => q) (by decide)) (pe_tup (pa_cons pe_int (pa_cons pe_int pa_nil)))) pa_rnil))))) (pe_imp (row_imp (T := T) (K := K) (ns := [1, 1, 1, 1]) (fun _ _ _ q => q) (by decide)) (pe_tup (pa_cons pe_int (pa_cons pe_int (pa_cons pe_int (pa_cons pe_int pa_nil))))))) (pa_bcons (pe_book (T := T) (K := K) (b := ⟨[[0, 1], [0, 1], [0, 1], [1, 0], [0]], [[3, 0, 1, 2, 4], [0, 1, 2, 3]], [3, 1]⟩) (pe_rows (by decide) (pa_rcons (pe_imp (row_imp (T := T) (K := K) (ns := [0, 1]) (fun _ _ _ q => q) (by decide)) (pe_tup (pa_cons pe_int (pa_cons pe_int pa_nil)))) (pa_rcons (pe_imp (row_imp (T := T) (K := K) (ns := [0, 1]) (fun _ _ _ q => q) (by decide)) (pe_tup (pa_cons pe_int (pa_cons pe_int pa_nil)))) (pa_rcons (pe_imp (row_imp (T := T) (K := K) (ns := [0, 1]) (fun _ _ _ q => q) (by decide)) (pe_tup (pa_cons pe_int (pa_cons pe_int pa_nil)))) (pa_rcons (pe_imp (row_imp (T := T) (K := K) (ns := [1, 0]) (fun _ _ _ q => q) (by decide)) (pe_tup (pa_cons pe_int (pa_cons pe_int pa_nil)))) (pa_rcons (pe_imp (row_imp (T := T) (K := K) (ns := [0]) (fun _ _ _ q => q) (by decide)) (pe_tup (pa_cons pe_int pa_nil))) pa_rnil)))))) (pe_rows (by decide) (pa_rcons (pe_imp (row_imp (T := T) (K := K) (ns := [3, 0, 1, 2, 4]) (fun _ _ _ q => q) (by decide)) (pe_tup (pa_cons pe_int (pa_cons pe_int (pa_cons pe_int (pa_cons pe_int (pa_cons pe_int pa_nil))))))) (pa_rcons (pe_imp (row_imp (T := T) (K := K) (ns := [0, 1, 2, 3]) (fun _ _ _ q => q) (by decide)) (pe_tup (pa_cons pe_int (pa_cons pe_int (pa_cons pe_int (pa_cons pe_int pa_nil)))))) pa_rnil))) (pe_imp (row_imp (T := T) (K := K) (ns := [3, 1]) (fun _ _ _ q => q) (by decide)) (pe_tup (pa_cons pe_int (pa_cons pe_int pa_nil))))) pa_bnil)))))))))
      (pss_cons (ps_set (i := 2) sc_Lbegun.nd rfl (Or.inl rfl) (pe_call G_take hr (by rfl) g_take kp_take b_take .nil pass0 (pa_cons (pv 0) (pa_cons pe_int pa_nil))))
      (pss_cons (ps_if (pt_cmpR op_lt (pv 2) (pe_callB (klen K) (by rfl) B.len (by decide +kernel) (pa_cons (pv 1) pa_nil)) (nomark _))
        (pss_cons (ps_set (i := 3) sc_Lbegun.nd rfl (Or.inl rfl) (pe_ix (kix_list K) (pv 1) (pv 2) (fun _ _ => rfl)))
        (pss_one (ps_ret (pe_tup (pa_cons (pe_lc (own := [("_law_row", 4)]) (tt := tYes) (by rfl) sc_Lbegun.nd (kpi_tup K (pe_ix (kix_tup K) (pv 3) pe_int (fun _ _ => rfl))) (blkOk_by (own := [("_law_row", 4)]) (N := n_Lbegun) (sc := defScope s_Lbegun) (by decide +kernel)) (fun _ _ _ _ _ => (pg_name (i := 4) sc_Lbegun.nd rfl (Or.inl rfl))) (fun _ _ _ _ _ => pts_nil) (fun _ _ _ _ _ => (pe_callTy (klist_of K) (by rfl) B.list (by decide +kernel) (pa_cons (pv 4) pa_nil)))) (pa_cons (pe_lc (own := [("_law_row", 4)]) (tt := tYes) (by rfl) sc_Lbegun.nd (kpi_tup K (pe_ix (kix_tup K) (pv 3) pe_int (fun _ _ => rfl))) (blkOk_by (own := [("_law_row", 4)]) (N := n_Lbegun) (sc := defScope s_Lbegun) (by decide +kernel)) (fun _ _ _ _ _ => (pg_name (i := 4) sc_Lbegun.nd rfl (Or.inl rfl))) (fun _ _ _ _ _ => pts_nil) (fun _ _ _ _ _ => (pe_callTy (klist_of K) (by rfl) B.list (by decide +kernel) (pa_cons (pv 4) pa_nil)))) (pa_cons (pe_callTy (klist_of K) (by rfl) B.list (by decide +kernel) (pa_cons (pe_ix (kix_tup K) (pv 3) pe_int (fun _ _ => rfl)) pa_nil)) pa_nil)))))))
        pss_nil)
      (pss_cons (ps_set (i := 5) sc_Lbegun.nd rfl (Or.inl rfl) (pe_op op_add pe_int (pe_call G_take hr (by rfl) g_take kp_take b_take .nil pass0 (pa_cons (pv 0) (pa_cons pe_int pa_nil)))))
      (pss_cons (ps_set (i := 6) sc_Lbegun.nd rfl (Or.inl rfl) (pe_op op_add pe_int (pe_call G_take hr (by rfl) g_take kp_take b_take .nil pass0 (pa_cons (pv 0) (pa_cons pe_int pa_nil)))))
      (pss_cons (ps_if (pt_cmpR op_eq (pv 2) pe_int (nomark _))
        (pss_cons (ps_set (i := 5) sc_Lbegun.nd rfl (Or.inl rfl) (pe_call G_take hr (by rfl) g_take kp_take b_take .nil pass0 (pa_cons (pv 0) (pa_cons pe_int pa_nil))))
        (pss_one (ps_set (i := 6) sc_Lbegun.nd rfl (Or.inl rfl) (pe_call G_take hr (by rfl) g_take kp_take b_take .nil pass0 (pa_cons (pv 0) (pa_cons pe_int pa_nil))))))
        pss_nil)
      (pss_cons (ps_set (i := 7) sc_Lbegun.nd rfl (Or.inr rfl) (pe_lst pa_nil))
      (pss_cons (ps_for PassesOwn.never rfl (pi_range1 (by rfl) B.range (pa_cons (pv 5) pa_nil)) (pg_name (i := 8) sc_Lbegun.nd rfl (Or.inl rfl))
        (pss_cons (ps_set (i := 9) sc_Lbegun.nd rfl (Or.inl rfl) (pe_op op_add pe_int (pe_call G_take hr (by rfl) g_take kp_take b_take .nil pass0 (pa_cons (pv 0) (pa_cons pe_int pa_nil)))))
        (pss_cons (ps_if (PW.pt (pw_and (pt_cmpR op_eq (pv 2) pe_int (nomark _)) (pw_and1 (pt_cmpR op_eq (pv 8) pe_int (nomark _)))))
          (pss_one (ps_set (i := 9) sc_Lbegun.nd rfl (Or.inl rfl) pe_int))
          pss_nil)
        (pss_one (ps_expr (kbm K PySem.F.plainAttrs_list PySem.F.slot_list_append PySem.F.type_list_append mt_append (pv 7) (pa_cons (pe_slice sl_list (pe_call G_shuf hr (by rfl) g_shuf kp_shuf b_shuf .nil pass0 (pa_cons (pv 0) (pa_cons (pe_listRg (by rfl) (by rfl) B.list (prg_2 (by rfl) B.range (pe_callTy call_int1 (by rfl) B.int (by decide +kernel) (pa_cons (pe_cmpR op_eq (pv 2) pe_int (nomark _)) pa_nil)) (pv 6))) pa_nil))) po_none (po_some (pv 9))) pa_nil)))))))
      (pss_cons (ps_set (i := 10) sc_Lbegun.nd rfl (Or.inl rfl) (pe_lst pa_nil))
      (pss_cons (ps_for PassesOwn.never rfl (pi_range1 (by rfl) B.range (pa_cons (pv 6) pa_nil)) (pg_name (i := 11) sc_Lbegun.nd rfl (Or.inr rfl))
        (pss_one (ps_expr (kbm K PySem.F.plainAttrs_list PySem.F.slot_list_append PySem.F.type_list_append mt_append (pv 10) (pa_cons (pe_call G_shuf hr (by rfl) g_shuf kp_shuf b_shuf .nil pass0 (pa_cons (pv 0) (pa_cons (pe_lc (own := [("_law_c", 12)]) (tt := _) (by rfl) sc_Lbegun.nd (pi_range1 (by rfl) B.range (pa_cons (pv 5) pa_nil)) (blkOk_by (own := [("_law_c", 12)]) (N := n_Lbegun) (sc := defScope s_Lbegun) (by decide +kernel)) (fun _ _ _ _ _ => (pg_name (i := 12) sc_Lbegun.nd rfl (Or.inl rfl))) (fun _ _ _ _ _ => (pts_one (pt_cmpR (kin_seq K) (pv 11) (pe_ix (kix_list K) (pv 7) (pv 12) (fun _ _ => rfl)) (by rfl)))) (fun _ _ _ _ _ => (pv 12))) pa_nil))) pa_nil)))))
      (pss_cons (ps_set (i := 13) sc_Lbegun.nd rfl (Or.inl rfl) (pe_op op_rep (pe_lst (pa_cons pe_int pa_nil)) (pv 6)))
      (pss_cons (ps_if (PW.pt (pw_and (pt_cmpR op_gt (pv 6) pe_int (nomark _)) (pw_and1 (pt_cmpR op_eq (pe_call G_take hr (by rfl) g_take kp_take b_take .nil pass0 (pa_cons (pv 0) (pa_cons pe_int pa_nil))) pe_int (nomark _)))))
        (pss_one (ps_asg pe_int (pg_sub (pv 13) (pe_call G_take hr (by rfl) g_take kp_take b_take .nil pass0 (pa_cons (pv 0) (pa_cons (pv 6) pa_nil))) set_list)))
        pss_nil)
      (pss_one (ps_ret (pe_tup (pa_cons (pv 7) (pa_cons (pv 10) (pa_cons (pv 13) pa_nil)))))))))))))))))), ?_⟩
    refine fun mb H1 hmb smb => ⟨by rw [List.length_map, hmb.1]; decide, fun ml hml => ?_⟩
    have p0 := (ED.nil (T := T) hd).step (smb.trans (.new (o := .lst (mb.map V.ref)) hml))
    have hmb := hmb.st (St.new (T := T) (L := []) (o := .lst (mb.map V.ref)) hml)
    have hml' : (upd H1 ml (.lst (mb.map V.ref))) ml = some (.lst (mb.map V.ref)) := upd_same
    have mlen : mb.length = 7 := hmb.1
    have hmld : ml ≠ d := by
      obtain ⟨ns, _, _, z⟩ := (ED.nil (T := T) hd).step smb |>.dc
      exact (ne_of_none z hml).symm
    clear smb
    generalize upd H1 ml (.lst (mb.map V.ref)) = H2 at p0 hmb hml' ⊢
    refine ⟨_, rfl, d, 12, rfl, by decide, p0.dc, fun t H3 ht st dc => ?_⟩
    have p1 := p0.take st dc
    have hmb := hmb.st st
    have hml' := st.lst hml' (by simp [hmld])
    clear p0 st dc hmld hml
    refine ⟨_, rfl, _, rfl, ml, _, rfl, .inl (.of hml'), _, _, rfl, rfl, _, rfl, ite2 (fun e => ?_) (fun e => ?_)⟩
    · have e := of_decide_eq_true e
      rw [List.length_map, mlen] at e
      obtain ⟨b, hb⟩ : ∃ b, menuB[t]? = some b := ⟨_, List.getElem?_eq_getElem (by show t < 7; omega)⟩
      obtain ⟨pb, hpb⟩ : ∃ p, mb[t]? = some p := ⟨_, List.getElem?_eq_getElem (by omega)⟩
      have dr := okB_dr (menu_ok b (List.mem_of_getElem? hb))
      obtain ⟨w, r, s, ws, rs, k1, k2, k3, k4, k5, k6⟩ := hmb.2 t pb b hpb hb
      refine ⟨_, rfl, _, rfl, ml, _, (t : Int), .ref pb, rfl, rfl, .of hml', atI_nat (by rw [List.getElem?_map, hpb]; rfl), ?_⟩
      -- the wishes
      refine ⟨_, rfl, pb, _, 0, .ref w, rfl, rfl, k1, atI_nat (j := 0) rfl, w, rfl, ⟨_, k2⟩, fun D hD => lc_tup (K := K) (a := w) (xs := ws.map V.ref) (fun i H' => ∃ hs : List Addr, hs.length = i ∧ ED T d H H' ((D, .lst (hs.map V.ref)) :: (rC hs (b.W.take i) ++ [])) ∧ St T [] H3 H') ⟨[], rfl, p1.new hD Mu.l, .new hD⟩ (fun i H' _ ⟨_, _, _, z⟩ => z.sqT k2) (fun i x H' hx ⟨hs, e1, e2, e3⟩ => ?_) (fun H4 ⟨hw, e1, e2, e3⟩ => ?_)⟩
      · rw [List.getElem?_map] at hx
        cases hp : ws[i]? with
        | none => rw [hp] at hx; cases hx
        | some pi =>
          rw [hp] at hx
          cases Option.some.inj hx
          have hi : i < b.W.length := by rw [← k4.1]; exact (List.getElem?_eq_some_iff.mp hp).1
          have hrow := k4.2 i pi _ hp (getD_at (z := []) hi)
          refine ⟨rfl, yes ⟨_, rfl, pi, _, rfl, .inr (e3.sqT hrow), fun l hl => ⟨_, (e2.step (.new hl)).get (i := 0) rfl, by
            rw [List.length_map, e1]
            have := dr.n5
            exact small' (by omega), hs ++ [l], by rw [List.length_append, e1]; rfl, ?_, ?_⟩⟩⟩
          · rw [List.take_add_one, getD_at (z := []) hi]
            exact grow2 (row := b.W.getD i []) (by rw [List.length_take, e1]; omega) (e2.new hl Mu.l)
          · exact (e3.trans (.new hl)).putN ((e2.step (.new hl)).get (i := 0) rfl) Mu.l (.of hD)
      rw [List.length_map, k4.1] at e1 e2
      rw [List.take_length, List.append_nil] at e2
      have k1' := e3.sqT k1
      have k3' := e3.sqT k3
      have k5' := k5.st e3
      have k6' := e3.sqT k6
      clear k1 k2 k3 k4 k5 k6 e3 hml'
      -- the rolls
      refine ⟨_, rfl, pb, _, 1, .ref r, rfl, rfl, k1', atI_nat (j := 1) rfl, r, rfl, ⟨_, k3'⟩, fun D2 hD2 => lc_tup (K := K) (a := r) (xs := rs.map V.ref) (fun i H' => ∃ hs : List Addr, hs.length = i ∧ ED T d H H' ((D2, .lst (hs.map V.ref)) :: (rC hs (b.R.take i) ++ ((D, .lst (hw.map V.ref)) :: rC hw b.W))) ∧ St T [] H4 H') ⟨[], rfl, (e2.new hD2 (Mu.l (xs := []))).perm (List.perm_append_comm (l₁ := [(D2, HO.lst [])])), .new hD2⟩ (fun i H' _ ⟨_, _, _, z⟩ => z.sqT k3') (fun i x H' hx ⟨hs, f1, f2, f3⟩ => ?_) (fun H5 ⟨hr, f1, f2, f3⟩ => ?_)⟩
      · rw [List.getElem?_map] at hx
        cases hp : rs[i]? with
        | none => rw [hp] at hx; cases hx
        | some pi =>
          rw [hp] at hx
          cases Option.some.inj hx
          have hi : i < b.R.length := by rw [← k5'.1]; exact (List.getElem?_eq_some_iff.mp hp).1
          have hrow := k5'.2 i pi _ hp (getD_at (z := []) hi)
          refine ⟨rfl, yes ⟨_, rfl, pi, _, rfl, .inr (f3.sqT hrow), fun l hl => ⟨_, (f2.step (.new hl)).get (i := 0) rfl, by
            rw [List.length_map, f1]
            have := dr.m5
            exact small' (by omega), hs ++ [l], by rw [List.length_append, f1]; rfl, ?_, ?_⟩⟩⟩
          · rw [List.take_add_one, getD_at (z := []) hi]
            exact grow2 (row := b.R.getD i []) (by rw [List.length_take, f1]; omega) (f2.new hl Mu.l)
          · exact (f3.trans (.new hl)).putN ((f2.step (.new hl)).get (i := 0) rfl) Mu.l (.of hD2)
      rw [List.length_map, k5'.1] at f1 f2
      rw [List.take_length] at f2
      -- the seats
      refine ⟨_, rfl, pb, _, 2, .ref s, rfl, rfl, f3.sqT k1', atI_nat (j := 2) rfl, s, _, rfl, .inr (f3.sqT k6'), fun sl hsl => ⟨by show 3 ≤ sizeLine; decide, fun tt htt => ?_⟩⟩
      have p3 := (f2.new hsl (Mu.l (xs := b.S.map nV))).step (.new (o := .tup [.ref D, .ref D2, .ref sl]) htt)
      refine q tt D D2 sl hw hr b.W b.R b.S _ (.of upd_same) e1 f1 (p3.perm ?_) dr
      refine List.Perm.append_right _ ?_
      show ((D, _) :: (D2, _) :: (rC hw b.W ++ rC hr b.R)).Perm ((D2, _) :: (rC hr b.R ++ (D, _) :: rC hw b.W))
      refine (List.Perm.swap _ _ _).trans (List.Perm.cons _ ?_)
      exact (List.perm_append_comm.cons _).trans List.perm_middle.symm
    · clear hmb hml' e mlen
      dsimp only [tSeq, tAsg]
      refine ⟨_, rfl, d, 2, rfl, by decide, p1.dc, fun t1 H4 ht1 st dc => ⟨3, _, rfl, rfl, ?_⟩⟩
      have p2 := p1.take st dc
      clear p1 st dc
      refine ⟨_, rfl, d, 2, rfl, by decide, p2.dc, fun t2 H5 ht2 st dc => ⟨3, _, rfl, rfl, ?_⟩⟩
      have p3 := p2.take st dc
      clear p2 st dc
      dsimp only [gName, tSeq, tAsg]
      refine cutS (fun σ6 H6 => ∃ n m : Nat, n ≤ 4 ∧ m ≤ 4 ∧ σ6 = [some (.ref d), some (.ref ml), some (nV t), none, none, some (nV n), some (nV m), none, none, none, none, none, none, none] ∧ ED T d H H6 []) (fun σ6 H6 hC => ?_) (fun D' hQ => ?_)
      · obtain ⟨n, m, hn, hm, rfl, p⟩ := hC
        clear p3
        refine ⟨Nat.zero_le _, fun wl hwl => ?_⟩
        have p1 : ED T d H (upd H6 wl (.lst [])) ((wl, .lst (([] : List Addr).map V.ref)) :: (rC [] [] ++ [])) := p.new hwl (Mu.l (xs := []))
        clear p
        generalize upd H6 wl (.lst []) = H7 at p1 ⊢
        refine ⟨_, rfl, _, rfl, by omega, by omega, ?_⟩
        rw [Int.toNat_natCast]
        refine for_range (fun i σ H' => ∃ y8 y9 hw W, σ = [some (.ref d), some (.ref ml), some (nV t), none, none, some (nV n), some (nV m), some (.ref wl), y8, y9, none, none, none, none] ∧ ED T d H H' ((wl, .lst (hw.map V.ref)) :: (rC hw W ++ [])) ∧ hw.length = W.length ∧ W.length = i ∧ WsOk 5 m W) ⟨none, none, [], [], rfl, p1, rfl, rfl, fun row h => nomatch h⟩ ?_ ?_
        · rintro i σ H' hi ⟨y8, y9, hw, W, rfl, p, hl, hW, ok⟩
          rw [Int.zero_add]
          refine ⟨_, rfl, d, 4, rfl, by decide, p.dc, fun t3 H8 ht3 st dc => ⟨1, _, rfl, rfl, ?_⟩⟩
          have p2 := p.take st dc
          clear p st dc p1
          dsimp only [gName, tSeq, tAsg]
          refine cutS (fun σ9 H9 => ∃ lg : Nat, lg ≤ 4 ∧ σ9 = [some (.ref d), some (.ref ml), some (nV t), none, none, some (nV n), some (nV m), some (.ref wl), some (nV i), some (nV lg), none, none, none, none] ∧ ED T d H H9 ((wl, .lst (hw.map V.ref)) :: (rC hw W ++ []))) (fun σ9 H9 hC => ?_) (fun D' hQ => ?_)
          · obtain ⟨lg, hlg, rfl, p⟩ := hC
            clear p2
            refine ⟨_, rfl, .inl ⟨rfl, _, .of (p.get (i := 0) rfl)⟩, _, rfl, _, rfl, rfl, .inr ⟨_, rfl, _, rfl, _, _, rfl, rfl, ?_⟩⟩
            obtain ⟨lo, hlo, elo⟩ : ∃ lo : Nat, lo ≤ 1 ∧ (if decide (nV t = V.int 10) = true then (1 : Int) else 0) = (lo : Int) := by
              split
              · exact ⟨1, Nat.le_refl _, rfl⟩
              · exact ⟨0, by decide, rfl⟩
            rw [elo]
            refine ⟨.of_le (by omega) (by omega) (by omega) (by omega), fun qa hqa => ?_⟩
            rw [rg_nat]
            obtain ⟨rg1, rg2⟩ := rg_ok lo m
            have rg3 : ((List.range (m - lo)).map fun i => lo + i).length ≤ 4 := by
              rw [List.length_map, List.length_range]
              omega
            generalize (List.range (m - lo)).map (fun i => lo + i) = xs at rg1 rg2 rg3 hqa ⊢
            have hqd : qa ≠ d := by
              obtain ⟨ns, _, _, z⟩ := p.dc
              exact (ne_of_none z hqa).symm
            have p3 := p.step (.new (o := .lst (xs.map nV)) hqa)
            refine ⟨d, qa, xs, rfl, p3.dc, hqd, .of upd_same, by omega, fun lo2 H10 ys hlo2 pm nw st dc => ?_⟩
            have p4 := p3.take st dc
            refine ⟨_, rfl, _, rfl, lo2, _, rfl, .of hlo2, fun c1 hc1 => ?_⟩
            rw [cutV_nat, ← List.map_take]
            have p5 := p4.new hc1 (Mu.l (xs := (ys.take lg).map nV))
            refine ⟨wl, _, .ref c1, rfl, rfl, p5.get (i := 0) rfl, by
              rw [List.length_map, hl, hW]
              exact small' (by omega), ?_⟩
            refine ⟨_, _, hw ++ [c1], W ++ [ys.take lg], rfl, grow2 hl p5, by rw [List.length_append, List.length_append, hl]; rfl, by rw [List.length_append, hW]; rfl, fun row hrow => ?_⟩
            rcases List.mem_append.mp hrow with z | z
            · exact ok row z
            · rw [List.mem_singleton.mp z]
              exact ⟨(List.take_sublist _ _).nodup (rg1.perm pm.symm), Nat.le_trans (List.length_take_le _ _) (by omega), fun b hb => rg2 b (pm.mem_iff.mp (List.mem_of_mem_take hb))⟩
          · refine ⟨_, rfl, rfl, _, rfl, ite2 (fun e => ?_) (fun e => iteF (hQ _ _ ⟨1 + t3, by omega, rfl, p2⟩))⟩
            refine ⟨_, rfl, rfl, _, rfl, ite2 (fun e => ?_) (fun e => hQ _ _ ⟨1 + t3, by omega, rfl, p2⟩)⟩
            exact hQ _ _ ⟨0, by decide, rfl, p2⟩
        · rintro σ H8 ⟨y8, y9, hw, W, rfl, p, hl, hW, okW⟩
          clear p1
          rw [List.append_nil] at p
          refine ⟨Nat.zero_le _, fun rl hrl => ?_⟩
          have p1 : ED T d H (upd H8 rl (.lst [])) ((rl, .lst (([] : List Addr).map V.ref)) :: (rC [] [] ++ ((wl, .lst (hw.map V.ref)) :: rC hw W))) := (p.new hrl (Mu.l (xs := []))).perm (List.perm_append_comm (l₁ := [(rl, HO.lst [])]))
          clear p
          generalize upd H8 rl (.lst []) = H9 at p1 ⊢
          refine ⟨_, rfl, _, rfl, by omega, by omega, ?_⟩
          rw [Int.toNat_natCast]
          refine for_range (fun i σ H' => ∃ y11 hr R, σ = [some (.ref d), some (.ref ml), some (nV t), none, none, some (nV n), some (nV m), some (.ref wl), y8, y9, some (.ref rl), y11, none, none] ∧ ED T d H H' ((rl, .lst (hr.map V.ref)) :: (rC hr R ++ ((wl, .lst (hw.map V.ref)) :: rC hw W))) ∧ hr.length = R.length ∧ R.length = i ∧ RsOk W R) ⟨none, [], [], rfl, p1, rfl, rfl, fun b row e => by simp at e⟩ ?_ ?_
          · rintro i σ H' hi ⟨y11, hr, R, rfl, p, hl2, hR, ok⟩
            rw [Int.zero_add]
            clear p1
            have gW : (rC hr R ++ ((wl, HO.lst (hw.map V.ref)) :: rC hw W))[R.length]? = some (wl, .lst (hw.map V.ref)) := by
              rw [List.getElem?_append_right (by rw [rC_len hl2, hl2]; exact Nat.le_refl _), rC_len hl2, hl2, Nat.sub_self]
              rfl
            have gR : ∀ (j : Nat) p, hw[j]? = some p → (rC hr R ++ ((wl, HO.lst (hw.map V.ref)) :: rC hw W))[R.length + 1 + j]? = some (p, .lst ((W.getD j []).map nV)) := fun j p e => by
              rw [List.getElem?_append_right (by rw [rC_len hl2, hl2]; omega), rC_len hl2, hl2, show R.length + 1 + j - R.length = j + 1 by omega, List.getElem?_cons_succ]
              exact rC_get e (getD_at (by rw [← hl]; exact (List.getElem?_eq_some_iff.mp e).1))
            refine ⟨_, rfl, .inl ⟨rfl, _, .of (p.get (i := 0) rfl)⟩, _, rfl, _, rfl, _, rfl, by omega, by omega, ?_⟩
            rw [Int.toNat_natCast]
            refine fun D hD => lc_range (fun j H2 => (∀ b o, H' b = some o → H2 b = some o) ∧ H2 D = some (.lst (((List.range j).filter fun c => decide (i ∈ W.getD c [])).map nV))) ⟨fun b o e => by rw [upd_ne (ne_of_none e hD)]; exact e, upd_same⟩ (fun j H2 hj ⟨c1, c2⟩ => ?_) (fun H2 ⟨c1, c2⟩ => ?_)
            · have p2 := p.step (.ex c1)
              rw [Int.zero_add]
              have hjw : j < hw.length := by rw [hl, hW]; exact hj
              have e1 : hw[j]? = some hw[j] := List.getElem?_eq_getElem hjw
              refine ⟨rfl, _, rfl, _, rfl, _, rfl, wl, _, (j : Int), .ref hw[j], rfl, rfl, .of (p2.get (i := R.length + 1) gW), atI_nat (by rw [List.getElem?_map, e1]; rfl), hw[j], _, rfl, .inl (.of (p2.get (i := R.length + 1 + j + 1) (gR j _ e1))), rfl, flat_all _, _, rfl, ?_⟩
              rw [List.range_succ, List.filter_append]
              refine ite2 (fun e => ?_) (fun e => ?_)
              · have e : inV (nV i) ((W.getD j []).map nV) = true := e
                rw [inV_nV] at e
                refine ⟨_, rfl, _, c2, by
                  rw [List.length_map]
                  have := List.length_filter_le (fun c => decide (i ∈ W.getD c [])) (List.range j)
                  rw [List.length_range] at this
                  exact small' (by omega), fun b o e => by rw [upd_ne (ne_of_none e hD)]; exact c1 b o e, ?_⟩
                rw [show [j].filter (fun c => decide (i ∈ W.getD c [])) = [j] by rw [List.filter_cons, if_pos e]; rfl, List.map_append]
                exact upd_same
              · have e : ¬ inV (nV i) ((W.getD j []).map nV) = true := e
                rw [inV_nV] at e
                refine ⟨c1, ?_⟩
                rw [show [j].filter (fun c => decide (i ∈ W.getD c [])) = [] by rw [List.filter_cons, if_neg e]; rfl, List.append_nil]
                exact c2
            · have p2 := p.step (.ex c1)
              have hDd : D ≠ d := by
                obtain ⟨ns, _, _, z⟩ := p.dc
                exact (ne_of_none z hD).symm
              refine ⟨d, D, (List.range n).filter (fun c => decide (i ∈ W.getD c [])), rfl, p2.dc, hDd, .of c2, by
                have := List.length_filter_le (fun c => decide (i ∈ W.getD c [])) (List.range n)
                rw [List.length_range] at this
                omega, fun lo H6 ys hlo pm nw st dc => ?_⟩
              have p3 := p2.join st dc hlo Mu.l nw
              refine ⟨rl, _, .ref lo, rfl, rfl, p3.get (i := 0) rfl, by
                rw [List.length_map, hl2, hR]
                exact small' (by omega), ?_⟩
              refine ⟨_, hr ++ [lo], R ++ [ys], rfl, grow2 hl2 p3, by rw [List.length_append, List.length_append, hl2]; rfl, by rw [List.length_append, hR]; rfl, fun b row e => ?_⟩
              rcases Nat.lt_or_ge b R.length with z | z
              · rw [List.getElem?_append_left z] at e
                exact ok b row e
              · rw [List.getElem?_append_right z] at e
                have eb : b = i := by
                  have := (List.getElem?_eq_some_iff.mp e).1
                  simp at this
                  omega
                subst eb
                rw [hR, Nat.sub_self] at e
                cases e
                rw [hW]
                exact pm
          · rintro σ H10 ⟨y11, hr, R, rfl, p, hl2, hR, okR⟩
            clear p1
            refine ⟨by show 1 ≤ sizeLine; decide, fun c1 hc1 => ⟨_, rfl, c1, _, _, rfl, rfl, upd_same, by omega, by omega, by rw [Int.toNat_natCast]; exact small (by show 1 * _ ≤ _; omega), fun sl hsl => ?_⟩⟩
            rw [Int.toNat_natCast, rep_flat, show List.replicate m (V.int 1) = (List.replicate m 1).map nV by simp]
            have p2 : ED T d H _ ((sl, .lst ((List.replicate m 1).map nV)) :: (rl, .lst (hr.map V.ref)) :: (rC hr R ++ ((wl, .lst (hw.map V.ref)) :: rC hw W))) := ((p.step (.new (o := .lst [V.int 1]) hc1)).new hsl (Mu.l (xs := (List.replicate m 1).map nV))).perm (List.perm_append_comm (l₁ := [(sl, HO.lst ((List.replicate m 1).map nV))]))
            clear p hc1
            generalize upd (upd H10 c1 (.lst [V.int 1])) sl (.lst ((List.replicate m 1).map nV)) = H11 at p2 ⊢
            dsimp only [gName, tSeq, tAsg]
            refine cutS (fun σ12 H12 => ∃ S : List Nat, S.length = m ∧ (∀ s ∈ S, 1 ≤ s) ∧ σ12 = [some (.ref d), some (.ref ml), some (nV t), none, none, some (nV n), some (nV m), some (.ref wl), y8, y9, some (.ref rl), y11, none, some (.ref sl)] ∧ ED T d H H12 ((sl, .lst (S.map nV)) :: (rl, .lst (hr.map V.ref)) :: (rC hr R ++ ((wl, .lst (hw.map V.ref)) :: rC hw W)))) (fun σ12 H12 hC => ?_) (fun D' hQ => ?_)
            · obtain ⟨S, hS1, hS2, rfl, p⟩ := hC
              refine ⟨_, rfl, _, rfl, _, rfl, by show 3 ≤ sizeLine; decide, fun tt htt => q tt wl rl sl hw hr W R S _ (.of upd_same) hl hl2 ((p.step (.new htt)).perm ?_) ⟨drawn_wf (c := 5) (by rw [hR]; exact okW) okR hS2, by rw [hS1, hR], by rw [hW]; omega, by rw [hR]; omega⟩⟩
              refine (List.perm_append_comm (l₂ := [(sl, HO.lst (S.map nV))])).trans (List.Perm.cons _ ?_)
              show ((wl, _) :: (rl, _) :: (rC hw W ++ rC hr R)).Perm ((rl, _) :: (rC hr R ++ (wl, _) :: rC hw W))
              refine (List.Perm.swap _ _ _).trans (List.Perm.cons _ ?_)
              exact (List.perm_append_comm.cons _).trans List.perm_middle.symm
            · have h1s : ∀ s ∈ List.replicate m 1, 1 ≤ s := fun s hs => by rw [(List.mem_replicate.mp hs).2]; exact Nat.le_refl _
              refine ⟨_, rfl, _, _, rfl, rfl, _, rfl, ite2 (fun e => ?_) (fun e => iteF (hQ _ _ ⟨_, List.length_replicate, h1s, rfl, p2⟩))⟩
              have e := of_decide_eq_true e
              have e : 0 < m := by omega
              refine ⟨_, rfl, d, 3, rfl, by decide, p2.dc, fun t3 H12 ht3 st dc => ⟨rfl, _, rfl, ite2 (fun _ => ?_) (fun _ => hQ _ _ ⟨_, List.length_replicate, h1s, rfl, p2.take st dc⟩)⟩⟩
              have p3 := p2.take st dc
              refine ⟨_, rfl, _, rfl, _, rfl, d, _, rfl, by omega, p3.dc, fun t4 H13 ht4 st2 dc2 => ?_⟩
              have p4 := p3.take st2 dc2
              have ht4 : t4 < m := by omega
              refine ⟨sl, _, (t4 : Int), t4, rfl, rfl, p4.get (i := 0) rfl, Evl.ixN_nat (by rw [List.length_map, List.length_replicate]; exact ht4), hQ _ _ ?_⟩
              rw [show ((List.replicate m 1).map nV).set t4 (V.int 2) = ((List.replicate m 1).set t4 2).map nV by rw [List.map_set]; rfl]
              refine ⟨(List.replicate m 1).set t4 2, by rw [List.length_set, List.length_replicate], fun s hs => ?_, rfl, p4.put (i := 0) rfl Mu.l⟩
              rcases List.mem_or_eq_of_mem_set hs with z | z
              · exact h1s s z
              · rw [z]
                decide
      · have f3 : V.int (3 + (t1 : Int)) = nV (3 + t1) := rfl
        refine ⟨_, rfl, rfl, _, rfl, ite2 (fun e => ?_) (fun e => hQ _ _ ⟨3 + t1, 3 + t2, by omega, by omega, rfl, p3⟩)⟩
        refine ⟨_, rfl, d, 4, rfl, by decide, p3.dc, fun t3 H6 ht3 st dc => ?_⟩
        have p4 := p3.take st dc
        refine ⟨_, rfl, d, 4, rfl, by decide, p4.dc, fun t4 H7 ht4 st2 dc2 => hQ _ _ ⟨t3, t4, by omega, by omega, rfl, p4.take st2 dc2⟩⟩
end
end Z
namespace Z
open PySem PySem.Spec PyProof.Rows L2 Ma
theorem getD_set {l : List (List Nat)} {a x : Nat} {v : List Nat} (h : a < l.length) : (l.set a v).getD x [] = if x = a then v else l.getD x [] := by
  rw [List.getD_eq_getElem?_getD, List.getElem?_set, List.getD_eq_getElem?_getD]
  by_cases e : a = x
  · subst e
    rw [if_pos rfl, if_pos h, if_pos rfl]
    rfl
  · rw [if_neg e, if_neg (Ne.symm e)]
theorem Dr.upd {W R : List (List Nat)} {S : List Nat} {a b : Nat} {wa rb : List Nat} (dr : Dr W R S) (ha : a < W.length) (hb : b < R.length) (n1 : wa.Nodup) (n2 : rb.Nodup) (c1 : ∀ y, y ≠ b → (y ∈ wa ↔ y ∈ W.getD a [])) (c2 : ∀ x, x ≠ a → (x ∈ rb ↔ x ∈ R.getD b [])) (c3 : b ∈ wa ↔ a ∈ rb) : Dr (W.set a wa) (R.set b rb) S := by
  have wf := dr.wf
  refine ⟨⟨fun x => ?_, fun y => ?_, fun x y => ?_, wf.sp, fun x h => getD_none h, fun x h => getD_none h⟩, by rw [List.length_set]; exact dr.sl, by rw [List.length_set]; exact dr.n5, by rw [List.length_set]; exact dr.m5⟩
  · show ((W.set a wa).getD x []).Nodup
    rw [getD_set ha]
    split
    · exact n1
    · exact wf.wn x
  · show ((R.set b rb).getD y []).Nodup
    rw [getD_set hb]
    split
    · exact n2
    · exact wf.rn y
  · show y ∈ (W.set a wa).getD x [] ↔ x ∈ (R.set b rb).getD y []
    have sd : ∀ x y, y ∈ W.getD x [] ↔ x ∈ R.getD y [] := wf.sd
    rw [getD_set ha, getD_set hb]
    by_cases hx : x = a
    · subst hx
      rw [if_pos rfl]
      by_cases hy : y = b
      · subst hy
        rw [if_pos rfl]
        exact c3
      · rw [if_neg hy, c1 y hy]
        exact sd x y
    · rw [if_neg hx]
      by_cases hy : y = b
      · subst hy
        rw [if_pos rfl, c2 x hx]
        exact sd x y
      · rw [if_neg hy]
        exact sd x y
theorem set_getD {l : List (List Nat)} {a : Nat} : l.set a (l.getD a []) = l := by
  apply List.ext_getElem?
  intro j
  rw [List.getElem?_set]
  by_cases e : a = j
  · subst e
    rw [if_pos rfl]
    by_cases h : a < l.length
    · rw [if_pos h, getD_at (z := []) h]
    · rw [if_neg h, List.getElem?_eq_none_iff.mpr (by omega)]
  · rw [if_neg e]
theorem Dr.permW {W R : List (List Nat)} {S : List Nat} {a b : Nat} {wa : List Nat} (dr : Dr W R S) (ha : a < W.length) (hb : b < R.length) (p : wa.Perm (W.getD a [])) : Dr (W.set a wa) R S := by
  have h := dr.upd (rb := R.getD b []) ha hb ((dr.wf.wn a).perm p.symm) (dr.wf.rn b) (fun y _ => p.mem_iff) (fun x _ => Iff.rfl) (p.mem_iff.trans (dr.wf.sd a b))
  rw [set_getD] at h
  exact h
theorem Dr.permR {W R : List (List Nat)} {S : List Nat} {a b : Nat} {rb : List Nat} (dr : Dr W R S) (ha : a < W.length) (hb : b < R.length) (p : rb.Perm (R.getD b [])) : Dr W (R.set b rb) S := by
  have h := dr.upd (wa := W.getD a []) ha hb (dr.wf.wn a) ((dr.wf.rn b).perm p.symm) (fun y _ => Iff.rfl) (fun x _ => p.mem_iff) ((dr.wf.sd a b).trans p.mem_iff.symm)
  rw [set_getD] at h
  exact h
section
variable {wl rl : Addr} {hw hr : List Addr} {W R : List (List Nat)} {ex : List (Addr × HO)} {i : Nat} {p : Addr} {row : List Nat}
theorem canoW (hl : hw.length = W.length) (h1 : hw[i]? = some p) : (cano wl rl hw hr W R ++ ex)[i + 2]? = some (p, .lst ((W.getD i []).map nV)) := by
  have hi := (List.getElem?_eq_some_iff.mp h1).1
  show (rC hw W ++ rC hr R ++ ex)[i]? = _
  rw [List.append_assoc, List.getElem?_append_left (by rw [rC_len hl]; exact hi)]
  exact rC_get h1 (getD_at (by omega))
theorem canoW_set (hl : hw.length = W.length) (h1 : hw[i]? = some p) : (cano wl rl hw hr W R ++ ex).set (i + 2) (p, .lst (row.map nV)) = cano wl rl hw hr (W.set i row) R ++ ex := by
  have hi := (List.getElem?_eq_some_iff.mp h1).1
  show (_ :: _ :: (rC hw W ++ rC hr R ++ ex)).set (i + 2) _ = _
  rw [List.set_cons_succ, List.set_cons_succ, List.append_assoc, List.set_append_left _ _ (by rw [rC_len hl]; exact hi), rC_set h1, ← List.append_assoc]
  rfl
theorem canoR (hl : hw.length = W.length) (hl2 : hr.length = R.length) (h1 : hr[i]? = some p) : (cano wl rl hw hr W R ++ ex)[hw.length + i + 2]? = some (p, .lst ((R.getD i []).map nV)) := by
  have hi := (List.getElem?_eq_some_iff.mp h1).1
  show (rC hw W ++ rC hr R ++ ex)[hw.length + i]? = _
  rw [List.append_assoc, List.getElem?_append_right (by rw [rC_len hl]; omega), rC_len hl, Nat.add_sub_cancel_left, List.getElem?_append_left (by rw [rC_len hl2]; exact hi)]
  exact rC_get h1 (getD_at (by omega))
theorem canoR_set (hl : hw.length = W.length) (hl2 : hr.length = R.length) (h1 : hr[i]? = some p) : (cano wl rl hw hr W R ++ ex).set (hw.length + i + 2) (p, .lst (row.map nV)) = cano wl rl hw hr W (R.set i row) ++ ex := by
  have hi := (List.getElem?_eq_some_iff.mp h1).1
  show (_ :: _ :: (rC hw W ++ rC hr R ++ ex)).set (hw.length + i + 2) _ = _
  rw [List.set_cons_succ, List.set_cons_succ, List.append_assoc, List.set_append_right _ _ (by rw [rC_len hl]; omega), rC_len hl, Nat.add_sub_cancel_left, List.set_append_left _ _ (by rw [rC_len hl2]; exact hi), rC_set h1, ← List.append_assoc]
  rfl
end
theorem ins_perm (l : List Nat) (k x : Nat) : (l.take k ++ [x] ++ l.drop k).Perm (x :: l) := by
  rw [List.append_assoc]
  show (l.take k ++ (x :: l.drop k)).Perm (x :: l)
  refine List.perm_middle.trans ?_
  rw [List.take_append_drop]
section
variable {P : Program} {w : World} {K : PySem.W.Frag} {mg : Str → Option Value} {base : Heap} {T : Tb}
def spBent (T : Tb) : Sp := fun vs H Q _ => ∃ (d wl rl : Addr) (H0 : Hp) (hw hr : List Addr) (W R : List (List Nat)) (S : List Nat) (ex : List (Addr × HO)), vs = [.ref d, .ref wl, .ref rl] ∧ ED T d H0 H (cano wl rl hw hr W R ++ ex) ∧ hw.length = W.length ∧ hr.length = R.length ∧ Dr W R S ∧
  ∀ (H' : Hp) (W' R' : List (List Nat)), ED T d H0 H' (cano wl rl hw hr W' R' ++ ex) → W'.length = W.length → R'.length = R.length → Dr W' R' S → Q .non H'
theorem ok_bent {f fL : Addr} {fd fdL : FuncData} {k : Nat} (F : Fun K "_law_bent" "_law_bent" s_Lbent f fd) (B : Bt mg) (G_take : FnOk P w K mg base CX0 k fL fdL ["_law_dice_here", "_law_many"] (spTake T)) (g_take : mg "_law_take" = some (.ref fL)) (kp_take : PySem.W.keepIn K (.ref fL) = true) (b_take : Binds K fdL ["_law_dice_here", "_law_many"] []) :
    FnOk P w K mg base CX0 (k + 1) f fd ["_law_dice_here", "_law_wishes", "_law_rolls"] (spBent T) := by
  refine F.ok sc_Lbent (fun vs H Q E h => ?_) (fun cdv A outer s H vs Q E hr h => ?_)
  · obtain ⟨d, wl, rl, H0, hw, hr, W, R, S, ex, rfl, _⟩ := h
    rfl
  · obtain ⟨d, wl, rl, H0, hw, hrr, W, R, S, ex, rfl, p, hl, hl2, dr, q⟩ := h
    refine ⟨_, (pss_cons (ps_if (PW.pt (pw_or (pt_not (ktruth K (pv 1) (by intro _; rfl))) (pw_or1 (pt_not (ktruth K (pv 2) (by intro _; rfl))))))
        (pss_one ps_retN)
        pss_nil)
      (pss_cons (ps_set (i := 3) sc_Lbent.nd rfl (Or.inl rfl) (pe_call G_take hr (by rfl) g_take kp_take b_take .nil pass0 (pa_cons (pv 0) (pa_cons pe_int pa_nil))))
      (pss_cons (ps_set (i := 4) sc_Lbent.nd rfl (Or.inl rfl) (pe_call G_take hr (by rfl) g_take kp_take b_take .nil pass0 (pa_cons (pv 0) (pa_cons (pe_callB (klen K) (by rfl) B.len (by decide +kernel) (pa_cons (pv 1) pa_nil)) pa_nil))))
      (pss_cons (ps_set (i := 5) sc_Lbent.nd rfl (Or.inl rfl) (pe_call G_take hr (by rfl) g_take kp_take b_take .nil pass0 (pa_cons (pv 0) (pa_cons (pe_callB (klen K) (by rfl) B.len (by decide +kernel) (pa_cons (pv 2) pa_nil)) pa_nil))))
      (pss_one (ps_if (PW.pt (pw_and (pt_cmpR (kin_seq K) (pv 5) (pe_ix (kix_list K) (pv 1) (pv 4) (fun _ _ => rfl)) (by rfl)) (pw_and1 (pt_cmpR op_eq (pv 3) pe_int (nomark _)))))
        (pss_cons (ps_expr (kbm K PySem.F.plainAttrs_list PySem.F.slot_list_remove PySem.F.type_list_remove mt_remove (pe_ix (kix_list K) (pv 1) (pv 4) (fun _ _ => rfl)) (pa_cons (pv 5) pa_nil)))
        (pss_one (ps_expr (kbm K PySem.F.plainAttrs_list PySem.F.slot_list_remove PySem.F.type_list_remove mt_remove (pe_ix (kix_list K) (pv 2) (pv 5) (fun _ _ => rfl)) (pa_cons (pv 4) pa_nil)))))
        (pss_one (ps_if (PW.pt (pw_and (pt_cmpR (knotin_seq K) (pv 5) (pe_ix (kix_list K) (pv 1) (pv 4) (fun _ _ => rfl)) (by rfl)) (pw_and1 (pt_cmpR op_lt (pv 3) pe_int (nomark _)))))
          (pss_cons (ps_expr (kbm K PySem.F.plainAttrs_list PySem.F.slot_list_insert PySem.F.type_list_insert mt_insert (pe_ix (kix_list K) (pv 1) (pv 4) (fun _ _ => rfl)) (pa_cons (pe_call G_take hr (by rfl) g_take kp_take b_take .nil pass0 (pa_cons (pv 0) (pa_cons (pe_op op_add (pe_callB (klen K) (by rfl) B.len (by decide +kernel) (pa_cons (pe_ix (kix_list K) (pv 1) (pv 4) (fun _ _ => rfl)) pa_nil)) pe_int) pa_nil))) (pa_cons (pv 5) pa_nil))))
          (pss_one (ps_expr (kbm K PySem.F.plainAttrs_list PySem.F.slot_list_insert PySem.F.type_list_insert mt_insert (pe_ix (kix_list K) (pv 2) (pv 5) (fun _ _ => rfl)) (pa_cons (pe_call G_take hr (by rfl) g_take kp_take b_take .nil pass0 (pa_cons (pv 0) (pa_cons (pe_op op_add (pe_callB (klen K) (by rfl) B.len (by decide +kernel) (pa_cons (pe_ix (kix_list K) (pv 2) (pv 5) (fun _ _ => rfl)) pa_nil)) pe_int) pa_nil))) (pa_cons (pv 4) pa_nil))))))
          (pss_cons (ps_set (i := 6) sc_Lbent.nd rfl (Or.inl rfl) (pe_ix (kix_list K) (pv 1) (pv 4) (fun _ _ => rfl)))
          (pss_cons (ps_if (pt_cmpR op_gt (pv 3) pe_int (nomark _))
            (pss_one (ps_set (i := 6) sc_Lbent.nd rfl (Or.inl rfl) (pe_ix (kix_list K) (pv 2) (pv 5) (fun _ _ => rfl))))
            pss_nil)
          (pss_one (ps_if (pt_cmpR op_gt (pe_callB (klen K) (by rfl) B.len (by decide +kernel) (pa_cons (pv 6) pa_nil)) pe_int (nomark _))
            (pss_cons (ps_set (i := 7) sc_Lbent.nd rfl (Or.inl rfl) (pe_call G_take hr (by rfl) g_take kp_take b_take .nil pass0 (pa_cons (pv 0) (pa_cons (pe_op op_sub (pe_callB (klen K) (by rfl) B.len (by decide +kernel) (pa_cons (pv 6) pa_nil)) pe_int) pa_nil))))
            (pss_one (ps_expr (kbm K PySem.F.plainAttrs_list PySem.F.slot_list_insert PySem.F.type_list_insert mt_insert (pv 6) (pa_cons (pv 7) (pa_cons (kbm K PySem.F.plainAttrs_list PySem.F.slot_list_pop PySem.F.type_list_pop mt_popAt (pv 6) (pa_cons (pe_op op_add (pv 7) pe_int) pa_nil)) pa_nil))))))
            pss_nil)))))))))))), ?_⟩
    dsimp only [tSeq, tIfS]
    refine cutT (fun c H1 => H1 = H ∧ (c = false → 0 < W.length ∧ 0 < R.length)) (fun c H1 hC => ?_) (fun Q' hQ => ?_)
    · obtain ⟨rfl, hc⟩ := hC
      refine ite2 (fun _ => q H1 W R p rfl rfl dr) (fun e => ?_)
      obtain ⟨hn0, hm0⟩ := hc (by cases c <;> simp_all)
      clear hc e
      refine ⟨_, rfl, d, 6, rfl, by decide, p.dc, fun dd H2 hdd st dc => ?_⟩
      have p2 := p.take st dc
      clear p st dc
      refine ⟨_, rfl, _, rfl, wl, _, rfl, .inl (.of (p2.get (i := 0) rfl)), d, _, rfl, by rw [List.length_map]; omega, p2.dc, fun a H3 ha st dc => ?_⟩
      have p3 := p2.take st dc
      clear p2 st dc
      refine ⟨_, rfl, _, rfl, rl, _, rfl, .inl (.of (p3.get (i := 1) rfl)), d, _, rfl, by rw [List.length_map]; omega, p3.dc, fun b H4 hb st dc => ?_⟩
      have p4 := p3.take st dc
      clear p3 st dc
      rw [List.length_map] at ha hb
      have ha : a < W.length := by omega
      have hb : b < R.length := by omega
      obtain ⟨pa, hpa⟩ : ∃ x, hw[a]? = some x := ⟨_, List.getElem?_eq_getElem (by omega)⟩
      obtain ⟨pb, hpb⟩ : ∃ x, hrr[b]? = some x := ⟨_, List.getElem?_eq_getElem (by omega)⟩
      have eWa : (hw.map V.ref)[a]? = some (.ref pa) := by rw [List.getElem?_map, hpa]; rfl
      have eRb : (hrr.map V.ref)[b]? = some (.ref pb) := by rw [List.getElem?_map, hpb]; rfl
      have sd : b ∈ W.getD a [] ↔ a ∈ R.getD b [] := dr.wf.sd a b
      have wnA : (W.getD a []).Nodup := dr.wf.wn a
      have rnB : (R.getD b []).Nodup := dr.wf.rn b
      have lA : (W.getD a []).length ≤ 5 := Nat.le_trans (nodup_lt_len (n := R.length) wnA fun y hy => by
        rcases Nat.lt_or_ge y R.length with z | z
        · exact z
        · have h := (dr.wf.sd a y).mp hy
          rw [dr.wf.rl y z] at h
          cases h) dr.m5
      have lB : (R.getD b []).length ≤ 5 := Nat.le_trans (nodup_lt_len (n := W.length) rnB fun y hy => by
        rcases Nat.lt_or_ge y W.length with z | z
        · exact z
        · have h := (dr.wf.sd y b).mpr hy
          rw [dr.wf.wl y z] at h
          cases h) dr.n5
      dsimp only [gName, tIfS]
      refine cutT (fun c H5 => H5 = H4 ∧ c = decide (b ∈ W.getD a [] ∧ dd = 0)) (fun c H5 hC => ?_) (fun Q' hQ => ?_)
      · obtain ⟨rfl, rfl⟩ := hC
        refine ite2 (fun e => ?_) (fun e => ?_)
        · obtain ⟨e, _⟩ := of_decide_eq_true e
          -- remove
          refine ⟨_, rfl, _, rfl, wl, _, (a : Int), .ref pa, rfl, rfl, .of (p4.get (i := 0) rfl), atI_nat eWa, .inl ⟨rfl, _, .of (p4.get (i := a + 2) (canoW hl hpa))⟩, _, rfl, pa, (W.getD a []).map ci, ci b, (W.getD a []).idxOf b, rfl, rfl, by rw [← map_nV]; exact p4.get (i := a + 2) (canoW hl hpa), by rw [List.getElem?_map, get_idx e]; rfl, fun m hm z => ?_, ?_⟩
          · rw [List.getElem?_map] at z
            cases hz : (W.getD a [])[m]? with
            | none => rw [hz] at z; cases z
            | some y =>
              rw [hz] at z
              have : y = b := ci_inj (Option.some.inj z)
              rw [this] at hz
              have := idx_get wnA hz
              omega
          rw [map_erIdx, ← map_nV, ← er_idx b _ e]
          have p5 : ED T d H0 (upd H5 pa (.lst (((W.getD a []).erase b).map nV))) (cano wl rl hw hrr (W.set a ((W.getD a []).erase b)) R ++ ex) := by
            have := p4.put (i := a + 2) (canoW hl hpa) (Mu.l (xs := ((W.getD a []).erase b).map nV))
            rwa [canoW_set hl hpa] at this
          clear p4
          generalize upd H5 pa (.lst (((W.getD a []).erase b).map nV)) = H6 at p5 ⊢
          have hl' : hw.length = (W.set a ((W.getD a []).erase b)).length := by rw [List.length_set]; exact hl
          have e2 := sd.mp e
          refine ⟨_, rfl, _, rfl, rl, _, (b : Int), .ref pb, rfl, rfl, .of (p5.get (i := 1) rfl), atI_nat eRb, .inl ⟨rfl, _, .of (p5.get (i := hw.length + b + 2) (canoR hl' hl2 hpb))⟩, _, rfl, pb, (R.getD b []).map ci, ci a, (R.getD b []).idxOf a, rfl, rfl, by rw [← map_nV]; exact p5.get (i := hw.length + b + 2) (canoR hl' hl2 hpb), by rw [List.getElem?_map, get_idx e2]; rfl, fun m hm z => ?_, ?_⟩
          · rw [List.getElem?_map] at z
            cases hz : (R.getD b [])[m]? with
            | none => rw [hz] at z; cases z
            | some y =>
              rw [hz] at z
              have : y = a := ci_inj (Option.some.inj z)
              rw [this] at hz
              have := idx_get rnB hz
              omega
          rw [map_erIdx, ← map_nV, ← er_idx a _ e2]
          have p6 := p5.put (i := hw.length + b + 2) (canoR hl' hl2 hpb) (Mu.l (xs := ((R.getD b []).erase a).map nV))
          rw [canoR_set hl' hl2 hpb] at p6
          refine q _ _ _ p6 (by rw [List.length_set]) (by rw [List.length_set]) (dr.upd ha hb (wnA.erase b) (rnB.erase a) (fun y hy => ?_) (fun x hx => ?_) ⟨fun z => ?_, fun z => ?_⟩)
          · rw [wnA.mem_erase_iff]
            exact ⟨fun z => z.2, fun z => ⟨hy, z⟩⟩
          · rw [rnB.mem_erase_iff]
            exact ⟨fun z => z.2, fun z => ⟨hx, z⟩⟩
          · exact absurd rfl (wnA.mem_erase_iff.mp z).1
          · exact absurd rfl (rnB.mem_erase_iff.mp z).1
        · clear e
          refine cutT (fun c H6 => H6 = H5 ∧ c = decide (b ∉ W.getD a [] ∧ dd < 3)) (fun c H6 hC => ?_) (fun Q' hQ => ?_)
          · obtain ⟨rfl, rfl⟩ := hC
            refine ite2 (fun e => ?_) (fun e => ?_)
            · obtain ⟨e, _⟩ := of_decide_eq_true e
              -- insert
              refine ⟨_, rfl, _, rfl, wl, _, (a : Int), .ref pa, rfl, rfl, .of (p4.get (i := 0) rfl), atI_nat eWa, .inl ⟨rfl, _, .of (p4.get (i := a + 2) (canoW hl hpa))⟩, _, rfl, _, rfl, _, rfl, wl, _, (a : Int), .ref pa, rfl, rfl, .of (p4.get (i := 0) rfl), atI_nat eWa, pa, _, rfl, .inl (.of (p4.get (i := a + 2) (canoW hl hpa))), _, 1, rfl, rfl, d, _, rfl, by omega, p4.dc, fun t H7 ht st dc => ?_⟩
              have p5 := p4.take st dc
              clear p4 st dc
              refine ⟨_, rfl, pa, _, (t : Int), nV b, rfl, rfl, p5.get (i := a + 2) (canoW hl hpa), by rw [List.length_map]; exact small' (by omega), by omega, by rw [List.length_map] at ht; omega, ?_⟩
              rw [Int.toNat_natCast, show ((W.getD a []).map nV).take t ++ [nV b] ++ ((W.getD a []).map nV).drop t = ((W.getD a []).take t ++ [b] ++ (W.getD a []).drop t).map nV by simp]
              have p6 : ED T d H0 (upd H7 pa (.lst (((W.getD a []).take t ++ [b] ++ (W.getD a []).drop t).map nV))) (cano wl rl hw hrr (W.set a ((W.getD a []).take t ++ [b] ++ (W.getD a []).drop t)) R ++ ex) := by
                have := p5.put (i := a + 2) (canoW hl hpa) (Mu.l (xs := ((W.getD a []).take t ++ [b] ++ (W.getD a []).drop t).map nV))
                rwa [canoW_set hl hpa] at this
              clear p5
              have pmW := ins_perm (W.getD a []) t b
              generalize (W.getD a []).take t ++ [b] ++ (W.getD a []).drop t = wa at p6 pmW ⊢
              generalize upd H7 pa (.lst (wa.map nV)) = H8 at p6 ⊢
              have hl' : hw.length = (W.set a wa).length := by rw [List.length_set]; exact hl
              refine ⟨_, rfl, _, rfl, rl, _, (b : Int), .ref pb, rfl, rfl, .of (p6.get (i := 1) rfl), atI_nat eRb, .inl ⟨rfl, _, .of (p6.get (i := hw.length + b + 2) (canoR hl' hl2 hpb))⟩, _, rfl, _, rfl, _, rfl, rl, _, (b : Int), .ref pb, rfl, rfl, .of (p6.get (i := 1) rfl), atI_nat eRb, pb, _, rfl, .inl (.of (p6.get (i := hw.length + b + 2) (canoR hl' hl2 hpb))), _, 1, rfl, rfl, d, _, rfl, by omega, p6.dc, fun t2 H9 ht2 st dc => ?_⟩
              have p7 := p6.take st dc
              clear p6 st dc
              refine ⟨_, rfl, pb, _, (t2 : Int), nV a, rfl, rfl, p7.get (i := hw.length + b + 2) (canoR hl' hl2 hpb), by rw [List.length_map]; exact small' (by omega), by omega, by rw [List.length_map] at ht2; omega, ?_⟩
              rw [Int.toNat_natCast, show ((R.getD b []).map nV).take t2 ++ [nV a] ++ ((R.getD b []).map nV).drop t2 = ((R.getD b []).take t2 ++ [a] ++ (R.getD b []).drop t2).map nV by simp]
              have p8 := p7.put (i := hw.length + b + 2) (canoR hl' hl2 hpb) (Mu.l (xs := ((R.getD b []).take t2 ++ [a] ++ (R.getD b []).drop t2).map nV))
              rw [canoR_set hl' hl2 hpb] at p8
              have pmR := ins_perm (R.getD b []) t2 a
              have e2 : a ∉ R.getD b [] := fun z => e (sd.mpr z)
              refine q _ _ _ p8 (by rw [List.length_set]) (by rw [List.length_set]) (dr.upd ha hb ((List.nodup_cons.mpr ⟨e, wnA⟩).perm pmW.symm) ((List.nodup_cons.mpr ⟨e2, rnB⟩).perm pmR.symm) (fun y hy => ?_) (fun x hx => ?_) ?_)
              · rw [pmW.mem_iff, List.mem_cons]
                exact ⟨fun z => z.resolve_left hy, .inr⟩
              · rw [pmR.mem_iff, List.mem_cons]
                exact ⟨fun z => z.resolve_left hx, .inr⟩
              · rw [pmW.mem_iff, pmR.mem_iff]
                simp
            · clear e
              refine ⟨_, rfl, _, rfl, wl, _, (a : Int), .ref pa, rfl, rfl, .of (p4.get (i := 0) rfl), atI_nat eWa, ?_⟩
              dsimp only [gName, tSeq]
              refine cutS (fun σ7 H7 => H7 = H6 ∧ ∃ (pc : Addr) (ix : Nat) (ro : List Nat), σ7 = [some (.ref d), some (.ref wl), some (.ref rl), some (nV dd), some (nV a), some (nV b), some (.ref pc), none] ∧ (cano wl rl hw hrr W R ++ ex)[ix]? = some (pc, .lst (ro.map nV)) ∧ ro.length ≤ 5 ∧ ∀ ro' : List Nat, ro'.Perm ro → ∃ W' R', (cano wl rl hw hrr W R ++ ex).set ix (pc, .lst (ro'.map nV)) = cano wl rl hw hrr W' R' ++ ex ∧ W'.length = W.length ∧ R'.length = R.length ∧ Dr W' R' S) (fun σ7 H7 hC => ?_) (fun D' hQ => ?_)
              · obtain ⟨rfl, pc, ix, ro, rfl, hix, hro, hset⟩ := hC
                refine ⟨_, rfl, pc, _, rfl, .inl (.of (p4.get (i := ix) hix)), _, _, rfl, rfl, _, rfl, ite2 (fun e => ?_) (fun e => q _ W R p4 rfl rfl dr)⟩
                have e := of_decide_eq_true e
                rw [List.length_map] at e
                refine ⟨_, rfl, _, rfl, pc, _, rfl, .inl (.of (p4.get (i := ix) hix)), _, 1, rfl, rfl, d, _, rfl, by rw [List.length_map]; omega, p4.dc, fun t H8 ht st dc => ?_⟩
                have p5 := p4.take st dc
                clear p4 st dc
                rw [List.length_map] at ht
                obtain ⟨y, hy⟩ : ∃ y, ro[t + 1]? = some y := ⟨_, List.getElem?_eq_getElem (by omega)⟩
                refine ⟨_, rfl, .inl ⟨rfl, _, .of (p5.get (i := ix) hix)⟩, _, rfl, _, rfl, .inl ⟨rfl, _, .of (p5.get (i := ix) hix)⟩, _, rfl, _, 1, rfl, rfl, pc, _, ((t : Int) + 1), t + 1, nV y, rfl, rfl, p5.get (i := ix) hix, by omega, by omega, sqi (i := t + 1) (by rw [List.length_map]; omega), by rw [List.getElem?_map, hy]; rfl, ?_⟩
                rw [map_erIdx]
                have p6 := p5.put (i := ix) hix (Mu.l (xs := (ro.eraseIdx (t + 1)).map nV))
                have hi := (List.getElem?_eq_some_iff.mp hix).1
                have hix2 : ((cano wl rl hw hrr W R ++ ex).set ix (pc, .lst ((ro.eraseIdx (t + 1)).map nV)))[ix]? = some (pc, .lst ((ro.eraseIdx (t + 1)).map nV)) := by rw [List.getElem?_set, if_pos rfl, if_pos hi]
                have erl : (ro.eraseIdx (t + 1)).length ≤ 5 := Nat.le_trans (List.length_eraseIdx_le _ _) hro
                refine ⟨pc, _, (t : Int), nV y, rfl, rfl, upd_same, by rw [List.length_map]; exact small' (by omega), by omega, by omega, ?_⟩
                rw [Int.toNat_natCast, show ((ro.eraseIdx (t + 1)).map nV).take t ++ [nV y] ++ ((ro.eraseIdx (t + 1)).map nV).drop t = ((ro.eraseIdx (t + 1)).take t ++ [y] ++ (ro.eraseIdx (t + 1)).drop t).map nV by simp]
                have p7 := p6.put (i := ix) hix2 (Mu.l (xs := ((ro.eraseIdx (t + 1)).take t ++ [y] ++ (ro.eraseIdx (t + 1)).drop t).map nV))
                rw [List.set_set] at p7
                obtain ⟨W', R', eq, l1, l2, dr'⟩ := hset _ ((ins_perm (ro.eraseIdx (t + 1)) t y).trans (erIdx_perm hy))
                rw [eq] at p7
                exact q _ W' R' p7 l1 l2 dr'
              · refine ⟨_, rfl, _, _, rfl, rfl, _, rfl, ite2 (fun e => ?_) (fun e => ?_)⟩
                · exact ⟨_, rfl, _, rfl, rl, _, (b : Int), .ref pb, rfl, rfl, .of (p4.get (i := 1) rfl), atI_nat eRb, hQ _ _ ⟨rfl, pb, hw.length + b + 2, R.getD b [], rfl, canoR hl hl2 hpb, lB, fun ro' pm => ⟨W, R.set b ro', canoR_set hl hl2 hpb, rfl, by rw [List.length_set], dr.permR ha hb pm⟩⟩⟩
                · exact hQ _ _ ⟨rfl, pa, a + 2, W.getD a [], rfl, canoW hl hpa, lA, fun ro' pm => ⟨W.set a ro', R, canoW_set hl hpa, by rw [List.length_set], rfl, dr.permW ha hb pm⟩⟩
          · refine ⟨_, rfl, _, rfl, _, rfl, wl, _, (a : Int), .ref pa, rfl, rfl, .of (p4.get (i := 0) rfl), atI_nat eWa, pa, _, rfl, .inl (.of (p4.get (i := a + 2) (canoW hl hpa))), rfl, flat_all _, _, rfl, ite2 (fun e => ?_) (fun e => ?_)⟩
            · have e : (!inV (nV b) ((W.getD a []).map nV)) = true := e
              rw [inV_nV] at e
              have e : b ∉ W.getD a [] := by simpa using e
              refine ⟨_, rfl, _, _, rfl, rfl, _, rfl, hQ _ _ ⟨rfl, ?_⟩⟩
              rw [decide_eq_decide]
              exact ⟨fun z => ⟨e, by omega⟩, fun z => by have := z.2; omega⟩
            · have e : ¬ (!inV (nV b) ((W.getD a []).map nV)) = true := e
              rw [inV_nV] at e
              have e : b ∈ W.getD a [] := by simpa using e
              exact hQ _ _ ⟨rfl, (decide_eq_false fun z => z.1 e).symm⟩
      · refine ⟨_, rfl, _, rfl, _, rfl, wl, _, (a : Int), .ref pa, rfl, rfl, .of (p4.get (i := 0) rfl), atI_nat eWa, pa, _, rfl, .inl (.of (p4.get (i := a + 2) (canoW hl hpa))), rfl, flat_all _, _, rfl, ite2 (fun e => ?_) (fun e => ?_)⟩
        · have e : inV (nV b) ((W.getD a []).map nV) = true := e
          rw [inV_nV] at e
          have e : b ∈ W.getD a [] := of_decide_eq_true e
          refine ⟨_, rfl, rfl, _, rfl, hQ _ _ ⟨rfl, ?_⟩⟩
          rw [decide_eq_decide]
          exact ⟨fun z => ⟨e, by injection z with z; omega⟩, fun z => by rw [z.2]; rfl⟩
        · have e : ¬ inV (nV b) ((W.getD a []).map nV) = true := e
          rw [inV_nV] at e
          exact hQ _ _ ⟨rfl, (decide_eq_false fun z => e (decide_eq_true z.1)).symm⟩
    · refine ⟨_, rfl, _, .inl ⟨_, .of (p.get (i := 0) rfl), rfl⟩, ite2 (fun e => hQ _ _ ⟨rfl, fun z => nomatch z⟩) (fun e => ?_)⟩
      refine ⟨_, rfl, _, .inl ⟨_, .of (p.get (i := 1) rfl), rfl⟩, hQ _ _ ⟨rfl, fun z => ?_⟩⟩
      refine ⟨?_, ?_⟩
      · rcases hw with _ | ⟨x, hw⟩
        · exact absurd rfl e
        · rw [← hl]
          exact Nat.succ_pos _
      · rcases hrr with _ | ⟨x, hrr⟩
        · cases z
        · rw [← hl2]
          exact Nat.succ_pos _
end
end Z
namespace Z
open PySem PySem.Spec PyProof.Rows L2 Ma
/-! ### other names for pupils and schools -/
def relL (rows : List (List Nat)) (pp ss : List Nat) : List (List Nat) := (List.range rows.length).map fun x => (rows.getD (pp.idxOf x) []).map fun b => ss.getD b 0
section
variable {rows : List (List Nat)} {pp ss : List Nat} {m x y : Nat}
theorem relL_len : (relL rows pp ss).length = rows.length := by
  unfold relL
  rw [List.length_map, List.length_range]
theorem relL_at (h : x < rows.length) : (relL rows pp ss)[x]? = some ((rows.getD (pp.idxOf x) []).map fun b => ss.getD b 0) := by
  unfold relL
  rw [List.getElem?_map, List.getElem?_range h]
  rfl
theorem perm_in {n : Nat} (h : ss.Perm (List.range n)) : ss.Nodup ∧ ss.length = n ∧ ∀ y, y ∈ ss ↔ y < n := ⟨List.nodup_range.perm h.symm, by rw [h.length_eq, List.length_range], fun y => by rw [h.mem_iff, List.mem_range]⟩
theorem relL_mem (hs : ss.Perm (List.range m)) (hb : ∀ a b, b ∈ rows.getD a [] → b < m) : y ∈ (relL rows pp ss).getD x [] ↔ x < rows.length ∧ y < m ∧ ss.idxOf y ∈ rows.getD (pp.idxOf x) [] := by
  obtain ⟨s1, s2, s3⟩ := perm_in hs
  rcases Nat.lt_or_ge x rows.length with z | z
  · rw [getD_some (relL_at z), List.mem_map]
    constructor
    · rintro ⟨b, hm, rfl⟩
      have hbm := hb _ b hm
      have hg : ss[b]? = some (ss.getD b 0) := getD_at (by omega)
      refine ⟨z, (s3 _).mp (List.mem_of_getElem? hg), ?_⟩
      rw [idx_get s1 hg]
      exact hm
    · rintro ⟨_, hy, hm⟩
      exact ⟨ss.idxOf y, hm, getD_some (get_idx ((s3 y).mpr hy))⟩
  · rw [getD_none (by rw [relL_len]; exact z)]
    exact ⟨fun h => (nomatch h), fun h => absurd h.1 (by omega)⟩
theorem relL_nd (hs : ss.Perm (List.range m)) (hb : ∀ a b, b ∈ rows.getD a [] → b < m) (hn : ∀ a, (rows.getD a []).Nodup) : ((relL rows pp ss).getD x []).Nodup := by
  obtain ⟨s1, s2, s3⟩ := perm_in hs
  rcases Nat.lt_or_ge x rows.length with z | z
  · rw [getD_some (relL_at z)]
    unfold List.Nodup
    rw [List.pairwise_map]
    refine (hn (pp.idxOf x)).imp_of_mem fun {u v} hu hv h e => h ?_
    have e1 : ss[u]? = some (ss.getD u 0) := getD_at (by have := hb _ u hu; omega)
    have e2 : ss[v]? = some (ss.getD v 0) := getD_at (by have := hb _ v hv; omega)
    rw [← idx_get s1 e1, ← idx_get s1 e2, e]
  · rw [getD_none (by rw [relL_len]; exact z)]
    exact List.nodup_nil
end
theorem Dr.lt {W R : List (List Nat)} {S : List Nat} (dr : Dr W R S) {a b : Nat} (h : b ∈ W.getD a []) : a < W.length ∧ b < R.length := by
  refine ⟨?_, ?_⟩
  · rcases Nat.lt_or_ge a W.length with z | z
    · exact z
    · rw [getD_none z] at h
      cases h
  · rcases Nat.lt_or_ge b R.length with z | z
    · exact z
    · have h := (dr.wf.sd a b).mp h
      rw [dr.wf.rl b z] at h
      cases h
theorem Dr.sym {W R : List (List Nat)} {S : List Nat} (dr : Dr W R S) : Dr R W (List.replicate W.length 1) := by
  have wf := dr.wf
  refine ⟨⟨wf.rn, wf.wn, fun a b => (wf.sd b a).symm, fun b => ?_, fun a h => getD_none h, fun a h => getD_none h⟩, List.length_replicate, dr.m5, dr.n5⟩
  show 1 ≤ (List.replicate W.length 1).getD b 1
  rw [List.getD_eq_getElem?_getD, List.getElem?_replicate]
  split <;> exact Nat.le_refl _
theorem Dr.ones {W R : List (List Nat)} {S : List Nat} (dr : Dr W R S) : Dr W R (List.replicate R.length 1) := by
  have wf := dr.wf
  refine ⟨⟨wf.wn, wf.rn, wf.sd, fun b => ?_, fun a h => getD_none h, fun a h => getD_none h⟩, List.length_replicate, dr.n5, dr.m5⟩
  show 1 ≤ (List.replicate R.length 1).getD b 1
  rw [List.getD_eq_getElem?_getD, List.getElem?_replicate]
  split <;> exact Nat.le_refl _
theorem Dr.lenW {W R : List (List Nat)} {S : List Nat} (dr : Dr W R S) (a : Nat) : (W.getD a []).length ≤ 5 := Nat.le_trans (nodup_lt_len (n := R.length) (dr.wf.wn a) fun y hy => (dr.lt hy).2) dr.m5
theorem Dr.lenR {W R : List (List Nat)} {S : List Nat} (dr : Dr W R S) (b : Nat) : (R.getD b []).length ≤ 5 := dr.sym.lenW b
theorem relab {W R : List (List Nat)} {S S' : List Nat} {pp ss : List Nat} (dr : Dr W R S) (hp : pp.Perm (List.range W.length)) (hs : ss.Perm (List.range R.length)) (h1 : S'.length = R.length) (h2 : ∀ s ∈ S', 1 ≤ s) : Gd ⟨relL W pp ss, relL R ss pp, S'⟩ ∧ Sm ⟨relL W pp ss, relL R ss pp, S'⟩ := by
  have hn := dr.n5
  have hm := dr.m5
  have bw : ∀ a b, b ∈ W.getD a [] → b < R.length := fun a b h => (dr.lt h).2
  have br : ∀ b a, a ∈ R.getD b [] → a < W.length := fun b a h => (dr.lt ((dr.wf.sd a b).mpr h)).1
  refine ⟨⟨⟨fun x => relL_nd hs bw dr.wf.wn, fun y => relL_nd hp br dr.wf.rn, fun x y => ?_, fun b => ?_, fun a h => getD_none h, fun a h => getD_none h⟩, ?_, ?_, ?_, ?_⟩, ?_, ?_⟩
  · show y ∈ (relL W pp ss).getD x [] ↔ x ∈ (relL R ss pp).getD y []
    have sd : ∀ x y, y ∈ W.getD x [] ↔ x ∈ R.getD y [] := dr.wf.sd
    rw [relL_mem hs bw, relL_mem hp br, sd]
    exact ⟨fun h => ⟨h.2.1, h.1, h.2.2⟩, fun h => ⟨h.2.1, h.1, h.2.2⟩⟩
  · show 1 ≤ S'.getD b 1
    rcases Nat.lt_or_ge b S'.length with z | z
    · exact h2 _ (List.mem_of_getElem? (getD_at z))
    · rw [getD_none z]
      exact Nat.le_refl _
  · show S'.length = (relL R ss pp).length
    rw [relL_len, h1]
  · show (relL W pp ss).length ≤ 12
    rw [relL_len]; omega
  · show (relL R ss pp).length ≤ 12
    rw [relL_len]; omega
  · show tot (relL W pp ss).length (fun a => ((relL W pp ss).getD a []).length) ≤ 60
    refine Nat.le_trans (tot_const (c := 5) fun a ha => ?_) (by rw [relL_len]; omega)
    rw [relL_len] at ha
    rw [getD_some (relL_at ha), List.length_map]
    exact dr.lenW _
  · show (relL W pp ss).length ≤ 5
    rw [relL_len]; exact hn
  · show (relL R ss pp).length ≤ 5
    rw [relL_len]; exact hm
/-- what the places of a list of tuples hold so far -/
def Fld (H : Hp) (rows : List (List Nat)) (pp ss : List Nat) (vs : List V) (i : Nat) : Prop := vs.length = rows.length ∧ ∀ a, a < i → ∃ p : Addr, vs[pp.getD a 0]? = some (.ref p) ∧ FT H p (((rows.getD a []).map fun b => ss.getD b 0).map nV)
theorem Fld.st {T : Tb} {L : List Addr} {H H' : Hp} {rows : List (List Nat)} {pp ss : List Nat} {vs : List V} {i : Nat} (h : Fld H rows pp ss vs i) (y : St T L H H') : Fld H' rows pp ss vs i := ⟨h.1, fun a ha => let ⟨p, e1, e2⟩ := h.2 a ha; ⟨p, e1, y.ft e2⟩⟩
theorem Fld.add {H : Hp} {rows : List (List Nat)} {pp ss : List Nat} {vs : List V} {i : Nat} {p : Addr} (h : Fld H rows pp ss vs i) (hp : pp.Perm (List.range rows.length)) (hi : i < rows.length) (ft : FT H p (((rows.getD i []).map fun b => ss.getD b 0).map nV)) : Fld H rows pp ss (vs.set (pp.getD i 0) (.ref p)) (i + 1) := by
  obtain ⟨p1, p2, p3⟩ := perm_in hp
  refine ⟨by rw [List.length_set]; exact h.1, fun a ha => ?_⟩
  have e1 : pp[i]? = some (pp.getD i 0) := getD_at (by omega)
  have e2 : pp[a]? = some (pp.getD a 0) := getD_at (by omega)
  rw [List.getElem?_set]
  by_cases e : pp.getD i 0 = pp.getD a 0
  · have : i = a := by rw [← idx_get p1 e1, ← idx_get p1 e2, e]
    subst this
    rw [if_pos rfl, if_pos (by rw [h.1]; exact (p3 _).mp (List.mem_of_getElem? e1))]
    exact ⟨p, rfl, ft⟩
  · rw [if_neg e]
    refine h.2 a ?_
    rcases Nat.lt_or_eq_of_le (Nat.le_of_lt_succ ha) with z | z
    · exact z
    · rw [z] at e
      exact absurd rfl e
theorem Fld.rws {H : Hp} {rows : List (List Nat)} {pp ss : List Nat} {vs : List V} (h : Fld H rows pp ss vs rows.length) (hp : pp.Perm (List.range rows.length)) : Rws H vs (relL rows pp ss) := by
  obtain ⟨p1, p2, p3⟩ := perm_in hp
  refine ⟨by rw [relL_len]; exact h.1, fun i row e => ?_⟩
  have hi : i < rows.length := by
    have := (List.getElem?_eq_some_iff.mp e).1
    rwa [relL_len] at this
  rw [relL_at hi] at e
  cases Option.some.inj e
  have hm := (p3 i).mpr hi
  obtain ⟨p, e1, e2⟩ := h.2 (pp.idxOf i) (by have := List.idxOf_lt_length_of_mem hm; omega)
  rw [getD_some (get_idx hm)] at e1
  exact ⟨p, e1, e2⟩
end Z
namespace Z
open PySem PySem.Spec PyProof.Rows L2 Ma
theorem cano_swap {wl rl : Addr} {hw hr : List Addr} {W R : List (List Nat)} : (cano rl wl hr hw R W).Perm (cano wl rl hw hr W R) := (List.Perm.swap _ _ _).trans ((List.perm_append_comm.cons _).cons _)
theorem ones_eq (n : Nat) : (List.replicate n [V.int 1]).flatten = (List.replicate n 1).map nV := by
  rw [rep_flat]
  simp
section
variable {P : Program} {w : World} {K : PySem.W.Frag} {mg : Str → Option Value} {base : Heap} {T : Tb}
def spOffice (K : PySem.W.Frag) (T : Tb) : Sp := fun vs H Q _ => ∃ (d : Addr), vs = [.ref d] ∧ Dice H d ∧ ∀ (v : V) (H' : Hp) (B : Bo), BkR K H' v B → Gd B → Sm B → St T [d] H H' → Dice H' d → Q v H'
theorem ok_office {f fL fM fN fO : Addr} {fd fdL fdM fdN fdO : FuncData} {k : Nat} (F : Fun K "_law_office" "_law_office" s_Loffice f fd) (B : Bt mg) (G_take : FnOk P w K mg base CX0 k fL fdL ["_law_dice_here", "_law_many"] (spTake T)) (g_take : mg "_law_take" = some (.ref fL)) (kp_take : PySem.W.keepIn K (.ref fL) = true) (b_take : Binds K fdL ["_law_dice_here", "_law_many"] [])
    (G_shuf : FnOk P w K mg base CX0 k fM fdM ["_law_dice_here", "_law_things"] (spShuf K T)) (g_shuf : mg "_law_shuffled" = some (.ref fM)) (kp_shuf : PySem.W.keepIn K (.ref fM) = true) (b_shuf : Binds K fdM ["_law_dice_here", "_law_things"] [])
    (G_begun : FnOk P w K mg base CX0 k fN fdN ["_law_dice_here"] (spBegun K T)) (g_begun : mg "_law_begun" = some (.ref fN)) (kp_begun : PySem.W.keepIn K (.ref fN) = true) (b_begun : Binds K fdN ["_law_dice_here"] [])
    (G_bent : FnOk P w K mg base CX0 k fO fdO ["_law_dice_here", "_law_wishes", "_law_rolls"] (spBent T)) (g_bent : mg "_law_bent" = some (.ref fO)) (kp_bent : PySem.W.keepIn K (.ref fO) = true) (b_bent : Binds K fdO ["_law_dice_here", "_law_wishes", "_law_rolls"] []) :
    FnOk P w K mg base CX0 (k + 1) f fd ["_law_dice_here"] (spOffice K T) := by
  refine F.ok sc_Loffice (fun vs H Q E h => ?_) (fun cdv A outer s H vs Q E hr h => ?_)
  · obtain ⟨d, rfl, _⟩ := h
    rfl
  · obtain ⟨d, rfl, hd, q⟩ := h
    refine ⟨_, (pss_cons (ps_asg (pe_call G_begun hr (by rfl) g_begun kp_begun b_begun .nil pass0 (pa_cons (pv 0) pa_nil)) (pg_tup (by rfl) (pgs_cons (pg_name (i := 1) sc_Loffice.nd rfl (Or.inl rfl)) (pgs_cons (pg_name (i := 2) sc_Loffice.nd rfl (Or.inl rfl)) (pgs_cons (pg_name (i := 3) sc_Loffice.nd rfl (Or.inl rfl)) pgs_nil)))))
      (pss_cons (ps_for PassesOwn.never rfl (pi_range1 (by rfl) B.range (pa_cons (pe_call G_take hr (by rfl) g_take kp_take b_take .nil pass0 (pa_cons (pv 0) (pa_cons pe_int pa_nil))) pa_nil)) (pg_name (i := 4) sc_Loffice.nd rfl (Or.inl rfl))
        (pss_one (ps_expr (pe_call G_bent hr (by rfl) g_bent kp_bent b_bent .nil pass0 (pa_cons (pv 0) (pa_cons (pv 1) (pa_cons (pv 2) pa_nil)))))))
      (pss_cons (ps_if (PW.pt (pw_and (pt_cmpR op_eq (kbm K PySem.F.plainAttrs_list PySem.F.slot_list_count PySem.F.type_list_count (kcount K) (pv 3) (pa_cons pe_int pa_nil)) (pe_callB (klen K) (by rfl) B.len (by decide +kernel) (pa_cons (pv 3) pa_nil)) (nomark _)) (pw_and1 (pt_cmpR op_eq (pe_call G_take hr (by rfl) g_take kp_take b_take .nil pass0 (pa_cons (pv 0) (pa_cons pe_int pa_nil))) pe_int (nomark _)))))
        (pss_cons (ps_par (i := 1) (j := 2) (by rfl) sc_Loffice.nd rfl rfl (by decide) rfl rfl (pa_cons (pv 2) (pa_cons (pv 1) pa_nil)) (by rfl))
        (pss_one (ps_set (i := 3) sc_Loffice.nd rfl (Or.inl rfl) (pe_op op_rep (pe_lst (pa_cons pe_int pa_nil)) (pe_callB (klen K) (by rfl) B.len (by decide +kernel) (pa_cons (pv 2) pa_nil))))))
        pss_nil)
      (pss_cons (ps_set (i := 5) sc_Loffice.nd rfl (Or.inl rfl) pe_int)
      (pss_cons (ps_for PassesOwn.never rfl (kpi_list K (pv 1)) (pg_name (i := 6) sc_Loffice.nd rfl (Or.inl rfl))
        (pss_one (ps_set (i := 5) sc_Loffice.nd rfl (Or.inl rfl) (pe_op op_mul (pv 5) (pe_op op_add pe_int (pe_callB (klen K) (by rfl) B.len (by decide +kernel) (pa_cons (pv 6) pa_nil)))))))
      (pss_cons (ps_if (pt_cmpR op_gt (pv 5) pe_int (nomark _))
        (pss_one (ps_set (i := 3) sc_Loffice.nd rfl (Or.inl rfl) (pe_op op_rep (pe_lst (pa_cons pe_int pa_nil)) (pe_callB (klen K) (by rfl) B.len (by decide +kernel) (pa_cons (pv 2) pa_nil)))))
        pss_nil)
      (pss_cons (ps_set (i := 7) sc_Loffice.nd rfl (Or.inr rfl) (pe_call G_shuf hr (by rfl) g_shuf kp_shuf b_shuf .nil pass0 (pa_cons (pv 0) (pa_cons (pe_listRg (by rfl) (by rfl) B.list (prg_1 (by rfl) B.range (pe_callB (klen K) (by rfl) B.len (by decide +kernel) (pa_cons (pv 1) pa_nil)))) pa_nil))))
      (pss_cons (ps_set (i := 8) sc_Loffice.nd rfl (Or.inr rfl) (pe_call G_shuf hr (by rfl) g_shuf kp_shuf b_shuf .nil pass0 (pa_cons (pv 0) (pa_cons (pe_listRg (by rfl) (by rfl) B.list (prg_1 (by rfl) B.range (pe_callB (klen K) (by rfl) B.len (by decide +kernel) (pa_cons (pv 2) pa_nil)))) pa_nil))))
      (pss_cons (ps_set (i := 9) sc_Loffice.nd rfl (Or.inl rfl) (pe_op op_rep (pe_lst (pa_cons (pe_tup pa_nil) pa_nil)) (pe_callB (klen K) (by rfl) B.len (by decide +kernel) (pa_cons (pv 1) pa_nil))))
      (pss_cons (ps_set (i := 10) sc_Loffice.nd rfl (Or.inl rfl) (pe_op op_rep (pe_lst (pa_cons (pe_tup pa_nil) pa_nil)) (pe_callB (klen K) (by rfl) B.len (by decide +kernel) (pa_cons (pv 2) pa_nil))))
      (pss_cons (ps_set (i := 11) sc_Loffice.nd rfl (Or.inl rfl) (pe_op op_rep (pe_lst (pa_cons pe_int pa_nil)) (pe_callB (klen K) (by rfl) B.len (by decide +kernel) (pa_cons (pv 2) pa_nil))))
      (pss_cons (ps_for PassesOwn.never rfl (pi_range1 (by rfl) B.range (pa_cons (pe_callB (klen K) (by rfl) B.len (by decide +kernel) (pa_cons (pv 1) pa_nil)) pa_nil)) (pg_name (i := 12) sc_Loffice.nd rfl (Or.inl rfl))
        (pss_one (ps_asg (pe_callTy call_tupleF (by rfl) B.tuple (by decide +kernel) (pa_cons (pe_lc (own := [("_law_b", 13)]) (tt := tYes) (by rfl) sc_Loffice.nd (kpi_list K (pe_ix (kix_list K) (pv 1) (pv 12) (fun _ _ => rfl))) (blkOk_by (own := [("_law_b", 13)]) (N := n_Loffice) (sc := defScope s_Loffice) (by decide +kernel)) (fun _ _ _ _ _ => (pg_name (i := 13) sc_Loffice.nd rfl (Or.inl rfl))) (fun _ _ _ _ _ => pts_nil) (fun _ _ _ _ _ => (pe_ix (kix_list K) (pv 8) (pv 13) (fun _ _ => rfl)))) pa_nil)) (pg_sub (pv 9) (pe_ix (kix_list K) (pv 7) (pv 12) (fun _ _ => rfl)) set_list))))
      (pss_cons (ps_for PassesOwn.never rfl (pi_range1 (by rfl) B.range (pa_cons (pe_callB (klen K) (by rfl) B.len (by decide +kernel) (pa_cons (pv 2) pa_nil)) pa_nil)) (pg_name (i := 13) sc_Loffice.nd rfl (Or.inl rfl))
        (pss_cons (ps_asg (pe_callTy call_tupleF (by rfl) B.tuple (by decide +kernel) (pa_cons (pe_lc (own := [("_law_a", 12)]) (tt := tYes) (by rfl) sc_Loffice.nd (kpi_list K (pe_ix (kix_list K) (pv 2) (pv 13) (fun _ _ => rfl))) (blkOk_by (own := [("_law_a", 12)]) (N := n_Loffice) (sc := defScope s_Loffice) (by decide +kernel)) (fun _ _ _ _ _ => (pg_name (i := 12) sc_Loffice.nd rfl (Or.inl rfl))) (fun _ _ _ _ _ => pts_nil) (fun _ _ _ _ _ => (pe_ix (kix_list K) (pv 7) (pv 12) (fun _ _ => rfl)))) pa_nil)) (pg_sub (pv 10) (pe_ix (kix_list K) (pv 8) (pv 13) (fun _ _ => rfl)) set_list))
        (pss_one (ps_asg (pe_ix (kix_list K) (pv 3) (pv 13) (fun _ _ => rfl)) (pg_sub (pv 11) (pe_ix (kix_list K) (pv 8) (pv 13) (fun _ _ => rfl)) set_list)))))
      (pss_one (ps_ret (pe_tup (pa_cons (pe_callTy call_tuple_of (by rfl) B.tuple (by decide +kernel) (pa_cons (pv 9) pa_nil)) (pa_cons (pe_callTy call_tuple_of (by rfl) B.tuple (by decide +kernel) (pa_cons (pv 10) pa_nil)) (pa_cons (pe_callTy call_tupleF (by rfl) B.tuple (by decide +kernel) (pa_cons (pv 11) pa_nil)) pa_nil))))))))))))))))))), ?_⟩
    refine ⟨_, rfl, d, rfl, hd, fun t wl rl sl hw hrr W R S H1 ht hl hl2 p dr => ⟨t, _, rfl, ht, rfl, .ref wl, _, rfl, .ref rl, _, rfl, .ref sl, _, rfl, rfl, ?_⟩⟩
    refine ⟨_, rfl, d, 3, rfl, by decide, p.dc, fun t1 H2 ht1 st dc => ⟨_, rfl, by omega, by omega, ?_⟩⟩
    rw [Int.toNat_natCast]
    have p2 := p.take st dc
    clear p st dc ht
    refine for_range (fun i σ H' => ∃ y4 W R, σ = [some (.ref d), some (.ref wl), some (.ref rl), some (.ref sl), y4, none, none, none, none, none, none, none, none, none] ∧ ED T d H H' (cano wl rl hw hrr W R ++ [(sl, .lst (S.map nV))]) ∧ hw.length = W.length ∧ hrr.length = R.length ∧ Dr W R S) ⟨none, W, R, rfl, p2, hl, hl2, dr⟩ ?_ ?_
    · rintro i σ H' hi ⟨y4, W, R, rfl, p, hl, hl2, dr⟩
      exact ⟨_, rfl, _, rfl, _, rfl, d, wl, rl, H, hw, hrr, W, R, S, _, rfl, p, hl, hl2, dr, fun H' W' R' p' l1 l2 dr' => ⟨_, W', R', rfl, p', by rw [l1]; exact hl, by rw [l2]; exact hl2, dr'⟩⟩
    · clear p2 dr hl hl2
      rintro σ H3 ⟨y4, W, R, rfl, p, hl, hl2, dr⟩
      dsimp only [tSeq, tAsg]
      refine cutS (fun σ4 H4 => ∃ (wl rl sl : Addr) (hw hrr : List Addr) (W R : List (List Nat)) (S : List Nat), σ4 = [some (.ref d), some (.ref wl), some (.ref rl), some (.ref sl), y4, none, none, none, none, none, none, none, none, none] ∧ ED T d H H4 (cano wl rl hw hrr W R ++ [(sl, .lst (S.map nV))]) ∧ hw.length = W.length ∧ hrr.length = R.length ∧ Dr W R S) (fun σ4 H4 hC => ?_) (fun D' hQ => ?_)
      · clear p dr hl hl2
        obtain ⟨wl, rl, sl, hw, hrr, W, R, S, rfl, p, hl, hl2, dr⟩ := hC
        dsimp only [gName]
        refine ⟨_, rfl, wl, rfl, ⟨_, .of (p.get (i := 0) rfl)⟩, ?_⟩
        refine for_list (xs := hw.map V.ref) (fun i σ H' => ∃ z : Int, ∃ y6, σ = [some (.ref d), some (.ref wl), some (.ref rl), some (.ref sl), y4, some (.int z), y6, none, none, none, none, none, none, none] ∧ H' = H4) ⟨1, none, rfl, rfl⟩ ?_ ?_ ?_
        · rintro i σ H' _ ⟨_, _, _, rfl⟩
          exact .of (p.get (i := 0) rfl)
        · rintro i x σ H' hx ⟨z, y6, rfl, rfl⟩
          rw [List.getElem?_map] at hx
          cases hp : hw[i]? with
          | none => rw [hp] at hx; cases hx
          | some pi =>
            rw [hp] at hx
            cases Option.some.inj hx
            have := dr.lenW i
            exact ⟨_, rfl, _, rfl, pi, _, rfl, .inl (.of (p.get (i := i + 2) (canoW hl hp))), 1, _, rfl, rfl, z, _, rfl, rfl, .inr (by rw [List.length_map]; constructor <;> omega), _, _, rfl, rfl⟩
        · rintro σ H' ⟨z, y6, rfl, rfl⟩
          dsimp only [tSeq, tAsg]
          refine cutS (fun σ5 H5 => ∃ (sl : Addr) (S : List Nat), σ5 = [some (.ref d), some (.ref wl), some (.ref rl), some (.ref sl), y4, some (.int z), y6, none, none, none, none, none, none, none] ∧ ED T d H H5 (cano wl rl hw hrr W R ++ [(sl, .lst (S.map nV))]) ∧ Dr W R S) (fun σ5 H5 hC => ?_) (fun D' hQ => ?_)
          · clear p dr
            obtain ⟨sl, S, rfl, p, dr⟩ := hC
            have hn := dr.n5
            have hm := dr.m5
            -- pupils
            refine ⟨_, rfl, _, rfl, wl, _, rfl, .inl (.of (p.get (i := 0) rfl)), _, rfl, .of_le (by decide) (by rw [List.length_map]; omega) (by decide) (by omega), fun qa hqa => ?_⟩
            rw [List.length_map, hl, rgV_nat]
            have hqd : qa ≠ d := by
              obtain ⟨ns, _, _, z⟩ := p.dc
              exact (ne_of_none z hqa).symm
            have p2 := p.step (.new (o := .lst ((List.range W.length).map nV)) hqa)
            refine ⟨d, qa, List.range W.length, rfl, p2.dc, hqd, .of upd_same, by rw [List.length_range]; omega, fun pl H6 pup hpl pmp nw st dc => ?_⟩
            have p3 := p2.join st dc hpl Mu.l nw
            clear p p2 st dc nw hqa hqd hpl
            -- schools
            dsimp only [gName]
            refine ⟨_, rfl, _, rfl, rl, _, rfl, .inl (.of (p3.get (i := 1) rfl)), _, rfl, .of_le (by decide) (by rw [List.length_map]; omega) (by decide) (by omega), fun qb hqb => ?_⟩
            rw [List.length_map, hl2, rgV_nat]
            have hqd : qb ≠ d := by
              obtain ⟨ns, _, _, z⟩ := p3.dc
              exact (ne_of_none z hqb).symm
            have p4 := p3.step (.new (o := .lst ((List.range R.length).map nV)) hqb)
            refine ⟨d, qb, List.range R.length, rfl, p4.dc, hqd, .of upd_same, by rw [List.length_range]; omega, fun cl H7 sch hcl pms nw st dc => ?_⟩
            have p5 := p4.join st dc hcl Mu.l nw
            clear p3 p4 st dc nw hqb hqd hcl
            obtain ⟨pu1, pu2, pu3⟩ := perm_in pmp
            obtain ⟨sc1, sc2, sc3⟩ := perm_in pms
            -- the new lists
            dsimp only [gName]
            refine ⟨Nat.zero_le _, fun e0 he0 => ⟨by show 1 ≤ sizeLine; decide, fun c0 hc0 => ?_⟩⟩
            have p6 := (p5.step (.new (o := .tup []) he0)).step (.new (o := .lst [.ref e0]) hc0)
            refine ⟨_, rfl, wl, _, rfl, .inl (.of (p6.get (i := 0) rfl)), c0, _, _, rfl, rfl, upd_same, by omega, by rw [List.length_map]; omega, by rw [List.length_map, Int.toNat_natCast]; exact small (by show 1 * _ ≤ _; omega), fun nw hnw => ?_⟩
            rw [List.length_map, hl, Int.toNat_natCast, rep_flat]
            have p7 := p6.new hnw (Mu.l (xs := List.replicate W.length (.ref e0)))
            clear p5 p6
            generalize upd (upd (upd H7 e0 (.tup [])) c0 (.lst [.ref e0])) nw (.lst (List.replicate W.length (.ref e0))) = H8 at p7 ⊢
            refine ⟨Nat.zero_le _, fun e1 he1 => ⟨by show 1 ≤ sizeLine; decide, fun c1 hc1 => ?_⟩⟩
            have p8 := (p7.step (.new (o := .tup []) he1)).step (.new (o := .lst [.ref e1]) hc1)
            refine ⟨_, rfl, rl, _, rfl, .inl (.of (p8.get (i := 1) rfl)), c1, _, _, rfl, rfl, upd_same, by omega, by rw [List.length_map]; omega, by rw [List.length_map, Int.toNat_natCast]; exact small (by show 1 * _ ≤ _; omega), fun nr hnr => ?_⟩
            rw [List.length_map, hl2, Int.toNat_natCast, rep_flat]
            have p9 := p8.new hnr (Mu.l (xs := List.replicate R.length (.ref e1)))
            clear p7 p8
            generalize upd (upd (upd H8 e1 (.tup [])) c1 (.lst [.ref e1])) nr (.lst (List.replicate R.length (.ref e1))) = H9 at p9 ⊢
            refine ⟨by show 1 ≤ sizeLine; decide, fun c2 hc2 => ?_⟩
            have p10 := p9.step (.new (o := .lst [V.int 1]) hc2)
            refine ⟨_, rfl, rl, _, rfl, .inl (.of (p10.get (i := 1) rfl)), c2, _, _, rfl, rfl, upd_same, by omega, by rw [List.length_map]; omega, by rw [List.length_map, Int.toNat_natCast]; exact small (by show 1 * _ ≤ _; omega), fun na hna => ?_⟩
            rw [List.length_map, hl2, Int.toNat_natCast, ones_eq]
            have p11 := p10.new hna (Mu.l (xs := (List.replicate R.length 1).map nV))
            clear p9 p10
            generalize upd (upd H9 c2 (.lst [V.int 1])) na (.lst ((List.replicate R.length 1).map nV)) = H10 at p11 ⊢
            have q0 : ED T d H H10 ((sl, .lst (S.map nV)) :: (pl, .lst (pup.map nV)) :: (cl, .lst (sch.map nV)) :: (nw, .lst (List.replicate W.length (.ref e0))) :: (nr, .lst (List.replicate R.length (.ref e1))) :: (na, .lst ((List.replicate R.length 1).map nV)) :: (cano wl rl hw hrr W R ++ [])) := by
              refine p11.perm ?_
              simp only [List.append_assoc, List.append_nil]
              exact List.perm_append_comm (l₁ := [(sl, HO.lst (S.map nV)), (pl, HO.lst (pup.map nV)), (cl, HO.lst (sch.map nV)), (nw, HO.lst (List.replicate W.length (V.ref e0))), (nr, HO.lst (List.replicate R.length (V.ref e1))), (na, HO.lst ((List.replicate R.length 1).map nV))])
            clear p11 hc0 hc1 hc2 he0 he1 hnw hnr hna
            -- pupils' rows
            dsimp only [gName]
            refine ⟨_, rfl, wl, _, rfl, .inl (.of (q0.get (i := 6) rfl)), _, rfl, by omega, by rw [List.length_map]; omega, ?_⟩
            rw [List.length_map, hl, Int.toNat_natCast]
            refine for_range (fun i σ H' => ∃ y12 y13 vs, σ = [some (.ref d), some (.ref wl), some (.ref rl), some (.ref sl), y4, some (.int z), y6, some (.ref pl), some (.ref cl), some (.ref nw), some (.ref nr), some (.ref na), y12, y13] ∧ ED T d H H' ((sl, .lst (S.map nV)) :: (pl, .lst (pup.map nV)) :: (cl, .lst (sch.map nV)) :: (nw, .lst vs) :: (nr, .lst (List.replicate R.length (.ref e1))) :: (na, .lst ((List.replicate R.length 1).map nV)) :: (cano wl rl hw hrr W R ++ [])) ∧ Fld H' W pup sch vs i) ⟨none, none, _, rfl, q0, List.length_replicate, fun a ha => absurd ha (Nat.not_lt_zero a)⟩ ?_ ?_
            · rintro i σ H' hi ⟨y12, y13, vs, rfl, p, fl⟩
              clear q0
              rw [Int.zero_add]
              obtain ⟨pa, hpa⟩ : ∃ x, hw[i]? = some x := ⟨_, List.getElem?_eq_getElem (by omega)⟩
              have eWa : (hw.map V.ref)[i]? = some (.ref pa) := by rw [List.getElem?_map, hpa]; rfl
              have gi : ∀ {H2 : Hp}, St T [] H' H2 → H2 pa = some (.lst ((W.getD i []).map nV)) := fun st => (p.step st).get (i := i + 2 + 6) (canoW (wl := wl) (rl := rl) (ex := []) hl hpa)
              refine ⟨_, rfl, _, rfl, wl, _, (i : Int), .ref pa, rfl, rfl, .of (p.get (i := 6) rfl), atI_nat eWa, pa, rfl, ⟨_, .of (gi (.refl _))⟩, fun D hD => ?_⟩
              refine lc_list (xs := (W.getD i []).map nV) (fun j H2 => (∀ b o, H' b = some o → H2 b = some o) ∧ H2 D = some (.lst ((((W.getD i []).take j).map fun b => sch.getD b 0).map nV))) ⟨fun b o e => by rw [upd_ne (ne_of_none e hD)]; exact e, upd_same⟩ (fun j H2 _ c => .of (gi (.ex c.1))) (fun j x H2 hx ⟨c1, c2⟩ => ?_) (fun H2 ⟨c1, c2⟩ => ?_)
              · rw [List.getElem?_map] at hx
                cases hb : (W.getD i [])[j]? with
                | none => rw [hb] at hx; cases hx
                | some b =>
                  rw [hb] at hx
                  cases Option.some.inj hx
                  have hbm := (dr.lt (List.mem_of_getElem? hb)).2
                  have h5 := dr.lenW i
                  refine ⟨rfl, yes ⟨_, rfl, _, rfl, cl, _, (b : Int), nV (sch.getD b 0), rfl, rfl, .of ((p.step (.ex c1)).get (i := 2) rfl), atI_nat (by rw [List.getElem?_map, getD_at (z := 0) (by omega)]; rfl), _, c2, by
                    rw [List.length_map, List.length_map, List.length_take]
                    exact small' (by omega), fun b o e => by rw [upd_ne (ne_of_none e hD)]; exact c1 b o e, ?_⟩⟩
                  rw [List.take_add_one, hb, List.map_append, List.map_append]
                  exact upd_same
              · rw [List.length_map, List.take_length] at c2
                have p2 := p.step (.ex c1)
                have fl2 := fl.st (St.ex (T := T) (L := []) c1)
                clear p fl gi
                refine ⟨D, _, rfl, .of c2, fun lt H3 hlt hft keep => ?_⟩
                have s2 : St T [] H2 H3 := st_ftnew (ys := []) hlt keep
                have p3 := p2.step s2
                have fl3 := fl2.st s2
                have hpi : pup[i]? = some (pup.getD i 0) := getD_at (by omega)
                have hpl := (pu3 _).mp (List.mem_of_getElem? hpi)
                refine ⟨_, rfl, _, rfl, _, rfl, pl, _, (i : Int), nV (pup.getD i 0), rfl, rfl, .of (p3.get (i := 1) rfl), atI_nat (by rw [List.getElem?_map, hpi]; rfl), nw, vs, (pup.getD i 0 : Int), pup.getD i 0, rfl, rfl, p3.get (i := 3) rfl, Evl.ixN_nat (by rw [fl3.1]; exact hpl), ?_⟩
                exact ⟨_, _, vs.set (pup.getD i 0) (.ref lt), rfl, p3.put (i := 3) rfl Mu.l, (fl3.add pmp hi hft).st (St.put (T := T) (L := [nw]) (p3.get (i := 3) rfl) Mu.l Mu.l (by simp))⟩
            · rintro σ H11 ⟨y12, y13, vs, rfl, p, fl⟩
              clear q0
              -- schools' rows
              refine ⟨_, rfl, rl, _, rfl, .inl (.of (p.get (i := 7) rfl)), _, rfl, by omega, by rw [List.length_map]; omega, ?_⟩
              rw [List.length_map, hl2, Int.toNat_natCast]
              refine for_range (fun i σ H' => ∃ y12 y13 us, ∃ ss : List Nat, σ = [some (.ref d), some (.ref wl), some (.ref rl), some (.ref sl), y4, some (.int z), y6, some (.ref pl), some (.ref cl), some (.ref nw), some (.ref nr), some (.ref na), y12, y13] ∧ ED T d H H' ((sl, .lst (S.map nV)) :: (pl, .lst (pup.map nV)) :: (cl, .lst (sch.map nV)) :: (nw, .lst vs) :: (nr, .lst us) :: (na, .lst (ss.map nV)) :: (cano wl rl hw hrr W R ++ [])) ∧ Fld H' W pup sch vs W.length ∧ Fld H' R sch pup us i ∧ ss.length = R.length ∧ ∀ s ∈ ss, 1 ≤ s) ⟨y12, y13, _, _, rfl, p, fl, ⟨List.length_replicate, fun a ha => absurd ha (Nat.not_lt_zero a)⟩, List.length_replicate, fun s hs => by rw [(List.mem_replicate.mp hs).2]; exact Nat.le_refl _⟩ ?_ ?_
              · clear p fl
                rintro i σ H' hi ⟨y12, y13, us, ss, rfl, p, fw, fl, hs1, hs2⟩
                rw [Int.zero_add]
                obtain ⟨pb, hpb⟩ : ∃ x, hrr[i]? = some x := ⟨_, List.getElem?_eq_getElem (by omega)⟩
                have eRb : (hrr.map V.ref)[i]? = some (.ref pb) := by rw [List.getElem?_map, hpb]; rfl
                have gi : ∀ {H2 : Hp}, St T [] H' H2 → H2 pb = some (.lst ((R.getD i []).map nV)) := fun st => (p.step st).get (i := hw.length + i + 2 + 6) (canoR (wl := wl) (rl := rl) (ex := []) hl hl2 hpb)
                refine ⟨_, rfl, _, rfl, rl, _, (i : Int), .ref pb, rfl, rfl, .of (p.get (i := 7) rfl), atI_nat eRb, pb, rfl, ⟨_, .of (gi (.refl _))⟩, fun D hD => ?_⟩
                refine lc_list (xs := (R.getD i []).map nV) (fun j H2 => (∀ b o, H' b = some o → H2 b = some o) ∧ H2 D = some (.lst ((((R.getD i []).take j).map fun a => pup.getD a 0).map nV))) ⟨fun b o e => by rw [upd_ne (ne_of_none e hD)]; exact e, upd_same⟩ (fun j H2 _ c => .of (gi (.ex c.1))) (fun j x H2 hx ⟨c1, c2⟩ => ?_) (fun H2 ⟨c1, c2⟩ => ?_)
                · rw [List.getElem?_map] at hx
                  cases hb : (R.getD i [])[j]? with
                  | none => rw [hb] at hx; cases hx
                  | some b =>
                    rw [hb] at hx
                    cases Option.some.inj hx
                    have hbm := (dr.sym.lt (List.mem_of_getElem? hb)).2
                    have h5 := dr.lenR i
                    refine ⟨rfl, yes ⟨_, rfl, _, rfl, pl, _, (b : Int), nV (pup.getD b 0), rfl, rfl, .of ((p.step (.ex c1)).get (i := 1) rfl), atI_nat (by rw [List.getElem?_map, getD_at (z := 0) (by omega)]; rfl), _, c2, by
                      rw [List.length_map, List.length_map, List.length_take]
                      exact small' (by omega), fun b o e => by rw [upd_ne (ne_of_none e hD)]; exact c1 b o e, ?_⟩⟩
                    rw [List.take_add_one, hb, List.map_append, List.map_append]
                    exact upd_same
                · rw [List.length_map, List.take_length] at c2
                  have p2 := p.step (.ex c1)
                  have fw2 := fw.st (St.ex (T := T) (L := []) c1)
                  have fl2 := fl.st (St.ex (T := T) (L := []) c1)
                  clear p fl fw gi
                  refine ⟨D, _, rfl, .of c2, fun lt H3 hlt hft keep => ?_⟩
                  have s2 : St T [] H2 H3 := st_ftnew (ys := []) hlt keep
                  have p3 := p2.step s2
                  have fw3 := fw2.st s2
                  have fl3 := fl2.st s2
                  have hpi : sch[i]? = some (sch.getD i 0) := getD_at (by omega)
                  have hpl := (sc3 _).mp (List.mem_of_getElem? hpi)
                  refine ⟨_, rfl, _, rfl, _, rfl, cl, _, (i : Int), nV (sch.getD i 0), rfl, rfl, .of (p3.get (i := 2) rfl), atI_nat (by rw [List.getElem?_map, hpi]; rfl), nr, us, (sch.getD i 0 : Int), sch.getD i 0, rfl, rfl, p3.get (i := 4) rfl, Evl.ixN_nat (by rw [fl3.1]; exact hpl), ?_⟩
                  have p4 : ED T d H (upd H3 nr (.lst (us.set (sch.getD i 0) (.ref lt)))) ((sl, .lst (S.map nV)) :: (pl, .lst (pup.map nV)) :: (cl, .lst (sch.map nV)) :: (nw, .lst vs) :: (nr, .lst (us.set (sch.getD i 0) (.ref lt))) :: (na, .lst (ss.map nV)) :: (cano wl rl hw hrr W R ++ [])) := p3.put (i := 4) rfl Mu.l
                  have sp := St.put (T := T) (L := [nr]) (u := .lst (us.set (sch.getD i 0) (.ref lt))) (p3.get (i := 4) rfl) Mu.l Mu.l (by simp)
                  have fw4 := fw3.st sp
                  have fl4 := (fl3.add pms hi hft).st sp
                  clear p3 fw3 fl3 sp
                  generalize upd H3 nr (.lst (us.set (sch.getD i 0) (.ref lt))) = H4' at p4 fw4 fl4 ⊢
                  have hSi : S[i]? = some (S.getD i 1) := getD_at (by rw [dr.sl]; exact hi)
                  refine ⟨_, rfl, _, rfl, sl, _, (i : Int), nV (S.getD i 1), rfl, rfl, .of (p4.get (i := 0) rfl), atI_nat (by rw [List.getElem?_map, hSi]; rfl), _, rfl, _, rfl, _, rfl, cl, _, (i : Int), nV (sch.getD i 0), rfl, rfl, .of (p4.get (i := 2) rfl), atI_nat (by rw [List.getElem?_map, hpi]; rfl), na, _, (sch.getD i 0 : Int), sch.getD i 0, rfl, rfl, p4.get (i := 5) rfl, Evl.ixN_nat (by rw [List.length_map, hs1]; exact hpl), ?_⟩
                  rw [show (ss.map nV).set (sch.getD i 0) (nV (S.getD i 1)) = (ss.set (sch.getD i 0) (S.getD i 1)).map nV by rw [List.map_set]]
                  have sp := St.put (T := T) (L := [na]) (u := .lst ((ss.set (sch.getD i 0) (S.getD i 1)).map nV)) (p4.get (i := 5) rfl) Mu.l Mu.l (by simp)
                  refine ⟨_, _, _, ss.set (sch.getD i 0) (S.getD i 1), rfl, p4.put (i := 5) rfl Mu.l, fw4.st sp, fl4.st sp, by rw [List.length_set]; exact hs1, fun s hs => ?_⟩
                  rcases List.mem_or_eq_of_mem_set hs with z | z
                  · exact hs2 s z
                  · rw [z]
                    exact dr.wf.sp i
              · rintro σ H12 ⟨y12, y13, us, ss, rfl, p2, fw, fl2, hs1, hs2⟩
                clear p fl
                refine ⟨_, rfl, nw, _, rfl, .inl ⟨.of (p2.get (i := 3) rfl), fun tw htw => ?_⟩⟩
                have s1 : St T [] H12 (upd H12 tw (.tup vs)) := .new htw
                have k1 : SqT K (upd H12 tw (.tup vs)) tw vs := .of upd_same
                have p4 := p2.step s1
                have fw4 := fw.st s1
                have fr4 := fl2.st s1
                clear p2 fw fl2 s1
                generalize upd H12 tw (.tup vs) = H13 at p4 fw4 fr4 k1 ⊢
                refine ⟨_, rfl, nr, _, rfl, .inl ⟨.of (p4.get (i := 4) rfl), fun tr htr => ?_⟩⟩
                have s1 : St T [] H13 (upd H13 tr (.tup us)) := .new htr
                have k2 : SqT K (upd H13 tr (.tup us)) tr us := .of upd_same
                have p5 := p4.step s1
                have fw5 := fw4.st s1
                have fr5 := fr4.st s1
                have k1' := s1.sqT k1
                clear p4 fw4 fr4 s1 k1
                generalize upd H13 tr (.tup us) = H14 at p5 fw5 fr5 k1' k2 ⊢
                refine ⟨_, rfl, na, _, rfl, .of (p5.get (i := 5) rfl), fun tS H15 htS fS keep => ?_⟩
                have s1 : St T [] H14 H15 := st_ftnew (ys := []) htS keep
                refine ⟨by show 3 ≤ sizeLine; decide, fun tb htb => ?_⟩
                have s2 : St T [] H15 (upd H15 tb (.tup [.ref tw, .ref tr, .ref tS])) := .new htb
                have p6 := (p5.step s1).step s2
                obtain ⟨g1, g2⟩ := relab dr pmp pms hs1 hs2
                exact q (.ref tb) _ ⟨relL W pup sch, relL R sch pup, ss⟩ ⟨tb, tw, tr, tS, _, _, rfl, .of upd_same, (s1.trans s2).sqT k1', (fw5.st (s1.trans s2)).rws pmp, (s1.trans s2).sqT k2, (fr5.st (s1.trans s2)).rws pms, s2.sqT fS.sq⟩ g1 g2 p6.en.st p6.dc
          · refine ⟨_, rfl, _, _, rfl, rfl, _, rfl, ite2 (fun e => ?_) (fun e => hQ _ _ ⟨sl, S, rfl, p, dr⟩)⟩
            refine ⟨by show 1 ≤ sizeLine; decide, fun c1 hc1 => ?_⟩
            have p4 := p.step (.new (o := .lst [V.int 1]) hc1)
            refine ⟨_, rfl, rl, _, rfl, .inl (.of (p4.get (i := 1) rfl)), c1, _, _, rfl, rfl, upd_same, by omega, by rw [List.length_map, hl2]; have := dr.m5; omega, by rw [List.length_map, hl2, Int.toNat_natCast]; have := dr.m5; exact small (by show 1 * _ ≤ _; omega), fun sl2 hsl2 => hQ _ _ ⟨sl2, List.replicate R.length 1, rfl, ?_, dr.ones⟩⟩
            rw [List.length_map, hl2, Int.toNat_natCast, ones_eq]
            have p5 := p4.new hsl2 (Mu.l (xs := (List.replicate R.length 1).map nV))
            refine ED.drop (c := (sl, .lst (S.map nV))) (p5.perm ?_)
            rw [List.append_assoc, List.append_assoc]
            exact List.Perm.append_left _ (List.perm_append_comm (l₁ := [(sl2, HO.lst ((List.replicate R.length 1).map nV))]))
      · have hsl : H3 sl = some (.lst (S.map nV)) := p.en.at_ (sl, .lst (S.map nV)) (by simp)
        refine ⟨_, rfl, .inl ⟨rfl, _, .of hsl⟩, sl, S.map ci, 1, rfl, rfl, .of (by rw [← map_nV]; exact hsl), _, rfl, sl, _, rfl, .inl (.of hsl), rfl, _, rfl, ite2 (fun e => ?_) (fun e => iteF (hQ _ _ ⟨wl, rl, sl, hw, hrr, W, R, S, rfl, p, hl, hl2, dr⟩))⟩
        refine ⟨_, rfl, d, 3, rfl, by decide, p.dc, fun t2 H4 ht2 st dc => ⟨rfl, _, rfl, ite2 (fun _ => ?_) (fun _ => hQ _ _ ⟨wl, rl, sl, hw, hrr, W, R, S, rfl, p.take st dc, hl, hl2, dr⟩)⟩⟩
        have p3 := p.take st dc
        refine ⟨_, rfl, _, rfl, _, _, rfl, by show 1 ≤ sizeLine; decide, fun c1 hc1 => ?_⟩
        have p4 := p3.step (.new (o := .lst [V.int 1]) hc1)
        refine ⟨_, rfl, wl, _, rfl, .inl (.of (p4.get (i := 0) rfl)), c1, _, _, rfl, rfl, upd_same, by omega, by rw [List.length_map, hl]; have := dr.n5; omega, by rw [List.length_map, hl, Int.toNat_natCast]; have := dr.n5; exact small (by show 1 * _ ≤ _; omega), fun sl2 hsl2 => hQ _ _ ⟨rl, wl, sl2, hrr, hw, R, W, List.replicate W.length 1, rfl, ?_, hl2, hl, dr.sym⟩⟩
        rw [List.length_map, hl, Int.toNat_natCast, ones_eq]
        have p5 := p4.new hsl2 (Mu.l (xs := (List.replicate W.length 1).map nV))
        refine ED.drop (c := (sl, .lst (S.map nV))) (p5.perm ?_)
        rw [List.append_assoc, List.append_assoc]
        exact List.Perm.append cano_swap (List.perm_append_comm (l₁ := [(sl2, HO.lst ((List.replicate W.length 1).map nV))]))
end
end Z
namespace Z
open PySem PySem.Spec PyProof.Rows L2 Ma
theorem pe_callK0 {X : Cx} {CX : CXT} {k : Nat} {f : Addr} {fd : FuncData} {ps ks : List Str} {sp : Sp} {E : XK} {x : Str} {p pos : Pos} {kws : List Keyword} {tk : TA} {g : List Value → List Value → List Value} {gV : List V → List V → List V}
    (F : FnOk X.prog X.w X.K X.mg X.base CX k f fd ps sp) (hr : Room k X.A) (hg : Gl X x) (hm : X.mg x = some (.ref f)) (hk : PySem.W.keepIn X.K (.ref f) = true) (hb : KBinds X.K fd ps ks g gV) (hx : Passes CX X E) (hkw : PK X kws tk)
    (hall : ((backToKw pos (keywordEach kws X.env)).all fun x => x.1.isSome) = true := by rfl) (hks : (backToKw pos (keywordEach kws X.env)).filterMap (fun x => x.1) = ks := by rfl) (hdb : (x == Str.ofString "__debug__") = false := by decide)
    (hpl : (((backTo pos (starEach [] X.env)).any fun x => x.1) || (backToKw pos (keywordEach kws X.env)).any fun x => x.1.isNone) = false := by rfl) :
    PE X (.Call (.Name x p) [] kws pos) (fun σ H Q => tk σ H fun zs H2 => sp (gV [] zs) H2 Q E) :=
  ⟨fun pins s σ H Q I h => wpAny_Call_Name_kw (ld_glob I hg hm (PySem.W.callWith_KW0 I.ok.mod.kin hk hall (thn (hkw.run pos pins s σ H (fun zs H2 => sp (gV [] zs) H2 Q E) I h) fun ws s2 y => by
    obtain ⟨zs, H2, I2, rz, q2⟩ := y
    refine ⟨I2.kIn, ?_⟩
    rw [hks]
    exact run_fnk F hr hb hx I2 Paired.nil rz q2) hpl) hdb)⟩
theorem vals_app {vs : List V} {us : List Value} {zs : List V} {ws : List Value} (h1 : Vals vs us) (h2 : Vals zs ws) : Vals (vs ++ zs) (us ++ ws) := by
  induction h1 with
  | nil => exact h2
  | cons a _ ih => exact .cons a ih
theorem kb_one {K : PySem.W.Frag} {fd : FuncData} {x : Str} (h1 : ∀ s u, BindsTo s fd { pos := [u] } [(x, u)]) (h2 : ∀ s u, BindsTo s fd { pos := [], kw := [(x, u)] } [(x, u)]) : KBinds K fd [x] [x] (fun us ws => us ++ ws) (fun vs zs => vs ++ zs) := by
  refine ⟨fun s us ws _ hl => ?_, fun a b => vals_app a b⟩
  rcases us with _ | ⟨u, us⟩
  · rcases ws with _ | ⟨v, ws⟩
    · cases hl
    · rcases ws with _ | ⟨v2, ws⟩
      · exact h2 s v
      · simp at hl
  · rcases us with _ | ⟨u2, us⟩
    · rcases ws with _ | ⟨v, ws⟩
      · exact h1 s u
      · simp at hl
    · simp at hl
theorem asc_len {ps : List (Nat × Nat)} (h : Asc ps) (hb : ∀ p ∈ ps, p.1 < 12 ∧ p.2 < 12) : ps.length ≤ 1000 := by
  have n : (ps.map fun p => p.1 * 12 + p.2).Nodup := by
    unfold List.Nodup
    rw [List.pairwise_map]
    refine h.imp_of_mem fun {p q} hp hq hpq e => ?_
    have h1 := hb p hp
    have h2 := hb q hq
    unfold Lt at hpq
    omega
  have := nodup_lt_len (n := 144) n fun x hx => by
    obtain ⟨p, hp, rfl⟩ := List.mem_map.mp hx
    have := hb p hp
    omega
  rw [List.length_map] at this
  omega
theorem RwL.st {T : Tb} {H H' : Hp} {l : Addr} {n : Nat} {rs : List Ma.Row} (h : RwL H l n rs) (y : St T [] H H') : RwL H' l n rs := by
  obtain ⟨hs, h1, h2, h3⟩ := h
  exact ⟨hs, y.lst h1 (by simp), h2, fun i x r e1 e2 => y.lst (h3 i x r e1 e2) (by simp)⟩
structure Fin (K : PySem.W.Frag) (T : Tb) (H : Hp) (v : V) (B : Bo) (pb pw : Addr) (rb rw : Ma.Row) (y1 y2 : V) (rs1 rs2 : List (Nat × Nat)) : Prop where
  bk : BkR K H v B
  gd : Gd B
  tb : LamX.Tabs T H
  hb : H pb = some (.lst (enc B.W.length rb))
  bb : Best (Z.bk B) rb
  hw : H pw = some (.lst (enc B.W.length rw))
  ww : Worst (Z.bk B) rw
  h1 : PrT K H y1 rs1
  i1 : IsPass (Z.bk B) rb rs1
  h2 : PrT K H y2 rs2
  i2 : IsPassBy (Z.bk B) rw rs2
theorem Fin.st {K : PySem.W.Frag} {T : Tb} {H H' : Hp} {v : V} {B : Bo} {pb pw : Addr} {rb rw : Ma.Row} {y1 y2 : V} {rs1 rs2 : List (Nat × Nat)} (x : Fin K T H v B pb pw rb rw y1 y2 rs1 rs2) (st : St T [] H H') : Fin K T H' v B pb pw rb rw y1 y2 rs1 rs2 :=
  ⟨x.bk.st st, x.gd, st.b x.tb, st.lst x.hb (by simp), x.bb, st.lst x.hw (by simp), x.ww, x.h1.st st, x.i1, x.h2.st st, x.i2⟩
section
variable {K : PySem.W.Frag} {T : Tb} {H : Hp} {v : V} {B : Bo} {pb pw : Addr} {rb rw : Ma.Row} {y1 y2 x y : V} {rs1 rs2 ps ps2 : List (Nat × Nat)} {r : Ma.Row}
theorem Fin.eqB (f : Fin K T H v B pb pw rb rw y1 y2 rs1 rs2) (hr : Best (Z.bk B) r) (hx : PrT K H x ps) (hd : IsDeal r ps) (hy : PrT K H y ps2) (hd2 : IsDeal rb ps2) : Eqv K H 2 x y := by
  have e : r = rb := funext fun a => hr.uniq f.bb a
  subst e
  have e2 := hd.uniq hd2
  subst e2
  refine eqv_pairs hx hy (asc_len hd.1 fun p hp => ?_)
  have h := f.gd.ltW (hr.st.fe.pr _ _ ((hd.2 p.1 p.2).mp hp))
  have := f.gd.nl
  have := f.gd.ml
  omega
theorem Fin.eqW (f : Fin K T H v B pb pw rb rw y1 y2 rs1 rs2) (hr : Worst (Z.bk B) r) (hx : PrT K H x ps) (hd : IsDeal r ps) (hy : PrT K H y ps2) (hd2 : IsDeal rw ps2) : Eqv K H 2 x y := by
  have e : r = rw := funext fun a => hr.uniq f.ww a
  subst e
  have e2 := hd.uniq hd2
  subst e2
  refine eqv_pairs hx hy (asc_len hd.1 fun p hp => ?_)
  have h := f.gd.ltW (hr.st.fe.pr _ _ ((hd.2 p.1 p.2).mp hp))
  have := f.gd.nl
  have := f.gd.ml
  omega
theorem Fin.eq1 (f : Fin K T H v B pb pw rb rw y1 y2 rs1 rs2) (hr : Best (Z.bk B) r) (hx : PrT K H x ps) (hd : IsPass (Z.bk B) r ps) : Eqv K H 2 x y1 := by
  have e : r = rb := funext fun a => hr.uniq f.bb a
  subst e
  have e2 := hd.uniq f.i1
  subst e2
  refine eqv_pairs hx f.h1 (asc_len hd.1 fun p hp => ?_)
  have h := f.gd.ltW ((hd.2 p.1 p.2).mp hp).1
  have := f.gd.nl
  have := f.gd.ml
  omega
theorem Fin.eq2 (f : Fin K T H v B pb pw rb rw y1 y2 rs1 rs2) (hr : Worst (Z.bk B) r) (hx : PrT K H x ps) (hd : IsPassBy (Z.bk B) r ps) : Eqv K H 2 x y2 := by
  have e : r = rw := funext fun a => hr.uniq f.ww a
  subst e
  have e2 := hd.uniq f.i2
  subst e2
  refine eqv_pairs hx f.h2 (asc_len hd.1 fun p hp => ?_)
  have h := f.gd.ltW ((f.gd.wf.sd p.1 p.2).mpr ((hd.2 p.1 p.2).mp hp).1)
  have := f.gd.nl
  have := f.gd.ml
  omega
end
section
variable {P : Program} {w : World} {K : PySem.W.Frag} {mg : Str → Option Value} {base : Heap} {T : Tb}
def spLaw (K : PySem.W.Frag) (T : Tb) : Sp := fun vs H Q _ => ∃ (s : Addr) (cs : List Int), vs = [.ref s] ∧ SqL K H s (cs.map V.int) ∧ cs.length ≤ 63 ∧ LamX.Tabs T H ∧ ∀ H', Q (.bl true) H'
theorem ok_law {f : Addr} {fd : FuncData} {k : Nat} (F : Fun K "law" "law" s_law f fd) (B : Bt mg)
    {f_dice : Addr} {d_dice : FuncData} (G_dice : FnOk P w K mg base CX0 k f_dice d_dice ["_law_script"] (spDice K T)) (g_dice : mg "_law_dice" = some (.ref f_dice)) (kp_dice : PySem.W.keepIn K (.ref f_dice) = true) (b_dice : Binds K d_dice ["_law_script"] [])
    {f_take : Addr} {d_take : FuncData} (G_take : FnOk P w K mg base CX0 k f_take d_take ["_law_dice_here", "_law_many"] (spTake T)) (g_take : mg "_law_take" = some (.ref f_take)) (kp_take : PySem.W.keepIn K (.ref f_take) = true) (b_take : Binds K d_take ["_law_dice_here", "_law_many"] [])
    {f_large : Addr} {d_large : FuncData} (G_large : FnOk P w K mg base CX0 k f_large d_large ["_law_dice_here"] (spLarge K T)) (g_large : mg "_law_large" = some (.ref f_large)) (kp_large : PySem.W.keepIn K (.ref f_large) = true) (b_large : Binds K d_large ["_law_dice_here"] [])
    {f_Lp : Addr} {d_Lp : FuncData} (G_Lp : FnOk P w K mg base CX0 k f_Lp d_Lp ["_law_dice_here", "_law_office_here"] (spLP K T)) (g_Lp : mg "_law_pupils_ask" = some (.ref f_Lp)) (kp_Lp : PySem.W.keepIn K (.ref f_Lp) = true) (b_Lp : Binds K d_Lp ["_law_dice_here", "_law_office_here"] [])
    {f_Ls : Addr} {d_Ls : FuncData} (G_Ls : FnOk P w K mg base CX0 k f_Ls d_Ls ["_law_dice_here", "_law_office_here"] (spLS K T)) (g_Ls : mg "_law_schools_ask" = some (.ref f_Ls)) (kp_Ls : PySem.W.keepIn K (.ref f_Ls) = true) (b_Ls : Binds K d_Ls ["_law_dice_here", "_law_office_here"] [])
    {f_office : Addr} {d_office : FuncData} (G_office : FnOk P w K mg base CX0 k f_office d_office ["_law_dice_here"] (spOffice K T)) (g_office : mg "_law_office" = some (.ref f_office)) (kp_office : PySem.W.keepIn K (.ref f_office) = true) (b_office : Binds K d_office ["_law_dice_here"] [])
    {f_plain : Addr} {d_plain : FuncData} (G_plain : FnOk P w K mg base CX0 k f_plain d_plain ["_law_office_here"] (spPlain K T)) (g_plain : mg "_law_plain_rows" = some (.ref f_plain)) (kp_plain : PySem.W.keepIn K (.ref f_plain) = true) (b_plain : Binds K d_plain ["_law_office_here"] [])
    {f_end : Addr} {d_end : FuncData} (G_end : FnOk P w K mg base CX0 k f_end d_end ["_law_office_here", "_law_rows_here", "_law_best"] (spEnd K T)) (g_end : mg "_law_end" = some (.ref f_end)) (kp_end : PySem.W.keepIn K (.ref f_end) = true) (b_end : Binds K d_end ["_law_office_here", "_law_rows_here", "_law_best"] [])
    {f_passed : Addr} {d_passed : FuncData} (G_passed : FnOk P w K mg base CX0 k f_passed d_passed ["_law_office_here", "_law_row"] (spPassed K T)) (g_passed : mg "_law_passed" = some (.ref f_passed)) (kp_passed : PySem.W.keepIn K (.ref f_passed) = true) (b_passed : Binds K d_passed ["_law_office_here", "_law_row"] [])
    {f_passby : Addr} {d_passby : FuncData} (G_passby : FnOk P w K mg base CX0 k f_passby d_passby ["_law_office_here", "_law_row"] (spPassedBy K T)) (g_passby : mg "_law_passed_by" = some (.ref f_passby)) (kp_passby : PySem.W.keepIn K (.ref f_passby) = true) (b_passby : Binds K d_passby ["_law_office_here", "_law_row"] [])
    {f_same : Addr} {d_same : FuncData} (G_same : FnOk P w K mg base CX0 k f_same d_same ["_law_told_here", "_law_due"] (spSame K 2)) (g_same : mg "_law_same" = some (.ref f_same)) (kp_same : PySem.W.keepIn K (.ref f_same) = true) (b_same : Binds K d_same ["_law_told_here", "_law_due"] [])
    {f_told : Addr} {d_told : FuncData} (G_told : FnOk P w K mg base CX0 k f_told d_told ["_law_row"] (spTold K T)) (g_told : mg "_law_told" = some (.ref f_told)) (kp_told : PySem.W.keepIn K (.ref f_told) = true) (b_told : Binds K d_told ["_law_row"] [])
    {f_pd : Addr} {d_pd : FuncData} (G_pd : FnOk P w K mg base CX0 k f_pd d_pd ["book"] (spPDeal K T)) (g_pd : mg "pupils_deal" = some (.ref f_pd)) (kp_pd : PySem.W.keepIn K (.ref f_pd) = true) (b_pd : Binds K d_pd ["book"] []) (kb_pd : KBinds K d_pd ["book"] ["book"] (fun us ws => us ++ ws) (fun vs zs => vs ++ zs))
    {f_sd : Addr} {d_sd : FuncData} (G_sd : FnOk P w K mg base CX0 k f_sd d_sd ["book"] (spSDeal K T)) (g_sd : mg "schools_deal" = some (.ref f_sd)) (kp_sd : PySem.W.keepIn K (.ref f_sd) = true) (b_sd : Binds K d_sd ["book"] []) (kb_sd : KBinds K d_sd ["book"] ["book"] (fun us ws => us ++ ws) (fun vs zs => vs ++ zs))
    {f_ra : Addr} {d_ra : FuncData} (G_ra : FnOk P w K mg base CX0 k f_ra d_ra ["book"] (spPRef K T)) (g_ra : mg "refused_asked" = some (.ref f_ra)) (kp_ra : PySem.W.keepIn K (.ref f_ra) = true) (b_ra : Binds K d_ra ["book"] []) (kb_ra : KBinds K d_ra ["book"] ["book"] (fun us ws => us ++ ws) (fun vs zs => vs ++ zs))
    {f_rg : Addr} {d_rg : FuncData} (G_rg : FnOk P w K mg base CX0 k f_rg d_rg ["book"] (spSRef K T)) (g_rg : mg "refused_asking" = some (.ref f_rg)) (kp_rg : PySem.W.keepIn K (.ref f_rg) = true) (b_rg : Binds K d_rg ["book"] []) (kb_rg : KBinds K d_rg ["book"] ["book"] (fun us ws => us ++ ws) (fun vs zs => vs ++ zs)) :
    FnOk P w K mg base CX0 (k + 1) f fd ["_law_script"] (spLaw K T) := by
  refine F.ok sc_law (fun vs H Q E h => ?_) (fun cdv A outer s H vs Q E hr h => ?_)
  · obtain ⟨sc, cs, rfl, _⟩ := h
    rfl
  · obtain ⟨sc, cs, rfl, hs, hn, hT, q⟩ := h
    refine ⟨_, (pss_cons (ps_set (i := 1) sc_law.nd rfl (Or.inl rfl) (pe_call G_dice hr (by rfl) g_dice kp_dice b_dice .nil pass0 (pa_cons (pv 0) pa_nil)))
      (pss_cons (ps_if (pt_cmpR op_eq (pe_call G_take hr (by rfl) g_take kp_take b_take .nil pass0 (pa_cons (pv 1) (pa_cons pe_int pa_nil))) pe_int (nomark _))
        (pss_cons (ps_set (i := 2) sc_law.nd rfl (Or.inl rfl) (pe_call G_large hr (by rfl) g_large kp_large b_large .nil pass0 (pa_cons (pv 1) pa_nil)))
        (pss_cons (ps_asg (pe_call G_Lp hr (by rfl) g_Lp kp_Lp b_Lp .nil pass0 (pa_cons (pv 1) (pa_cons (pv 2) pa_nil))) (pg_tup (by rfl) (pgs_cons (pg_name (i := 3) sc_law.nd rfl (Or.inl rfl)) (pgs_cons (pg_name (i := 4) sc_law.nd rfl (Or.inl rfl)) pgs_nil))))
        (pss_one (ps_asg (pe_call G_Ls hr (by rfl) g_Ls kp_Ls b_Ls .nil pass0 (pa_cons (pv 1) (pa_cons (pv 2) pa_nil))) (pg_tup (by rfl) (pgs_cons (pg_name (i := 5) sc_law.nd rfl (Or.inl rfl)) (pgs_cons (pg_name (i := 6) sc_law.nd rfl (Or.inl rfl)) pgs_nil)))))))
        (pss_cons (ps_set (i := 2) sc_law.nd rfl (Or.inl rfl) (pe_call G_office hr (by rfl) g_office kp_office b_office .nil pass0 (pa_cons (pv 1) pa_nil)))
        (pss_cons (ps_set (i := 7) sc_law.nd rfl (Or.inl rfl) (pe_call G_plain hr (by rfl) g_plain kp_plain b_plain .nil pass0 (pa_cons (pv 2) pa_nil)))
        (pss_cons (ps_set (i := 3) sc_law.nd rfl (Or.inl rfl) (pe_call G_end hr (by rfl) g_end kp_end b_end .nil pass0 (pa_cons (pv 2) (pa_cons (pv 7) (pa_cons pe_bl pa_nil)))))
        (pss_cons (ps_set (i := 5) sc_law.nd rfl (Or.inl rfl) (pe_call G_end hr (by rfl) g_end kp_end b_end .nil pass0 (pa_cons (pv 2) (pa_cons (pv 7) (pa_cons pe_bl pa_nil)))))
        (pss_cons (ps_set (i := 4) sc_law.nd rfl (Or.inl rfl) (pe_call G_passed hr (by rfl) g_passed kp_passed b_passed .nil pass0 (pa_cons (pv 2) (pa_cons (pv 3) pa_nil))))
        (pss_one (ps_set (i := 6) sc_law.nd rfl (Or.inl rfl) (pe_call G_passby hr (by rfl) g_passby kp_passby b_passby .nil pass0 (pa_cons (pv 2) (pa_cons (pv 5) pa_nil)))))))))))
      (pss_cons (ps_if (pt_not (pt_val (pe_call G_same hr (by rfl) g_same kp_same b_same .nil pass0 (pa_cons (pe_call G_pd hr (by rfl) g_pd kp_pd b_pd .nil pass0 (pa_cons (pv 2) pa_nil)) (pa_cons (pe_call G_told hr (by rfl) g_told kp_told b_told .nil pass0 (pa_cons (pv 3) pa_nil)) pa_nil)))))
        (pss_one (ps_ret pe_bl))
        pss_nil)
      (pss_cons (ps_if (pt_not (pt_val (pe_call G_same hr (by rfl) g_same kp_same b_same .nil pass0 (pa_cons (pe_call G_sd hr (by rfl) g_sd kp_sd b_sd .nil pass0 (pa_cons (pv 2) pa_nil)) (pa_cons (pe_call G_told hr (by rfl) g_told kp_told b_told .nil pass0 (pa_cons (pv 5) pa_nil)) pa_nil)))))
        (pss_one (ps_ret pe_bl))
        pss_nil)
      (pss_cons (ps_if (PW.pt (pw_or (pt_not (pt_val (pe_call G_same hr (by rfl) g_same kp_same b_same .nil pass0 (pa_cons (pe_call G_ra hr (by rfl) g_ra kp_ra b_ra .nil pass0 (pa_cons (pv 2) pa_nil)) (pa_cons (pv 4) pa_nil))))) (pw_or1 (pt_not (pt_val (pe_call G_same hr (by rfl) g_same kp_same b_same .nil pass0 (pa_cons (pe_call G_rg hr (by rfl) g_rg kp_rg b_rg .nil pass0 (pa_cons (pv 2) pa_nil)) (pa_cons (pv 6) pa_nil))))))))
        (pss_one (ps_ret pe_bl))
        pss_nil)
      (pss_cons (ps_if (pt_not (pt_val (pe_call G_same hr (by rfl) g_same kp_same b_same .nil pass0 (pa_cons (pe_callK0 G_pd hr (by rfl) g_pd kp_pd kb_pd pass0 (pk_cons (pv 2) pk_nil)) (pa_cons (pe_call G_told hr (by rfl) g_told kp_told b_told .nil pass0 (pa_cons (pv 3) pa_nil)) pa_nil)))))
        (pss_one (ps_ret pe_bl))
        pss_nil)
      (pss_cons (ps_if (pt_not (pt_val (pe_call G_same hr (by rfl) g_same kp_same b_same .nil pass0 (pa_cons (pe_callK0 G_sd hr (by rfl) g_sd kp_sd kb_sd pass0 (pk_cons (pv 2) pk_nil)) (pa_cons (pe_call G_told hr (by rfl) g_told kp_told b_told .nil pass0 (pa_cons (pv 5) pa_nil)) pa_nil)))))
        (pss_one (ps_ret pe_bl))
        pss_nil)
      (pss_one (ps_ret (pe_and (pe_call G_same hr (by rfl) g_same kp_same b_same .nil pass0 (pa_cons (pe_callK0 G_ra hr (by rfl) g_ra kp_ra kb_ra pass0 (pk_cons (pv 2) pk_nil)) (pa_cons (pv 4) pa_nil))) (pe_one (pe_call G_same hr (by rfl) g_same kp_same b_same .nil pass0 (pa_cons (pe_callK0 G_rg hr (by rfl) g_rg kp_rg kb_rg pass0 (pk_cons (pv 2) pk_nil)) (pa_cons (pv 6) pa_nil)))))))))))))), ?_⟩
    dsimp only [tSeq, tAsg]
    refine ⟨_, rfl, sc, cs, rfl, hs, hn, fun d H1 hd st1 => ?_⟩
    have hT1 := st1.b hT
    dsimp only [gName, tSeq, tAsg]
    refine cutS (fun σ2 H2 => ∃ v Bk pb pw rb rw y1 y2 rs1 rs2 y7, σ2 = [some (.ref sc), some (.ref d), some v, some (.ref pb), some y1, some (.ref pw), some y2, y7] ∧ Fin K T H2 v Bk pb pw rb rw y1 y2 rs1 rs2) (fun σ2 H2 hC => ?_) (fun D' hQ => ?_)
    · clear hT1 st1 hd hs hn
      obtain ⟨v, Bk, pb, pw, rb, rw, y1, y2, rs1, rs2, y7, rfl, fi⟩ := hC
      have hnl := fi.gd.nl
      have bout := fi.bb.st.fe.out fi.gd.wf
      have wout := fi.ww.st.fe.out fi.gd.wf
      refine ⟨_, rfl, v, Bk, rfl, fi.bk, fi.gd, fi.tb, fun x H3 r ps hr st hx hd => ?_⟩
      have fi := fi.st st
      refine ⟨_, rfl, pb, Bk.W.length, rb, rfl, .of fi.hb, hnl, bout, fun y H4 ps2 hy hd2 st2 => ?_⟩
      have fi := fi.st st2
      refine ⟨x, y, rfl, fi.eqB hr (hx.st st2) hd hy hd2, true, rfl, iteF ?_⟩
      refine ⟨_, rfl, v, Bk, rfl, fi.bk, fi.gd, fi.tb, fun x H3 r ps hr st hx hd => ?_⟩
      have fi := fi.st st
      refine ⟨_, rfl, pw, Bk.W.length, rw, rfl, .of fi.hw, hnl, wout, fun y H4 ps2 hy hd2 st2 => ?_⟩
      have fi := fi.st st2
      refine ⟨x, y, rfl, fi.eqW hr (hx.st st2) hd hy hd2, true, rfl, iteF ?_⟩
      refine ⟨_, rfl, v, Bk, rfl, fi.bk, fi.gd, fi.tb, fun x H3 r ps hr st hx hd => ?_⟩
      have fi := fi.st st
      refine ⟨_, rfl, x, y1, rfl, fi.eq1 hr hx hd, true, rfl, iteF ?_⟩
      refine ⟨_, rfl, v, Bk, rfl, fi.bk, fi.gd, fi.tb, fun x H3 r ps hr st hx hd => ?_⟩
      have fi := fi.st st
      refine ⟨_, rfl, x, y2, rfl, fi.eq2 hr hx hd, true, rfl, iteF ?_⟩
      refine ⟨_, rfl, v, Bk, rfl, fi.bk, fi.gd, fi.tb, fun x H3 r ps hr st hx hd => ?_⟩
      have fi := fi.st st
      refine ⟨_, rfl, pb, Bk.W.length, rb, rfl, .of fi.hb, hnl, bout, fun y H4 ps2 hy hd2 st2 => ?_⟩
      have fi := fi.st st2
      refine ⟨x, y, rfl, fi.eqB hr (hx.st st2) hd hy hd2, true, rfl, iteF ?_⟩
      refine ⟨_, rfl, v, Bk, rfl, fi.bk, fi.gd, fi.tb, fun x H3 r ps hr st hx hd => ?_⟩
      have fi := fi.st st
      refine ⟨_, rfl, pw, Bk.W.length, rw, rfl, .of fi.hw, hnl, wout, fun y H4 ps2 hy hd2 st2 => ?_⟩
      have fi := fi.st st2
      refine ⟨x, y, rfl, fi.eqW hr (hx.st st2) hd hy hd2, true, rfl, iteF ?_⟩
      refine ⟨_, rfl, v, Bk, rfl, fi.bk, fi.gd, fi.tb, fun x H3 r ps hr st hx hd => ?_⟩
      have fi := fi.st st
      refine ⟨_, rfl, x, y1, rfl, fi.eq1 hr hx hd, true, rfl, iteT ?_⟩
      refine ⟨_, rfl, v, Bk, rfl, fi.bk, fi.gd, fi.tb, fun x H3 r ps hr st hx hd => ?_⟩
      have fi := fi.st st
      refine ⟨_, rfl, x, y2, rfl, fi.eq2 hr hx hd, q _⟩
    · refine ⟨_, rfl, d, 4, rfl, by decide, hd, fun t H2 ht st2 dc2 => ⟨rfl, _, rfl, ite2 (fun _ => ?_) (fun _ => ?_)⟩⟩
      · have hT2 := st2.b hT1
        refine ⟨_, rfl, d, rfl, dc2, fun v H3 Bk hB gd st3 dc3 => ?_⟩
        have hT3 := st3.b hT2
        refine ⟨_, rfl, _, rfl, d, v, Bk, rfl, dc3, hB, gd, fun t4 p4 y4 H4 rb rs1 hbest ht4 hp4 nw4 hy4 hpass st4 dc4 => ⟨t4, _, rfl, ht4, rfl, .ref p4, _, rfl, y4, _, rfl, rfl, ?_⟩⟩
        have hT4 := st4.b hT3
        refine ⟨_, rfl, _, rfl, d, v, Bk, rfl, dc4, hB.st st4, gd, fun t5 p5 y5 H5 rw rs2 hworst ht5 hp5 nw5 hy5 hpass5 st5 dc5 => ⟨t5, _, rfl, ht5, rfl, .ref p5, _, rfl, y5, _, rfl, rfl, hQ _ _ ?_⟩⟩
        have hne : p4 ≠ d := (dc3.ne nw4).symm
        exact ⟨v, Bk, p4, p5, rb, rw, y4, y5, rs1, rs2, _, rfl, (hB.st st4).st st5, gd, st5.b hT4, st5.lst hp4 (by simp [hne]), hbest, hp5, hworst, hy4.st st5, hpass, hy5, hpass5⟩
      · have hT2 := st2.b hT1
        refine ⟨_, rfl, d, rfl, dc2, fun v H3 Bk hB gd sm st3 dc3 => ?_⟩
        have hT3 := st3.b hT2
        obtain ⟨rb, hbest⟩ := ex_best gd.wf
        obtain ⟨rw, hworst⟩ := ex_worst gd.wf
        refine ⟨_, rfl, v, Bk, rfl, hB, gd, sm, fun l H4 rs hrl hrs hlen st4 => ?_⟩
        refine ⟨_, rfl, _, rfl, v, Bk, l, true, rs, rb, rfl, hB.st st4, gd, hrl, hlen, hrs, (fun _ => hbest), (fun e => nomatch e), fun p5 H5 hp5 st5 => ?_⟩
        have s5 := st4.trans st5
        refine ⟨_, rfl, _, rfl, v, Bk, l, false, rs, rw, rfl, hB.st s5, gd, hrl.st st5, hlen, hrs, (fun e => nomatch e), (fun _ => hworst), fun p6 H6 hp6 st6 => ?_⟩
        have s6 := s5.trans st6
        have hp5 := st6.lst hp5 (by simp)
        refine ⟨_, rfl, _, rfl, v, Bk, p5, rb, rfl, hB.st s6, gd, .of hp5, hbest.st.fe.pr, fun y1 H7 rs1 hy1 hpass st7 => ?_⟩
        have s7 := s6.trans st7
        refine ⟨_, rfl, _, rfl, v, Bk, p6, rw, rfl, hB.st s7, gd, .of (st7.lst hp6 (by simp)), fun y2 H8 rs2 hy2 hpb st8 => hQ _ _ ?_⟩
        have s8 := s7.trans st8
        exact ⟨v, Bk, p5, p6, rb, rw, y1, y2, rs1, rs2, _, rfl, hB.st s8, gd, s8.b hT3, (st7.trans st8).lst hp5 (by simp), hbest, (st7.trans st8).lst hp6 (by simp), hworst, hy1.st st8, hpass, hy2, hpb⟩
end
end Z
namespace Z
open PySem PySem.Spec PyProof.Rows L2 Ma
/-! ### the program's top -/
theorem tabS_nil {H : Hp} {tb : Addr} {q : Str} (h : H tb = some (.tbl #[])) : LamX.TabS H tb q := ⟨#[], h, by first | exact trivial | (intro _ hq; cases hq) | simp [TriplesOk], fun _ _ e => by cases e⟩
theorem all_mk {l : PySem.W.OpenLaw} {w : World} {K : PySem.W.Frag} {h : Heap} {mg : Str → Option Value} {fa f1 f2 f3 f4 f5 f6 f7 f8 f9 f10 f11 f12 f13 f14 f15 f16 f17 f18 f19 f20 f21 f22 f23 f24 f25 f26 f27 f28 c1 c2 tb1 tb2 : Addr} (X : K.In h) (G : h.Ns mainGlobals mg) (hfa : mg "law" = some (.ref fa)) (tabs : ∀ P ∈ [tb1, tb2], h.get? P = some (PySem.W.tabObj #[]))
    {od1 an1 od2 an2 od3 an3 od4 an4 od5 an5 od6 an6 od7 an7 od8 an8 od9 an9 od10 an10 od11 an11 od12 an12 od13 an13 od14 an14 od15 an15 od16 an16 od17 an17 od18 an18 od19 an19 od20 an20 od21 an21 od22 an22 od23 an23 od24 an24 od25 an25 od26 an26 od27 an27 od28 an28 oda odb : Option Addr} {sl1 sl2 sl3 sl4 sl5 sl6 sl7 sl8 sl9 sl10 sl11 sl12 sl13 sl14 sl15 sl16 sl17 sl18 sl19 sl20 sl21 sl22 sl23 sl24 sl25 sl26 sl27 sl28 sla slb : Array (Option Value)} {oc1 kV1 dc1 pm1 ct1 cd1 oc2 kV2 dc2 pm2 ct2 cd2 oc3 kV3 dc3 pm3 ct3 cd3 oc4 kV4 dc4 pm4 ct4 cd4 oc5 kV5 dc5 pm5 ct5 cd5 oc6 kV6 dc6 pm6 ct6 oc7 kV7 dc7 pm7 ct7 cd7 oc8 kV8 dc8 pm8 ct8 oc9 kV9 dc9 pm9 ct9 cd9 oc10 kV10 dc10 pm10 ct10 cd10 oc11 kV11 dc11 pm11 ct11 cd11 oc12 kV12 dc12 pm12 ct12 cd12 oc13 kV13 dc13 pm13 ct13 cd13 oc14 kV14 dc14 pm14 ct14 cd14 oc15 kV15 dc15 pm15 ct15 cd15 oc16 kV16 dc16 pm16 ct16 cd16 oc17 kV17 dc17 pm17 ct17 cd17 oc18 kV18 dc18 pm18 ct18 cd18 oc19 kV19 dc19 pm19 ct19 cd19 oc20 kV20 dc20 pm20 ct20 cd20 oc21 kV21 dc21 pm21 ct21 cd21 oc22 kV22 dc22 pm22 ct22 cd22 oc23 kV23 dc23 pm23 ct23 cd23 oc24 kV24 dc24 pm24 ct24 cd24 oc25 kV25 dc25 pm25 ct25 cd25 oc26 kV26 dc26 pm26 ct26 cd26 oc27 kV27 dc27 pm27 ct27 cd27 oc28 kV28 dc28 pm28 ct28 cd28 : Value} {va vb : Array Value} {fi1 fi2 : Str} {tf1 tf2 tg1 tg2 tt1 tt2 : Tok} {fl1 fl2 te1 te2 : Int} {in1 in2 : Bool}
    (a1 : PySem.W.nsIn K mainGlobals "pupils_deal" = some (some (.ref f1))) (l1 : K.lookup f1 = some ⟨oc1, od1, .func (PySem.W.fnOf "pupils_deal" "pupils_deal" (defArgs s_pupils_deal) (defBody s_pupils_deal) (defScope s_pupils_deal) .none kV1 dc1 pm1 an1 cd1 ct1), sl1⟩) (c_1 : PySem.W.codeIn K cd1 "pupils_deal" = true) (k1 : PySem.W.keepIn K (.ref f1) = true)
    (a2 : PySem.W.nsIn K mainGlobals "schools_deal" = some (some (.ref f2))) (l2 : K.lookup f2 = some ⟨oc2, od2, .func (PySem.W.fnOf "schools_deal" "schools_deal" (defArgs s_schools_deal) (defBody s_schools_deal) (defScope s_schools_deal) .none kV2 dc2 pm2 an2 cd2 ct2), sl2⟩) (c_2 : PySem.W.codeIn K cd2 "schools_deal" = true) (k2 : PySem.W.keepIn K (.ref f2) = true)
    (a3 : PySem.W.nsIn K mainGlobals "refused_asked" = some (some (.ref f3))) (l3 : K.lookup f3 = some ⟨oc3, od3, .func (PySem.W.fnOf "refused_asked" "refused_asked" (defArgs s_refused_asked) (defBody s_refused_asked) (defScope s_refused_asked) .none kV3 dc3 pm3 an3 cd3 ct3), sl3⟩) (c_3 : PySem.W.codeIn K cd3 "refused_asked" = true) (k3 : PySem.W.keepIn K (.ref f3) = true)
    (a4 : PySem.W.nsIn K mainGlobals "refused_asking" = some (some (.ref f4))) (l4 : K.lookup f4 = some ⟨oc4, od4, .func (PySem.W.fnOf "refused_asking" "refused_asking" (defArgs s_refused_asking) (defBody s_refused_asking) (defScope s_refused_asking) .none kV4 dc4 pm4 an4 cd4 ct4), sl4⟩) (c_4 : PySem.W.codeIn K cd4 "refused_asking" = true) (k4 : PySem.W.keepIn K (.ref f4) = true)
    (a5 : PySem.W.nsIn K mainGlobals "_pupils_ask" = some (some (.ref f5))) (l5 : K.lookup f5 = some ⟨oc5, od5, .func (PySem.W.fnOf "_pupils_ask" "_pupils_ask" (defArgs s_pupils_ask) (defBody s_pupils_ask) (defScope s_pupils_ask) .none kV5 dc5 pm5 an5 cd5 ct5), sl5⟩) (c_5 : PySem.W.codeIn K cd5 "_pupils_ask" = true) (k5 : PySem.W.keepIn K (.ref f5) = true)
    (a6 : PySem.W.nsIn K mainGlobals "_least_of" = some (some (.ref f6))) (l6 : K.lookup f6 = some ⟨oc6, od6, .func (PySem.W.fnOf "_least_of" "_least_of" (defArgs s_least_of) (defBody s_least_of) (defScope s_least_of) .none kV6 dc6 pm6 an6 (.ref c1) ct6), sl6⟩) (c_6 : PySem.W.codeIn K (.ref c1) "_least_of" = true) (k6 : PySem.W.keepIn K (.ref f6) = true)
    (a7 : PySem.W.nsIn K mainGlobals "_schools_ask" = some (some (.ref f7))) (l7 : K.lookup f7 = some ⟨oc7, od7, .func (PySem.W.fnOf "_schools_ask" "_schools_ask" (defArgs s_schools_ask) (defBody s_schools_ask) (defScope s_schools_ask) .none kV7 dc7 pm7 an7 cd7 ct7), sl7⟩) (c_7 : PySem.W.codeIn K cd7 "_schools_ask" = true) (k7 : PySem.W.keepIn K (.ref f7) = true)
    (a8 : PySem.W.nsIn K mainGlobals "_best_of" = some (some (.ref f8))) (l8 : K.lookup f8 = some ⟨oc8, od8, .func (PySem.W.fnOf "_best_of" "_best_of" (defArgs s_best_of) (defBody s_best_of) (defScope s_best_of) .none kV8 dc8 pm8 an8 (.ref c2) ct8), sl8⟩) (c_8 : PySem.W.codeIn K (.ref c2) "_best_of" = true) (k8 : PySem.W.keepIn K (.ref f8) = true)
    (a9 : PySem.W.nsIn K mainGlobals "_law_dice" = some (some (.ref f9))) (l9 : K.lookup f9 = some ⟨oc9, od9, .func (PySem.W.fnOf "_law_dice" "_law_dice" (defArgs s_Ldice) (defBody s_Ldice) (defScope s_Ldice) .none kV9 dc9 pm9 an9 cd9 ct9), sl9⟩) (c_9 : PySem.W.codeIn K cd9 "_law_dice" = true) (k9 : PySem.W.keepIn K (.ref f9) = true)
    (a10 : PySem.W.nsIn K mainGlobals "_law_take" = some (some (.ref f10))) (l10 : K.lookup f10 = some ⟨oc10, od10, .func (PySem.W.fnOf "_law_take" "_law_take" (defArgs s_Ltake) (defBody s_Ltake) (defScope s_Ltake) .none kV10 dc10 pm10 an10 cd10 ct10), sl10⟩) (c_10 : PySem.W.codeIn K cd10 "_law_take" = true) (k10 : PySem.W.keepIn K (.ref f10) = true)
    (a11 : PySem.W.nsIn K mainGlobals "_law_shuffled" = some (some (.ref f11))) (l11 : K.lookup f11 = some ⟨oc11, od11, .func (PySem.W.fnOf "_law_shuffled" "_law_shuffled" (defArgs s_Lshuffled) (defBody s_Lshuffled) (defScope s_Lshuffled) .none kV11 dc11 pm11 an11 cd11 ct11), sl11⟩) (c_11 : PySem.W.codeIn K cd11 "_law_shuffled" = true) (k11 : PySem.W.keepIn K (.ref f11) = true)
    (a12 : PySem.W.nsIn K mainGlobals "_law_begun" = some (some (.ref f12))) (l12 : K.lookup f12 = some ⟨oc12, od12, .func (PySem.W.fnOf "_law_begun" "_law_begun" (defArgs s_Lbegun) (defBody s_Lbegun) (defScope s_Lbegun) .none kV12 dc12 pm12 an12 cd12 ct12), sl12⟩) (c_12 : PySem.W.codeIn K cd12 "_law_begun" = true) (k12 : PySem.W.keepIn K (.ref f12) = true)
    (a13 : PySem.W.nsIn K mainGlobals "_law_bent" = some (some (.ref f13))) (l13 : K.lookup f13 = some ⟨oc13, od13, .func (PySem.W.fnOf "_law_bent" "_law_bent" (defArgs s_Lbent) (defBody s_Lbent) (defScope s_Lbent) .none kV13 dc13 pm13 an13 cd13 ct13), sl13⟩) (c_13 : PySem.W.codeIn K cd13 "_law_bent" = true) (k13 : PySem.W.keepIn K (.ref f13) = true)
    (a14 : PySem.W.nsIn K mainGlobals "_law_office" = some (some (.ref f14))) (l14 : K.lookup f14 = some ⟨oc14, od14, .func (PySem.W.fnOf "_law_office" "_law_office" (defArgs s_Loffice) (defBody s_Loffice) (defScope s_Loffice) .none kV14 dc14 pm14 an14 cd14 ct14), sl14⟩) (c_14 : PySem.W.codeIn K cd14 "_law_office" = true) (k14 : PySem.W.keepIn K (.ref f14) = true)
    (a15 : PySem.W.nsIn K mainGlobals "_law_rows" = some (some (.ref f15))) (l15 : K.lookup f15 = some ⟨oc15, od15, .func (PySem.W.fnOf "_law_rows" "_law_rows" (defArgs s_Lrows) (defBody s_Lrows) (defScope s_Lrows) .none kV15 dc15 pm15 an15 cd15 ct15), sl15⟩) (c_15 : PySem.W.codeIn K cd15 "_law_rows" = true) (k15 : PySem.W.keepIn K (.ref f15) = true)
    (a16 : PySem.W.nsIn K mainGlobals "_law_bars" = some (some (.ref f16))) (l16 : K.lookup f16 = some ⟨oc16, od16, .func (PySem.W.fnOf "_law_bars" "_law_bars" (defArgs s_Lbars) (defBody s_Lbars) (defScope s_Lbars) .none kV16 dc16 pm16 an16 cd16 ct16), sl16⟩) (c_16 : PySem.W.codeIn K cd16 "_law_bars" = true) (k16 : PySem.W.keepIn K (.ref f16) = true)
    (a17 : PySem.W.nsIn K mainGlobals "_law_claims" = some (some (.ref f17))) (l17 : K.lookup f17 = some ⟨oc17, od17, .func (PySem.W.fnOf "_law_claims" "_law_claims" (defArgs s_Lclaims) (defBody s_Lclaims) (defScope s_Lclaims) .none kV17 dc17 pm17 an17 cd17 ct17), sl17⟩) (c_17 : PySem.W.codeIn K cd17 "_law_claims" = true) (k17 : PySem.W.keepIn K (.ref f17) = true)
    (a18 : PySem.W.nsIn K mainGlobals "_law_plain_rows" = some (some (.ref f18))) (l18 : K.lookup f18 = some ⟨oc18, od18, .func (PySem.W.fnOf "_law_plain_rows" "_law_plain_rows" (defArgs s_Lplain_rows) (defBody s_Lplain_rows) (defScope s_Lplain_rows) .none kV18 dc18 pm18 an18 cd18 ct18), sl18⟩) (c_18 : PySem.W.codeIn K cd18 "_law_plain_rows" = true) (k18 : PySem.W.keepIn K (.ref f18) = true)
    (a19 : PySem.W.nsIn K mainGlobals "_law_told" = some (some (.ref f19))) (l19 : K.lookup f19 = some ⟨oc19, od19, .func (PySem.W.fnOf "_law_told" "_law_told" (defArgs s_Ltold) (defBody s_Ltold) (defScope s_Ltold) .none kV19 dc19 pm19 an19 cd19 ct19), sl19⟩) (c_19 : PySem.W.codeIn K cd19 "_law_told" = true) (k19 : PySem.W.keepIn K (.ref f19) = true)
    (a20 : PySem.W.nsIn K mainGlobals "_law_spot" = some (some (.ref f20))) (l20 : K.lookup f20 = some ⟨oc20, od20, .func (PySem.W.fnOf "_law_spot" "_law_spot" (defArgs s_Lspot) (defBody s_Lspot) (defScope s_Lspot) .none kV20 dc20 pm20 an20 cd20 ct20), sl20⟩) (c_20 : PySem.W.codeIn K cd20 "_law_spot" = true) (k20 : PySem.W.keepIn K (.ref f20) = true)
    (a21 : PySem.W.nsIn K mainGlobals "_law_same" = some (some (.ref f21))) (l21 : K.lookup f21 = some ⟨oc21, od21, .func (PySem.W.fnOf "_law_same" "_law_same" (defArgs s_Lsame) (defBody s_Lsame) (defScope s_Lsame) .none kV21 dc21 pm21 an21 cd21 ct21), sl21⟩) (c_21 : PySem.W.codeIn K cd21 "_law_same" = true) (k21 : PySem.W.keepIn K (.ref f21) = true)
    (a22 : PySem.W.nsIn K mainGlobals "_law_large" = some (some (.ref f22))) (l22 : K.lookup f22 = some ⟨oc22, od22, .func (PySem.W.fnOf "_law_large" "_law_large" (defArgs s_Llarge) (defBody s_Llarge) (defScope s_Llarge) .none kV22 dc22 pm22 an22 cd22 ct22), sl22⟩) (c_22 : PySem.W.codeIn K cd22 "_law_large" = true) (k22 : PySem.W.keepIn K (.ref f22) = true)
    (a23 : PySem.W.nsIn K mainGlobals "_law_pupils_ask" = some (some (.ref f23))) (l23 : K.lookup f23 = some ⟨oc23, od23, .func (PySem.W.fnOf "_law_pupils_ask" "_law_pupils_ask" (defArgs s_Lpupils_ask) (defBody s_Lpupils_ask) (defScope s_Lpupils_ask) .none kV23 dc23 pm23 an23 cd23 ct23), sl23⟩) (c_23 : PySem.W.codeIn K cd23 "_law_pupils_ask" = true) (k23 : PySem.W.keepIn K (.ref f23) = true)
    (a24 : PySem.W.nsIn K mainGlobals "_law_schools_ask" = some (some (.ref f24))) (l24 : K.lookup f24 = some ⟨oc24, od24, .func (PySem.W.fnOf "_law_schools_ask" "_law_schools_ask" (defArgs s_Lschools_ask) (defBody s_Lschools_ask) (defScope s_Lschools_ask) .none kV24 dc24 pm24 an24 cd24 ct24), sl24⟩) (c_24 : PySem.W.codeIn K cd24 "_law_schools_ask" = true) (k24 : PySem.W.keepIn K (.ref f24) = true)
    (a25 : PySem.W.nsIn K mainGlobals "_law_end" = some (some (.ref f25))) (l25 : K.lookup f25 = some ⟨oc25, od25, .func (PySem.W.fnOf "_law_end" "_law_end" (defArgs s_Lend) (defBody s_Lend) (defScope s_Lend) .none kV25 dc25 pm25 an25 cd25 ct25), sl25⟩) (c_25 : PySem.W.codeIn K cd25 "_law_end" = true) (k25 : PySem.W.keepIn K (.ref f25) = true)
    (a26 : PySem.W.nsIn K mainGlobals "_law_passed" = some (some (.ref f26))) (l26 : K.lookup f26 = some ⟨oc26, od26, .func (PySem.W.fnOf "_law_passed" "_law_passed" (defArgs s_Lpassed) (defBody s_Lpassed) (defScope s_Lpassed) .none kV26 dc26 pm26 an26 cd26 ct26), sl26⟩) (c_26 : PySem.W.codeIn K cd26 "_law_passed" = true) (k26 : PySem.W.keepIn K (.ref f26) = true)
    (a27 : PySem.W.nsIn K mainGlobals "_law_passed_by" = some (some (.ref f27))) (l27 : K.lookup f27 = some ⟨oc27, od27, .func (PySem.W.fnOf "_law_passed_by" "_law_passed_by" (defArgs s_Lpassed_by) (defBody s_Lpassed_by) (defScope s_Lpassed_by) .none kV27 dc27 pm27 an27 cd27 ct27), sl27⟩) (c_27 : PySem.W.codeIn K cd27 "_law_passed_by" = true) (k27 : PySem.W.keepIn K (.ref f27) = true)
    (a28 : PySem.W.nsIn K mainGlobals "law" = some (some (.ref f28))) (l28 : K.lookup f28 = some ⟨oc28, od28, .func (PySem.W.fnOf "law" "law" (defArgs s_law) (defBody s_law) (defScope s_law) .none kV28 dc28 pm28 an28 cd28 ct28), sl28⟩) (c_28 : PySem.W.codeIn K cd28 "law" = true) (k28 : PySem.W.keepIn K (.ref f28) = true)
    (z_len : PySem.W.nsIn K mainGlobals "len" = some none)
    (z_int : PySem.W.nsIn K mainGlobals "int" = some none)
    (z_range : PySem.W.nsIn K mainGlobals "range" = some none)
    (z_list : PySem.W.nsIn K mainGlobals "list" = some none)
    (z_tuple : PySem.W.nsIn K mainGlobals "tuple" = some none)
    (z_sorted : PySem.W.nsIn K mainGlobals "sorted" = some none)
    (z_max : PySem.W.nsIn K mainGlobals "max" = some none)
    (z_min : PySem.W.nsIn K mainGlobals "min" = some none)
    (z_abs : PySem.W.nsIn K mainGlobals "abs" = some none)
    (z_isinstance : PySem.W.nsIn K mainGlobals "isinstance" = some none)
    (z_enumerate : PySem.W.nsIn K mainGlobals "enumerate" = some none)
    (z_str : PySem.W.nsIn K mainGlobals "str" = some none)
    (z_bool : PySem.W.nsIn K mainGlobals "bool" = some none)
    (m1 : K.lookup c1 = some ⟨.type "code", oda, .fields va, sla⟩) (m11 : va[11]? = some (.ref tb1)) (m13 : va.getD 18 .none = .str fi1 tf1) (m14 : va.getD 7 .none = .int fl1 tg1) (m15 : va.getD 9 .none = .bool in1) (m16 : va.getD 10 .none = .int te1 tt1) (m17 : (c1 == tb1) = false) (m18 : K.lookup tb1 = none)
    (m2 : K.lookup c2 = some ⟨.type "code", odb, .fields vb, slb⟩) (m21 : vb[11]? = some (.ref tb2)) (m23 : vb.getD 18 .none = .str fi2 tf2) (m24 : vb.getD 7 .none = .int fl2 tg2) (m25 : vb.getD 9 .none = .bool in2) (m26 : vb.getD 10 .none = .int te2 tt2) (m27 : (c2 == tb2) = false) (m28 : K.lookup tb2 = none)
    (hne : (tb1 == tb2) = false) : LamX.LawAtS l w K CX0 65 63 "_law_script" mg fa h := by
  have e := hfa.symm.trans (PySem.W.mg_of X G a28)
  cases e
  have hne' : tb1 ≠ tb2 := fun z => by rw [z] at hne; simp at hne
  have F1 := fun_mk (st := s_pupils_deal) l1 c_1 k1
  have b1 := F1.binds (ps := ["book"]) fun _ _ _ _ _ _ us hl => match us, hl with | [_], _ => rfl
  have g1 := PySem.W.mg_of X G a1
  have F2 := fun_mk (st := s_schools_deal) l2 c_2 k2
  have b2 := F2.binds (ps := ["book"]) fun _ _ _ _ _ _ us hl => match us, hl with | [_], _ => rfl
  have g2 := PySem.W.mg_of X G a2
  have F3 := fun_mk (st := s_refused_asked) l3 c_3 k3
  have b3 := F3.binds (ps := ["book"]) fun _ _ _ _ _ _ us hl => match us, hl with | [_], _ => rfl
  have g3 := PySem.W.mg_of X G a3
  have F4 := fun_mk (st := s_refused_asking) l4 c_4 k4
  have b4 := F4.binds (ps := ["book"]) fun _ _ _ _ _ _ us hl => match us, hl with | [_], _ => rfl
  have g4 := PySem.W.mg_of X G a4
  have F5 := fun_mk (st := s_pupils_ask) l5 c_5 k5
  have b5 := F5.binds (ps := ["book"]) fun _ _ _ _ _ _ us hl => match us, hl with | [_], _ => rfl
  have g5 := PySem.W.mg_of X G a5
  have F6 := fun_mk (st := s_least_of) l6 c_6 k6
  have b6 := F6.binds (ps := ["roll", "pupils"]) fun _ _ _ _ _ _ us hl => match us, hl with | [_, _], _ => rfl
  have g6 := PySem.W.mg_of X G a6
  have F7 := fun_mk (st := s_schools_ask) l7 c_7 k7
  have b7 := F7.binds (ps := ["book"]) fun _ _ _ _ _ _ us hl => match us, hl with | [_], _ => rfl
  have g7 := PySem.W.mg_of X G a7
  have F8 := fun_mk (st := s_best_of) l8 c_8 k8
  have b8 := F8.binds (ps := ["wish", "schools"]) fun _ _ _ _ _ _ us hl => match us, hl with | [_, _], _ => rfl
  have g8 := PySem.W.mg_of X G a8
  have F9 := fun_mk (st := s_Ldice) l9 c_9 k9
  have b9 := F9.binds (ps := ["_law_script"]) fun _ _ _ _ _ _ us hl => match us, hl with | [_], _ => rfl
  have g9 := PySem.W.mg_of X G a9
  have F10 := fun_mk (st := s_Ltake) l10 c_10 k10
  have b10 := F10.binds (ps := ["_law_dice_here", "_law_many"]) fun _ _ _ _ _ _ us hl => match us, hl with | [_, _], _ => rfl
  have g10 := PySem.W.mg_of X G a10
  have F11 := fun_mk (st := s_Lshuffled) l11 c_11 k11
  have b11 := F11.binds (ps := ["_law_dice_here", "_law_things"]) fun _ _ _ _ _ _ us hl => match us, hl with | [_, _], _ => rfl
  have g11 := PySem.W.mg_of X G a11
  have F12 := fun_mk (st := s_Lbegun) l12 c_12 k12
  have b12 := F12.binds (ps := ["_law_dice_here"]) fun _ _ _ _ _ _ us hl => match us, hl with | [_], _ => rfl
  have g12 := PySem.W.mg_of X G a12
  have F13 := fun_mk (st := s_Lbent) l13 c_13 k13
  have b13 := F13.binds (ps := ["_law_dice_here", "_law_wishes", "_law_rolls"]) fun _ _ _ _ _ _ us hl => match us, hl with | [_, _, _], _ => rfl
  have g13 := PySem.W.mg_of X G a13
  have F14 := fun_mk (st := s_Loffice) l14 c_14 k14
  have b14 := F14.binds (ps := ["_law_dice_here"]) fun _ _ _ _ _ _ us hl => match us, hl with | [_], _ => rfl
  have g14 := PySem.W.mg_of X G a14
  have F15 := fun_mk (st := s_Lrows) l15 c_15 k15
  have b15 := F15.binds (ps := ["_law_office_here"]) fun _ _ _ _ _ _ us hl => match us, hl with | [_], _ => rfl
  have g15 := PySem.W.mg_of X G a15
  have F16 := fun_mk (st := s_Lbars) l16 c_16 k16
  have b16 := F16.binds (ps := ["_law_office_here", "_law_row"]) fun _ _ _ _ _ _ us hl => match us, hl with | [_, _], _ => rfl
  have g16 := PySem.W.mg_of X G a16
  have F17 := fun_mk (st := s_Lclaims) l17 c_17 k17
  have b17 := F17.binds (ps := ["_law_office_here", "_law_row"]) fun _ _ _ _ _ _ us hl => match us, hl with | [_, _], _ => rfl
  have g17 := PySem.W.mg_of X G a17
  have F18 := fun_mk (st := s_Lplain_rows) l18 c_18 k18
  have b18 := F18.binds (ps := ["_law_office_here"]) fun _ _ _ _ _ _ us hl => match us, hl with | [_], _ => rfl
  have g18 := PySem.W.mg_of X G a18
  have F19 := fun_mk (st := s_Ltold) l19 c_19 k19
  have b19 := F19.binds (ps := ["_law_row"]) fun _ _ _ _ _ _ us hl => match us, hl with | [_], _ => rfl
  have g19 := PySem.W.mg_of X G a19
  have F20 := fun_mk (st := s_Lspot) l20 c_20 k20
  have b20 := F20.binds (ps := ["_law_office_here", "_law_a", "_law_b"]) fun _ _ _ _ _ _ us hl => match us, hl with | [_, _, _], _ => rfl
  have g20 := PySem.W.mg_of X G a20
  have F21 := fun_mk (st := s_Lsame) l21 c_21 k21
  have b21 := F21.binds (ps := ["_law_told_here", "_law_due"]) fun _ _ _ _ _ _ us hl => match us, hl with | [_, _], _ => rfl
  have g21 := PySem.W.mg_of X G a21
  have F22 := fun_mk (st := s_Llarge) l22 c_22 k22
  have b22 := F22.binds (ps := ["_law_dice_here"]) fun _ _ _ _ _ _ us hl => match us, hl with | [_], _ => rfl
  have g22 := PySem.W.mg_of X G a22
  have F23 := fun_mk (st := s_Lpupils_ask) l23 c_23 k23
  have b23 := F23.binds (ps := ["_law_dice_here", "_law_office_here"]) fun _ _ _ _ _ _ us hl => match us, hl with | [_, _], _ => rfl
  have g23 := PySem.W.mg_of X G a23
  have F24 := fun_mk (st := s_Lschools_ask) l24 c_24 k24
  have b24 := F24.binds (ps := ["_law_dice_here", "_law_office_here"]) fun _ _ _ _ _ _ us hl => match us, hl with | [_, _], _ => rfl
  have g24 := PySem.W.mg_of X G a24
  have F25 := fun_mk (st := s_Lend) l25 c_25 k25
  have b25 := F25.binds (ps := ["_law_office_here", "_law_rows_here", "_law_best"]) fun _ _ _ _ _ _ us hl => match us, hl with | [_, _, _], _ => rfl
  have g25 := PySem.W.mg_of X G a25
  have F26 := fun_mk (st := s_Lpassed) l26 c_26 k26
  have b26 := F26.binds (ps := ["_law_office_here", "_law_row"]) fun _ _ _ _ _ _ us hl => match us, hl with | [_, _], _ => rfl
  have g26 := PySem.W.mg_of X G a26
  have F27 := fun_mk (st := s_Lpassed_by) l27 c_27 k27
  have b27 := F27.binds (ps := ["_law_office_here", "_law_row"]) fun _ _ _ _ _ _ us hl => match us, hl with | [_, _], _ => rfl
  have g27 := PySem.W.mg_of X G a27
  have F28 := fun_mk (st := s_law) l28 c_28 k28
  have B : Bt mg := ⟨PySem.W.mg_none_of X G z_len, PySem.W.mg_none_of X G z_int, PySem.W.mg_none_of X G z_range, PySem.W.mg_none_of X G z_list, PySem.W.mg_none_of X G z_tuple, PySem.W.mg_none_of X G z_sorted, PySem.W.mg_none_of X G z_max, PySem.W.mg_none_of X G z_min, PySem.W.mg_none_of X G z_abs, PySem.W.mg_none_of X G z_isinstance, PySem.W.mg_none_of X G z_enumerate, PySem.W.mg_none_of X G z_str, PySem.W.mg_none_of X G z_bool⟩
  obtain ⟨T, eT⟩ : ∃ T : Tb, T = [(tb1, ("_least_of.<locals>.<lambda>" : Str)), (tb2, ("_best_of.<locals>.<lambda>" : Str))] := ⟨_, rfl⟩
  have kb1 : KBinds K (PySem.W.fnOf "pupils_deal" "pupils_deal" (defArgs s_pupils_deal) (defBody s_pupils_deal) (defScope s_pupils_deal) .none kV1 dc1 pm1 an1 cd1 ct1) ["book"] ["book"] (fun us ws => us ++ ws) (fun vs zs => vs ++ zs) := kb_one (fun _ _ => .of_eq rfl) (fun _ _ => .of_eq rfl)
  have kb2 : KBinds K (PySem.W.fnOf "schools_deal" "schools_deal" (defArgs s_schools_deal) (defBody s_schools_deal) (defScope s_schools_deal) .none kV2 dc2 pm2 an2 cd2 ct2) ["book"] ["book"] (fun us ws => us ++ ws) (fun vs zs => vs ++ zs) := kb_one (fun _ _ => .of_eq rfl) (fun _ _ => .of_eq rfl)
  have kb3 : KBinds K (PySem.W.fnOf "refused_asked" "refused_asked" (defArgs s_refused_asked) (defBody s_refused_asked) (defScope s_refused_asked) .none kV3 dc3 pm3 an3 cd3 ct3) ["book"] ["book"] (fun us ws => us ++ ws) (fun vs zs => vs ++ zs) := kb_one (fun _ _ => .of_eq rfl) (fun _ _ => .of_eq rfl)
  have kb4 : KBinds K (PySem.W.fnOf "refused_asking" "refused_asking" (defArgs s_refused_asking) (defBody s_refused_asking) (defScope s_refused_asking) .none kV4 dc4 pm4 an4 cd4 ct4) ["book"] ["book"] (fun us ws => us ++ ws) (fun vs zs => vs ++ zs) := kb_one (fun _ _ => .of_eq rfl) (fun _ _ => .of_eq rfl)
  refine ⟨PySem.W.fnOf "law" "law" (defArgs s_law) (defBody s_law) (defScope s_law) .none kV28 dc28 pm28 an28 cd28 ct28, [(c1, tb1), (c2, tb2)], spLaw K T, ?_, ?_, ?_, fun _ _ => .of_eq rfl, ?_, ?_⟩
  · intro p hp
    simp only [List.mem_cons, List.not_mem_nil, or_false] at hp
    rcases hp with rfl | rfl
    · exact tabs tb1 (by simp)
    · exact tabs tb2 (by simp)
  · intro p hp
    simp only [List.mem_cons, List.not_mem_nil, or_false] at hp
    rcases hp with rfl | rfl
    · exact m18
    · exact m28
  · intro p hp
    simp only [List.mem_cons, List.not_mem_nil, or_false] at hp
    rcases hp with rfl | rfl
    · exact ⟨_, va, fi1, tf1, fl1, tg1, in1, te1, tt1, X _ _ m1, rfl, rfl, m11, by rw [Array.getD_eq_getD_getElem?, m11]; rfl, m13, m14, m15, m16, fun z => by have z : c1 = tb1 := z; rw [z] at m17; simp at m17⟩
    · exact ⟨_, vb, fi2, tf2, fl2, tg2, in2, te2, tt2, X _ _ m2, rfl, rfl, m21, by rw [Array.getD_eq_getD_getElem?, m21]; rfl, m23, m24, m25, m26, fun z => by have z : c2 = tb2 := z; rw [z] at m27; simp at m27⟩
  · intro H a ns hl _ htb hS
    refine ⟨a, ns, rfl, hS, hl, fun q hq => ?_, fun _ => rfl⟩
    rw [eT] at hq
    simp only [List.mem_cons, List.not_mem_nil, or_false] at hq
    rcases hq with rfl | rfl
    · exact tabS_nil (htb (c1, tb1) (by simp))
    · exact tabS_nil (htb (c2, tb2) (by simp))
  · intro base _ _ TB
    have hT1 : (tb1, ("_least_of.<locals>.<lambda>" : Str)) ∈ T := by rw [eT]; simp
    have hT2 : (tb2, ("_best_of.<locals>.<lambda>" : Str)) ∈ T := by rw [eT]; simp
    have hu1 : ∀ q ∈ T, q.1 = tb1 → q.2 = ("_least_of.<locals>.<lambda>" : Str) := fun q hq e => by
      rw [eT] at hq
      simp only [List.mem_cons, List.not_mem_nil, or_false] at hq
      rcases hq with rfl | rfl
      · rfl
      · exact absurd e.symm hne'
    have hu2 : ∀ q ∈ T, q.1 = tb2 → q.2 = ("_best_of.<locals>.<lambda>" : Str) := fun q hq e => by
      rw [eT] at hq
      simp only [List.mem_cons, List.not_mem_nil, or_false] at hq
      rcases hq with rfl | rfl
      · exact absurd e hne'
      · rfl
    have TB1 := TB (c1, tb1) (by simp)
    have TB2 := TB (c2, tb2) (by simp)
    have least := ok_least (P := l.prog) (w := w) (base := base) (T := T) (k := 60) l6 c_6 B TB1 hT1 hu1
    have first := ok_first (P := l.prog) (w := w) (base := base) (T := T) (k := 60) l8 c_8 B TB2 hT2 hu2
    have pask := ok_pask (P := l.prog) (w := w) (base := base) (T := T) (k := 62) F5 B least g6 k6 b6
    have sask := ok_sask (P := l.prog) (w := w) (base := base) (T := T) (k := 62) F7 B first g8 k8 b8
    have pd := ok_pupils_deal (P := l.prog) (w := w) (base := base) (T := T) (k := 63) F1 pask g5 k5 b5
    have sd := ok_schools_deal (P := l.prog) (w := w) (base := base) (T := T) (k := 63) F2 sask g7 k7 b7
    have ra := ok_refused_asked (P := l.prog) (w := w) (base := base) (T := T) (k := 63) F3 pask g5 k5 b5
    have rg := ok_refused_asking (P := l.prog) (w := w) (base := base) (T := T) (k := 63) F4 sask g7 k7 b7
    have tk : ∀ j, FnOk l.prog w K mg base CX0 (j + 1) _ _ _ _ := fun j => ok_take (P := l.prog) (w := w) (base := base) (T := T) (k := j) F10 B
    have sh : ∀ j, FnOk l.prog w K mg base CX0 (j + 1 + 1) _ _ _ _ := fun j => ok_shuf (P := l.prog) (w := w) (base := base) (T := T) (k := j + 1) F11 B (tk j) g10 k10 b10
    have begun := ok_begun (P := l.prog) (w := w) (base := base) (T := T) (k := 62) F12 B (tk 61) g10 k10 b10 (sh 60) g11 k11 b11
    have bent := ok_bent (P := l.prog) (w := w) (base := base) (T := T) (k := 62) F13 B (tk 61) g10 k10 b10
    have office := ok_office (P := l.prog) (w := w) (base := base) (T := T) (k := 63) F14 B (tk 62) g10 k10 b10 (sh 61) g11 k11 b11 begun g12 k12 b12 bent g13 k13 b13
    have large := ok_large (P := l.prog) (w := w) (base := base) (T := T) (k := 63) F22 B (tk 62) g10 k10 b10 (sh 61) g11 k11 b11
    have spot := ok_spot (P := l.prog) (w := w) (base := base) (k := 62) F20 B
    have bars : ∀ j, FnOk l.prog w K mg base CX0 (j + 1) _ _ _ _ := fun j => ok_bars (P := l.prog) (w := w) (base := base) (T := T) (k := j) F16 B
    have claims := ok_claims (P := l.prog) (w := w) (base := base) (T := T) (k := 62) F17 B (bars 61) g16 k16 b16
    have rows := ok_rows (P := l.prog) (w := w) (base := base) (T := T) (k := 62) F15 B
    have plain := ok_plain (P := l.prog) (w := w) (base := base) (T := T) (k := 63) F18 B rows g15 k15 b15 claims g17 k17 b17
    have ende := ok_end (P := l.prog) (w := w) (base := base) (T := T) (k := 63) F25 B spot g20 k20 b20
    have passed := ok_passed (P := l.prog) (w := w) (base := base) (T := T) (k := 63) F26 B spot g20 k20 b20
    have passby := ok_passed_by (P := l.prog) (w := w) (base := base) (T := T) (k := 63) F27 B (bars 62) g16 k16 b16
    have lp := ok_Lpask (P := l.prog) (w := w) (base := base) (T := T) (k := 63) F23 B (tk 62) g10 k10 b10
    have ls := ok_Lsask (P := l.prog) (w := w) (base := base) (T := T) (k := 63) F24 B (tk 62) g10 k10 b10 spot g20 k20 b20
    have dice := ok_dice (P := l.prog) (w := w) (base := base) (T := T) (k := 63) F9 B
    have told := ok_told (P := l.prog) (w := w) (base := base) (T := T) (k := 63) F19 B
    have same0 := ok_same0 (P := l.prog) (w := w) (base := base) (k := 61) F21 B g21 k21 b21
    have same1 := ok_sameS (P := l.prog) (w := w) (base := base) (k := 62) F21 B g21 k21 b21 same0
    have same2 := ok_sameS (P := l.prog) (w := w) (base := base) (k := 63) F21 B g21 k21 b21 same1
    exact ok_law (k := 64) F28 B dice g9 k9 b9 (tk 63) g10 k10 b10 large g22 k22 b22 lp g23 k23 b23 ls g24 k24 b24 office g14 k14 b14 plain g18 k18 b18 ende g25 k25 b25 passed g26 k26 b26 passby g27 k27 b27 same2 g21 k21 b21 told g19 k19 b19 pd g1 k1 b1 kb1 sd g2 k2 b2 kb2 ra g3 k3 b3 kb3 rg g4 k4 b4 kb4
end Z
open PySem PySem.W PySem.Spec PyProof.Rows L2
set_option maxRecDepth 100000 in
set_option maxHeartbeats 0 in
theorem PySem.Challenge.cw_idleclaims_k06_whole_asking_either_way_holds : PySem.Challenge.rw_idleclaims_k06_whole_asking_either_way.Holds := by
  w_on; o_law; k_head; (case hw => w_witness2)
  k_fill
  refine LamX.walk_ofTs (l := PySem.Challenge.rw_idleclaims_k06_whole_asking_either_way) (n := 63) (k := 65) (x := "_law_script") (CX := fun _ => CX0) rfl (by decide) rfl ⟨rfl, by decide, by decide⟩ (fun w h Y => PySem.W.km_in_of Y) ?F (fun _ _ _ _ _ z => z)
  case F =>
    intro w mg fa h Y KX G hmg
    have tabs := PySem.W.km_tabs_of Y
    refine' Z.all_mk (tb1 := 49) (tb2 := 61) KX G hmg (fun P hP => tabs P (by simp only [List.mem_cons, List.not_mem_nil, or_false] at hP ⊢; exact hP.symm)) ?a1 ?l1 ?c_1 ?k1 ?a2 ?l2 ?c_2 ?k2 ?a3 ?l3 ?c_3 ?k3 ?a4 ?l4 ?c_4 ?k4 ?a5 ?l5 ?c_5 ?k5 ?a6 ?l6 ?c_6 ?k6 ?a7 ?l7 ?c_7 ?k7 ?a8 ?l8 ?c_8 ?k8 ?a9 ?l9 ?c_9 ?k9 ?a10 ?l10 ?c_10 ?k10 ?a11 ?l11 ?c_11 ?k11 ?a12 ?l12 ?c_12 ?k12 ?a13 ?l13 ?c_13 ?k13 ?a14 ?l14 ?c_14 ?k14 ?a15 ?l15 ?c_15 ?k15 ?a16 ?l16 ?c_16 ?k16 ?a17 ?l17 ?c_17 ?k17 ?a18 ?l18 ?c_18 ?k18 ?a19 ?l19 ?c_19 ?k19 ?a20 ?l20 ?c_20 ?k20 ?a21 ?l21 ?c_21 ?k21 ?a22 ?l22 ?c_22 ?k22 ?a23 ?l23 ?c_23 ?k23 ?a24 ?l24 ?c_24 ?k24 ?a25 ?l25 ?c_25 ?k25 ?a26 ?l26 ?c_26 ?k26 ?a27 ?l27 ?c_27 ?k27 ?a28 ?l28 ?c_28 ?k28 ?z_len ?z_int ?z_range ?z_list ?z_tuple ?z_sorted ?z_max ?z_min ?z_abs ?z_isinstance ?z_enumerate ?z_str ?z_bool ?m1 ?m11 ?m13 ?m14 ?m15 ?m16 ?m17 ?m18 ?m2 ?m21 ?m23 ?m24 ?m25 ?m26 ?m27 ?m28 ?hne
    (case a1 => k_is)
    (case l1 => k_is)
    (case c_1 => k_is)
    (case k1 => k_is)
    (case a2 => k_is)
    (case l2 => k_is)
    (case c_2 => k_is)
    (case k2 => k_is)
    (case a3 => k_is)
    (case l3 => k_is)
    (case c_3 => k_is)
    (case k3 => k_is)
    (case a4 => k_is)
    (case l4 => k_is)
    (case c_4 => k_is)
    (case k4 => k_is)
    (case a5 => k_is)
    (case l5 => k_is)
    (case c_5 => k_is)
    (case k5 => k_is)
    (case a6 => k_is)
    (case l6 => k_is)
    (case c_6 => k_is)
    (case k6 => k_is)
    (case a7 => k_is)
    (case l7 => k_is)
    (case c_7 => k_is)
    (case k7 => k_is)
    (case a8 => k_is)
    (case l8 => k_is)
    (case c_8 => k_is)
    (case k8 => k_is)
    (case a9 => k_is)
    (case l9 => k_is)
    (case c_9 => k_is)
    (case k9 => k_is)
    (case a10 => k_is)
    (case l10 => k_is)
    (case c_10 => k_is)
    (case k10 => k_is)
    (case a11 => k_is)
    (case l11 => k_is)
    (case c_11 => k_is)
    (case k11 => k_is)
    (case a12 => k_is)
    (case l12 => k_is)
    (case c_12 => k_is)
    (case k12 => k_is)
    (case a13 => k_is)
    (case l13 => k_is)
    (case c_13 => k_is)
    (case k13 => k_is)
    (case a14 => k_is)
    (case l14 => k_is)
    (case c_14 => k_is)
    (case k14 => k_is)
    (case a15 => k_is)
    (case l15 => k_is)
    (case c_15 => k_is)
    (case k15 => k_is)
    (case a16 => k_is)
    (case l16 => k_is)
    (case c_16 => k_is)
    (case k16 => k_is)
    (case a17 => k_is)
    (case l17 => k_is)
    (case c_17 => k_is)
    (case k17 => k_is)
    (case a18 => k_is)
    (case l18 => k_is)
    (case c_18 => k_is)
    (case k18 => k_is)
    (case a19 => k_is)
    (case l19 => k_is)
    (case c_19 => k_is)
    (case k19 => k_is)
    (case a20 => k_is)
    (case l20 => k_is)
    (case c_20 => k_is)
    (case k20 => k_is)
    (case a21 => k_is)
    (case l21 => k_is)
    (case c_21 => k_is)
    (case k21 => k_is)
    (case a22 => k_is)
    (case l22 => k_is)
    (case c_22 => k_is)
    (case k22 => k_is)
    (case a23 => k_is)
    (case l23 => k_is)
    (case c_23 => k_is)
    (case k23 => k_is)
    (case a24 => k_is)
    (case l24 => k_is)
    (case c_24 => k_is)
    (case k24 => k_is)
    (case a25 => k_is)
    (case l25 => k_is)
    (case c_25 => k_is)
    (case k25 => k_is)
    (case a26 => k_is)
    (case l26 => k_is)
    (case c_26 => k_is)
    (case k26 => k_is)
    (case a27 => k_is)
    (case l27 => k_is)
    (case c_27 => k_is)
    (case k27 => k_is)
    (case a28 => k_is)
    (case l28 => k_is)
    (case c_28 => k_is)
    (case k28 => k_is)
    (case z_len => k_is)
    (case z_int => k_is)
    (case z_range => k_is)
    (case z_list => k_is)
    (case z_tuple => k_is)
    (case z_sorted => k_is)
    (case z_max => k_is)
    (case z_min => k_is)
    (case z_abs => k_is)
    (case z_isinstance => k_is)
    (case z_enumerate => k_is)
    (case z_str => k_is)
    (case z_bool => k_is)
    (case m1 => first | k_is | rfl | decide)
    (case m11 => first | k_is | rfl | decide)
    (case m13 => first | k_is | rfl | decide)
    (case m14 => first | k_is | rfl | decide)
    (case m15 => first | k_is | rfl | decide)
    (case m16 => first | k_is | rfl | decide)
    (case m17 => first | k_is | rfl | decide)
    (case m18 => first | k_is | rfl | decide)
    (case m2 => first | k_is | rfl | decide)
    (case m21 => first | k_is | rfl | decide)
    (case m23 => first | k_is | rfl | decide)
    (case m24 => first | k_is | rfl | decide)
    (case m25 => first | k_is | rfl | decide)
    (case m26 => first | k_is | rfl | decide)
    (case m27 => first | k_is | rfl | decide)
    (case m28 => first | k_is | rfl | decide)
    (case hne => decide)
