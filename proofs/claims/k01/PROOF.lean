import PyProof.Rows.All
import Wide.All
import OpenK.AllK
import Wide.FinOn
import HandS.ForMost
import HandS.Walk
import HandS.Zip
import HandS.IsInst
import HandS.Wide
import HandS.TupAny
import HandS.TupMul
import HandS.SetFor
import PyProof.Draws
import KE.GoesMore
import KE.GoesEnum
import HandS.EndBits
import HandS.Flow
import HandS.Lambda
import HandS.TupLen
import HandS.Conv
import KE.KeyNested
import KE.KDictDisplayH
import HandS.EndTab
import HandS.Defaults
import HandS.Codes
import HandS.ExcInit
import HandS.ExcField
import HandS.TryMany
import HandS.ExcOwn
import HandS.WordsExc
import HandS.ExcIs
import HandS.CallLocal
import HandS.SortInts
import HandS.Deep
import KE.KTupSum
import KE.KItemsList
import HandS.Style
import HandS.MakeKwOnly
import KE.KRevSl
import KE.KExcInit
import HandS.SortKw
import HandS.Text
import HandS.RaiseMore
import KE.KStateDown
import HandS.Head0
import HandS.Head1
import HandS.Head2
import HandS.HeadEnd
import HandS.HeadHook1
import HandS.HeadHook2
import HandS.HeadHook3
import HandS.HeadHook4
import HandS.HeadWalk
import PySem.Challenge.RW_hidelater_k01_sizes_judged
set_option Elab.async false
set_option linter.all false
set_option maxRecDepth 100000
set_option maxHeartbeats 4000000
/-! Tuples that are known to have no dict of their own; enumerate of a tuple; xs[i] op= e; t.count(k). -/
namespace TF
open PySem PySem.Spec PyProof.Rows L2
/-- a new tuple of xs, known to the object -/
def NewT (xs : List V) (H : Hp) (Q : VK) : Prop := ∀ (p : Addr) (o : Obj), H p = none → o.dict = none → Q (.ref p) (upd H p (.frz o (.tup xs)))
section
variable {X : Cx} {pins : List (Addr × Obj)} {σ : L2.St} {H : Hp} {s : Shared} {Q : VK}
theorem laidT {xs : List V} {us : List Value} {g : Heap} {tk : Nat} (J : Inv X pins σ H { s with heap := g }) (rel : Vals xs us) (small : xs.length ≤ sizeLine) (goal : NewT xs H Q) :
    EP X pins σ Q (.ref g.objs.size) { s with heap := g.push { cls := .type "tuple", data := .seq us.toArray }, toks := tk } := by
  have got : (g.push { cls := .type "tuple", data := .seq us.toArray }).get? g.objs.size = some { cls := .type "tuple", data := .seq us.toArray } := Heap.get?_push_size _ rfl
  refine ⟨.ref g.objs.size, upd H g.objs.size (.frz { cls := .type "tuple", data := .seq us.toArray } (.tup xs)), ?_, rfl, goal _ _ (J.hok.fresh (Nat.le_refl _)) rfl⟩
  exact J.laid (t' := tk) (fun _ _ old => Heap.get?_push_of_some _ old) (Nat.le_refl _) ⟨got, small, us, rel, _, got, rfl, _, rfl⟩
end
section
variable {X : Cx} {es : List Expr} {t : TA} {pos : Pos}
def tTupF (t : TA) : TE := fun σ H Q => t σ H fun xs H1 => xs.length ≤ sizeLine ∧ NewT xs H1 Q
theorem pe_tupF {x1} (h : PA X es t) : PE X (.Tuple es x1 pos) (tTupF t) :=
  ⟨fun pins s σ H Q I hq => wpAny_Tuple_spliced (thn (h.run pos pins s σ H _ I hq) fun us s1 ⟨xs, H1, I1, r, z, q⟩ => ⟨r.length ▸ z, laidT (tk := s1.toks) I1 r z q⟩)⟩
/-- tuple(list), tuple(tuple) -/
def rTupleF (K : PySem.W.Frag) : List V → Hp → VK → Prop := fun xs H Q => ∃ p ys, xs = [.ref p] ∧ ((SqL K H p ys ∧ NewT ys H Q) ∨ (SqT K H p ys ∧ Q (.ref p) H))
theorem call_tupleF : CallR X (.type "tuple") (rTupleF X.K) := fun pins s σ H xs us Q I r ⟨p, ys, e, h⟩ => by
  subst e
  obtain ⟨u, rfl, ru⟩ := vals1 r
  obtain rfl : u = Value.ref p := ru
  rcases h with ⟨isl, q⟩ | ⟨ist, q⟩
  · obtain ⟨its, rel, pl, small⟩ := I.list isl
    exact call_tuple_list pl.isList (fun g kept => laidT (tk := s.toks) (I.kept (t' := s.toks) kept) rel small q) (by rw [List.size_toArray, ← rel.length]; exact small)
  · obtain ⟨its, rel, pt, _⟩ := I.tuple ist
    exact call_tuple_same pt ⟨.ref p, H, I, rfl, q⟩
/-- t + u -/
def rCatF (K : PySem.W.Frag) : R2 := fun x y H Q => ∃ a c xs ys, x = .ref a ∧ y = .ref c ∧ SqT K H a xs ∧ SqT K H c ys ∧ xs.length + ys.length ≤ sizeLine ∧ (xs = [] → Q (.ref c) H) ∧ (xs ≠ [] → ys = [] → Q (.ref a) H) ∧ (xs ≠ [] → ys ≠ [] → NewT (xs ++ ys) H Q)
theorem op_catF : OpR X (binaryOp .Add) (rCatF X.K) := fun pins s σ H x y v u Q I rx ry ⟨a, c, xs, ys, ex, ey, ha, hc, small, q0, q1, q2⟩ => by
  subst ex ey
  obtain rfl : v = Value.ref a := rx
  obtain rfl : u = Value.ref c := ry
  obtain ⟨vs, rel1, pt1, _⟩ := I.tuple ha
  obtain ⟨ws, rel2, pt2, _⟩ := I.tuple hc
  by_cases hx : xs = []
  · subst hx
    cases rel1
    exact cat_tup0 pt1 pt2 ⟨.ref c, H, I, rfl, q0 rfl⟩
  · have n1 := rel1.nil_iff
    have n2 := rel2.nil_iff
    exact HT.cat_tup pt1 pt2 (fun z => hx (n1.mp z)) (fun z => ⟨.ref a, H, I, rfl, q1 hx (n2.mp z)⟩) (fun z => laidT (tk := s.toks) I (rel1.append rel2) (by rw [List.length_append]; exact small) (q2 hx fun zz => z (n2.mpr zz))) (by rw [← rel1.length, ← rel2.length]; exact small)
/-- t[lo:hi] -/
def rSlF (K : PySem.W.Frag) : V → Option Int → Option Int → Hp → VK → Prop := fun x lo hi H Q => ∃ a xs, x = .ref a ∧ SqT K H a xs ∧
  (HT.sIx xs.length 0 lo = 0 ∧ HT.sIx xs.length xs.length hi = xs.length → Q (.ref a) H) ∧ (¬ (HT.sIx xs.length 0 lo = 0 ∧ HT.sIx xs.length xs.length hi = xs.length) → NewT (cutV xs lo hi) H Q)
theorem sl_tupF : SlR X (rSlF X.K) := fun pins s σ H x v vl vu lo hi sl Q I rx hs pl pu ⟨a, xs, ex, ha, q1, q2⟩ => by
  subst ex
  obtain rfl : v = Value.ref a := rx
  obtain ⟨vs, rel, pt, small⟩ := I.tuple ha
  have size : vs.toArray.size = xs.length := by rw [List.size_toArray, rel.length]
  refine ⟨"tuple", _, PyProof.Rows.slot_tuple_getitem.lookup, pt.typeIs, ?_⟩
  by_cases hw : HT.sIx xs.length 0 lo = 0 ∧ HT.sIx xs.length xs.length hi = xs.length
  · exact getItem_tuple_whole pt hs pl pu (by rw [size]; exact hw) ⟨.ref a, H, I, rfl, q1 hw⟩
  · refine HT.getItem_tuple_cut pt hs pl pu (by rw [size]; exact hw) ?_ (by rw [size]; exact small)
    rw [size]
    exact laidT (tk := s.toks) I ((rel.drop _).take _) (Nat.le_trans (cutV_length xs lo hi) small) (q2 hw)
end
/-! ### xs[i] op= e -/
section
variable {X : Cx}
def rGetL (K : PySem.W.Frag) : V → V → Hp → VK → Prop := fun o i H Q => ∃ p xs k v, o = .ref p ∧ i = .int k ∧ SqL K H p xs ∧ 0 ≤ k ∧ xs[k.toNat]? = some v ∧ Q v H
theorem get_list : PGet X (rGetL X.K) := fun pins s σ H o i ov iv Q I ro ri ⟨p, xs, k, v, eo, ei, hl, k0, hv, q⟩ => by
  subst eo ei
  obtain rfl : ov = Value.ref p := ro
  obtain ⟨tk, rfl⟩ := ri
  obtain ⟨us, rel, pl, small⟩ := I.list hl
  obtain ⟨u, hu, ru⟩ := rel.get hv
  have lt : k.toNat < xs.length := (List.getElem?_eq_some_iff.mp hv).1
  have big := line63
  exact wpAny_getItem_list pl.isList k0 (by omega) (by simpa using hu) ⟨v, H, I, ru, q⟩
end
/-! ### t.count(k) -/
section
variable {X : Cx} {o e : Expr} {to te : TE} {apos cpos : Pos}
/-- the object at a has no dict of its own -/
def Nd (K : PySem.W.Frag) (H : Hp) (a : Addr) : Prop := (∃ ob u, H a = some (.frz ob u) ∧ ob.dict = none) ∨ ∃ o, K.lookup a = some o ∧ o.dict = none
def tCount (K : PySem.W.Frag) (to te : TE) : TE := fun σ H Q => to σ H fun x H1 => ∃ (a : Addr) (ns : List Int), x = .ref a ∧ SqT K H1 a (ns.map V.int) ∧ Nd K H1 a ∧
  tCons te tNil σ H1 fun ys H2 => ∃ k : Int, ys = [.int k] ∧ SqT K H2 a (ns.map V.int) ∧ Q (.int (ns.count k : Nat)) H2
theorem count_T {pins : List (Addr × Obj)} {σ : L2.St} {H : Hp} {s : Shared} {a : Addr} {ns : List Int} {k : Int} {tk : Tok} {Q : VK} (I : Inv X pins σ H s) (ha : SqT X.K H a (ns.map V.int)) (q : Q (.int (ns.count k : Nat)) H) :
    wpAny (model X.prog X.w) X.A (call (.builtin "tuple.count") [.ref a, .int k tk]) (EP X pins σ Q) X.xe s := by
  obtain ⟨us, rel, ⟨⟨c, dd, dt, sl⟩, got', cls, n, dat⟩, _⟩ := I.tuple ha
  simp only at cls dat
  subst cls dat
  have isI := ints_of_vals rel
  refine call_meets PySem.F.slot_tuple_count ⟨_, got', rfl⟩ PySem.F.entry_tuple_count (PySem.F.args_tuple_count_2 _ _) (SeqAt.tuple_countAt a us.toArray n dd sl (.int k tk) (eqk k)) ⟨got', fun y hy => (eqk_gives isI y (by simpa using hy)).at _ _, ?_⟩
  have cnt : us.toArray.toList.countP (eqk k) = ns.count k := eqk_count isI
  rw [cnt]
  exact ⟨.int _, H, I.tok _, ⟨_, rfl⟩, q⟩
theorem pe_count (ho : PE X o to) (he : PE X e te) (hbase : attributeBase o "count" X.env (eval o X.env) = eval o X.env := by rfl) (hline : (apos.endLine == cpos.line) = true := by rfl)
    (few : ((backTo cpos (starEach [e] X.env)).all (fun x => !x.1) && (backToKw cpos (keywordEach [] X.env)).all (fun x => x.1.isSome) && decide ([e].length + ([] : List Keyword).length + (if ([] : List Keyword).isEmpty then 0 else 1) < 30)) = true := by rfl)
    (one : starEach [e] X.env = [(false, eval e X.env)] := by rfl) : PE X (.Call (.Attribute o "count" apos) [e] [] cpos) (tCount X.K to te) := by
  refine ⟨fun pins s σ H Q I h => wpAny_Call_method_late hbase few hline rfl (thn (ho.run pins s σ H _ I h) ?_)⟩
  rintro v s1 ⟨x, H1, I1, r1, a, ns, ex, ha, hdn, h1⟩
  subst ex
  obtain rfl : v = Value.ref a := r1
  obtain ⟨us, rel, ⟨o', got', cls, _⟩, _⟩ := I1.tuple ha
  refine ⟨"tuple", "tuple.count", PySem.F.plainAttrs_tuple, PySem.F.slot_tuple_count, PySem.F.type_tuple_count, ⟨o', got', cls⟩, fun b eb => ?_, ?_⟩
  · cases eb
    rcases hdn with ⟨ob, u, hob, hdn⟩ | ⟨ob, hob, hdn⟩
    · obtain ⟨got, _⟩ := I1.hok a _ hob
      exact ⟨ob, got, hdn⟩
    · exact ⟨ob, I1.kIn a ob hob, hdn⟩
  · have args : PA X [e] (tCons te tNil) := pa_cons he pa_nil one
    have run := args.run cpos pins s1 σ H1 (fun xs H2 => ∃ k : Int, xs = [.int k] ∧ SqT X.K H2 a (ns.map V.int) ∧ Q (.int (ns.count k : Nat)) H2) I1 h1
    rw [one] at run ⊢
    refine Calls.callWith_builtin rfl (Calls.evalArgs_plain (thn run ?_))
    rintro ws s2 ⟨xs, H2, I2, r2, k, exs, ha2, q⟩
    subst exs
    obtain ⟨u, rfl, ru⟩ := vals1 r2
    obtain ⟨tk, rfl⟩ := ru
    exact count_T I2 ha2 q
end
/-! ### enumerate(tuple) -/
def IteT (K : PySem.W.Frag) (a : Addr) : It :=
  ⟨fun i H => ∃ (xs : List V) (x : V), SqT K H a xs ∧ xs[i]? = some x, fun i H v H' => ∃ T x, v = .ref T ∧ H T = none ∧ H' = upd H T (.tup [.int (i : Nat), x]) ∧ ∀ xs, SqT K H a xs → xs[i]? = some x, fun i H => ∃ xs : List V, SqT K H a xs ∧ xs.length ≤ i⟩
theorem meets_enum1 {v : Value} {o : Obj} {S : Heap → Prop} (B : Begins v o S) : Meets (Builtin.«enumerate.__new__» ⟨[.type "enumerate", v], []⟩) (fun _ R s => S s.heap ∧
    R (.ok (.ret (.ref (s.heap.push o).objs.size))) { s with heap := (s.heap.push o).push { cls := .type "enumerate", data := .fields #[.none, .bool false, .ref s.heap.objs.size, rawInt 0, .none, .none] } }) :=
  .of_wp fun prog w A R s h => by
    obtain ⟨hp, g, d, tk, os⟩ := s
    obtain ⟨h1, h⟩ := h
    have sub := sub_enumerate
    have begin_ : ∀ {A' : Around} {E : Value → Shared → Prop} {Q : Value → Shared → Prop}, Q (.ref hp.objs.size) ⟨hp.push o, g, d, tk, os⟩ → wpAny (model prog w) A' (pyIter v) Q E ⟨hp, g, d, tk, os⟩ := fun q => B.iter prog w _ _ ⟨hp, g, d, tk, os⟩ _ h1 q
    wp_walk using begin_
    refine wpAny_stack_any fun st => wpAny_pure ?_
    split
    · rename_i c _ _ _ _ _
      cases (c == Value.type "enumerate") <;> (wp_walk using begin_; exact ⟨_, rfl, h⟩)
    · wp_walk using begin_
      exact ⟨_, rfl, h⟩
section
variable {prog : Program} {w : World} {A : Around} {E : Value → Shared → Prop} {s : Shared}
theorem call_enum1 {v : Value} {o : Obj} {S : Heap → Prop} {Q : Value → Shared → Prop} (B : Begins v o S) (h1 : S s.heap)
    (h : ∀ g, IsEnum g (s.heap.objs.size + 1) s.heap.objs.size 0 .none → g.get? s.heap.objs.size = some o → (∀ b u, s.heap.get? b = some u → g.get? b = some u) → Q (.ref (s.heap.objs.size + 1)) { s with heap := g }) :
    wpAny (model prog w) A (call (.type "enumerate") [v]) Q E s := by
  have size : (s.heap.push o).objs.size = s.heap.objs.size + 1 := Heap.size_push ..
  have isE : IsEnum ((s.heap.push o).push { cls := .type "enumerate", data := .fields #[.none, .bool false, .ref s.heap.objs.size, rawInt 0, .none, .none] }) (s.heap.objs.size + 1) s.heap.objs.size 0 .none := by
    have z := Heap.get?_push_size (s.heap.push o) (o := { cls := .type "enumerate", data := .fields #[.none, .bool false, .ref s.heap.objs.size, rawInt 0, .none, .none] }) rfl
    rw [size] at z
    exact z
  refine callType_new F.called_enumerate (by decide) (F.typeCall_enumerate_1 _) (F.newCall_enumerate_1 _) (fun obj => F.args_object_init_2 obj _) F.entry_enumerate_new (meets_enum1 B) ⟨h1, ?_⟩
  show _ ∧ _
  rw [size]
  exact ⟨⟨_, isE, rfl⟩, h _ isE (Heap.get?_push_of_some _ (Heap.get?_push_size _ B.free)) fun b u x => Heap.get?_push_of_some _ (Heap.get?_push_of_some _ x)⟩
end
section
variable {prog : Program} {w : World} {A : Around} {E : Value → Shared → Prop} {s : Shared}
theorem end_enumT {e it a : Addr} {i : Nat} {k : Int} {items : Array Value} {old : Value} {Q : Option Value → Shared → Prop} (calm : A.handled = none) (isE : IsEnum s.heap e it k old) (itr : s.heap.IsTupleIter it a i) (isT : s.heap.IsTuple a items) (out : items[i]? = none)
    (hQ : ∀ g, Heap.ExtBut it s.heap g → Q none { s with heap := g }) : wpAny (model prog w) A (pyNext (.ref e)) Q E s := by
  have ty : s.TypeIs (.ref e) "enumerate" := ⟨_, isE, rfl⟩
  unfold pyNext
  refine wpAny_bind (wpAny_attempt (wpAny_callSpecial?_slot (name := Str.ofString "__next__") ty F.slot_enumerate_next (wpAny_call_entry F.slot_enumerate_next ty F.entry_enumerate_next ?_ (F.args_enumerate_next_1 _))))
  show wpAny _ _ (field (.ref e) 2 >>= _) _ _ _
  refine wpAny_bind (wpAny_field isE rfl (x := .ref it) rfl (wpAny_bind (wpAny_nextOf_tuple_end calm itr isT out ?_)))
  rintro g x kept ⟨o, got, cls⟩
  exact wpAny_bind (wpAny_isInstance (T := "StopIteration") (b := true) ⟨o, got, cls⟩ isSubtype_stop (wpAny_pure (hQ g kept)))
end
theorem turn_enumT {P : Program} {w : World} {K : PySem.W.Frag} {elts : List Expr} {kk : Nat} {tpos : Pos} (a e it : Addr) :
    Turn P w K (.Tuple elts kk tpos) (IteT K a) [e, it] e (fun i h => (∃ old, IsEnum h e it ((i : Nat) : Int) old) ∧ h.IsTupleIter it a i ∧ e ≠ it) where
  mem := List.mem_cons_self
  obj := by
    rintro i h ⟨⟨old, isE⟩, ⟨o, got, _, dat⟩, _⟩ b hb
    rcases List.mem_cons.mp hb with z | z
    · exact ⟨_, z ▸ isE, by intro v q; cases q⟩
    · cases List.mem_singleton.mp z
      exact ⟨o, got, fun v q => by rw [dat] at q; cases q⟩
  keep := by
    rintro i h h' ⟨⟨old, isE⟩, ⟨o, got, r⟩, ne⟩ k
    exact ⟨⟨old, k e List.mem_cons_self _ isE⟩, ⟨o, k it (List.mem_cons_of_mem _ List.mem_cons_self) _ got, r⟩, ne⟩
  item := by
    rintro X rfl rfl rfl calm i pins s σ H E I off ⟨⟨old, isE⟩, itr, ne⟩ ⟨xs, x, isT, hx⟩
    obtain ⟨us, rel, pt, small⟩ := I.tuple isT
    have lt : i < us.toArray.size := by
      rw [List.size_toArray, ← rel.length]
      exact (List.getElem?_eq_some_iff.mp hx).1
    have pt' : s.heap.IsTuple a us.toArray := pt
    obtain ⟨oT, gotT, clsT, _⟩ := id pt'
    obtain ⟨oI, gotI, clsI, _⟩ := id itr
    have nai : a ≠ it := fun z => by
      rw [z, gotI] at gotT
      cases gotT
      rw [clsI] at clsT
      exact absurd (Value.type.inj clsT) (by decide)
    have nea : e ≠ a := fun z => by
      have q : s.heap.get? a = _ := z ▸ isE
      rw [gotT] at q
      rw [Option.some.inj q] at clsT
      exact absurd (Value.type.inj clsT) (by decide)
    refine wpAny_pyNext_enum_itemD (Draws.tuple (A := X.A.in1) (I.ok.hd calm) it a nai us.toArray) isE ⟨itr, pt'⟩ lt ne (fun hm => ?_) fun u h1 tk hu out st1 gotN size kept => ?_
    · rcases List.mem_cons.mp hm with z | z
      · exact ne z
      · exact nea (List.mem_singleton.mp z)
    refine ⟨_, rfl, wpAny_letOwnedTupleGo_enum (s := { s with heap := h1, toks := tk + 1 }) out fun h2 isE2 same => ?_⟩
    obtain ⟨u', hu', ru'⟩ := rel.get hx
    have eu : u = u' := by
      have z : us[i]? = some u := by simpa using hu
      rw [hu'] at z
      exact (Option.some.inj z).symm
    subst eu
    have le : e < s.heap.objs.size := Heap.lt_size isE
    have li : it < s.heap.objs.size := Heap.lt_size gotI
    have gotN2 : h2.get? s.heap.objs.size = some { cls := .type "tuple", data := .seq #[.int i tk, u] } := (same.2 _ (Nat.ne_of_gt le)).trans gotN
    have new : ObjOk X.prog X.w (upd H s.heap.objs.size (.tup [.int (i : Nat), x])) h2 s.heap.objs.size (.tup [.int (i : Nat), x]) := ⟨by show 2 ≤ sizeLine; decide, [.int i tk, u], .cons ⟨_, rfl⟩ (.cons ru' .nil), ⟨_, gotN2, rfl, _, rfl⟩⟩
    have J : Inv X pins σ (upd H s.heap.objs.size (.tup [.int (i : Nat), x])) { s with heap := h2, toks := tk + 1 } :=
      I.turnedNew (ch := [e, it]) (fun b o hb q => (same.2 b (fun z => hb (by simp [z]))).trans (kept b o (fun z => hb (by simp [z])) (fun z => hb (by simp [z])) q)) off (Nat.le_refl _) new
    obtain ⟨⟨oJ, gotJ, rJ⟩, _⟩ := st1
    refine ⟨.ref s.heap.objs.size, _, J, rfl, ⟨_, x, rfl, I.hok.fresh (Nat.le_refl _), rfl, fun ys hy => by rw [I.tuple_inj hy isT]; exact hx⟩, ⟨⟨u, ?_⟩, ⟨oJ, (same.2 it (fun z => ne z.symm)).trans gotJ, rJ⟩, ne⟩, fun b hb => ?_⟩
    · rw [show ((i + 1 : Nat) : Int) = (i : Int) + 1 by omega]
      exact isE2
    · rw [upd_ne (fun z => ?_)]
      · exact (off b hb).1
      · rcases List.mem_cons.mp hb with q | q
        · exact absurd (z.symm.trans q) (Nat.ne_of_gt le)
        · exact absurd (z.symm.trans (List.mem_singleton.mp q)) (Nat.ne_of_gt li)
  done := by
    rintro X rfl rfl rfl calm i pins s σ H E I off ⟨⟨old, isE⟩, itr, ne⟩ ⟨xs, isT, hx⟩
    obtain ⟨us, rel, pt, small⟩ := I.tuple isT
    obtain ⟨f0, f1, f2, f3, f4, f5⟩ := off it (List.mem_cons_of_mem _ List.mem_cons_self)
    refine end_enumT (I.ok.hd calm) isE itr (show s.heap.IsTuple a us.toArray from pt) ?_ fun g kept => ⟨rfl, I.turned (t' := s.toks) (fun b o hb q => kept b o hb q) f0 f1 f3 f4 f5⟩
    have len := rel.length
    simp
    omega
  self := by
    rintro A i s Q E ⟨⟨_, isE⟩, _⟩ h
    exact wpAny_pyIter_enum isE h
def iEnumT (K : PySem.W.Frag) (ta : TA) : TI := fun σ H R => ta σ H fun vs H1 => ∃ a xs, vs = [.ref a] ∧ SqT K H1 a xs ∧ R (IteT K a) H1
theorem pi_enumT {X : Cx} {e : Expr} {ta : TA} {p pos tpos : Pos} {elts : List Expr} {kk : Nat} (hg : Gl X "enumerate") (hm : X.mg "enumerate" = none) (ha : PA X [e] ta) (one : starEach [e] X.env = [(false, eval e X.env)] := by rfl) :
    PI X (.Tuple elts kk tpos) (.Call (.Name "enumerate" p) [e] [] pos) (iEnumT X.K ta) := by
  refine ⟨fun pins s σ H R I h => Call_ (ld_blt I hg hm boot_enumerate (PyProof.Rows.callWith_type1 (thn (ha.run pos pins s σ H _ I h) ?_) one rfl))⟩
  rintro us s1 ⟨vs, H1, I1, r1, a, xs, rfl, isT, q⟩
  obtain ⟨u, rfl, ru⟩ := vals1 r1
  obtain rfl : u = Value.ref a := ru
  obtain ⟨ws, rel, pt, small⟩ := I1.tuple isT
  refine call_enum1 (begins_tuple a ws.toArray) pt fun g isE itr kept => wpAny_pyIter_enum isE ?_
  have J : Inv X pins σ H1 { s1 with heap := g } := I1.kept (t' := s1.toks) kept
  refine ⟨s1.heap.objs.size + 1, [s1.heap.objs.size + 1, s1.heap.objs.size], _, _, H1, rfl, J, turn_enumT a (s1.heap.objs.size + 1) s1.heap.objs.size, ⟨⟨.none, isE⟩, ⟨_, itr, rfl, rfl⟩, Nat.succ_ne_self _⟩, fun b hb => ?_, q⟩
  have ge : s1.heap.objs.size ≤ b := by
    rcases List.mem_cons.mp hb with z | z
    · rw [z]
      exact Nat.le_succ _
    · rw [List.mem_singleton.mp z]
      exact Nat.le_refl _
  exact I1.fpOk ge (I1.hok.fresh ge)
end TF

set_option Elab.async false
set_option linter.all false
set_option maxRecDepth 100000
set_option maxHeartbeats 4000000
namespace TF
open PySem PySem.Spec PyProof.Rows L2
theorem mul_0 (l : Addr) (items : Array Value) (n : Nat) (dd : Option Addr) (sl : Array (Option Value)) (x : Int) (u : Tok) (c0 : (decide (x < -(2 ^ 63)) || decide (x ≥ 2 ^ 63)) = false) (c1 : (items.isEmpty || x == 1) = false) (c2 : (decide (x ≤ 0) || items.isEmpty) = true) :
    Meets (Builtin.«tuple.__mul__» ⟨[.ref l, .int x u], []⟩) (fun _ R s => s.heap.get? l = some { cls := .type "tuple", dict := dd, data := .seq items n, slots := sl } ∧
      R (.ok (.ret (Value.ref s.heap.objs.size))) { s with heap := s.heap.push { cls := Value.type "tuple", data := Data.seq #[] }, toks := s.toks }) :=
  .of_wp fun prog w A R s h => by
    obtain ⟨hp, g, d, tk, os⟩ := s
    obtain ⟨hl, h⟩ := h
    have idx := AutoSeq1.idx_int
    wp_walk using wpAny_loadPart' hl
    repeat (first
      | (refine wpAny_ite_false (decide_eq_false (by rw [c0]; exact Bool.false_ne_true)) ?_; wp_walk using wpAny_loadPart' hl)
      | (refine wpAny_ite_false (decide_eq_false (by rw [c1]; exact Bool.false_ne_true)) ?_; wp_walk using wpAny_loadPart' hl)
      | (refine wpAny_ite_true (decide_eq_true (by rw [c2])) ?_; wp_walk using wpAny_loadPart' hl))
    exact ⟨_, rfl, h⟩
theorem mul_1 (l : Addr) (items : Array Value) (n : Nat) (dd : Option Addr) (sl : Array (Option Value)) (x : Int) (u : Tok) (c0 : (decide (x < -(2 ^ 63)) || decide (x ≥ 2 ^ 63)) = false) (c1 : (items.isEmpty || x == 1) = true) :
    Meets (Builtin.«tuple.__mul__» ⟨[.ref l, .int x u], []⟩) (fun _ R s => s.heap.get? l = some { cls := .type "tuple", dict := dd, data := .seq items n, slots := sl } ∧ R (.ok (.ret (Value.ref l))) s) :=
  .of_wp fun prog w A R s h => by
    obtain ⟨hp, g, d, tk, os⟩ := s
    obtain ⟨hl, h⟩ := h
    have idx := AutoSeq1.idx_int
    wp_walk using wpAny_loadPart' hl
    repeat (first
      | (refine wpAny_ite_false (decide_eq_false (by rw [c0]; exact Bool.false_ne_true)) ?_; wp_walk using wpAny_loadPart' hl)
      | (refine wpAny_ite_true (decide_eq_true (by rw [c1])) ?_; wp_walk using wpAny_loadPart' hl))
    exact ⟨_, rfl, h⟩
def rRepF (K : PySem.W.Frag) : R2 := fun x y H Q => ∃ l k xs, x = .ref l ∧ y = .int k ∧ SqT K H l xs ∧ xs ≠ [] ∧ -1000 ≤ k ∧ k ≤ 1000 ∧ xs.length ≤ 1000 ∧ (k ≤ 0 → NewT [] H Q) ∧ (k = 1 → Q (.ref l) H) ∧ (2 ≤ k → NewT (List.replicate k.toNat xs).flatten H Q)
section
variable {X : Cx}
theorem op_repF : OpR X (binaryOp .Mult) (rRepF X.K) := fun pins s σ H x y v u Q I rx ry ⟨l, k, xs, ex, ey, isT, ne, k0, k1, small, q0, q1, q2⟩ => by
  subst ex ey
  obtain rfl : v = Value.ref l := rx
  obtain ⟨tk, rfl⟩ := ry
  obtain ⟨us, rel, ⟨⟨c, dd, dt, sl⟩, got, cls, n, dat⟩, _⟩ := I.tuple isT
  simp only at cls dat
  subst cls dat
  have len : us.length = xs.length := rel.length.symm
  have nonempty : us.toArray.isEmpty = false := by
    cases us with
    | nil => exact absurd (List.eq_nil_of_length_eq_zero len.symm) ne
    | cons _ _ => rfl
  have inside : (decide (k < -(2 ^ 63)) || decide (k ≥ 2 ^ 63)) = false := by
    rw [decide_eq_false (by omega), decide_eq_false (by omega), Bool.or_false]
  have go : ∀ {S : PySem.Spec}, Meets (Builtin.«tuple.__mul__» ⟨[.ref l, .int k tk], []⟩) S → S X.A (wants (EP X pins σ Q) X.xe) s → wpAny (model X.prog X.w) X.A (binaryOp .Mult (.ref l) (.int k tk)) (EP X pins σ Q) X.xe s := fun m h =>
    wpAny_binaryOp_repeat_ref (T := "tuple") (U := "int") (by decide) ⟨_, got, rfl⟩ (fun s' => typeIs_int s' k tk) noFill_tuple_mul F.fills_int_mul F.slot_int_rmul repeat_tuple F.slot_int_index.lookup
      (call_meets F.slot_int_rmul (typeIs_int s k tk) F.entry_int_rmul (F.args_int_rmul_2 _ _) (int_rmul_tuple k tk l us.toArray n dd sl) ⟨got, rfl, ⟨_, got, rfl⟩, call_meets F.slot_tuple_mul ⟨_, got, rfl⟩ F.entry_tuple_mul (F.args_tuple_mul_2 _ _) m h⟩)
  by_cases h1 : k = 1
  · exact go (mul_1 l us.toArray n dd sl k tk inside (by rw [h1, nonempty]; rfl)) ⟨got, ⟨.ref l, H, I, rfl, q1 h1⟩⟩
  · have one : (us.toArray.isEmpty || k == 1) = false := by
      rw [nonempty, Bool.false_or]
      exact beq_eq_false_iff_ne.mpr h1
    by_cases h0 : k ≤ 0
    · exact go (mul_0 l us.toArray n dd sl k tk inside one (by rw [decide_eq_true h0, Bool.true_or])) ⟨got, laidT (us := []) (tk := s.toks) I .nil (Nat.zero_le _) (q0 h0)⟩
    · have prod : ((us.toArray.size : Nat) : Int) * k ≤ 1000000 := by
        rw [List.size_toArray, len]
        have z : ((xs.length : Nat) : Int) * k ≤ 1000 * k := Int.mul_le_mul_of_nonneg_right (by omega) (by omega)
        omega
      have fits : (List.replicate k.toNat us).flatten.length ≤ 1000000 := by
        rw [PyProof.Rows.lm_len_rep_flat, len]
        have z : k.toNat * xs.length ≤ 1000 * 1000 := Nat.mul_le_mul (by omega) small
        omega
      have line : 1000000 ≤ sizeLine := by rw [sizeLine_eq]; decide
      refine go (tuple_mulW l us.toArray n dd sl k tk inside one (by rw [nonempty, Bool.or_false]; exact decide_eq_false (by omega)) (by omega) ?_ (by rw [size_rep, List.size_toArray]; exact Nat.le_trans fits line)) ⟨got, ?_⟩
      · unfold Builtin.Tuple.tupleTooMany
        rw [sizeLine_eq]
        exact decide_eq_false (by omega)
      · rw [size_rep]
        exact laidT (tk := s.toks) I (rel.rep k.toNat) (by rw [PyProof.Rows.lm_len_rep_flat, ← len]; rw [PyProof.Rows.lm_len_rep_flat] at fits; exact Nat.le_trans fits line) (q2 (by omega))
end
end TF

set_option Elab.async false
set_option linter.all false
set_option maxRecDepth 100000
set_option maxHeartbeats 4000000
/-! Dicts whose keys are numbers' tuples, nested or not, tracked by their one object. -/
namespace DK
open PySem PySem.Spec PyProof.Rows L2
mutual
def plainKey : NestedKey → Bool
  | .num _ => true
  | .tup ks => plainKeys ks
  | _ => false
def plainKeys : List NestedKey → Bool
  | [] => true
  | k :: ks => plainKey k && plainKeys ks
end
mutual
theorem hash_w (w w' : World) : ∀ k : NestedKey, plainKey k = true → k.hash w = k.hash w'
  | .num _, _ => rfl
  | .tup ks, h => by
    rw [plainKey] at h
    rw [NestedKey.hash, NestedKey.hash, hashes_w w w' ks h]
  | .none, h => by cases h
  | .text _, h => by cases h
theorem hashes_w (w w' : World) : ∀ ks : List NestedKey, plainKeys ks = true → NestedKey.hashes w ks = NestedKey.hashes w' ks
  | [], _ => rfl
  | k :: ks, h => by
    rw [plainKeys] at h
    obtain ⟨h1, h2⟩ := Bool.and_eq_true_iff.mp h
    rw [NestedKey.hashes, NestedKey.hashes, hash_w w w' k h1, hashes_w w w' ks h2]
end
mutual
def keyOf : PyData → Option NestedKey
  | .int i => some (.num i)
  | .tuple ds => match keysOf ds with
    | some ks => some (.tup ks)
    | none => none
  | _ => none
def keysOf : List PyData → Option (List NestedKey)
  | [] => some []
  | d :: ds => match keyOf d with
    | some k => match keysOf ds with
      | some ks => some (k :: ks)
      | none => none
    | none => none
end
mutual
theorem keyOf_plain : ∀ {d : PyData} {k : NestedKey}, keyOf d = some k → plainKey k = true
  | .int i, k, h => by
    rw [keyOf] at h
    cases h
    rfl
  | .tuple ds, k, h => by
    rw [keyOf] at h
    cases q : keysOf ds with
    | none => rw [q] at h; cases h
    | some ks =>
      rw [q] at h
      cases h
      rw [plainKey]
      exact keysOf_plain q
  | .none, k, h => by simp [keyOf] at h
  | .bool _, k, h => by simp [keyOf] at h
  | .str _, k, h => by simp [keyOf] at h
  | .list _, k, h => by simp [keyOf] at h
  | .dict _, k, h => by simp [keyOf] at h
theorem keysOf_plain : ∀ {ds : List PyData} {ks : List NestedKey}, keysOf ds = some ks → plainKeys ks = true
  | [], ks, h => by
    rw [keysOf] at h
    cases h
    rfl
  | d :: ds, ks, h => by
    rw [keysOf] at h
    cases q : keyOf d with
    | none => rw [q] at h; cases h
    | some k =>
      cases q2 : keysOf ds with
      | none => rw [q, q2] at h; cases h
      | some ks' =>
        rw [q, q2] at h
        cases h
        rw [plainKeys, keyOf_plain q, keysOf_plain q2]
        rfl
end
mutual
theorem keyOf_data : ∀ {d : PyData} {k : NestedKey}, keyOf d = some k → k.data = d
  | .int i, k, h => by
    rw [keyOf] at h
    cases h
    rfl
  | .tuple ds, k, h => by
    rw [keyOf] at h
    cases q : keysOf ds with
    | none => rw [q] at h; cases h
    | some ks =>
      rw [q] at h
      cases h
      rw [NestedKey.data, keysOf_data q]
  | .none, k, h => by simp [keyOf] at h
  | .bool _, k, h => by simp [keyOf] at h
  | .str _, k, h => by simp [keyOf] at h
  | .list _, k, h => by simp [keyOf] at h
  | .dict _, k, h => by simp [keyOf] at h
theorem keysOf_data : ∀ {ds : List PyData} {ks : List NestedKey}, keysOf ds = some ks → NestedKey.datas ks = ds
  | [], ks, h => by
    rw [keysOf] at h
    cases h
    rfl
  | d :: ds, ks, h => by
    rw [keysOf] at h
    cases q : keyOf d with
    | none => rw [q] at h; cases h
    | some k =>
      cases q2 : keysOf ds with
      | none => rw [q, q2] at h; cases h
      | some ks' =>
        rw [q, q2] at h
        cases h
        rw [NestedKey.datas, keyOf_data q, keysOf_data q2]
end
section
variable {X : Cx} {pins : List (Addr × Obj)} {σ : L2.St} {H : Hp} {s : Shared}
mutual
theorem dp_key (I : Inv X pins σ H s) : ∀ {d : PyData} {v : V} {u : Value} {k : NestedKey}, Dp X.K H v d → keyOf d = some k → RelV v u → NestedIs s.heap k u
  | .int i, _, _, _, .int _, h, r => by
    rw [keyOf] at h
    cases h
    obtain ⟨t, rfl⟩ := r
    exact .int i t
  | .tuple ds, _, _, k, .tup hs hd, h, r => by
    rw [keyOf] at h
    cases q : keysOf ds with
    | none => rw [q] at h; cases h
    | some ks =>
      rw [q] at h
      cases h
      obtain ⟨its, rv, ⟨o, e, c, n, hdat⟩, _⟩ := I.tuple hs
      cases r
      exact .tup e c hdat (by simpa using dpa_key I hd q rv)
  | .none, _, _, _, _, h, _ => by simp [keyOf] at h
  | .bool _, _, _, _, _, h, _ => by simp [keyOf] at h
  | .str _, _, _, _, _, h, _ => by simp [keyOf] at h
  | .list _, _, _, _, _, h, _ => by simp [keyOf] at h
  | .dict _, _, _, _, _, h, _ => by simp [keyOf] at h
theorem dpa_key (I : Inv X pins σ H s) : ∀ {ds : List PyData} {vs : List V} {us : List Value} {ks : List NestedKey}, DpAll X.K H vs ds → keysOf ds = some ks → Vals vs us → NestedAll s.heap ks us
  | [], _, _, ks, .nil, h, .nil => by
    rw [keysOf] at h
    cases h
    exact .nil
  | d :: ds, _, _, ks, .cons hd ht, h, .cons r rt => by
    rw [keysOf] at h
    cases q : keyOf d with
    | none => rw [q] at h; cases h
    | some k =>
      cases q2 : keysOf ds with
      | none => rw [q, q2] at h; cases h
      | some ks' =>
        rw [q, q2] at h
        cases h
        exact .cons (dp_key I hd q r) (dpa_key I ht q2 rt)
end
end
/-! ### the dict's object -/
abbrev Ent := NestedKey × Addr × V
def REnt (p : Ent) (q : NestedKey × Addr × Value) : Prop := p.1 = q.1 ∧ p.2.1 = q.2.1 ∧ RelV p.2.2 q.2.2
def dctP (a : Addr) (es : List Ent) (h : Heap) : Prop := (es.length ≤ sizeLine ∧ (a == sysModules) = false ∧ ∀ e ∈ es, plainKey e.1 = true ∧ e.1.depth ≤ 8) ∧
  ∃ xs, Paired REnt es xs ∧ ∃ o ds ep, h.get? a = some o ∧ o.ExactDict ∧ o.data = .dict ds ep ∧ (∀ (P : Program) (w : World), ds.toList = xs.map (entryOfKey (nestedKind P w))) ∧ (xs.map (·.1)).Nodup
def dctO (a : Addr) (es : List Ent) : HO := .ext (dctP a es)
theorem dct_ok {P : Program} {w : World} {H : Hp} {h : Heap} {a : Addr} {es : List Ent} (x : dctP a es h) : ObjOk P w H h a (dctO a es) := by
  refine ⟨x, ?_, fun h1 h2 x1 k => ?_⟩
  · obtain ⟨_, xs, _, o, ds, ep, e, _⟩ := x
    exact ⟨o, e⟩
  · obtain ⟨z, xs, r, o, ds, ep, e, c⟩ := x1
    exact ⟨z, xs, r, o, ds, ep, k o e, c⟩
theorem dct_of {P : Program} {w : World} {H : Hp} {h : Heap} {a : Addr} {es : List Ent} (ok : HOk P w H h) (e : H a = some (dctO a es)) : dctP a es h := (ok a _ e).1
/-- the keys are known -/
def KeysOk (K : PySem.W.Frag) (H : Hp) (es : List Ent) : Prop := ∀ e ∈ es, ∃ d, keyOf d = some e.1 ∧ Dp K H (.ref e.2.1) d
theorem paired_memR {α β : Type} {F : α → β → Prop} : ∀ {l : List α} {m : List β}, Paired F l m → ∀ y ∈ m, ∃ x ∈ l, F x y
  | _, _, .nil, _, h => by cases h
  | _, _, .cons r t, y, h => by
    rcases List.mem_cons.mp h with e | e
    · exact ⟨_, List.mem_cons_self .., e ▸ r⟩
    · obtain ⟨x, hx, hf⟩ := paired_memR t y e
      exact ⟨x, List.mem_cons_of_mem _ hx, hf⟩
theorem dct_dd {X : Cx} {pins : List (Addr × Obj)} {σ : L2.St} {H : Hp} {s : Shared} {a : Addr} {es : List Ent} (I : Inv X pins σ H s) (e : H a = some (dctO a es)) (hk : KeysOk X.K H es) :
    ∃ xs, Paired REnt es xs ∧ s.heap.DictOfH (nestedKind X.prog X.w) a xs := by
  obtain ⟨⟨_, _, pk⟩, xs, r, o, ds, ep, ho, hc, hd, he, hn⟩ := dct_of I.hok e
  refine ⟨xs, r, o, ds, ep, ho, hc, hd, he _ _, fun x hx => ?_, hn⟩
  obtain ⟨p, hp, e1, e2, _⟩ := paired_memR r x hx
  obtain ⟨d, hd1, hd2⟩ := hk p hp
  rw [← e1, ← e2]
  exact ⟨dp_key I hd2 hd1 rfl, (pk p hp).2⟩
def atE (es : List Ent) (k : NestedKey) : Option V := (es.find? fun e => decide (e.1 = k)).map (·.2.2)
theorem atE_rel {es : List Ent} {xs : List (NestedKey × Addr × Value)} (r : Paired REnt es xs) (k : NestedKey) : RelO (atE es k) ((atKey xs k).map (·.2)) := by
  unfold atE atKey
  induction r with
  | nil => exact True.intro
  | @cons p q ps qs h t ih =>
    obtain ⟨h1, h2, h3⟩ := h
    by_cases z : p.1 = k
    · rw [List.find?_cons_of_pos (by simpa using z), List.find?_cons_of_pos (by simpa using h1.symm.trans z)]
      exact h3
    · rw [List.find?_cons_of_neg (by simpa using z), List.find?_cons_of_neg (by simpa using fun y => z (h1.trans y))]
      exact ih
def putE (es : List Ent) (k : NestedKey) (b : Addr) (v : V) : List Ent := if (atE es k).isSome = true then es.map (fun e => if e.1 = k then (e.1, e.2.1, v) else e) else es ++ [(k, b, v)]
theorem paired_app {α β : Type} {F : α → β → Prop} : ∀ {l l' : List α} {m m' : List β}, Paired F l m → Paired F l' m' → Paired F (l ++ l') (m ++ m')
  | _, _, _, _, .nil, r => r
  | _, _, _, _, .cons q t, r => .cons q (paired_app t r)
theorem putE_rel {es : List Ent} {xs : List (NestedKey × Addr × Value)} (r : Paired REnt es xs) (k : NestedKey) (b : Addr) {v : V} {u : Value} (rv : RelV v u) : Paired REnt (putE es k b v) (storedH xs k b u) := by
  have q := (atE_rel r k).isSome_eq
  rw [Option.isSome_map] at q
  unfold putE storedH
  rw [q]
  clear q
  split
  · rename_i zz
    clear zz
    induction r with
    | nil => exact .nil
    | @cons p q ps qs h t ih =>
      rw [List.map_cons, List.map_cons]
      refine .cons ?_ ih
      obtain ⟨h1, h2, h3⟩ := h
      unfold putAt
      by_cases z : p.1 = k
      · rw [if_pos z, if_pos (h1.symm.trans z)]
        exact ⟨h1, h2, rv⟩
      · rw [if_neg z, if_neg (fun y => z (h1.trans y))]
        exact ⟨h1, h2, h3⟩
  · exact paired_app r (.cons ⟨rfl, rfl, rv⟩ .nil)
theorem putE_len {es : List Ent} {k : NestedKey} {b : Addr} {v : V} : (putE es k b v).length ≤ es.length + 1 := by
  unfold putE
  split
  · rw [List.length_map]; omega
  · simp
theorem putE_key {es : List Ent} {k : NestedKey} {b : Addr} {v : V} {p : NestedKey → Prop} (h : ∀ e ∈ es, p e.1) (hk : p k) : ∀ e ∈ putE es k b v, p e.1 := fun e he => by
  unfold putE at he
  split at he
  · obtain ⟨x, hx, rfl⟩ := List.mem_map.mp he
    split
    · exact h x hx
    · exact h x hx
  · rcases List.mem_append.mp he with z | z
    · exact h e z
    · rw [List.mem_singleton] at z
      rw [z]; exact hk
theorem entry_w {xs : List (NestedKey × Addr × Value)} {P P' : Program} {w w' : World} (h : ∀ x ∈ xs, plainKey x.1 = true) : xs.map (entryOfKey (nestedKind P w)) = xs.map (entryOfKey (nestedKind P' w')) :=
  List.map_congr_left fun x hx => by
    show (⟨x.1.hash w, _, _⟩ : DictEntry) = ⟨x.1.hash w', _, _⟩
    rw [hash_w w w' _ (h x hx)]
theorem dct_new {X : Cx} {h : Heap} {a : Addr} {es : List Ent} {xs : List (NestedKey × Addr × Value)} (hl : es.length ≤ sizeLine) (hs : (a == sysModules) = false) (pk : ∀ e ∈ es, plainKey e.1 = true ∧ e.1.depth ≤ 8) (r : Paired REnt es xs) (dd : h.DictOfH (nestedKind X.prog X.w) a xs) : dctP a es h := by
  obtain ⟨o, ds, ep, ho, hc, hd, he, _, hn⟩ := dd
  refine ⟨⟨hl, hs, pk⟩, xs, r, o, ds, ep, ho, hc, hd, fun P w => ?_, hn⟩
  rw [he]
  refine entry_w fun x hx => ?_
  obtain ⟨p, hp, e1, _⟩ := paired_memR r x hx
  rw [← e1]
  exact (pk p hp).1
theorem room8 {A : Around} (hu : A.units + 64 < cLine) {P : Program} {w : World} : (nestedKind P w).room A.in1 := by
  show A.units + 1 + 8 < cLine
  omega
theorem room8' {A : Around} (hu : A.units + 64 < cLine) {P : Program} {w : World} : (nestedKind P w).room A := by
  show A.units + 8 < cLine
  omega
/-! ### rules -/
/-- x is a key -/
def KeyV (K : PySem.W.Frag) (H : Hp) (x : V) (b : Addr) (k : NestedKey) : Prop := x = .ref b ∧ k.depth ≤ 8 ∧ ∃ d, keyOf d = some k ∧ Dp K H x d
theorem keyV_is {X : Cx} {pins : List (Addr × Obj)} {σ : L2.St} {H : Hp} {s : Shared} {x : V} {b : Addr} {k : NestedKey} {u : Value} (I : Inv X pins σ H s) (h : KeyV X.K H x b k) (r : RelV x u) : u = .ref b ∧ (nestedKind X.prog X.w).is s.heap k b := by
  obtain ⟨rfl, hd, d, h1, h2⟩ := h
  obtain rfl : u = .ref b := r
  exact ⟨rfl, dp_key I h2 h1 rfl, hd⟩
def rDIn (K : PySem.W.Frag) (neg : Bool) : R2 := fun x y H Q => ∃ b k d es, KeyV K H x b k ∧ y = .ref d ∧ H d = some (dctO d es) ∧ KeysOk K H es ∧ Q (.bl (if neg then !(atE es k).isSome else (atE es k).isSome)) H
def rDIx (K : PySem.W.Frag) : R2 := fun x y H Q => ∃ b k d es v, KeyV K H y b k ∧ x = .ref d ∧ H d = some (dctO d es) ∧ KeysOk K H es ∧ atE es k = some v ∧ Q v H
def rDSet (K : PySem.W.Frag) : V → V → V → Hp → (Hp → Prop) → Prop := fun o i v H Q => ∃ b k d es, KeyV K H i b k ∧ plainKey k = true ∧ o = .ref d ∧ H d = some (dctO d es) ∧ KeysOk K H es ∧ es.length < sizeLine ∧ Q (upd H d (dctO d (putE es k b v)))
def rDLen (K : PySem.W.Frag) : List V → Hp → VK → Prop := fun vs H Q => ∃ d es, vs = [.ref d] ∧ H d = some (dctO d es) ∧ KeysOk K H es ∧ Q (.int (es.length : Int)) H
def rDList (K : PySem.W.Frag) : List V → Hp → VK → Prop := fun vs H Q => ∃ d es, vs = [.ref d] ∧ H d = some (dctO d es) ∧ KeysOk K H es ∧ ∀ p, H p = none → Q (.ref p) (upd H p (.lst (es.map fun e => V.ref e.2.1)))
def tDNew : TE := fun _ H Q => ∀ p, H p = none → Q (.ref p) (upd H p (dctO p []))
section
variable {X : Cx}
theorem op_din (hu : X.A.units + 64 < cLine) : OpR X (compareOp .In) (rDIn X.K false) := fun pins s σ H x y v u Q I rx ry h => by
  obtain ⟨b, k, d, es, hk, rfl, hd, ko, q⟩ := h
  obtain ⟨rfl, is⟩ := keyV_is I hk rx
  obtain rfl : u = .ref d := ry
  obtain ⟨xs, r, dd⟩ := dct_dd I hd ko
  refine wpAny_in_heap (room8 hu) is (dct_of I.hok hd).1.2.1 dd ?_
  have e := (atE_rel r k).isSome_eq
  rw [Option.isSome_map] at e
  rw [← e]
  exact ⟨.bl (atE es k).isSome, H, I.tok _, rfl, q⟩
theorem op_dnotin (hu : X.A.units + 64 < cLine) : OpR X (compareOp .NotIn) (rDIn X.K true) := fun pins s σ H x y v u Q I rx ry h => by
  obtain ⟨b, k, d, es, hk, rfl, hd, ko, q⟩ := h
  obtain ⟨rfl, is⟩ := keyV_is I hk rx
  obtain rfl : u = .ref d := ry
  obtain ⟨xs, r, dd⟩ := dct_dd I hd ko
  refine wpAny_notIn_heap (room8 hu) is (dct_of I.hok hd).1.2.1 dd ?_
  have e := (atE_rel r k).isSome_eq
  rw [Option.isSome_map] at e
  rw [← e]
  exact ⟨.bl (!(atE es k).isSome), H, I.tok _, rfl, q⟩
theorem ix_dct (hu : X.A.units + 64 < cLine) : IxR X (rDIx X.K) := fun value slice pins s σ H x y v u Q I rx ry h hs => by
  obtain ⟨b, k, d, es, z, hk, rfl, hd, ko, hz, q⟩ := h
  obtain ⟨rfl, is⟩ := keyV_is I hk ry
  obtain rfl : v = .ref d := rx
  obtain ⟨xs, r, dd⟩ := dct_dd I hd ko
  obtain ⟨w', hw, rw'⟩ := RelO.some_of (v := z) (o := (atKey xs k).map (·.2)) (by rw [← hz]; exact atE_rel r k)
  obtain ⟨p, hp, hp2⟩ := Option.map_eq_some_iff.mp hw
  refine tail_any dd.typeIs slot_dict_getitem.lookup (wpAny_getItem_heap (room8 hu) is dd hp ?_) hs
  rw [hp2]
  exact ⟨z, H, I.tok _, rw', q⟩
theorem set_dct (hu : X.A.units + 64 < cLine) : PSet X (rDSet X.K) := by
  intro pins s σ H o i v ov iv u Q I ro ri rv h
  obtain ⟨b, k, d, es, hk, pk, rfl, hd, ko, hl, q⟩ := h
  have hdep := hk.2.1
  obtain ⟨rfl, is⟩ := keyV_is I hk ri
  obtain rfl : ov = .ref d := ro
  obtain ⟨⟨z, hs, pks⟩, _⟩ := dct_of I.hok hd
  obtain ⟨xs, r, dd⟩ := dct_dd I hd ko
  have hz : xs.length ≤ sizeLine := by rw [← Paired.length r]; exact z
  refine wpAny_setItem_heap (hsz := hz) (room8 hu) is dd fun h' dd' hsb => ?_
  have hP : dctP d (putE es k b v) h' := dct_new (X := X) (by have := putE_len (es := es) (k := k) (b := b) (v := v); omega) hs (putE_key (p := fun k => plainKey k = true ∧ k.depth ≤ 8) pks ⟨pk, hdep⟩) (putE_rel r k b rv) dd'
  obtain ⟨oo, _, _, hoo, _⟩ := dd'
  exact ⟨_, d_write I (by rw [hd]; exact True.intro) hsb ⟨oo, hoo⟩ (dct_ok hP), q⟩
theorem call_lenDct : CallR X (.builtin "len") (rDLen X.K) := by
  intro pins s σ H xs us Q I r h
  obtain ⟨d, es, rfl, hd, ko, q⟩ := h
  obtain ⟨u, rfl, rx⟩ := vals1 r
  obtain rfl : u = .ref d := rx
  obtain ⟨⟨z, hs, _⟩, _⟩ := dct_of I.hok hd
  obtain ⟨ys, rel, dd⟩ := dct_dd I hd ko
  have hl : es.length = ys.length := Paired.length rel
  refine call_len_dictH hs dd (by rw [← hl]; rw [sizeLine_eq] at z; omega) ?_
  rw [← hl]
  exact ⟨.int (es.length : Int), H, I.tok _, ⟨_, rfl⟩, q⟩
theorem ent_refs : ∀ {kvs : List Ent} {ks : List (NestedKey × Addr × Value)}, Paired REnt kvs ks → (kvs.map fun e => V.ref e.2.1) = (ks.map fun x => x.2.1).map V.ref
  | _, _, .nil => rfl
  | _, _, .cons h t => by
    rw [List.map_cons, List.map_cons, List.map_cons, h.2.1, ent_refs t]
theorem call_listDct (hc : X.calm = true) : CallR X (.type "list") (rDList X.K) := by
  intro pins s σ H xs us Q I r h
  obtain ⟨d, kvs, rfl, hd, ko, q⟩ := h
  obtain ⟨u, rfl, rx⟩ := r.one
  cases rx
  obtain ⟨⟨z, hs, _⟩, ks, pr, o, es, ep, ho, hx, hdt, he, hn⟩ := dct_of I.hok hd
  have he := he X.prog X.w
  have l1 : es.size = ks.length := size_of_entries he
  have l2 : kvs.length = ks.length := Paired.length pr
  refine PySem.W.kdl_call (kdl_raw hs hx hdt) (I.ok.hd hc) ho (by omega) fun h' tk acc' c' kp e it => ?_
  have ea : acc'.toList = ks.map fun x => Value.ref x.2.1 := by
    have hl : acc'.toList.length = ks.length := by rw [Array.length_toList, it.1]; exact l1
    apply List.ext_getElem?
    intro j
    rw [List.getElem?_map]
    cases hj : acc'.toList[j]? with
    | none =>
      have h1 := List.getElem?_eq_none_iff.mp hj
      rw [List.getElem?_eq_none (by omega)]
      all_goals rfl
    | some v =>
      obtain ⟨en, hen, hv⟩ := it.2 j v (by rw [← Array.getElem?_toList]; exact hj)
      have qe := entry_at he j
      rw [hen] at qe
      cases hb : ks[j]? with
      | none =>
        rw [hb] at qe
        exact nomatch (show some en = none from qe)
      | some b =>
        rw [hb] at qe
        have e2 : en = entryOfKey (nestedKind X.prog X.w) b := Option.some.inj qe
        rw [hv, e2]
        all_goals rfl
  have eks := ent_refs pr
  have eb : acc'.toList = (ks.map fun x => x.2.1).map Value.ref := by rw [ea, List.map_map]; all_goals rfl
  have rv : Vals (kvs.map fun e => V.ref e.2.1) acc'.toList := by rw [eb, eks]; exact vals_refs _
  have hz : (kvs.map fun e => V.ref e.2.1).length ≤ sizeLine := by rw [List.length_map]; omega
  refine ⟨.ref s.heap.objs.size, _, I.laid (t' := tk) (o := .lst (kvs.map fun e => V.ref e.2.1)) kp (Nat.le_refl _) ?_, rfl, q _ (I.hok.fresh (Nat.le_refl _))⟩
  exact ⟨hz, acc'.toList, c', rv, by rw [Array.toArray_toList]; exact e⟩
theorem dct_empty {P : Program} {w : World} (h : Heap) (hb : sysModules < h.objs.size) : dctP h.objs.size [] (h.push { cls := .type "dict", data := .dict #[] }) :=
  ⟨⟨Nat.zero_le _, beq_eq_false_iff_ne.mpr (Ne.symm (Nat.ne_of_lt hb)), fun _ h => by cases h⟩, [], .nil, _, #[], 0, Heap.get?_push_size _ rfl, ⟨rfl, rfl, rfl⟩, rfl, fun _ _ => rfl, List.nodup_nil⟩
theorem pe_dnewD {pos : Pos} : PE X (.Dict [] [] pos) tDNew := ⟨fun pins s σ H Q I h =>
  wpAny_Dict_empty ⟨.ref s.heap.objs.size, _, I.laid (a := s.heap.objs.size) (o := dctO s.heap.objs.size []) (t' := s.toks) (fun _ _ q => Heap.get?_push_of_some _ q) (Nat.le_refl _) (dct_ok (dct_empty (P := X.prog) (w := X.w) s.heap I.big)), rfl, h _ (I.hok.fresh (Nat.le_refl _))⟩⟩
/-- {k: v} -/
def tDOne (K : PySem.W.Frag) (tk tv : TE) : TE := fun σ H Q => ∀ p, H p = none → tk σ (upd H p (dctO p [])) fun x H1 => tv σ H1 fun y H2 => H2 p = some (dctO p []) ∧ ∃ b k, KeyV K H2 x b k ∧ plainKey k = true ∧ Q (.ref p) (upd H2 p (dctO p [(k, b, y)]))
theorem pe_done {k v : Expr} {tk tv : TE} {pos : Pos} (hu : X.A.units + 64 < cLine) (hk : PE X k tk) (hv : PE X v tv) : PE X (.Dict [some k] [v] pos) (tDOne X.K tk tv) := by
  refine ⟨fun pins s σ H Q I q => ?_⟩
  have hn := I.hok.fresh (Nat.le_refl s.heap.objs.size)
  have I1 := I.laid (a := s.heap.objs.size) (o := dctO s.heap.objs.size []) (h' := s.heap.push { cls := .type "dict", data := .dict #[] }) (t' := s.toks) (fun _ _ q => Heap.get?_push_of_some _ q) (Nat.le_refl _) (dct_ok (dct_empty (P := X.prog) (w := X.w) s.heap I.big))
  rw [arm_eval_Dict, zip_pairTrees [some k] [v] X.env pos rfl rfl, dictDisplay_pairs (pairTrees [some k] [v] X.env pos) (by intro z; cases z) (by show 1 < 17; decide)]
  refine wpAny_bind (wpAny_standAt (wpAny_bind (wpAny_subDictH (knd := nestedKind X.prog X.w) (Q := fun d s' => wpAny (model X.prog X.w) X.A (pure (Value.ref d)) (EP X pins σ Q) X.xe s') (room8' hu) (by show 1 ≤ 15; decide) ?_)))
  refine pairTrees_cons_walk (thn (hk.run pins _ σ _ _ I1 (q _ hn)) fun kv s1 ⟨x, H1, J1, rx, q1⟩ => thn (hv.run pins s1 σ H1 _ J1 q1) fun vv s2 ⟨y, H2, J2, ry, e, b, kk, hkv, pk, q2⟩ => pairTrees_nil_walk ?_)
  have hdep := hkv.2.1
  obtain ⟨rfl, is⟩ := keyV_is J2 hkv rx
  obtain ⟨⟨_, hs, _⟩, _⟩ := dct_of J2.hok e
  obtain ⟨xs, r, dd⟩ := dct_dd J2 e (fun _ h => by cases h)
  cases r
  refine ⟨[(kk, b, vv)], ⟨rfl, rfl, is, True.intro⟩, dd, fun h' tk' dd' hsb => wpAny_pure ?_⟩
  have hP : dctP s.heap.objs.size [(kk, b, y)] h' := dct_new (X := X) (by show 1 ≤ sizeLine; decide) hs (fun e he => by
    rw [List.mem_singleton] at he
    rw [he]
    exact ⟨pk, hdep⟩) (.cons ⟨rfl, rfl, ry⟩ .nil) dd'
  obtain ⟨oo, _, _, hoo, _⟩ := dd'
  exact ⟨.ref s.heap.objs.size, _, d_write J2 (by rw [e]; exact True.intro) hsb ⟨oo, hoo⟩ (dct_ok hP), rfl, q2⟩
end
end DK

set_option Elab.async false
set_option linter.all false
set_option maxRecDepth 100000
set_option maxHeartbeats 4000000
/-! The data logic: what a reading is worth, told of plain data. -/
namespace DL
open PySem L2

/-- a slot's worth: plain data; a list that this def alone holds; such a list lent; a value as it is -/
inductive DV where
  | dat (d : PyData)
  | own (ds : List PyData)
  | bor (ds : List PyData)
  | raw (v : V)
  | bag
  /-- a dict of this def's own (true), or lent -/
  | dct (own : Bool) (kvs : List (PyData × PyData))

abbrev dint (i : Int) : DV := .dat (.int i)
abbrev dbl (b : Bool) : DV := .dat (.bool b)
abbrev dstr (s : Str) : DV := .dat (.str s)
abbrev Env := List (Option DV)

/-! ### data stay -/
theorem rd_mono {H H' : Hp} {a : Addr} {u : HO} (e : Same H H') (h : Rd H a u) : Rd H' a u := by
  rcases h with h | ⟨o, h⟩
  · exact .inl (e _ _ h)
  · exact .inr ⟨o, e _ _ h⟩
theorem sl_mono {K : PySem.W.Frag} {H H' : Hp} {a : Addr} {xs : List V} (e : Same H H') (h : SqL K H a xs) : SqL K H' a xs := h.imp (rd_mono e) id
theorem st_mono {K : PySem.W.Frag} {H H' : Hp} {a : Addr} {xs : List V} (e : Same H H') (h : SqT K H a xs) : SqT K H' a xs := h.imp (rd_mono e) id
mutual
theorem dp_mono {K : PySem.W.Frag} {H H' : Hp} (e : Same H H') : ∀ {v : V} {d : PyData}, Dp K H v d → Dp K H' v d
  | _, _, .non => .non
  | _, _, .bl b => .bl b
  | _, _, .int i => .int i
  | _, _, .str x => .str x
  | _, _, .lst q r => .lst (sl_mono e q) (dpa_mono e r)
  | _, _, .tup q r => .tup (st_mono e q) (dpa_mono e r)
theorem dpa_mono {K : PySem.W.Frag} {H H' : Hp} (e : Same H H') : ∀ {vs : List V} {ds : List PyData}, DpAll K H vs ds → DpAll K H' vs ds
  | _, _, .nil => .nil
  | _, _, .cons q r => .cons (dp_mono e q) (dpa_mono e r)
end
theorem dpa_len {K : PySem.W.Frag} {H : Hp} : ∀ {vs : List V} {ds : List PyData}, DpAll K H vs ds → vs.length = ds.length
  | _, _, .nil => rfl
  | _, _, .cons _ r => congrArg Nat.succ (dpa_len r)
theorem dpa_app {K : PySem.W.Frag} {H : Hp} : ∀ {vs ws : List V} {ds es : List PyData}, DpAll K H vs ds → DpAll K H ws es → DpAll K H (vs ++ ws) (ds ++ es)
  | _, _, _, _, .nil, r => r
  | _, _, _, _, .cons q t, r => .cons q (dpa_app t r)
theorem dpa_get {K : PySem.W.Frag} {H : Hp} : ∀ {vs : List V} {ds : List PyData} {i : Nat} {d : PyData}, DpAll K H vs ds → ds[i]? = some d → ∃ v, vs[i]? = some v ∧ Dp K H v d
  | _, _, _, _, .nil, h => by simp at h
  | _, _, 0, _, .cons q _, h => by
    have e := Option.some.inj h
    subst e
    exact ⟨_, rfl, q⟩
  | _, _, i + 1, _, .cons _ r, h => dpa_get (i := i) r h
theorem dpa_set {K : PySem.W.Frag} {H : Hp} {v : V} {d : PyData} (q : Dp K H v d) : ∀ {vs : List V} {ds : List PyData} (i : Nat), DpAll K H vs ds → DpAll K H (vs.set i v) (ds.set i d)
  | _, _, _, .nil => .nil
  | _, _, 0, .cons _ r => .cons q r
  | _, _, i + 1, .cons p r => .cons p (dpa_set q i r)
theorem dpa_take {K : PySem.W.Frag} {H : Hp} : ∀ {vs : List V} {ds : List PyData} (n : Nat), DpAll K H vs ds → DpAll K H (vs.take n) (ds.take n)
  | _, _, 0, _ => .nil
  | _, _, _ + 1, .nil => .nil
  | _, _, n + 1, .cons q r => .cons q (dpa_take n r)
theorem dpa_drop {K : PySem.W.Frag} {H : Hp} : ∀ {vs : List V} {ds : List PyData} (n : Nat), DpAll K H vs ds → DpAll K H (vs.drop n) (ds.drop n)
  | _, _, 0, r => r
  | _, _, _ + 1, .nil => .nil
  | _, _, n + 1, .cons _ r => dpa_drop n r
theorem dpa_ints {K : PySem.W.Frag} {H : Hp} : ∀ {vs : List V} {ns : List Int}, DpAll K H vs (ns.map .int) → vs = ns.map V.int
  | [], [], _ => rfl
  | _ :: _, n :: ns, .cons q r => by
    cases q
    rw [dpa_ints r]
    rfl
theorem dpa_bools {K : PySem.W.Frag} {H : Hp} : ∀ {vs : List V} {ns : List Bool}, DpAll K H vs (ns.map .bool) → vs = ns.map V.bl
  | [], [], _ => rfl
  | _ :: _, n :: ns, .cons q r => by
    cases q
    rw [dpa_bools r]
    rfl
theorem dpa_ofInts {K : PySem.W.Frag} {H : Hp} : ∀ (ns : List Int), DpAll K H (ns.map V.int) (ns.map .int)
  | [] => .nil
  | n :: ns => .cons (.int n) (dpa_ofInts ns)

/-! ### the bag of draws, the tables of code objects, the state -/
/-- where the bag stands; the tables, each with its def's lambda's name -/
structure Bg where
  a : Addr
  T : List (Addr × Str)
/-- nothing but a table stands there -/
def Fr (H : Hp) (a : Addr) : Prop := ∀ o, H a = some o → ∃ ps, o = .tbl ps
theorem fr_none {H : Hp} {a : Addr} (h : H a = none) : Fr H a := fun o e => by rw [h] at e; cases e
theorem fr_lst {H : Hp} {a : Addr} {xs : List V} (h : Fr H a) (e : H a = some (.lst xs)) : False := by
  obtain ⟨ps, z⟩ := h _ e
  cases z
theorem fr_not {H : Hp} {a : Addr} {o : HO} (h : Fr H a) (e : H a = some o) (n : ∀ ps, o ≠ .tbl ps) : False := by
  obtain ⟨ps, z⟩ := h _ e
  exact n ps z
/-- plain things: lists, tuples without a dict of their own -/
def PlainO : HO → Prop
  | .lst _ => True
  | .frz o (.tup _) => o.dict = none
  | _ => False
theorem plain_tbl {o : HO} (h : PlainO o) : ∀ ps, o ≠ .tbl ps := fun ps z => by subst z; exact h
theorem lst_tbl {xs : List V} : ∀ ps, HO.lst xs ≠ .tbl ps := fun _ z => by cases z
theorem tup_tbl {xs : List V} : ∀ ps, HO.tup xs ≠ .tbl ps := fun _ z => by cases z
theorem tabs_upd {T : List (Addr × Str)} {H : Hp} {a : Addr} {xs : List V} {o : HO} (t : LamX.Tabs T H) (h : H a = some (.lst xs)) : LamX.Tabs T (upd H a o) := fun p hp => by
  obtain ⟨ps, h1, h2, h3⟩ := t p hp
  refine ⟨ps, by rw [upd_ne (ne_of h1 h (fun z => by cases z))]; exact h1, h2, fun pos cv hc => ?_⟩
  obtain ⟨c, e1, e2⟩ := h3 pos cv hc
  exact ⟨c, e1, by rw [upd_ne (ne_of e2 h (fun z => by unfold LamX.CodeO at z; cases z))]; exact e2⟩
def Bag (K : PySem.W.Frag) (b : Bg) (I H : Hp) : Prop := I b.a = none ∧ (∀ a o, I a = some o → PlainO o) ∧ LamX.Tabs b.T H ∧ ∃ (l : Addr) (ns : List Int) (p q m c : Int),
  H b.a = some (.lst [.ref l, .int p, .int q, .int m, .int c]) ∧ SqL K I l (ns.map V.int) ∧ 0 ≤ p ∧ 0 ≤ q ∧ 0 ≤ m ∧ m < 2147483647
/-- from (I, H) to (I', H'): what is known stays, all but the bag and the tables stays as it stood, what was not plain does not become plain; the bag is a bag -/
structure Ext (K : PySem.W.Frag) (b : Bg) (I H I' H' : Hp) : Prop where
  i : Same I I'
  h : ∀ a o, a ≠ b.a → (∀ ps, o ≠ .tbl ps) → H a = some o → H' a = some o
  n : ∀ a o, I a = none → H a = some o → (∀ ps, o ≠ .tbl ps) → I' a = none
  k : ∀ l xs, H b.a = some (.lst (.ref l :: xs)) → ∃ ys, H' b.a = some (.lst (.ref l :: ys))
  s : Same I' H'
  b : Bag K b I' H'
section
variable {K : PySem.W.Frag} {b : Bg} {I H I' H' I2 H2 : Hp}
theorem Bag.lst (B : Bag K b I H) : ∃ xs, H b.a = some (.lst xs) := by
  obtain ⟨_, _, _, l, ns, p, q, m, c, e, _⟩ := B
  exact ⟨_, e⟩
theorem Ext.trans (e : Ext K b I H I' H') (f : Ext K b I' H' I2 H2) : Ext K b I H I2 H2 := by
  refine ⟨e.i.trans f.i, fun a o n t h => f.h a o n t (e.h a o n t h), fun a o n h t => ?_, fun l xs h => (let ⟨ys, h1⟩ := e.k l xs h; f.k l ys h1), f.s, f.b⟩
  by_cases z : a = b.a
  · subst z
    obtain ⟨xs, q⟩ := e.b.lst
    exact f.n _ _ (e.n _ o n h t) q lst_tbl
  · exact f.n a o (e.n a o n h t) (e.h a o z t h) t
theorem Ext.refl (S : Same I H) (B : Bag K b I H) : Ext K b I H I H := ⟨Same.refl I, fun _ _ _ _ h => h, fun _ _ n _ _ => n, fun _ xs h => ⟨xs, h⟩, S, B⟩
theorem Ext.re (e : Ext K b I H I' H') : Ext K b I' H' I' H' := Ext.refl e.s e.b
theorem Ext.free (e : Ext K b I H I' H') {a : Addr} (h : Fr H' a) : Fr H a := fun o q => by
  by_cases t : ∃ ps, o = .tbl ps
  · exact t
  · have t' : ∀ ps, o ≠ .tbl ps := fun ps z => t ⟨ps, z⟩
    by_cases z : a = b.a
    · subst z
      obtain ⟨xs, q2⟩ := e.b.lst
      exact (fr_lst h q2).elim
    · exact (fr_not h (e.h a o z t' q) t').elim
/-- a new object, plain from now on -/
theorem Ext.new {p : Addr} {o : HO} (S : Same I H) (B : Bag K b I H) (hp : H p = none) (ho : PlainO o) : Ext K b I H (upd I p o) (upd H p o) := by
  have ip : I p = none := by
    cases q : I p with
    | none => rfl
    | some u => rw [S p u q] at hp; cases hp
  obtain ⟨n, pl, tb, l, ns, x, q, m, c, e, sl, r⟩ := B
  have pb : b.a ≠ p := ne_of_none e hp
  refine ⟨fun a u h => ?_, fun a u _ _ h => ?_, fun a u n h _ => ?_, fun l xs h => ⟨xs, by rw [upd_ne pb]; exact h⟩, fun a u h => ?_, ?_, fun a ps h => ?_, tb.ext fun a u h => ?_, l, ns, x, q, m, c, ?_, ?_, r⟩
  · rw [upd_ne (ne_of_none h ip)]; exact h
  · rw [upd_ne (ne_of_none h hp)]; exact h
  · rw [upd_ne (ne_of_none h hp)]; exact n
  · by_cases z : a = p
    · subst z; rw [upd_same] at h ⊢; exact h
    · rw [upd_ne z] at h ⊢; exact S a u h
  · rw [upd_ne pb]; exact n
  · by_cases z : a = p
    · subst z; rw [upd_same] at h; cases h; exact ho
    · rw [upd_ne z] at h; exact pl a _ h
  · rw [upd_ne (ne_of_none h hp)]; exact h
  · rw [upd_ne pb]; exact e
  · exact sl_mono (fun a u h => by rw [upd_ne (ne_of_none h ip)]; exact h) sl
/-- a new object, not plain -/
theorem Ext.newH {p : Addr} {o : HO} (S : Same I H) (B : Bag K b I H) (hp : H p = none) : Ext K b I H I (upd H p o) := by
  obtain ⟨n, pl, tb, l, ns, x, q, m, c, e, sl, r⟩ := B
  refine ⟨Same.refl I, fun a u _ _ h => ?_, fun a u n _ _ => n, fun l xs h => ⟨xs, by rw [upd_ne (ne_of_none h hp)]; exact h⟩, fun a u h => ?_, n, pl, tb.ext fun a u h => ?_, l, ns, x, q, m, c, ?_, sl, r⟩
  · rw [upd_ne (ne_of_none h hp)]; exact h
  · rw [upd_ne (ne_of_none (S a u h) hp)]; exact S a u h
  · rw [upd_ne (ne_of_none h hp)]; exact h
  · rw [upd_ne (ne_of_none e hp)]; exact e
end

theorem dct_tbl {a : Addr} {es : List DK.Ent} : ∀ ps, DK.dctO a es ≠ .tbl ps := fun _ z => by cases z
/-- the dict's entries as data -/
def DEnt (K : PySem.W.Frag) (I : Hp) (e : DK.Ent) (kv : PyData × PyData) : Prop := DK.keyOf kv.1 = some e.1 ∧ Dp K I (.ref e.2.1) kv.1 ∧ Dp K I e.2.2 kv.2
abbrev DctR (K : PySem.W.Frag) (I : Hp) (es : List DK.Ent) (kvs : List (PyData × PyData)) : Prop := Paired (DEnt K I) es kvs
theorem dctR_mono {K : PySem.W.Frag} {I I' : Hp} (s : Same I I') : ∀ {es : List DK.Ent} {kvs : List (PyData × PyData)}, DctR K I es kvs → DctR K I' es kvs
  | _, _, .nil => .nil
  | _, _, .cons h t => .cons ⟨h.1, dp_mono s h.2.1, dp_mono s h.2.2⟩ (dctR_mono s t)
/-- v is worth r; H0: the heap at the def's entry -/
def Res (K : PySem.W.Frag) (b : Bg) (H0 I H : Hp) (v : V) : DV → Prop
  | .dat d => Dp K I v d
  | .own ds => ∃ a xs, v = .ref a ∧ Fr H0 a ∧ I a = none ∧ a ≠ b.a ∧ H a = some (.lst xs) ∧ DpAll K I xs ds
  | .bor ds => ∃ a xs, v = .ref a ∧ H a = some (.lst xs) ∧ a ≠ b.a ∧ I a = none ∧ DpAll K I xs ds
  | .raw u => v = u
  | .bag => v = .ref b.a
  | .dct own kvs => ∃ a es, v = .ref a ∧ (own = true → Fr H0 a) ∧ I a = none ∧ a ≠ b.a ∧ H a = some (DK.dctO a es) ∧ DctR K I es kvs
structure EnvR (K : PySem.W.Frag) (b : Bg) (H0 I H : Hp) (σ : St) (δ : Env) : Prop where
  len : σ.length = δ.length
  at_ : ∀ (i : Nat) (r : DV), δ[i]? = some (some r) → ∃ v, σ[i]? = some (some v) ∧ Res K b H0 I H v r
  nd : ∀ (i j : Nat) (a : Addr) (ds es : List PyData), δ[i]? = some (some (.own ds)) → σ[i]? = some (some (.ref a)) → δ[j]? = some (some (.own es)) → σ[j]? = some (some (.ref a)) → i = j
section
variable {K : PySem.W.Frag} {b : Bg} {H0 I H I' H' : Hp} {v : V} {r : DV} {σ : St} {δ : Env}
theorem Res.ext (e : Ext K b I H I' H') (h : Res K b H0 I H v r) : Res K b H0 I' H' v r := by
  cases r with
  | dat d => exact dp_mono e.i h
  | own ds =>
    obtain ⟨a, xs, rfl, h0, hi, hb, ha, hd⟩ := h
    exact ⟨a, xs, rfl, h0, e.n a _ hi ha lst_tbl, hb, e.h a _ hb lst_tbl ha, dpa_mono e.i hd⟩
  | bor ds =>
    obtain ⟨a, xs, rfl, ha, hb, hi, hd⟩ := h
    exact ⟨a, xs, rfl, e.h a _ hb lst_tbl ha, hb, e.n a _ hi ha lst_tbl, dpa_mono e.i hd⟩
  | raw u => exact h
  | bag => exact h
  | dct own kvs =>
    obtain ⟨a, es, rfl, h0, hi, hb, ha, hd⟩ := h
    exact ⟨a, es, rfl, h0, e.n a _ hi ha dct_tbl, hb, e.h a _ hb dct_tbl ha, dctR_mono e.i hd⟩
theorem EnvR.ext (e : Ext K b I H I' H') (h : EnvR K b H0 I H σ δ) : EnvR K b H0 I' H' σ δ :=
  ⟨h.len, fun i r q => (h.at_ i r q).imp fun v z => ⟨z.1, z.2.ext e⟩, h.nd⟩
/-- fewer slots are known -/
theorem EnvR.less {δ' : Env} (h : EnvR K b H0 I H σ δ) (hl : δ'.length = δ.length) (hs : ∀ (i : Nat) (r : DV), δ'[i]? = some (some r) → δ[i]? = some (some r)) : EnvR K b H0 I H σ δ' :=
  ⟨h.len.trans hl.symm, fun i r q => h.at_ i r (hs i r q), fun i j a ds es h1 h2 h3 h4 => h.nd i j a ds es (hs _ _ h1) h2 (hs _ _ h3) h4⟩
/-- a lookup list is read -/
def LstR (r : DV) (ds : List PyData) : Prop := r = .own ds ∨ r = .bor ds ∨ r = .dat (.list ds)
theorem LstR.read {ds : List PyData} (S : Same I H) (l : LstR r ds) (h : Res K b H0 I H v r) : ∃ a xs, v = .ref a ∧ SqL K H a xs ∧ DpAll K I xs ds := by
  rcases l with rfl | rfl | rfl
  · obtain ⟨a, xs, rfl, _, _, _, ha, hd⟩ := h
    exact ⟨a, xs, rfl, .inl (.inl ha), hd⟩
  · obtain ⟨a, xs, rfl, ha, _, _, hd⟩ := h
    exact ⟨a, xs, rfl, .inl (.inl ha), hd⟩
  · have h : Dp K I v (.list ds) := h
    cases h with
    | lst q r => exact ⟨_, _, rfl, sl_mono S q, r⟩
theorem tup_read {ds : List PyData} (S : Same I H) (h : Res K b H0 I H v (.dat (.tuple ds))) : ∃ a xs, v = .ref a ∧ SqT K H a xs ∧ DpAll K I xs ds := by
  have h : Dp K I v (.tuple ds) := h
  cases h with
  | tup q r => exact ⟨_, _, rfl, st_mono S q, r⟩
theorem int_read {i : Int} (h : Res K b H0 I H v (dint i)) : v = .int i := by
  have h : Dp K I v (.int i) := h
  cases h; rfl
theorem bl_read {i : Bool} (h : Res K b H0 I H v (dbl i)) : v = .bl i := by
  have h : Dp K I v (.bool i) := h
  cases h; rfl
theorem str_read {i : Str} (h : Res K b H0 I H v (dstr i)) : v = .str i := by
  have h : Dp K I v (.str i) := h
  cases h; rfl
theorem non_read (h : Res K b H0 I H v (.dat .none)) : v = .non := by
  have h : Dp K I v .none := h
  cases h; rfl
/-- a slot is set -/
theorem EnvR.set (h : EnvR K b H0 I H σ δ) {i : Nat} (hi : i < δ.length) (q : Res K b H0 I H v r)
    (hf : ∀ a ds, r = .own ds → v = .ref a → ∀ (j : Nat) es, j ≠ i → δ[j]? = some (some (.own es)) → σ[j]? ≠ some (some (.ref a))) : EnvR K b H0 I H (σ.set i (some v)) (δ.set i (some r)) := by
  have hi' : i < σ.length := by rw [h.len]; exact hi
  refine ⟨by rw [List.length_set, List.length_set]; exact h.len, fun j u e => ?_, fun j k a ds es h1 h2 h3 h4 => ?_⟩
  · by_cases z : i = j
    · subst z
      rw [List.getElem?_set_self hi] at e
      cases e
      exact ⟨v, by rw [List.getElem?_set_self hi'], q⟩
    · rw [List.getElem?_set_ne z] at e
      obtain ⟨w, e1, e2⟩ := h.at_ j u e
      exact ⟨w, by rw [List.getElem?_set_ne z]; exact e1, e2⟩
  · by_cases zj : i = j
    · by_cases zk : i = k
      · rw [← zj, ← zk]
      · subst zj
        rw [List.getElem?_set_self hi] at h1
        rw [List.getElem?_set_self hi'] at h2
        rw [List.getElem?_set_ne zk] at h3 h4
        cases h1; cases h2
        exact absurd h4 (hf a ds rfl rfl k es (fun q => zk q.symm) h3)
    · by_cases zk : i = k
      · subst zk
        rw [List.getElem?_set_self hi] at h3
        rw [List.getElem?_set_self hi'] at h4
        rw [List.getElem?_set_ne zj] at h1 h2
        cases h3; cases h4
        exact absurd h2 (hf a es rfl rfl j ds (fun q => zj q.symm) h1)
      · rw [List.getElem?_set_ne zj] at h1 h2
        rw [List.getElem?_set_ne zk] at h3 h4
        exact h.nd j k a ds es h1 h2 h3 h4
theorem EnvR.setD (h : EnvR K b H0 I H σ δ) {i : Nat} (hi : i < δ.length) (q : Res K b H0 I H v r) (hr : ∀ ds, r ≠ .own ds) : EnvR K b H0 I H (σ.set i (some v)) (δ.set i (some r)) :=
  h.set hi q fun _ ds e => absurd e (hr ds)
end
end DL

set_option Elab.async false
set_option linter.all false
set_option maxRecDepth 100000
set_option maxHeartbeats 4000000
namespace DL
open PySem L2
structure Ok (K : PySem.W.Frag) (b : Bg) (I H : Hp) : Prop where
  s : Same I H
  b : Bag K b I H
section
variable {K : PySem.W.Frag} {b : Bg} {I0 H0 I H I' H' : Hp}
theorem Ext.ok (e : Ext K b I0 H0 I H) : Ok K b I H := ⟨e.s, e.b⟩
theorem Ok.re (o : Ok K b I H) : Ext K b I H I H := Ext.refl o.s o.b
theorem Ok.new {p : Addr} {o : HO} (k : Ok K b I H) (hp : H p = none) (ho : PlainO o) : Ext K b I H (upd I p o) (upd H p o) := Ext.new k.s k.b hp ho
theorem Ok.newH {p : Addr} {o : HO} (k : Ok K b I H) (hp : H p = none) : Ext K b I H I (upd H p o) := Ext.newH k.s k.b hp
theorem Ok.inone (k : Ok K b I H) {p : Addr} (hp : H p = none) : I p = none := by
  cases q : I p with
  | none => rfl
  | some u => rw [k.s p u q] at hp; cases hp
theorem Ok.nb (k : Ok K b I H) {p : Addr} (hp : H p = none) : p ≠ b.a := fun z => by
  obtain ⟨xs, e⟩ := k.b.lst
  rw [← z, hp] at e
  cases e
theorem Res.since {H1 : Hp} {v : V} {r : DV} (h : Res K b H1 I H v r) (f : ∀ a, Fr H1 a → Fr H0 a) : Res K b H0 I H v r := by
  cases r with
  | own ds =>
    obtain ⟨a, xs, rfl, h0, hi, hb, ha, hd⟩ := h
    exact ⟨a, xs, rfl, f a h0, hi, hb, ha, hd⟩
  | dct own kvs =>
    obtain ⟨a, xs, rfl, h0, h⟩ := h
    exact ⟨a, xs, rfl, fun z => f a (h0 z), h⟩
  | _ => exact h
end
section
variable (K : PySem.W.Frag) (b : Bg) (I0 H0 : Hp)
/-- the reading te, where the slots are worth δ, gives a worth in P -/
def EvD (te : TE) (δ : Env) (P : DV → Prop) : Prop := ∀ (σ : St) (I H : Hp), Ext K b I0 H0 I H → EnvR K b H0 I H σ δ → ∀ Q : VK,
  (∀ r v I' H', P r → Ext K b I H I' H' → Res K b H I' H' v r → Q v H') → te σ H Q
def EvT (tt : TT) (δ : Env) (P : Bool → Prop) : Prop := ∀ (σ : St) (I H : Hp), Ext K b I0 H0 I H → EnvR K b H0 I H σ δ → ∀ Q : Bool → Hp → Prop,
  (∀ c I' H', P c → Ext K b I H I' H' → Q c H') → tt σ H Q
inductive ResA (K : PySem.W.Frag) (b : Bg) (H0 I H : Hp) : List V → List DV → Prop
  | nil : ResA K b H0 I H [] []
  | cons {v : V} {vs : List V} {r : DV} {rs : List DV} : Res K b H0 I H v r → ResA K b H0 I H vs rs → ResA K b H0 I H (v :: vs) (r :: rs)
def EvA (ta : TA) (δ : Env) (P : List DV → Prop) : Prop := ∀ (σ : St) (I H : Hp), Ext K b I0 H0 I H → EnvR K b H0 I H σ δ → ∀ Q : List V → Hp → Prop,
  (∀ rs vs I' H', P rs → Ext K b I H I' H' → ResA K b H I' H' vs rs → Q vs H') → ta σ H Q
end
section
variable (K : PySem.W.Frag) (b : Bg)
/-- an operation on two worths -/
def OpD (r : R2) (x y : DV) (P : DV → Prop) : Prop := ∀ (H0 I H : Hp) (v w : V), Ok K b I H → Res K b H0 I H v x → Res K b H0 I H w y → ∀ Q : VK,
  (∀ z u I' H', P z → Ext K b I H I' H' → Res K b H I' H' u z → Q u H') → r v w H Q
def UnD (r : V → Hp → VK → Prop) (x : DV) (P : DV → Prop) : Prop := ∀ (H0 I H : Hp) (v : V), Ok K b I H → Res K b H0 I H v x → ∀ Q : VK,
  (∀ z u I' H', P z → Ext K b I H I' H' → Res K b H I' H' u z → Q u H') → r v H Q
def CbD (r : List V → Hp → VK → Prop) (rs : List DV) (P : DV → Prop) : Prop := ∀ (H0 I H : Hp) (vs : List V), Ok K b I H → ResA K b H0 I H vs rs → ∀ Q : VK,
  (∀ z u I' H', P z → Ext K b I H I' H' → Res K b H I' H' u z → Q u H') → r vs H Q
end
section
variable {K : PySem.W.Frag} {b : Bg} {I0 H0 H1 I H I' H' : Hp} {δ : Env} {ta tb te : TE} {P Pa Pb : DV → Prop}
theorem ResA.ext (e : Ext K b I H I' H') : ∀ {vs : List V} {rs : List DV}, ResA K b H0 I H vs rs → ResA K b H0 I' H' vs rs
  | _, _, .nil => .nil
  | _, _, .cons q r => .cons (q.ext e) (ResA.ext e r)
theorem ResA.since (f : ∀ a, Fr H1 a → Fr H0 a) : ∀ {vs : List V} {rs : List DV}, ResA K b H1 I H vs rs → ResA K b H0 I H vs rs
  | _, _, .nil => .nil
  | _, _, .cons q r => .cons (q.since f) (ResA.since f r)
theorem EvD.mono (h : EvD K b I0 H0 te δ Pa) (m : ∀ r, Pa r → P r) : EvD K b I0 H0 te δ P := fun σ I H e n Q q => h σ I H e n Q fun r v I' H' p => q r v I' H' (m r p)
theorem EvT.mono {tt : TT} {A B : Bool → Prop} (h : EvT K b I0 H0 tt δ A) (m : ∀ r, A r → B r) : EvT K b I0 H0 tt δ B := fun σ I H e n Q q => h σ I H e n Q fun r I' H' p => q r I' H' (m r p)
theorem EvA.mono {ta : TA} {A B : List DV → Prop} (h : EvA K b I0 H0 ta δ A) (m : ∀ r, A r → B r) : EvA K b I0 H0 ta δ B := fun σ I H e n Q q => h σ I H e n Q fun r v I' H' p => q r v I' H' (m r p)
theorem EvD.to {r s : DV} (h : EvD K b I0 H0 te δ (fun x => x = r)) (e : r = s) : EvD K b I0 H0 te δ (fun x => x = s) := e ▸ h
/-- a name -/
theorem ev_var {i : Nat} {r : DV} (h : δ[i]? = some (some r)) (hr : ∀ ds, r ≠ .own ds := by intro _ z; cases z) (hd2 : ∀ kvs, r ≠ .dct true kvs := by intro _ z; cases z) : EvD K b I0 H0 (tVar i) δ (fun x => x = r) := fun σ I H e n Q q => by
  obtain ⟨v, e1, e2⟩ := n.at_ i r h
  refine ⟨v, e1, q r v I H rfl e.re ?_⟩
  cases r with
  | own ds => exact absurd rfl (hr ds)
  | dat d => exact e2
  | bor ds => exact e2
  | raw u => exact e2
  | bag => exact e2
  | dct own kvs =>
    cases own with
    | true => exact absurd rfl (hd2 kvs)
    | false =>
      obtain ⟨a, es, rfl, _, z⟩ := e2
      exact ⟨a, es, rfl, (fun z => by cases z), z⟩
/-- a dict of its own, lent -/
theorem ev_varK {i : Nat} {kvs : List (PyData × PyData)} (h : δ[i]? = some (some (.dct true kvs))) : EvD K b I0 H0 (tVar i) δ (fun x => x = .dct false kvs) := fun σ I H e n Q q => by
  obtain ⟨v, e1, e2⟩ := n.at_ i _ h
  obtain ⟨a, es, rfl, _, z⟩ := e2
  exact ⟨_, e1, q _ _ I H rfl e.re ⟨a, es, rfl, (fun z => by cases z), z⟩⟩
/-- a list of its own, lent -/
theorem ev_varB {i : Nat} {ds : List PyData} (h : δ[i]? = some (some (.own ds))) : EvD K b I0 H0 (tVar i) δ (fun x => x = .bor ds) := fun σ I H e n Q q => by
  obtain ⟨v, e1, e2⟩ := n.at_ i _ h
  obtain ⟨a, xs, rfl, _, hi, hb, ha, hd⟩ := e2
  exact ⟨_, e1, q _ _ I H rfl e.re ⟨a, xs, rfl, ha, hb, hi, hd⟩⟩
theorem ev_int {i : Int} : EvD K b I0 H0 (tC (.int i)) δ (fun x => x = dint i) := fun σ I H e n Q q => q _ _ I H rfl e.re (Dp.int i)
theorem ev_bl {i : Bool} : EvD K b I0 H0 (tC (.bl i)) δ (fun x => x = dbl i) := fun σ I H e n Q q => q _ _ I H rfl e.re (Dp.bl i)
theorem ev_str {i : Str} : EvD K b I0 H0 (tC (.str i)) δ (fun x => x = dstr i) := fun σ I H e n Q q => q _ _ I H rfl e.re (Dp.str i)
theorem ev_non : EvD K b I0 H0 (tC .non) δ (fun x => x = .dat .none) := fun σ I H e n Q q => q _ _ I H rfl e.re Dp.non
theorem ev_raw {v : V} : EvD K b I0 H0 (tC v) δ (fun x => x = .raw v) := fun σ I H e n Q q => q _ _ I H rfl e.re rfl
/-- a fresh list becomes plain -/
theorem Ext.frz {a : Addr} {xs : List V} (e : Ext K b I H I' H') (h0 : Fr H a) (hi : I' a = none) (hb : a ≠ b.a) (ha : H' a = some (.lst xs)) : Ext K b I H (upd I' a (.lst xs)) H' := by
  obtain ⟨n, pl, tb, l, ns, x, q, m, c, e1, sl, r⟩ := e.b
  refine ⟨fun c o h => ?_, e.h, fun c o n h t => ?_, e.k, fun c o h => ?_, by rw [upd_ne (fun z => hb z.symm)]; exact n, fun c ps h => ?_, tb, l, ns, x, q, m, c, e1, sl_mono (fun d u h => ?_) sl, r⟩
  · rw [upd_ne (ne_of_none (e.i c o h) hi)]; exact e.i c o h
  · rw [upd_ne (fun (z : c = a) => fr_not h0 (z ▸ h) t)]; exact e.n c o n h t
  · by_cases z : c = a
    · subst z; rw [upd_same] at h; rw [ha]; exact h
    · rw [upd_ne z] at h; exact e.s c o h
  · by_cases z : c = a
    · subst z; rw [upd_same] at h; cases h; exact True.intro
    · rw [upd_ne z] at h; exact pl c _ h
  · rw [upd_ne (ne_of_none h hi)]; exact h
theorem frz_res {ds : List PyData} {v : V} {I2 H2 : Hp} (e : Ext K b I2 H2 I' H') (rs : Res K b H2 I' H' v (.own ds)) : ∃ I'', Ext K b I2 H2 I'' H' ∧ Res K b H2 I'' H' v (.dat (.list ds)) := by
  obtain ⟨a, xs, rfl, h0, hi, hb, ha, hd⟩ := rs
  have s1 : Same I' (upd I' a (.lst xs)) := fun c o h => by rw [upd_ne (ne_of_none h hi)]; exact h
  exact ⟨_, e.frz h0 hi hb ha, .lst (.inl (.inl upd_same)) (dpa_mono s1 hd)⟩
/-- a list that was made becomes plain data -/
theorem ev_frz {A : List PyData → Prop} (h : EvD K b I0 H0 te δ (fun x => ∃ ds, x = .own ds ∧ A ds)) : EvD K b I0 H0 te δ (fun x => ∃ ds, x = .dat (.list ds) ∧ A ds) := fun σ I H e n Q q =>
  h σ I H e n Q fun r v I' H' p x rs => by
    obtain ⟨ds, rfl, p⟩ := p
    obtain ⟨I'', x', rs'⟩ := frz_res x rs
    exact q _ _ I'' H' ⟨ds, rfl, p⟩ x' rs'
theorem ev_frz1 {ds : List PyData} (h : EvD K b I0 H0 te δ (fun x => x = .own ds)) : EvD K b I0 H0 te δ (fun x => x = .dat (.list ds)) := fun σ I H e n Q q =>
  h σ I H e n Q fun r v I' H' p x rs => by
    subst p
    obtain ⟨I'', x', rs'⟩ := frz_res x rs
    exact q _ _ I'' H' rfl x' rs'
/-! ### operations -/
theorem free_of (e : Ext K b I H I' H') : ∀ a, Fr H' a → Fr H a := fun _ h => e.free h
theorem ev_op {r : R2} (ha : EvD K b I0 H0 ta δ Pa) (hb : EvD K b I0 H0 tb δ Pb) (ho : ∀ x y, Pa x → Pb y → OpD K b r x y P) : EvD K b I0 H0 (tOp r ta tb) δ P := fun σ I H e n Q q =>
  ha σ I H e n _ fun x v I1 H1 p1 x1 r1 => hb σ I1 H1 (e.trans x1) (n.ext x1) _ fun y w I2 H2 p2 x2 r2 =>
    ho x y p1 p2 H I2 H2 v w x2.ok (r1.ext x2) (r2.since (free_of x1)) Q fun z u I3 H3 p3 x3 r3 => q z u I3 H3 p3 ((x1.trans x2).trans x3) (r3.since (free_of (x1.trans x2)))
theorem ev_un {r : V → Hp → VK → Prop} (ha : EvD K b I0 H0 ta δ Pa) (ho : ∀ x, Pa x → UnD K b r x P) : EvD K b I0 H0 (tUn r ta) δ P := fun σ I H e n Q q =>
  ha σ I H e n _ fun x v I1 H1 p1 x1 r1 => ho x p1 H I1 H1 v x1.ok r1 Q fun z u I3 H3 p3 x3 r3 => q z u I3 H3 p3 (x1.trans x3) (r3.since (free_of x1))
theorem ea_nil : EvA K b I0 H0 tNil δ (fun x => x = []) := fun σ I H e n Q q => q [] [] I H rfl e.re .nil
theorem ea_cons {tr : TA} {A : List DV → Prop} {B : List DV → Prop} (ha : EvD K b I0 H0 ta δ Pa) (hr : EvA K b I0 H0 tr δ A) (hB : ∀ r rs, Pa r → A rs → B (r :: rs)) : EvA K b I0 H0 (tCons ta tr) δ B := fun σ I H e n Q q =>
  ha σ I H e n _ fun x v I1 H1 p1 x1 r1 => hr σ I1 H1 (e.trans x1) (n.ext x1) _ fun rs vs I2 H2 p2 x2 r2 =>
    q (x :: rs) (v :: vs) I2 H2 (hB x rs p1 p2) (x1.trans x2) (.cons (r1.ext x2) (r2.since (free_of x1)))
/-- the same, the worths told one by one -/
theorem ea_cons1 {tr : TA} {r : DV} {rs : List DV} (ha : EvD K b I0 H0 ta δ (fun x => x = r)) (hr : EvA K b I0 H0 tr δ (fun x => x = rs)) : EvA K b I0 H0 (tCons ta tr) δ (fun x => x = r :: rs) :=
  ea_cons ha hr fun _ _ e f => by rw [e, f]
theorem ev_cb {r : List V → Hp → VK → Prop} {t : TA} {A : List DV → Prop} (ha : EvA K b I0 H0 t δ A) (hc : ∀ rs, A rs → CbD K b r rs P) : EvD K b I0 H0 (tCB r t) δ P := fun σ I H e n Q q =>
  ha σ I H e n _ fun rs vs I1 H1 p1 x1 r1 => hc rs p1 H I1 H1 vs x1.ok r1 Q fun z u I2 H2 p2 x2 r2 => q z u I2 H2 p2 (x1.trans x2) (r2.since (free_of x1))
/-! ### tests -/
theorem et_test {A : Bool → Prop} (h : EvD K b I0 H0 te δ (fun x => ∃ c, x = dbl c ∧ A c)) : EvT K b I0 H0 (tTest te) δ A := fun σ I H e n Q q =>
  h σ I H e n _ fun r v I' H' p x rs => by
    obtain ⟨c, rfl, p⟩ := p
    exact ⟨c, bl_read rs, q c I' H' p x⟩
theorem et_B {A : Bool → Prop} (h : EvD K b I0 H0 te δ (fun x => ∃ c, x = dbl c ∧ A c)) : EvT K b I0 H0 (tB te) δ A := fun σ I H e n Q q =>
  h σ I H e n _ fun r v I' H' p x rs => by
    obtain ⟨c, rfl, p⟩ := p
    exact ⟨c, bl_read rs, q c I' H' p x⟩
theorem et_test1 {c : Bool} (h : EvD K b I0 H0 te δ (fun x => x = dbl c)) : EvT K b I0 H0 (tTest te) δ (fun x => x = c) := et_test (h.mono fun _ e => ⟨c, e, rfl⟩)
theorem et_B1 {c : Bool} (h : EvD K b I0 H0 te δ (fun x => x = dbl c)) : EvT K b I0 H0 (tB te) δ (fun x => x = c) := et_B (h.mono fun _ e => ⟨c, e, rfl⟩)
theorem et_and {t u : TT} {A B C : Bool → Prop} (h1 : EvT K b I0 H0 t δ A) (h2 : A true → EvT K b I0 H0 u δ B) (h3 : A false → C false) (h4 : A true → ∀ c, B c → C c) : EvT K b I0 H0 (tAnd t u) δ C := fun σ I H e n Q q =>
  h1 σ I H e n _ fun c I1 H1 p x => by
    cases c with
    | true => exact h2 p σ I1 H1 (e.trans x) (n.ext x) Q fun c I2 H2 p2 x2 => q c I2 H2 (h4 p c p2) (x.trans x2)
    | false => exact q false I1 H1 (h3 p) x
theorem et_or {t u : TT} {A B C : Bool → Prop} (h1 : EvT K b I0 H0 t δ A) (h2 : A false → EvT K b I0 H0 u δ B) (h3 : A true → C true) (h4 : A false → ∀ c, B c → C c) : EvT K b I0 H0 (tOr t u) δ C := fun σ I H e n Q q =>
  h1 σ I H e n _ fun c I1 H1 p x => by
    cases c with
    | false => exact h2 p σ I1 H1 (e.trans x) (n.ext x) Q fun c I2 H2 p2 x2 => q c I2 H2 (h4 p c p2) (x.trans x2)
    | true => exact q true I1 H1 (h3 p) x
theorem et_not {t : TT} {A : Bool → Prop} (h1 : EvT K b I0 H0 t δ A) : EvT K b I0 H0 (tNot t) δ (fun c => A (!c)) := fun σ I H e n Q q =>
  h1 σ I H e n _ fun c I1 H1 p x => q (!c) I1 H1 (by show A (!(!c)); rw [Bool.not_not]; exact p) x
theorem et_not1 {t : TT} {c : Bool} (h1 : EvT K b I0 H0 t δ (fun x => x = c)) : EvT K b I0 H0 (tNot t) δ (fun x => x = !c) := (et_not h1).mono fun x h => by
  cases x <;> cases c <;> simp_all
/-- and, both answers told -/
theorem et_and1 {t u : TT} {x y : Bool} (h1 : EvT K b I0 H0 t δ (fun c => c = x)) (h2 : x = true → EvT K b I0 H0 u δ (fun c => c = y)) : EvT K b I0 H0 (tAnd t u) δ (fun c => c = (x && y)) :=
  et_and h1 (fun e => h2 e.symm) (fun e => by rw [← e]; rfl) fun e c hc => by rw [← e, hc]; rfl
theorem et_or1 {t u : TT} {x y : Bool} (h1 : EvT K b I0 H0 t δ (fun c => c = x)) (h2 : x = false → EvT K b I0 H0 u δ (fun c => c = y)) : EvT K b I0 H0 (tOr t u) δ (fun c => c = (x || y)) :=
  et_or h1 (fun e => h2 e.symm) (fun e => by rw [← e]; rfl) fun e c hc => by rw [← e, hc]; rfl
theorem ev_if {t : TT} {A : Bool → Prop} (h1 : EvT K b I0 H0 t δ A) (h2 : A true → EvD K b I0 H0 ta δ P) (h3 : A false → EvD K b I0 H0 tb δ P) : EvD K b I0 H0 (tIf t ta tb) δ P := fun σ I H e n Q q =>
  h1 σ I H e n _ fun c I1 H1 p x => by
    cases c with
    | true => exact h2 p σ I1 H1 (e.trans x) (n.ext x) Q fun r v I2 H2 p2 x2 r2 => q r v I2 H2 p2 (x.trans x2) (r2.since (free_of x))
    | false => exact h3 p σ I1 H1 (e.trans x) (n.ext x) Q fun r v I2 H2 p2 x2 r2 => q r v I2 H2 p2 (x.trans x2) (r2.since (free_of x))
theorem ev_andV {A : Bool → Prop} (h1 : EvD K b I0 H0 ta δ (fun x => ∃ c, x = dbl c ∧ A c)) (h2 : A true → EvD K b I0 H0 tb δ P) (h3 : A false → P (dbl false)) : EvD K b I0 H0 (tAndV ta tb) δ P := fun σ I H e n Q q =>
  h1 σ I H e n _ fun r v I1 H1 p x rs => by
    obtain ⟨c, rfl, p⟩ := p
    refine ⟨c, bl_read rs, ?_⟩
    cases c with
    | true => exact h2 p σ I1 H1 (e.trans x) (n.ext x) Q fun r v I2 H2 p2 x2 r2 => q r v I2 H2 p2 (x.trans x2) (r2.since (free_of x))
    | false => exact q _ _ I1 H1 (h3 p) x (Dp.bl false)
theorem ev_orV {A : Bool → Prop} (h1 : EvD K b I0 H0 ta δ (fun x => ∃ c, x = dbl c ∧ A c)) (h2 : A false → EvD K b I0 H0 tb δ P) (h3 : A true → P (dbl true)) : EvD K b I0 H0 (tOrV ta tb) δ P := fun σ I H e n Q q =>
  h1 σ I H e n _ fun r v I1 H1 p x rs => by
    obtain ⟨c, rfl, p⟩ := p
    refine ⟨c, bl_read rs, ?_⟩
    cases c with
    | false => exact h2 p σ I1 H1 (e.trans x) (n.ext x) Q fun r v I2 H2 p2 x2 r2 => q r v I2 H2 p2 (x.trans x2) (r2.since (free_of x))
    | true => exact q _ _ I1 H1 (h3 p) x (Dp.bl true)
theorem ev_notV {A : Bool → Prop} (h1 : EvD K b I0 H0 ta δ (fun x => ∃ c, x = dbl c ∧ A c)) (h2 : ∀ c, A c → P (dbl (!c))) : EvD K b I0 H0 (tNotV ta) δ P := fun σ I H e n Q q =>
  h1 σ I H e n _ fun r v I1 H1 p x rs => by
    obtain ⟨c, rfl, p⟩ := p
    exact ⟨c, bl_read rs, q _ _ I1 H1 (h2 c p) x (Dp.bl _)⟩
theorem ev_chain {r r' : R2} {tc : TE} {Pc : DV → Prop} {A : Bool → Prop} (ha : EvD K b I0 H0 ta δ Pa) (hb : EvD K b I0 H0 tb δ Pb) (hc : EvD K b I0 H0 tc δ Pc)
    (ho : ∀ x y, Pa x → Pb y → OpD K b r x y (fun z => ∃ c, z = dbl c ∧ (c = false → P (dbl false)) ∧ (c = true → ∀ z, Pc z → OpD K b r' y z P))) : EvD K b I0 H0 (tChain r r' ta tb tc) δ P := fun σ I H e n Q q =>
  ha σ I H e n _ fun x v I1 H1 p1 x1 r1 => hb σ I1 H1 (e.trans x1) (n.ext x1) _ fun y w I2 H2 p2 x2 r2 =>
    ho x y p1 p2 H I2 H2 v w x2.ok (r1.ext x2) (r2.since (free_of x1)) _ fun z u I3 H3 p3 x3 r3 => by
      obtain ⟨c, rfl, pf, pt⟩ := p3
      refine ⟨c, bl_read r3, ?_⟩
      cases c with
      | false => exact q _ _ I3 H3 (pf rfl) ((x1.trans x2).trans x3) (Dp.bl false)
      | true =>
        exact hc σ I3 H3 (e.trans ((x1.trans x2).trans x3)) (n.ext ((x1.trans x2).trans x3)) _ fun zz ww I4 H4 p4 x4 r4 =>
          pt rfl zz p4 H I4 H4 w ww x4.ok (((r2.since (free_of x1)).ext x3).ext x4) (r4.since (free_of ((x1.trans x2).trans x3))) Q fun z5 u5 I5 H5 p5 x5 r5 =>
            q z5 u5 I5 H5 p5 ((((x1.trans x2).trans x3).trans x4).trans x5) (r5.since (free_of (((x1.trans x2).trans x3).trans x4)))
/-! ### tuples, lists made -/
theorem resA_dats : ∀ {vs : List V} {ds : List PyData}, ResA K b H0 I H vs (ds.map .dat) → DpAll K I vs ds
  | [], [], _ => .nil
  | _ :: _, d :: ds, .cons q r => .cons q (resA_dats r)
/-- a new tuple -/
theorem newT_res {I1 H1 : Hp} {xs : List V} {ds : List PyData} {Q : VK} (k : Ok K b I1 H1) (hd : DpAll K I1 xs ds) (q : ∀ v I' H', Ext K b I1 H1 I' H' → Dp K I' v (.tuple ds) → Q v H') : TF.NewT xs H1 Q := fun p o hp ho => by
  have x2 := k.new (o := .frz o (.tup xs)) hp ho
  exact q _ _ _ x2 (.tup (.inl (.inr ⟨o, upd_same⟩)) (dpa_mono x2.i hd))
theorem ev_tup {t : TA} {A : List PyData → Prop} (h : EvA K b I0 H0 t δ (fun rs => ∃ ds, rs = ds.map .dat ∧ ds.length ≤ 100000 ∧ A ds)) : EvD K b I0 H0 (TF.tTupF t) δ (fun x => ∃ ds, x = .dat (.tuple ds) ∧ A ds) := fun σ I H e n Q q =>
  h σ I H e n _ fun rs vs I1 H1 p x r => by
    obtain ⟨ds, rfl, hl, p⟩ := p
    have hd := resA_dats r
    exact ⟨Nat.le_trans (by rw [dpa_len hd]; exact hl) (by decide : 100000 ≤ sizeLine), newT_res x.ok hd fun v I' H' x2 d => q _ v I' H' ⟨ds, rfl, p⟩ (x.trans x2) d⟩
theorem ev_tup1 {t : TA} {ds : List PyData} (h : EvA K b I0 H0 t δ (fun rs => rs = ds.map .dat)) (hl : ds.length ≤ 100000 := by decide) : EvD K b I0 H0 (TF.tTupF t) δ (fun x => x = .dat (.tuple ds)) :=
  (ev_tup (A := fun x => x = ds) (h.mono fun rs e => ⟨ds, e, hl, rfl⟩)).mono fun r ⟨d, e, e2⟩ => by rw [e, e2]
theorem ev_lst {t : TA} {A : List PyData → Prop} (h : EvA K b I0 H0 t δ (fun rs => ∃ ds, rs = ds.map .dat ∧ ds.length ≤ 100000 ∧ A ds)) : EvD K b I0 H0 (tLst t) δ (fun x => ∃ ds, x = .own ds ∧ A ds) := fun σ I H e n Q q =>
  h σ I H e n _ fun rs vs I1 H1 p x r => by
    obtain ⟨ds, rfl, hl, p⟩ := p
    have hd := resA_dats r
    refine ⟨Nat.le_trans (by rw [dpa_len hd]; exact hl) (by decide : 100000 ≤ sizeLine), fun p' hp => ?_⟩
    have x2 := x.ok.newH (o := .lst vs) hp
    exact q _ _ _ _ ⟨ds, rfl, p⟩ (x.trans x2) ⟨p', vs, rfl, x.free (fr_none hp), x.ok.inone hp, x.ok.nb hp, upd_same, hd⟩
theorem ev_lst1 {t : TA} {ds : List PyData} (h : EvA K b I0 H0 t δ (fun rs => rs = ds.map .dat)) (hl : ds.length ≤ 100000 := by decide) : EvD K b I0 H0 (tLst t) δ (fun x => x = .own ds) :=
  (ev_lst (A := fun x => x = ds) (h.mono fun rs e => ⟨ds, e, hl, rfl⟩)).mono fun r ⟨d, e, e2⟩ => by rw [e, e2]
end
/-! ### what the operations on values are worth -/
section
variable {K : PySem.W.Frag} {b : Bg} {i j : Int}
theorem od_I0 {g : Int → Int → V} {d : PyData} (hg : ∀ K I, Dp K I (g i j) d) : OpD K b (rI0 g) (dint i) (dint j) (fun x => x = .dat d) := fun H0 I H v w k r1 r2 Q q =>
  ⟨i, j, int_read r1, int_read r2, q _ _ I H rfl k.re (hg K I)⟩
theorem od_I {C : Int → Int → Prop} {g : Int → Int → V} {d : PyData} (hc : C i j) (hg : ∀ K I, Dp K I (g i j) d) : OpD K b (rI C g) (dint i) (dint j) (fun x => x = .dat d) := fun H0 I H v w k r1 r2 Q q =>
  ⟨i, j, int_read r1, int_read r2, hc, q _ _ I H rfl k.re (hg K I)⟩
theorem ud_U {g : Int → V} {d : PyData} (hg : ∀ K I, Dp K I (g i) d) : UnD K b (rU g) (dint i) (fun x => x = .dat d) := fun H0 I H v k r1 Q q =>
  ⟨i, int_read r1, q _ _ I H rfl k.re (hg K I)⟩
theorem ixL_ {P : DV → Prop} {x : DV} {ds : List PyData} {d : PyData} (l : LstR x ds) (h0 : 0 ≤ i) (h : ds[i.toNat]? = some d) (hP : P (.dat d)) : OpD K b (rIxL K) x (dint i) P := fun H0 I H v w k r1 r2 Q q => by
  obtain ⟨a, xs, rfl, hs, hd⟩ := l.read k.s r1
  obtain ⟨u, e1, e2⟩ := dpa_get hd h
  refine ⟨a, xs, i, u, rfl, int_read r2, hs, ?_, q _ _ I H hP k.re e2⟩
  exact at_of (j := i.toNat) (by omega) e1
theorem ixT_ {P : DV → Prop} {ds : List PyData} {d : PyData} (h0 : 0 ≤ i) (h : ds[i.toNat]? = some d) (hP : P (.dat d)) : OpD K b (rIxT K) (.dat (.tuple ds)) (dint i) P := fun H0 I H v w k r1 r2 Q q => by
  obtain ⟨a, xs, rfl, hs, hd⟩ := tup_read k.s r1
  obtain ⟨u, e1, e2⟩ := dpa_get hd h
  refine ⟨a, xs, i, u, rfl, int_read r2, hs, ?_, q _ _ I H hP k.re e2⟩
  exact at_of (j := i.toNat) (by omega) e1
/-- == of plain data -/
theorem od_eq {d e : PyData} (h1 : SeqAt.shaped d = true) (h2 : SeqAt.shaped e = true) : OpD K b (rEqD K) (.dat d) (.dat e) (fun x => x = dbl (PyData.eqv d e)) := fun H0 I H v w k r1 r2 Q q =>
  ⟨d, e, dp_mono k.s r1, dp_mono k.s r2, h1, h2, q _ _ I H rfl k.re (Dp.bl _)⟩
theorem od_ne {d e : PyData} (h1 : SeqAt.shaped d = true) (h2 : SeqAt.shaped e = true) : OpD K b (rNeD K) (.dat d) (.dat e) (fun x => x = dbl (!PyData.eqv d e)) := fun H0 I H v w k r1 r2 Q q =>
  ⟨d, e, dp_mono k.s r1, dp_mono k.s r2, h1, h2, q _ _ I H rfl k.re (Dp.bl _)⟩
end
end DL

set_option Elab.async false
set_option linter.all false
set_option maxRecDepth 100000
set_option maxHeartbeats 4000000
namespace DL
open PySem L2 RZ
section
variable {K : PySem.W.Frag} {b : Bg} {H0 I H I' H' : Hp}
/-- a list that is new since (I, H) changes -/
theorem Ext.mut {D : Addr} {xs : List V} {o : HO} (e : Ext K b I H I' H') (h0 : Fr H D) (hi : I' D = none) (hb : D ≠ b.a) (hD : H' D = some (.lst xs)) : Ext K b I H I' (upd H' D o) := by
  obtain ⟨n, pl, tb, l, ns, x, q, m, c, e1, sl, r⟩ := e.b
  refine ⟨e.i, fun a u n t h => ?_, e.n, fun l xs h => (let ⟨ys, h1⟩ := e.k l xs h; ⟨ys, by rw [upd_ne (fun z => hb z.symm)]; exact h1⟩), fun a u h => ?_, n, pl, tabs_upd tb hD, l, ns, x, q, m, c, ?_, sl, r⟩
  · rw [upd_ne (fun (z : a = D) => fr_not h0 (z ▸ h) t)]; exact e.h a u n t h
  · rw [upd_ne (ne_of_none h hi)]; exact e.s a u h
  · rw [upd_ne (fun z => hb z.symm)]; exact e1
end
/-! ### calls of built-ins -/
section
variable {K : PySem.W.Frag} {b : Bg} {i j : Int}
theorem cb_lenL {x : DV} {ds : List PyData} (l : LstR x ds) : CbD K b (fun xs H Q => ∃ p ys, xs = [.ref p] ∧ (SqL K H p ys ∨ SqT K H p ys) ∧ Q (.int ys.length) H) [x] (fun r => r = dint ds.length) := fun H0 I H vs k rs Q q => by
  cases rs with
  | cons r1 rr =>
    cases rr
    obtain ⟨a, xs, rfl, hs, hd⟩ := l.read k.s r1
    exact ⟨a, xs, rfl, .inl hs, q _ _ I H rfl k.re (by rw [dpa_len hd]; exact Dp.int _)⟩
theorem cb_lenT {ds : List PyData} : CbD K b (fun xs H Q => ∃ p ys, xs = [.ref p] ∧ (SqL K H p ys ∨ SqT K H p ys) ∧ Q (.int ys.length) H) [.dat (.tuple ds)] (fun r => r = dint ds.length) := fun H0 I H vs k rs Q q => by
  cases rs with
  | cons r1 rr =>
    cases rr
    obtain ⟨a, xs, rfl, hs, hd⟩ := tup_read k.s r1
    exact ⟨a, xs, rfl, .inr hs, q _ _ I H rfl k.re (by rw [dpa_len hd]; exact Dp.int _)⟩
theorem cb_tupleL {x : DV} {ds : List PyData} (l : LstR x ds) : CbD K b (TF.rTupleF K) [x] (fun r => r = .dat (.tuple ds)) := fun H0 I H vs k rs Q q => by
  cases rs with
  | cons r1 rr =>
    cases rr
    obtain ⟨a, xs, rfl, hs, hd⟩ := l.read k.s r1
    exact ⟨a, xs, rfl, .inl ⟨hs, newT_res k hd fun v I' H' x2 d => q _ v I' H' rfl x2 d⟩⟩
theorem cb_tupleT {ds : List PyData} : CbD K b (TF.rTupleF K) [.dat (.tuple ds)] (fun r => r = .dat (.tuple ds)) := fun H0 I H vs k rs Q q => by
  cases rs with
  | cons r1 rr =>
    cases rr
    obtain ⟨a, xs, e, hs, hd⟩ := tup_read k.s r1
    subst e
    exact ⟨a, xs, rfl, .inr ⟨hs, q _ _ I H rfl k.re r1⟩⟩
theorem cb_listL {x : DV} {ds : List PyData} (l : LstR x ds) : CbD K b (fun xs H Q => ∃ p ys, xs = [.ref p] ∧ (SqL K H p ys ∨ SqT K H p ys) ∧ ∀ l, H l = none → Q (.ref l) (upd H l (.lst ys))) [x] (fun r => r = .own ds) := fun H0 I H vs k rs Q q => by
  cases rs with
  | cons r1 rr =>
    cases rr
    obtain ⟨a, xs, rfl, hs, hd⟩ := l.read k.s r1
    exact ⟨a, xs, rfl, .inl hs, fun p hp => q _ _ _ _ rfl (k.newH hp) ⟨p, xs, rfl, fr_none hp, k.inone hp, k.nb hp, upd_same, hd⟩⟩
theorem cb_listT {ds : List PyData} : CbD K b (fun xs H Q => ∃ p ys, xs = [.ref p] ∧ (SqL K H p ys ∨ SqT K H p ys) ∧ ∀ l, H l = none → Q (.ref l) (upd H l (.lst ys))) [.dat (.tuple ds)] (fun r => r = .own ds) := fun H0 I H vs k rs Q q => by
  cases rs with
  | cons r1 rr =>
    cases rr
    obtain ⟨a, xs, rfl, hs, hd⟩ := tup_read k.s r1
    exact ⟨a, xs, rfl, .inr hs, fun p hp => q _ _ _ _ rfl (k.newH hp) ⟨p, xs, rfl, fr_none hp, k.inone hp, k.nb hp, upd_same, hd⟩⟩
theorem cb_abs : CbD K b (fun xs H Q => ∃ i, xs = [.int i] ∧ Q (.int (if i < 0 then -i else i)) H) [dint i] (fun r => r = dint (if i < 0 then -i else i)) := fun H0 I H vs k rs Q q => by
  cases rs with
  | cons r1 rr =>
    cases rr
    rw [int_read r1]
    exact ⟨i, rfl, q _ _ I H rfl k.re (Dp.int _)⟩
theorem cb_min : CbD K b (fun xs H Q => ∃ i j, xs = [.int i, .int j] ∧ Q (.int (if j < i then j else i)) H) [dint i, dint j] (fun r => r = dint (if j < i then j else i)) := fun H0 I H vs k rs Q q => by
  cases rs with
  | cons r1 rr =>
    cases rr with
    | cons r2 rr =>
      cases rr
      rw [int_read r1, int_read r2]
      exact ⟨i, j, rfl, q _ _ I H rfl k.re (Dp.int _)⟩
theorem cb_max : CbD K b (fun xs H Q => ∃ i j, xs = [.int i, .int j] ∧ Q (.int (if j > i then j else i)) H) [dint i, dint j] (fun r => r = dint (if j > i then j else i)) := fun H0 I H vs k rs Q q => by
  cases rs with
  | cons r1 rr =>
    cases rr with
    | cons r2 rr =>
      cases rr
      rw [int_read r1, int_read r2]
      exact ⟨i, j, rfl, q _ _ I H rfl k.re (Dp.int _)⟩
theorem cb_sum {x : DV} {ns : List Int} (l : LstR x (ns.map .int)) : CbD K b (rSum K) [x] (fun r => r = dint ns.sum) := fun H0 I H vs k rs Q q => by
  cases rs with
  | cons r1 rr =>
    cases rr
    obtain ⟨a, xs, rfl, hs, hd⟩ := l.read k.s r1
    rw [dpa_ints hd] at hs
    exact ⟨a, ns, rfl, hs, q _ _ I H rfl k.re (Dp.int _)⟩
theorem cb_all {x : DV} {ns : List Bool} (l : LstR x (ns.map .bool)) : CbD K b (rAll K) [x] (fun r => r = dbl (ns.all id)) := fun H0 I H vs k rs Q q => by
  cases rs with
  | cons r1 rr =>
    cases rr
    obtain ⟨a, xs, rfl, hs, hd⟩ := l.read k.s r1
    rw [dpa_bools hd] at hs
    exact ⟨a, ns, rfl, hs, q _ _ I H rfl k.re (Dp.bl _)⟩
theorem cb_any {x : DV} {ns : List Bool} (l : LstR x (ns.map .bool)) : CbD K b (rAny K) [x] (fun r => r = dbl (ns.any id)) := fun H0 I H vs k rs Q q => by
  cases rs with
  | cons r1 rr =>
    cases rr
    obtain ⟨a, xs, rfl, hs, hd⟩ := l.read k.s r1
    rw [dpa_bools hd] at hs
    exact ⟨a, ns, rfl, hs, q _ _ I H rfl k.re (Dp.bl _)⟩
/-- t + u of tuples -/
theorem od_cat {ds es : List PyData} (hl : ds.length + es.length ≤ 100000) : OpD K b (TF.rCatF K) (.dat (.tuple ds)) (.dat (.tuple es)) (fun x => x = .dat (.tuple (ds ++ es))) := fun H0 I H v w k r1 r2 Q q => by
  obtain ⟨a, xs, e1, hs, hd⟩ := tup_read k.s r1
  obtain ⟨c, ys, e2, ht, he⟩ := tup_read k.s r2
  subst e1 e2
  have l1 := dpa_len hd
  have l2 := dpa_len he
  refine ⟨a, c, xs, ys, rfl, rfl, hs, ht, Nat.le_trans (by omega) (by decide : 100000 ≤ sizeLine), fun z => ?_, fun _ z => ?_, fun _ _ => newT_res k (dpa_app hd he) fun v I' H' x2 d => q _ v I' H' rfl x2 d⟩
  · subst z
    cases hd
    exact q _ _ I H rfl k.re r2
  · subst z
    cases he
    rw [List.append_nil] at q
    exact q _ _ I H rfl k.re r1
theorem dpa_rep {I : Hp} {xs : List V} {ds : List PyData} (h : DpAll K I xs ds) : ∀ n : Nat, DpAll K I (List.replicate n xs).flatten (List.replicate n ds).flatten
  | 0 => .nil
  | n + 1 => by
    rw [List.replicate_succ, List.replicate_succ, List.flatten_cons, List.flatten_cons]
    exact dpa_app h (dpa_rep h n)
/-- t * n -/
theorem od_rep {ds : List PyData} {n : Int} (h0 : ds ≠ []) (hl : ds.length ≤ 1000) (n0 : -1000 ≤ n) (n1 : n ≤ 1000) : OpD K b (TF.rRepF K) (.dat (.tuple ds)) (dint n) (fun x => x = .dat (.tuple (List.replicate n.toNat ds).flatten)) := fun H0 I H v w k r1 r2 Q q => by
  obtain ⟨a, xs, e1, hs, hd⟩ := tup_read k.s r1
  subst e1
  have l1 := dpa_len hd
  refine ⟨a, n, xs, rfl, int_read r2, hs, fun z => h0 ?_, n0, n1, by omega, fun z => ?_, fun z => ?_, fun _ => newT_res k (dpa_rep hd _) fun v I' H' x2 d => q _ v I' H' rfl x2 d⟩
  · subst z
    exact List.eq_nil_of_length_eq_zero l1.symm
  · have ez : (List.replicate n.toNat ds).flatten = [] := by
      rw [show n.toNat = 0 by omega]
      rfl
    exact newT_res k .nil fun v I' H' x2 d => q (.dat (.tuple [])) v I' H' (by rw [ez]) x2 d
  · subst z
    refine q (.dat (.tuple ds)) _ I H ?_ k.re r1
    simp
/-- t[lo:hi] -/
def cutD (ds : List PyData) (lo hi : Option Int) : List PyData := (ds.drop (HT.sIx ds.length 0 lo)).take (HT.sIx ds.length ds.length hi - HT.sIx ds.length 0 lo)
end
/-! ### what is walked -/
/-- how an item is told: as plain data; as a new pair of plain data -/
abbrev Rel := Hp → Hp → V → PyData → Prop
def DpR (K : PySem.W.Frag) : Rel := fun I _ v d => Dp K I v d
def PairR (K : PySem.W.Frag) : Rel := fun I H v d => ∃ T x1 x2 d1 d2, v = .ref T ∧ H T = some (.tup [x1, x2]) ∧ d = .tuple [d1, d2] ∧ Dp K I x1 d1 ∧ Dp K I x2 d2
section
variable (K : PySem.W.Frag) (b : Bg) (Rl : Rel)
def IterOk (J : It) (I : Hp) (ds : List PyData) : Prop := ∃ G Y, Walk J ds.length G Y ∧ (∀ H, Same I H → G H) ∧
  ∀ (i : Nat) (I2 H : Hp) (x : V) (H' : Hp) (d : PyData), Same I I2 → Ok K b I2 H → Y i H x H' → ds[i]? = some d → ∃ I3, Ext K b I2 H I3 H' ∧ Rl I3 H' x d
def ItD (I0 H0 : Hp) (wi : TI) (δ : Env) (A : List PyData → Prop) : Prop := ∀ (σ : St) (I H : Hp), Ext K b I0 H0 I H → EnvR K b H0 I H σ δ → ∀ R : It → Hp → Prop,
  (∀ ds J I' H', A ds → Ext K b I H I' H' → IterOk K b Rl J I' ds → R J H') → wi σ H R
/-- the datum d goes to the target g: δ becomes δ' -/
def TgD (g : TG) (is : List Nat) (d : PyData) (δ δ' : Env) : Prop := ∀ (H0 I H : Hp) (σ : St) (v : V), Ok K b I H → EnvR K b H0 I H σ δ → Rl I H v d → ∀ Q : St → Hp → Prop,
  (∀ σ', EnvR K b H0 I H σ' δ' → (∀ j, j ∉ is → σ'[j]? = σ[j]?) → σ'.length = σ.length → Q σ' H) → g v σ H Q
end
section
variable {K : PySem.W.Frag} {b : Bg} {I0 H0 : Hp} {δ : Env} {te : TE}
theorem itd_list {A : List PyData → Prop} (h : EvD K b I0 H0 te δ (fun x => ∃ ds, x = .dat (.list ds) ∧ A ds)) : ItD K b (DpR K) I0 H0 (iList K te) δ A := fun σ I H k n R q =>
  h σ I H k n _ fun r v I1 H1 p x rs => by
    obtain ⟨ds, rfl, p⟩ := p
    have hr : Dp K I1 v (.list ds) := rs
    cases hr with
    | @lst a xs _ hs hd =>
      refine ⟨a, rfl, ⟨xs, sl_mono x.s hs⟩, q ds _ I1 H1 p x ⟨fun H => SqL K H a xs, YAt xs, ?_, fun H e => sl_mono e hs, fun i I2 H x H' d e k2 y hd' => ?_⟩⟩
      · rw [← dpa_len hd]
        exact walk_list
      · obtain ⟨rfl, y⟩ := y
        obtain ⟨u, e1, e2⟩ := dpa_get hd hd'
        rw [y] at e1
        cases e1
        exact ⟨I2, k2.re, dp_mono e e2⟩
theorem itd_tup {A : List PyData → Prop} (h : EvD K b I0 H0 te δ (fun x => ∃ ds, x = .dat (.tuple ds) ∧ A ds)) : ItD K b (DpR K) I0 H0 (iTup K te) δ A := fun σ I H k n R q =>
  h σ I H k n _ fun r v I1 H1 p x rs => by
    obtain ⟨ds, rfl, p⟩ := p
    have hr : Dp K I1 v (.tuple ds) := rs
    cases hr with
    | @tup a xs _ hs hd =>
      refine ⟨a, rfl, ⟨xs, st_mono x.s hs⟩, q ds _ I1 H1 p x ⟨fun H => SqT K H a xs, YAt xs, ?_, fun H e => st_mono e hs, fun i I2 H x H' d e k2 y hd' => ?_⟩⟩
      · rw [← dpa_len hd]
        exact walk_tup
      · obtain ⟨rfl, y⟩ := y
        obtain ⟨u, e1, e2⟩ := dpa_get hd hd'
        rw [y] at e1
        cases e1
        exact ⟨I2, k2.re, dp_mono e e2⟩
def rangeD (lo : Int) (n : Nat) : List PyData := (List.range n).map fun (k : Nat) => .int (lo + (k : Int))
theorem rangeD_len (lo : Int) (n : Nat) : (rangeD lo n).length = n := by simp [rangeD]
theorem rangeD_get {lo : Int} {n i : Nat} {d : PyData} (h : (rangeD lo n)[i]? = some d) : i < n ∧ d = .int (lo + i) := by
  unfold rangeD at h
  rw [List.getElem?_map] at h
  cases q : (List.range n)[i]? with
  | none => rw [q] at h; cases h
  | some j =>
    rw [q] at h
    obtain ⟨h1, h2⟩ := List.getElem?_eq_some_iff.mp q
    rw [List.getElem_range] at h2
    rw [List.length_range] at h1
    subst h2
    exact ⟨h1, (Option.some.inj h).symm⟩
theorem range_ok {lo : Int} {n : Nat} {I : Hp} : IterOk K b (DpR K) (Itr lo n) I (rangeD lo n) := by
  refine ⟨_, _, by rw [rangeD_len]; exact walk_range, fun _ _ => True.intro, fun i I2 H x H' d e k2 y hd => ?_⟩
  obtain ⟨rfl, rfl⟩ := y
  obtain ⟨_, rfl⟩ := rangeD_get hd
  exact ⟨I2, k2.re, Dp.int _⟩
theorem itd_rng1 {ta : TA} {A : Int → Prop} (h : EvA K b I0 H0 ta δ (fun rs => ∃ n, rs = [dint n] ∧ n < 2 ^ 62 ∧ -(2 ^ 62) ≤ n ∧ A n)) : ItD K b (DpR K) I0 H0 (iRng1 ta) δ (fun ds => ∃ n, ds = rangeD 0 n.toNat ∧ A n) := fun σ I H k n R q =>
  h σ I H k n _ fun rs vs I1 H1 p x r => by
    obtain ⟨m, rfl, h1, h2, p⟩ := p
    cases r with
    | cons r1 rr =>
      cases rr
      rw [int_read r1]
      exact ⟨m, rfl, h2, h1, q _ _ I1 H1 ⟨m, rfl, p⟩ x range_ok⟩
theorem itd_rng2 {ta : TA} {A : Int → Int → Prop} (h : EvA K b I0 H0 ta δ (fun rs => ∃ m n, rs = [dint m, dint n] ∧ (-(2 ^ 62) ≤ m ∧ m < 2 ^ 62 ∧ -(2 ^ 62) ≤ n ∧ n < 2 ^ 62) ∧ A m n)) : ItD K b (DpR K) I0 H0 (iRng2 ta) δ (fun ds => ∃ m n, ds = rangeD m (n - m).toNat ∧ A m n) := fun σ I H k n R q =>
  h σ I H k n _ fun rs vs I1 H1 p x r => by
    obtain ⟨m, n', rfl, hb, p⟩ := p
    cases r with
    | cons r1 rr =>
      cases rr with
      | cons r2 rr =>
        cases rr
        rw [int_read r1, int_read r2]
        exact ⟨m, n', rfl, hb, q _ _ I1 H1 ⟨m, n', rfl, p⟩ x range_ok⟩
def zipD (ds es : List PyData) : List PyData := List.zipWith (fun d e => .tuple [d, e]) ds es
theorem walk_zipT {a c : Addr} {xs ys : List V} {n : Nat} (hn : n = min xs.length ys.length) : Walk (ItzT K a c) n (fun H => SqT K H a xs ∧ SqT K H c ys) (YPair (fun i => xs[i]?) (fun i => ys[i]?)) := by
  subst hn
  refine ⟨fun i _ hi q => ?_, fun _ q => ⟨xs, ys, q.1, q.2, by omega⟩, fun i H v H' _ q y => ?_⟩
  · have h1 : i < xs.length := by omega
    have h2 : i < ys.length := by omega
    exact ⟨xs, ys, xs[i], ys[i], q.1, q.2, by simp [h1], by simp [h2]⟩
  · obtain ⟨T, x, z, h1, h2, h3, h4, h5⟩ := y
    exact ⟨T, x, z, h1, h2, h3, h4 xs q.1, h5 ys q.2⟩
/-- zip of two tuples -/
theorem itd_zipT {ta : TA} {A : List PyData → List PyData → Prop} (h : EvA K b I0 H0 ta δ (fun rs => ∃ ds es, rs = [.dat (.tuple ds), .dat (.tuple es)] ∧ A ds es)) : ItD K b (PairR K) I0 H0 (iZipA K ta) δ (fun zs => ∃ ds es, zs = zipD ds es ∧ A ds es) := fun σ I H k n R q =>
  h σ I H k n _ fun rs vs I1 H1 p x r => by
    obtain ⟨ds, es, rfl, p⟩ := p
    cases r with
    | cons r1 rr =>
      cases rr with
      | cons r2 rr =>
        cases rr
        have r1 : Dp K I1 _ (.tuple ds) := r1
        have r2 : Dp K I1 _ (.tuple es) := r2
        cases r1 with
        | @tup a xs _ hs hd =>
          cases r2 with
          | @tup c ys _ ht he =>
            refine ⟨a, c, xs, ys, rfl, .inr ⟨st_mono x.s hs, st_mono x.s ht, q _ _ I1 H1 ⟨ds, es, rfl, p⟩ x ⟨fun H => SqT K H a xs ∧ SqT K H c ys, YPair (fun i => xs[i]?) (fun i => ys[i]?), walk_zipT ?_, fun H e => ⟨st_mono e hs, st_mono e ht⟩, fun i I2 H x H' d e k2 y hz => ?_⟩⟩⟩
            · unfold zipD
              rw [List.length_zipWith, dpa_len hd, dpa_len he]
            · obtain ⟨T, x1, x2, rfl, nT, rfl, g1, g2⟩ := y
              unfold zipD at hz
              rw [List.getElem?_zipWith] at hz
              cases q1 : ds[i]? with
              | none => rw [q1] at hz; cases hz
              | some d1 =>
                cases q2 : es[i]? with
                | none => rw [q1, q2] at hz; cases hz
                | some d2 =>
                  rw [q1, q2] at hz
                  cases hz
                  obtain ⟨u1, e1, f1⟩ := dpa_get hd q1
                  obtain ⟨u2, e2, f2⟩ := dpa_get he q2
                  have g1 : xs[i]? = some x1 := g1
                  have g2 : ys[i]? = some x2 := g2
                  rw [g1] at e1
                  rw [g2] at e2
                  cases e1
                  cases e2
                  exact ⟨I2, k2.newH nT, T, x1, x2, d1, d2, rfl, upd_same, rfl, dp_mono e f1, dp_mono e f2⟩
theorem tg_name {i : Nat} {d : PyData} (hi : i < δ.length) : TgD K b (DpR K) (gName i) [i] d δ (δ.set i (some (.dat d))) := fun H0 I H σ v k n hd Q q =>
  q _ (n.setD hi (r := .dat d) hd (fun _ z => by cases z)) (fun j hj => List.getElem?_set_ne (fun z => hj (by simp [z]))) List.length_set
/-- a, b out of a new pair -/
theorem tg_pair {i j : Nat} {d e : PyData} (hi : i < δ.length) (hj : j < δ.length) : TgD K b (PairR K) (gTup K 2 (gCons (gName i) (gCons (gName j) gNil))) [i, j] (.tuple [d, e]) δ ((δ.set i (some (.dat d))).set j (some (.dat e))) := fun H0 I H σ v k n hd Q q => by
  obtain ⟨T, v1, v2, d1, d2, rfl, hT, ed, h1, h2⟩ := hd
  cases ed
  refine ⟨T, [v1, v2], rfl, .inl (.inl hT), rfl, v1, [v2], rfl, v2, [], rfl, rfl, q _ ?_ (fun m hm => ?_) ?_⟩
  · exact (n.setD hi (r := .dat d) h1 (fun _ z => by cases z)).setD (by rw [List.length_set]; exact hj) (r := .dat e) h2 (fun _ z => by cases z)
  · have n1 : m ≠ i := fun z => hm (by simp [z])
    have n2 : m ≠ j := fun z => hm (by simp [z])
    rw [List.getElem?_set_ne (fun z => n2 z.symm), List.getElem?_set_ne (fun z => n1 z.symm)]
  · rw [List.length_set, List.length_set]
/-- a, b out of a pair that is plain -/
theorem tg_pairD {i j : Nat} {d e : PyData} (hi : i < δ.length) (hj : j < δ.length) : TgD K b (DpR K) (gTup K 2 (gCons (gName i) (gCons (gName j) gNil))) [i, j] (.tuple [d, e]) δ ((δ.set i (some (.dat d))).set j (some (.dat e))) := fun H0 I H σ v k n hd Q q => by
  have hd : Dp K I v (.tuple [d, e]) := hd
  cases hd with
  | @tup a xs _ hs ha =>
    cases ha with
    | @cons v1 _ _ _ h1 ha =>
      cases ha with
      | @cons v2 _ _ _ h2 ha =>
        cases ha
        refine ⟨a, [v1, v2], rfl, st_mono k.s hs, rfl, v1, [v2], rfl, v2, [], rfl, rfl, q _ ?_ (fun m hm => ?_) ?_⟩
        · exact (n.setD hi (r := .dat d) h1 (fun _ z => by cases z)).setD (by rw [List.length_set]; exact hj) (r := .dat e) h2 (fun _ z => by cases z)
        · have n1 : m ≠ i := fun z => hm (by simp [z])
          have n2 : m ≠ j := fun z => hm (by simp [z])
          rw [List.getElem?_set_ne (fun z => n2 z.symm), List.getElem?_set_ne (fun z => n1 z.symm)]
        · rw [List.length_set, List.length_set]
def enumD (ds : List PyData) : List PyData := ds.zipIdx.map fun p => .tuple [.int (p.2 : Int), p.1]
theorem walk_enumT {a : Addr} {xs : List V} : Walk (TF.IteT K a) xs.length (fun H => SqT K H a xs) (YPair (fun i => some (.int (i : Nat))) (fun i => xs[i]?)) := by
  refine ⟨fun i _ hi q => ⟨xs, xs[i], q, by simp [hi]⟩, fun _ q => ⟨xs, q, Nat.le_refl _⟩, fun i H v H' _ q y => ?_⟩
  obtain ⟨T, x, h1, h2, h3, h4⟩ := y
  exact ⟨T, .int (i : Nat), x, h1, h2, h3, rfl, h4 xs q⟩
/-- enumerate of a tuple -/
theorem itd_enumT {ta : TA} {A : List PyData → Prop} (h : EvA K b I0 H0 ta δ (fun rs => ∃ ds, rs = [.dat (.tuple ds)] ∧ A ds)) : ItD K b (PairR K) I0 H0 (TF.iEnumT K ta) δ (fun zs => ∃ ds, zs = enumD ds ∧ A ds) := fun σ I H k n R q =>
  h σ I H k n _ fun rs vs I1 H1 p x r => by
    obtain ⟨ds, rfl, p⟩ := p
    cases r with
    | cons r1 rr =>
      cases rr
      have r1 : Dp K I1 _ (.tuple ds) := r1
      cases r1 with
      | @tup a xs _ hs hd =>
        refine ⟨a, xs, rfl, st_mono x.s hs, q _ _ I1 H1 ⟨ds, rfl, p⟩ x ⟨fun H => SqT K H a xs, YPair (fun i => some (.int (i : Nat))) (fun i => xs[i]?), ?_, fun H e => st_mono e hs, fun i I2 H x H' d e k2 y hz => ?_⟩⟩
        · unfold enumD
          rw [List.length_map, List.length_zipIdx, ← dpa_len hd]
          exact walk_enumT
        · obtain ⟨T, x1, x2, rfl, nT, rfl, g1, g2⟩ := y
          have g1 : some (V.int (i : Nat)) = some x1 := g1
          have g2 : xs[i]? = some x2 := g2
          cases g1
          unfold enumD at hz
          rw [List.getElem?_map, List.getElem?_zipIdx] at hz
          cases q1 : ds[i]? with
          | none => rw [q1] at hz; cases hz
          | some d1 =>
            rw [q1] at hz
            have hz := (Option.some.inj hz).symm
            subst hz
            obtain ⟨u1, e1, f1⟩ := dpa_get hd q1
            rw [g2] at e1
            cases e1
            refine ⟨I2, k2.newH nT, T, _, x2, .int (i : Int), d1, rfl, upd_same, ?_, .int _, dp_mono e f1⟩
            simp
end
/-! ### comprehensions -/
theorem wipe_get {σ : St} {i : Nat} : ∀ {vs : List Nat}, i ∈ vs → i < σ.length → (wipe σ vs)[i]? = some none
  | [], h, _ => by cases h
  | v :: vs, h, hl => by
    unfold wipe
    by_cases z : v = i
    · subst z
      exact List.getElem?_set_self (by rw [wipe_length]; exact hl)
    · rw [List.getElem?_set_ne z]
      exact wipe_get ((List.mem_cons.mp h).resolve_left (fun q => z q.symm)) hl
theorem wipe_eq {σ τ : St} {vs : List Nat} (hl : τ.length = σ.length) (h : ∀ j, j ∉ vs → τ[j]? = σ[j]?) : wipe τ vs = wipe σ vs := by
  refine List.ext_getElem? fun i => ?_
  by_cases hi : i ∈ vs
  · by_cases hs : i < σ.length
    · rw [wipe_get hi hs, wipe_get hi (by omega)]
    · rw [List.getElem?_eq_none (by rw [wipe_length]; omega), List.getElem?_eq_none (by rw [wipe_length]; omega)]
  · rw [wipe_out hi, wipe_out hi]
    exact h i hi
theorem EnvR.wipe {K : PySem.W.Frag} {b : Bg} {H0 I H : Hp} {σ : St} {δ : Env} (n : EnvR K b H0 I H σ δ) {vs : List Nat} (hv : ∀ v ∈ vs, δ[v]? = some none) : EnvR K b H0 I H (L2.wipe σ vs) δ := by
  have nin : ∀ (i : Nat) (r : DV), δ[i]? = some (some r) → i ∉ vs := fun i r h z => by
    rw [hv i z] at h
    cases h
  refine ⟨by rw [wipe_length]; exact n.len, fun i r h => ?_, fun i j a ds es h1 h2 h3 h4 => ?_⟩
  · rw [wipe_out (nin i r h)]
    exact n.at_ i r h
  · rw [wipe_out (nin i _ h1)] at h2
    rw [wipe_out (nin j _ h3)] at h4
    exact n.nd i j a ds es h1 h2 h3 h4
theorem paired_snoc {α β : Type} {F : α → β → Prop} : ∀ {l : List α} {m : List β} {x : α} {y : β}, Paired F l m → F x y → Paired F (l ++ [x]) (m ++ [y])
  | _, _, _, _, .nil, h => .cons h .nil
  | _, _, _, _, .cons r t, h => .cons r (paired_snoc t h)
section
variable {K : PySem.W.Frag} {b : Bg} {I0 H0 : Hp} {δ : Env}
theorem ev_lc {β : Type} {Rl : Rel} {wi : TI} {g : TG} {tt : TT} {te : TE} {vs is : List Nat} {A : List β → Prop} {gI : β → PyData} {δf : β → Env} {f : β → Bool} {Pe : β → PyData → Prop} (it : ItD K b Rl I0 H0 wi δ (fun x => ∃ l, x = l.map gI ∧ A l)) (hv : ∀ v ∈ vs, δ[v]? = some none) (his : ∀ v ∈ is, v ∈ vs)
    (hl : ∀ l, A l → l.length ≤ 100000) (tg : ∀ x, TgD K b Rl g is (gI x) δ (δf x)) (hT : ∀ l, A l → ∀ x ∈ l, EvT K b I0 H0 tt (δf x) (fun c => c = f x))
    (body : ∀ l, A l → ∀ x ∈ l, f x = true → EvD K b I0 H0 te (δf x) (fun r => ∃ y, r = .dat y ∧ Pe x y)) :
    EvD K b I0 H0 (tLc wi g tt te vs) δ (fun x => ∃ ys, x = .own ys ∧ ∃ l, A l ∧ Paired Pe (l.filter f) ys) := fun σ I H k n Q q =>
  it σ I H k n _ fun ds J I1 H1 p x ok => fun D hD => by
    obtain ⟨G, Y, w, hG, hY⟩ := ok
    obtain ⟨l, e, p⟩ := p
    subst e
    have hlen := hl l p
    have nDb : D ≠ b.a := x.ok.nb hD
    refine lc_it w (fun i Hk => ∃ Ik acc ys, Ext K b I1 H1 Ik Hk ∧ Ik D = none ∧ Hk D = some (.lst acc) ∧ DpAll K Ik acc ys ∧ Paired Pe ((l.take i).filter f) ys) ?_ (fun i Hk _ ⟨Ik, acc, ys, e, _⟩ => hG Hk (e.i.trans e.s)) ?_ ?_
    · exact ⟨I1, [], [], x.ok.newH hD, x.ok.inone hD, upd_same, .nil, .nil⟩
    · rintro i v Hk Hk' hi ⟨Ik, acc, ys, e, iD, aD, hd, hp⟩ hy
      have hi' : i < l.length := by rw [List.length_map] at hi; exact hi
      have hd1 : l[i]? = some l[i] := List.getElem?_eq_getElem hi'
      have hmem : l[i] ∈ l := List.getElem_mem hi'
      generalize l[i] = d at hd1 hmem
      obtain ⟨I3, e3, d3⟩ := hY i Ik Hk v Hk' (gI d) e.i e.ok hy (by rw [List.getElem?_map, hd1]; rfl)
      have e13 := e.trans e3
      have n3 : EnvR K b H0 I3 Hk' (wipe σ vs) δ := ((n.ext x).ext e13).wipe hv
      have tk : l.take (i + 1) = l.take i ++ [d] := by
        rw [List.take_add_one, hd1]
        rfl
      refine tg d H0 I3 Hk' _ v e3.ok n3 d3 _ fun σ2 n2 out hl => ⟨?_, ?_⟩
      · rw [wipe_eq (σ := wipe σ vs) (τ := σ2) hl (fun j hj => out j (fun z => hj (his j z)))]
        refine wipe_eq (wipe_length _ _) fun j hj => wipe_out hj
      · refine hT l p d hmem σ2 I3 Hk' (k.trans (x.trans e13)) n2 _ fun c I4 H4 pc e4 => ?_
        subst pc
        have e14 := e13.trans e4
        have aD3 : Hk' D = some (.lst acc) := e3.h D _ nDb lst_tbl aD
        have iD4 : I4 D = none := e4.n D _ (e3.n D _ iD aD lst_tbl) aD3 lst_tbl
        have aD4 : H4 D = some (.lst acc) := e4.h D _ nDb lst_tbl aD3
        have hd4 := dpa_mono (e3.i.trans e4.i) hd
        cases hf : f d with
        | false =>
          refine ⟨I4, acc, ys, e14, iD4, aD4, hd4, ?_⟩
          rw [tk, List.filter_append]
          have z : [d].filter f = [] := by simp [hf]
          rw [z, List.append_nil]
          exact hp
        | true =>
          refine body l p d hmem hf σ2 I4 H4 (k.trans (x.trans e14)) (n2.ext e4) _ fun r y I5 H5 pr e5 rs => ?_
          obtain ⟨yd, rfl, py⟩ := pr
          have iD5 : I5 D = none := e5.n D _ iD4 aD4 lst_tbl
          have aD5 : H5 D = some (.lst acc) := e5.h D _ nDb lst_tbl aD4
          refine ⟨acc, aD5, ?_, I5, acc ++ [y], ys ++ [yd], (e14.trans e5).mut (fr_none hD) iD5 nDb aD5, iD5, upd_same, dpa_app (dpa_mono e5.i hd4) (.cons rs .nil), ?_⟩
          · have l1 := dpa_len hd
            have l2 := hp.length
            have l3 : ((l.take i).filter f).length ≤ (l.take i).length := List.length_filter_le _ _
            rw [List.length_take] at l3
            exact Nat.lt_of_lt_of_le (by omega : acc.length < 100000) (by decide : 100000 ≤ sizeLine)
          · rw [tk, List.filter_append]
            have z : [d].filter f = [d] := by simp [hf]
            rw [z]
            exact paired_snoc hp py
    · rintro Hk ⟨Ik, acc, ys, e, iD, aD, hd, hp⟩
      rw [List.length_map, List.take_length] at hp
      exact q _ _ Ik Hk ⟨ys, rfl, l, p, hp⟩ (x.trans e) ⟨D, acc, rfl, x.free (fr_none hD), iD, nDb, aD, hd⟩
theorem et_yes : EvT K b I0 H0 tYes δ (fun c => c = true) := fun σ I H k n Q q => q true I H rfl k.re
end
end DL

set_option Elab.async false
set_option linter.all false
set_option maxRecDepth 100000
set_option maxHeartbeats 4000000
namespace DL
open PySem PySem.Spec PyProof.Rows L2
/-! ### statements -/
section
variable (K : PySem.W.Frag) (b : Bg) (I0 H0 : Hp)
def SvD (ts : TS) (δ : Env) (N : Env → Prop) (R : DV → Prop) (Bk Ct : Env → Prop) : Prop := ∀ (σ : L2.St) (I H : Hp), Ext K b I0 H0 I H → EnvR K b H0 I H σ δ → ∀ D : Ends,
  (∀ δ' σ' I' H', N δ' → Ext K b I0 H0 I' H' → Same I I' → EnvR K b H0 I' H' σ' δ' → D.nx σ' H') →
  (∀ r v I' H', R r → Ext K b I0 H0 I' H' → Res K b H0 I' H' v r → D.rt v H') →
  (∀ δ' σ' I' H', Bk δ' → Ext K b I0 H0 I' H' → Same I I' → EnvR K b H0 I' H' σ' δ' → D.bk σ' H') →
  (∀ δ' σ' I' H', Ct δ' → Ext K b I0 H0 I' H' → Same I I' → EnvR K b H0 I' H' σ' δ' → D.ct σ' H') → ts D σ H
end
section
variable {K : PySem.W.Frag} {b : Bg} {I0 H0 : Hp} {δ δ' : Env} {N N' Bk Ct : Env → Prop} {R : DV → Prop} {te : TE} {t u : TS} {P : DV → Prop}
theorem SvD.mono {N2 B2 C2 : Env → Prop} {R2 : DV → Prop} (h : SvD K b I0 H0 t δ N R Bk Ct) (hn : ∀ d, N d → N2 d) (hr : ∀ r, R r → R2 r) (hb : ∀ d, Bk d → B2 d) (hc : ∀ d, Ct d → C2 d) : SvD K b I0 H0 t δ N2 R2 B2 C2 :=
  fun σ I H e n D h1 h2 h3 h4 => h σ I H e n D (fun d σ' I' H' p => h1 d σ' I' H' (hn d p)) (fun r v I' H' p => h2 r v I' H' (hr r p)) (fun d σ' I' H' p => h3 d σ' I' H' (hb d p)) (fun d σ' I' H' p => h4 d σ' I' H' (hc d p))
theorem sv_nil (h : N δ) : SvD K b I0 H0 tNext δ N R Bk Ct := fun σ I H e n D h1 _ _ _ => h1 δ σ I H h e (Same.refl I) n
theorem sv_seq (h1 : SvD K b I0 H0 t δ N' R Bk Ct) (h2 : ∀ δ', N' δ' → SvD K b I0 H0 u δ' N R Bk Ct) : SvD K b I0 H0 (tSeq t u) δ N R Bk Ct := fun σ I H e n D a1 a2 a3 a4 =>
  h1 σ I H e n _ (fun d σ' I' H' p e' s' n' => h2 d p σ' I' H' e' n' D (fun d σ2 I2 H2 p e2 s2 n2 => a1 d σ2 I2 H2 p e2 (s'.trans s2) n2) a2 (fun d σ2 I2 H2 p e2 s2 n2 => a3 d σ2 I2 H2 p e2 (s'.trans s2) n2) (fun d σ2 I2 H2 p e2 s2 n2 => a4 d σ2 I2 H2 p e2 (s'.trans s2) n2)) a2 a3 a4
/-- .. where the first ends in one known state -/
theorem sv_seq1 (h1 : SvD K b I0 H0 t δ (fun x => x = δ') R Bk Ct) (h2 : SvD K b I0 H0 u δ' N R Bk Ct) : SvD K b I0 H0 (tSeq t u) δ N R Bk Ct := sv_seq h1 fun _ e => e ▸ h2
theorem sv_asg {i : Nat} (h : EvD K b I0 H0 te δ P) (hi : i < δ.length) (hN : ∀ r, P r → (∀ ds, r ≠ .bor ds) ∧ N (δ.set i (some r))) : SvD K b I0 H0 (tAsg te (gName i)) δ N R Bk Ct := fun σ I H e n D a1 _ _ _ =>
  h σ I H e n _ fun r v I' H' p x rs => by
    refine a1 _ _ I' H' (hN r p).2 (e.trans x) x.i ((n.ext x).set hi (rs.since (free_of e)) fun a ds er ev j es hj hd => ?_)
    subst er
    subst ev
    obtain ⟨a', xs, ea, h0, hi', hb, ha, hdd⟩ := rs
    cases ea
    intro z
    obtain ⟨w, e1, e2⟩ := n.at_ j _ hd
    rw [z] at e1
    cases e1
    obtain ⟨a'', xs', ea, h0', hi'', hb', ha', hdd'⟩ := e2
    cases ea
    exact fr_lst h0 ha'
/-- x = e, the worth known -/
theorem sv_set {i : Nat} {r : DV} (h : EvD K b I0 H0 te δ (fun x => x = r)) (hi : i < δ.length := by exact Nat.le_of_ble_eq_true rfl) (hr : ∀ ds, r ≠ .bor ds := by intro _ z; cases z) : SvD K b I0 H0 (tAsg te (gName i)) δ (fun x => x = δ.set i (some r)) R Bk Ct :=
  sv_asg h hi fun x e => by rw [e]; exact ⟨hr, rfl⟩
theorem sv_tgt {g : TG} {is : List Nat} {d : PyData} (h : EvD K b I0 H0 te δ (fun x => x = .dat d)) (hg : TgD K b (DpR K) g is d δ δ') : SvD K b I0 H0 (tAsg te g) δ (fun x => x = δ') R Bk Ct := fun σ I H e n D a1 _ _ _ =>
  h σ I H e n _ fun r v I' H' p x rs => by
    subst p
    exact hg H0 I' H' σ v x.ok (n.ext x) rs _ fun σ' n' _ _ => a1 _ _ I' H' rfl (e.trans x) x.i n'
theorem sv_par {i j : Nat} {ta : TA} {r s : DV} (h : EvA K b I0 H0 ta δ (fun x => x = [r, s])) (hi : i < δ.length) (hj : j < δ.length) (h1 : ∀ ds, r ≠ .own ds) (h2 : ∀ ds, s ≠ .own ds) : SvD K b I0 H0 (tPar i j ta) δ (fun x => x = (δ.set i (some r)).set j (some s)) R Bk Ct := fun σ I H e n D a1 _ _ _ =>
  h σ I H e n _ fun rs vs I' H' p x ra => by
    subst p
    cases ra with
    | cons q1 ra =>
      cases ra with
      | cons q2 ra =>
        cases ra
        exact ⟨_, _, rfl, a1 _ _ I' H' rfl (e.trans x) x.i (((n.ext x).setD hi (q1.since (free_of e)) h1).setD (by rw [List.length_set]; exact hj) (q2.since (free_of e)) h2)⟩
theorem sv_ret (h : EvD K b I0 H0 te δ P) (hR : ∀ r, P r → R r) : SvD K b I0 H0 (tRet te) δ N R Bk Ct := fun σ I H e n D _ a2 _ _ =>
  h σ I H e n _ fun r v I' H' p x rs => a2 r v I' H' (hR r p) (e.trans x) (rs.since (free_of e))
theorem sv_retO {i : Nat} {ds : List PyData} (h : δ[i]? = some (some (.own ds))) (hR : R (.own ds)) : SvD K b I0 H0 (tRet (tVar i)) δ N R Bk Ct := fun σ I H e n D _ a2 _ _ => by
  obtain ⟨v, e1, e2⟩ := n.at_ i _ h
  exact ⟨v, e1, a2 _ _ I H hR e e2⟩
theorem sv_retN (hR : R (.dat .none)) : SvD K b I0 H0 tRetN δ N R Bk Ct := fun σ I H e n D _ a2 _ _ => a2 _ _ I H hR e Dp.non
theorem sv_expr (h : EvD K b I0 H0 te δ P) (hN : N δ) : SvD K b I0 H0 (tDrop te) δ N R Bk Ct := fun σ I H e n D a1 _ _ _ =>
  h σ I H e n _ fun r v I' H' p x rs => a1 _ _ I' H' hN (e.trans x) x.i (n.ext x)
theorem sv_if {c : TT} {A : Bool → Prop} (h : EvT K b I0 H0 c δ A) (h1 : A true → SvD K b I0 H0 t δ N R Bk Ct) (h2 : A false → SvD K b I0 H0 u δ N R Bk Ct) : SvD K b I0 H0 (tIfS c t u) δ N R Bk Ct := fun σ I H e n D a1 a2 a3 a4 =>
  h σ I H e n _ fun c I' H' p x => by
    cases c with
    | true => exact h1 p σ I' H' (e.trans x) (n.ext x) D (fun d σ2 I2 H2 p e2 s2 n2 => a1 d σ2 I2 H2 p e2 (x.i.trans s2) n2) a2 (fun d σ2 I2 H2 p e2 s2 n2 => a3 d σ2 I2 H2 p e2 (x.i.trans s2) n2) (fun d σ2 I2 H2 p e2 s2 n2 => a4 d σ2 I2 H2 p e2 (x.i.trans s2) n2)
    | false => exact h2 p σ I' H' (e.trans x) (n.ext x) D (fun d σ2 I2 H2 p e2 s2 n2 => a1 d σ2 I2 H2 p e2 (x.i.trans s2) n2) a2 (fun d σ2 I2 H2 p e2 s2 n2 => a3 d σ2 I2 H2 p e2 (x.i.trans s2) n2) (fun d σ2 I2 H2 p e2 s2 n2 => a4 d σ2 I2 H2 p e2 (x.i.trans s2) n2)
theorem sv_break (h : Bk δ) : SvD K b I0 H0 tBreak δ N R Bk Ct := fun σ I H e n D _ _ a3 _ => a3 δ σ I H h e (Same.refl I) n
theorem sv_cont (h : Ct δ) : SvD K b I0 H0 tCont δ N R Bk Ct := fun σ I H e n D _ _ _ a4 => a4 δ σ I H h e (Same.refl I) n
/-- a for over plain data: J by the turn -/
theorem sv_for {Rl : Rel} {wi : TI} {g : TG} {tb : TS} {A : List PyData → Prop} (it : ItD K b Rl I0 H0 wi δ A)
    (body : ∀ ds, A ds → ∃ J : Nat → Env → Prop, J 0 δ ∧ (∀ (k : Nat) d δk, ds[k]? = some d → J k δk → ∃ δ' is, TgD K b Rl g is d δk δ' ∧ SvD K b I0 H0 tb δ' (J (k + 1)) R N (J (k + 1))) ∧ ∀ δn, J ds.length δn → N δn) :
    SvD K b I0 H0 (tFor wi g tb) δ N R Bk Ct := fun σ I H e n D a1 a2 a3 a4 =>
  it σ I H e n _ fun ds Jt I1 H1 p x ok => by
    obtain ⟨G, Y, w, hG, hY⟩ := ok
    obtain ⟨J, j0, js, jn⟩ := body ds p
    refine for_it w (fun k σ' H' => ∃ I' δk, J k δk ∧ Ext K b I0 H0 I' H' ∧ Same I1 I' ∧ EnvR K b H0 I' H' σ' δk) ⟨I1, δ, j0, e.trans x, Same.refl _, n.ext x⟩ (fun k σ' H' _ ⟨I', δk, _, e', s', _⟩ => hG H' (s'.trans e'.s)) ?_ ?_
    · rintro k v σ' H' H'' hk ⟨I', δk, jk, e', s', n'⟩ y
      have hd1 : ds[k]? = some ds[k] := List.getElem?_eq_getElem hk
      generalize ds[k] = d at hd1
      obtain ⟨I3, e3, d3⟩ := hY k I' H' v H'' d s' e'.ok y hd1
      obtain ⟨δ', is, tg, sb⟩ := js k d δk hd1 jk
      refine tg H0 I3 H'' σ' v e3.ok (n'.ext e3) d3 _ fun σ2 n2 _ _ => ?_
      have s3 : Same I1 I3 := s'.trans e3.i
      exact sb σ2 I3 H'' (e'.trans e3) n2 _ (fun d σ4 I4 H4 p4 e4 s4 n4 => ⟨I4, d, p4, e4, s3.trans s4, n4⟩) a2 (fun d σ4 I4 H4 p4 e4 s4 n4 => a1 d σ4 I4 H4 p4 e4 ((x.i.trans s3).trans s4) n4) (fun d σ4 I4 H4 p4 e4 s4 n4 => ⟨I4, d, p4, e4, s3.trans s4, n4⟩)
    · rintro σ' H' ⟨I', δn, jk, e', s', n'⟩
      exact a1 δn σ' I' H' (jn δn jk) e' (x.i.trans s') n'
/-- fewer slots are known from here on -/
theorem sv_less (hl : δ'.length = δ.length) (hs : ∀ (i : Nat) (r : DV), δ'[i]? = some (some r) → δ[i]? = some (some r)) (h : SvD K b I0 H0 t δ' N R Bk Ct) : SvD K b I0 H0 t δ N R Bk Ct := fun σ I H e n D a1 a2 a3 a4 =>
  h σ I H e (n.less hl hs) D a1 a2 a3 a4
/-- a list of this def's own becomes plain -/
theorem sv_frz {i : Nat} {ds : List PyData} (hi : δ[i]? = some (some (.own ds))) (hbor : ∀ (j : Nat) es, δ[j]? ≠ some (some (.bor es))) (h : SvD K b I0 H0 t (δ.set i (some (.dat (.list ds)))) N R Bk Ct) : SvD K b I0 H0 t δ N R Bk Ct := fun σ I H e n D a1 a2 a3 a4 => by
  obtain ⟨v, e1, e2⟩ := n.at_ i _ hi
  obtain ⟨a, xs, rfl, h0, hn, hb, ha, hd⟩ := e2
  have ex : Ext K b I0 H0 (upd I a (.lst xs)) H := e.frz h0 hn hb ha
  have sm : Same I (upd I a (.lst xs)) := fun c o h => by rw [upd_ne (ne_of_none h hn)]; exact h
  have hlt : i < δ.length := (List.getElem?_eq_some_iff.mp hi).1
  have en : EnvR K b H0 (upd I a (.lst xs)) H σ (δ.set i (some (.dat (.list ds)))) := by
    refine ⟨by rw [List.length_set]; exact n.len, fun j r hj => ?_, fun j k c ds' es h1 h2 h3 h4 => ?_⟩
    · by_cases z : i = j
      · subst z
        rw [List.getElem?_set_self hlt] at hj
        cases hj
        exact ⟨_, e1, Dp.lst (.inl (.inl upd_same)) (dpa_mono sm hd)⟩
      · rw [List.getElem?_set_ne z] at hj
        obtain ⟨w, g1, g2⟩ := n.at_ j r hj
        refine ⟨w, g1, ?_⟩
        cases r with
        | dat d => exact dp_mono sm g2
        | raw u => exact g2
        | bag => exact g2
        | dct own kvs =>
          obtain ⟨c, ys, rfl, q0, qn, qb, qa, qd⟩ := g2
          have nc : c ≠ a := fun zz => by
            subst zz
            rw [ha] at qa
            cases qa
          exact ⟨c, ys, rfl, q0, by rw [upd_ne nc]; exact qn, qb, qa, dctR_mono sm qd⟩
        | own es =>
          obtain ⟨c, ys, rfl, q0, qn, qb, qa, qd⟩ := g2
          have nc : c ≠ a := fun zz => by
            subst zz
            exact z (n.nd i j c ds es hi e1 hj g1)
          exact ⟨c, ys, rfl, q0, by rw [upd_ne nc]; exact qn, qb, qa, dpa_mono sm qd⟩
        | bor es => exact absurd hj (hbor j es)
    · by_cases zj : i = j
      · subst zj
        rw [List.getElem?_set_self hlt] at h1
        cases h1
      · by_cases zk : i = k
        · subst zk
          rw [List.getElem?_set_self hlt] at h3
          cases h3
        · rw [List.getElem?_set_ne zj] at h1
          rw [List.getElem?_set_ne zk] at h3
          exact n.nd j k c ds' es h1 h2 h3 h4
  exact h σ _ H ex en D (fun d σ2 I2 H2 p e2 s2 n2 => a1 d σ2 I2 H2 p e2 (sm.trans s2) n2) a2 (fun d σ2 I2 H2 p e2 s2 n2 => a3 d σ2 I2 H2 p e2 (sm.trans s2) n2) (fun d σ2 I2 H2 p e2 s2 n2 => a4 d σ2 I2 H2 p e2 (sm.trans s2) n2)
end
/-! ### what a def promises of data -/
/-- an exception's fields -/
abbrev XD := Addr → List (Str × V) → Prop
def spD {α : Type} (K : PySem.W.Frag) (args : α → List DV) (ok : α → Prop) (out : α → DV → Prop) (exc : α → XD) : Sp := fun vs H Q E => ∃ a b I, Ok K b I H ∧ ResA K b H I H vs (args a) ∧ ok a ∧
  (∀ r v I' H', out a r → Ext K b I H I' H' → Res K b H I' H' v r → Q v H') ∧
  (∀ C fs d I' H', exc a C fs → Ext K b I H I' H' → I' d = none → H' d = some (.xd fs) → E (.ref C) (some d) H')
abbrev noX {α : Type} : α → XD := fun _ _ _ => False
section
variable {K : PySem.W.Frag} {b : Bg} {I0 H0 : Hp} {δ : Env} {P : DV → Prop}
def envOf (N : List Str) (rs : List DV) : Env := rs.map some ++ List.replicate (N.length - rs.length) none
theorem resA_len {I H : Hp} : ∀ {vs : List V} {rs : List DV}, ResA K b H0 I H vs rs → vs.length = rs.length
  | _, _, .nil => rfl
  | _, _, .cons _ r => congrArg Nat.succ (resA_len r)
theorem resA_get {I H : Hp} : ∀ {vs : List V} {rs : List DV} {i : Nat} {r : DV}, ResA K b H0 I H vs rs → rs[i]? = some r → ∃ v, vs[i]? = some v ∧ Res K b H0 I H v r
  | _, _, _, _, .nil, h => by simp at h
  | _, _, 0, _, .cons q _, h => by
    cases Option.some.inj h
    exact ⟨_, rfl, q⟩
  | _, _, i + 1, _, .cons _ t, h => resA_get (i := i) t h
theorem env_start {N : List Str} {I H : Hp} {vs : List V} {rs : List DV} (h : ResA K b H I H vs rs) : EnvR K b H I H (start N vs) (envOf N rs) := by
  have hl := resA_len h
  have at_ : ∀ (i : Nat) (r : DV), (envOf N rs)[i]? = some (some r) → ∃ v, (start N vs)[i]? = some (some v) ∧ Res K b H I H v r := fun i r hi => by
    unfold envOf at hi
    unfold L2.start
    by_cases z : i < rs.length
    · rw [List.getElem?_append_left (by rw [List.length_map]; exact z), List.getElem?_map] at hi
      cases q : rs[i]? with
      | none => rw [q] at hi; cases hi
      | some r' =>
        rw [q] at hi
        cases hi
        obtain ⟨v, e1, e2⟩ := resA_get h q
        refine ⟨v, ?_, e2⟩
        rw [List.getElem?_append_left (by rw [List.length_map]; omega), List.getElem?_map, e1]
        rfl
    · rw [List.getElem?_append_right (by rw [List.length_map]; omega), List.getElem?_replicate] at hi
      split at hi <;> cases hi
  refine ⟨?_, at_, fun i j a ds es h1 h2 _ _ => ?_⟩
  · unfold L2.start envOf
    simp only [List.length_append, List.length_map, List.length_replicate]
    omega
  · obtain ⟨v, e1, a', xs, rfl, h0, _, _, ha, _⟩ := at_ i _ h1
    exact (fr_lst h0 ha).elim
def NoOwn (rs : List DV) : Prop := ∀ r ∈ rs, (∀ ds, r ≠ .own ds) ∧ ∀ kvs, r ≠ .dct true kvs
theorem noOwn_nil : NoOwn [] := fun _ h => by cases h
theorem noOwn_cons {r : DV} {rs : List DV} (h : ∀ ds, r ≠ .own ds) (t : NoOwn rs) (hd2 : ∀ kvs, r ≠ .dct true kvs := by intro _ z; cases z) : NoOwn (r :: rs) := fun x hx => by
  rcases List.mem_cons.mp hx with e | e
  · rw [e]; exact ⟨h, hd2⟩
  · exact t x e
theorem resA_now {I H H1 : Hp} : ∀ {vs : List V} {rs : List DV}, ResA K b H I H1 vs rs → NoOwn rs → ResA K b H1 I H1 vs rs
  | _, _, .nil, _ => .nil
  | _, r :: rs, .cons q1 t, p2 => by
    refine .cons ?_ (resA_now t fun r hr => p2 r (List.mem_cons_of_mem _ hr))
    cases r with
    | own ds => exact absurd rfl ((p2 _ (List.mem_cons_self ..)).1 ds)
    | dct own kvs =>
      cases own with
      | true => exact absurd rfl ((p2 _ (List.mem_cons_self ..)).2 kvs)
      | false =>
        obtain ⟨a, es, rfl, _, z⟩ := q1
        exact ⟨a, es, rfl, (fun z => by cases z), z⟩
    | dat d => exact q1
    | bor ds => exact q1
    | raw u => exact q1
    | bag => exact q1
/-- f(e, ..) by its promise -/
theorem ev_call {α : Type} {args : α → List DV} {ok : α → Prop} {out : α → DV → Prop} {exc : α → XD} {E : XK} {ta : TA} {A : List DV → Prop} (ha : EvA K b I0 H0 ta δ A)
    (hp : ∀ rs, A rs → ∃ a, rs = args a ∧ ok a ∧ NoOwn rs ∧ (∀ r, out a r → P r) ∧ ∀ C fs, exc a C fs → False) : EvD K b I0 H0 (tCall (spD K args ok out exc) [] E ta) δ P := fun σ I H k n Q q =>
  ha σ I H k n _ fun rs vs I1 H1 p x r => by
    obtain ⟨a, rfl, p1, p2, p3, p4⟩ := hp rs p
    rw [List.append_nil]
    exact ⟨a, b, I1, x.ok, resA_now r p2, p1, fun r v I' H' o x2 rs' => q r v I' H' (p3 r o) (x.trans x2) (rs'.since (free_of x)), fun C fs d I' H' he _ _ _ => (p4 C fs he).elim⟩
/-- .. all told -/
theorem ev_call1 {α : Type} {args : α → List DV} {ok : α → Prop} {out : α → DV → Prop} {E : XK} {ta : TA} (a : α) (ha : EvA K b I0 H0 ta δ (fun x => x = args a)) (hp : ok a) (ho : ∀ r, out a r → P r) (hn : NoOwn (args a)) :
    EvD K b I0 H0 (tCall (spD K args ok out noX) [] E ta) δ P := ev_call ha fun _ e => ⟨a, e, hp, e ▸ hn, ho, fun _ _ h => h⟩
/-- f(.., k = e, ..) -/
theorem ev_callN {α : Type} {n m : Nat} {gV : List V → List V → List V} {gD : List DV → List DV → List DV} {args : α → List DV} {ok : α → Prop} {out : α → DV → Prop} {E : XK} {ta tk : TA} {rs zs : List DV} (a : α) (ha : EvA K b I0 H0 ta δ (fun x => x = rs)) (hk : EvA K b I0 H0 tk δ (fun x => x = zs))
    (hg : ∀ (H0 I H : Hp) vs ws, ResA K b H0 I H vs rs → ResA K b H0 I H ws zs → vs.length = n ∧ ws.length = m ∧ ResA K b H0 I H (gV vs ws) (args a)) (hp : ok a) (ho : ∀ r, out a r → P r) (hn : NoOwn (args a)) :
    EvD K b I0 H0 (tCallN n m (spD K args ok out noX) gV E ta tk) δ P := fun σ I H k n Q q =>
  ha σ I H k n _ fun rs vs I1 H1 p x r => hk σ I1 H1 (k.trans x) (n.ext x) _ fun zs ws I2 H2 p2 x2 r2 => by
    subst p
    subst p2
    obtain ⟨l1, l2, r3⟩ := hg H I2 H2 vs ws (r.ext x2) (r2.since (free_of x))
    exact ⟨l1, l2, a, b, I2, x2.ok, resA_now r3 hn, hp, fun r v I' H' o x3 rs' => q r v I' H' (ho r o) ((x.trans x2).trans x3) (rs'.since (free_of (x.trans x2))), fun C fs d I' H' he _ _ _ => he.elim⟩
end
section
variable {P : Program} {w : World} {K : PySem.W.Frag} {mg : Str → Option Value} {base : Heap}
/-- a def keeps its promise of data (nothing is raised) -/
theorem fn_ok {α : Type} {x qual : Str} {st : Stmt} {f : Addr} {fd : FuncData} {N ps : List Str} {k : Nat} {args : α → List DV} {ok : α → Prop} {out : α → DV → Prop} (F : Fun K x qual st f fd) (S : FnScope N ps (defScope st)) (len : ∀ a, ok a → (args a).length = ps.length)
    (hbody : ∀ (cdv : Value) (A : Around) (outer : List PySem.Env) (s : Shared) (H : Hp) (E : XK), Room k (A.deeper (envOfC qual (defScope st) s.heap.objs.size f cdv)) →
      ∃ t, PSs (cxOf CX0 P w K mg base N qual (defScope st) f cdv A outer s H E).nox (defBody st) t ∧ ∀ b I a, ok a → SvD K b I H t (envOf N (args a)) (fun _ => out a (.dat .none)) (out a) (fun _ => False) (fun _ => False)) :
    FnOk P w K mg base CX0 (k + 1) f fd ps (spD K args ok out noX) := by
  refine F.ok S (fun vs H Q E h => ?_) (fun cdv A outer s H vs Q E hr h => ?_)
  · obtain ⟨a, b, I, _, r, p, _⟩ := h
    rw [resA_len r]
    exact len a p
  · obtain ⟨a, b, I, k, r, p, q, _⟩ := h
    obtain ⟨t, ht, hs⟩ := hbody cdv A outer s H E hr
    exact ⟨t, ht, hs b I a p _ I H k.re (env_start r) _ (fun δ' σ' I' H' o e _ _ => q _ _ I' H' o e Dp.non) (fun r v I' H' o e rs => q r v I' H' o e rs) (fun _ _ _ _ z => z.elim) (fun _ _ _ _ z => z.elim)⟩
end
end DL

set_option Elab.async false
set_option linter.all false
set_option maxRecDepth 100000
set_option maxHeartbeats 4000000
namespace DL
open PySem PySem.Spec PyProof.Rows L2
/-! ### isinstance of plain data -/
def tyN : PyData → String
  | .none => "NoneType"
  | .bool _ => "bool"
  | .int _ => "int"
  | .str _ => "str"
  | .list _ => "list"
  | .tuple _ => "tuple"
  | .dict _ => "dict"
theorem dp_ty {K : PySem.W.Frag} {H : Hp} {v : V} {d : PyData} (h : Dp K H v d) : TyX K H v (.type (tyN d)) := by
  cases h with
  | non => exact .base .non
  | bl b => exact .base (.bl b)
  | int i => exact .base (.int i)
  | str x => exact .base (.str x)
  | lst q r =>
    rcases q with (q | ⟨o, q⟩) | ⟨o, its, n, q, c, _⟩
    · exact .base (.lst q)
    · exact .base (.frz q)
    · exact .kList q c
  | tup q r =>
    rcases q with (q | ⟨o, q⟩) | ⟨o, its, n, q, c, _⟩
    · exact .base (.tup q)
    · exact .fTuple q
    · exact .kTuple q c
theorem cb_isi {K : PySem.W.Frag} {b : Bg} {d : PyData} {n : String} {c : Bool} (h : kitB (tyN d) n = some c) : CbD K b (rIsi K) [.dat d, .raw (.ty n)] (fun r => r = dbl c) := fun H0 I H vs k rs Q q => by
  cases rs with
  | cons r1 rr =>
    cases rr with
    | cons r2 rr =>
      cases rr
      have e : _ = V.ty n := r2
      subst e
      exact ⟨_, _, _, _, c, rfl, .ty n, dp_ty (dp_mono k.s r1), kit_ty h, q _ _ I H rfl k.re (Dp.bl c)⟩
/-! ### is None -/
theorem dp_isN {K : PySem.W.Frag} {I : Hp} {v : V} {d : PyData} (h : Dp K I v d) : decide (v = V.non) = decide (tyN d = "NoneType") := by
  cases h <;> simp [tyN]
/-! ### keywords alone -/
section
variable {X : Cx} {CX : CXT} {k n : Nat} {f : Addr} {fd : FuncData} {ps ks : List Str} {sp : Sp} {E : XK} {x : Str} {p pos : Pos} {kws : List Keyword} {tk : TA} {g : List Value → List Value → List Value} {gV : List V → List V → List V}
theorem pe_callK0 (F : FnOk X.prog X.w X.K X.mg X.base CX k f fd ps sp) (hr : Room k X.A) (hg : Gl X x) (hm : X.mg x = some (.ref f)) (hk : PySem.W.keepIn X.K (.ref f) = true) (hb : KBn X.K fd ps 0 ks g gV) (hx : Passes CX X E) (hkw : PK X kws tk)
    (hall : (backToKw pos (keywordEach kws X.env)).all (·.1.isSome) = true := by rfl) (hks : (backToKw pos (keywordEach kws X.env)).filterMap (·.1) = ks := by rfl) (hdb : (x == ("__debug__" : Str)) = false := by decide)
    (hpl : ((backTo pos (starEach [] X.env)).any (·.1) || (backToKw pos (keywordEach kws X.env)).any (·.1.isNone)) = false := by rfl) :
    PE X (.Call (.Name x p) [] kws pos) (tCallN 0 ks.length sp gV E tNil tk) := by
  refine ⟨fun pins s σ H Q I h => ?_⟩
  refine wpAny_Call_Name_kw (ld_glob I hg hm ?_ hdb)
  refine PySem.W.callWith_KW0 (h₀ := X.base) I.ok.mod.kin hk hall ?_ hpl
  refine thn (hkw.run pos pins s σ H _ I h) fun ws s2 ⟨zs, H2, I2, rz, l1, l2, q2⟩ => ⟨I2.kIn, ?_⟩
  rw [hks]
  exact run_fnN (us := []) (vs := []) F hr hb hx I2 .nil rz rfl l2 q2
end
/-- how keywords bind, all parameters given -/
theorem kbn_mk {K : PySem.W.Frag} {x qual : Str} {st : Stmt} {f : Addr} {fd : FuncData} {ps ks : List Str} {n : Nat} (F : Fun K x qual st f fd) (g : {α : Type} → List α → List α → List α)
    (h : ∀ (kV doc pm : Value) (an : Option Addr) (cdv ct : Value) (us ws : List Value), us.length = n → ws.length = ks.length → bindArgs (PySem.W.fnOf x qual (defArgs st) (defBody st) (defScope st) .none kV doc pm an cdv ct) ⟨us, ks.zip ws⟩ = pure (ps.zip (g us ws)))
    (rel : ∀ {vs : List V} {us : List Value} {zs : List V} {ws : List Value}, Vals vs us → Vals zs ws → Vals (g vs zs) (g us ws)) : KBn K fd ps n ks g g := by
  obtain ⟨oc, od, kV, doc, pm, an, cdv, ct, osl, rfl, lk, hcd⟩ := F.ex
  exact ⟨fun s us ws _ l1 l2 => .of_eq (h kV doc pm an cdv ct us ws l1 l2), rel⟩
/-- two keywords, exchanged -/
def kw21 {α : Type} (_ : List α) (zs : List α) : List α := match zs with
  | [a, c] => [c, a]
  | _ => []
theorem kw21_rel {vs : List V} {us : List Value} {zs : List V} {ws : List Value} (_ : Vals vs us) (h : Vals zs ws) : Vals (kw21 vs zs) (kw21 us ws) := by
  cases h with
  | nil => exact .nil
  | cons r t =>
    cases t with
    | nil => exact .nil
    | cons r2 t =>
      cases t with
      | nil => exact .cons r2 (.cons r .nil)
      | cons _ _ => exact .nil
def kw12 {α : Type} (_ : List α) (zs : List α) : List α := match zs with
  | [a, c] => [a, c]
  | _ => []
theorem kw12_rel {vs : List V} {us : List Value} {zs : List V} {ws : List Value} (_ : Vals vs us) (h : Vals zs ws) : Vals (kw12 vs zs) (kw12 us ws) := by
  cases h with
  | nil => exact .nil
  | cons r t =>
    cases t with
    | nil => exact .nil
    | cons r2 t =>
      cases t with
      | nil => exact .cons r (.cons r2 .nil)
      | cons _ _ => exact .nil
section
variable {K : PySem.W.Frag} {b : Bg} {I0 H0 : Hp} {δ : Env} {P : DV → Prop}
theorem ev_kw21 {α : Type} {args : α → List DV} {ok : α → Prop} {out : α → DV → Prop} {E : XK} {tk : TA} {r s : DV} (a : α) (hk : EvA K b I0 H0 tk δ (fun x => x = [s, r])) (he : args a = [r, s]) (hp : ok a) (ho : ∀ r, out a r → P r) (h1 : ∀ ds, r ≠ .own ds) (h2 : ∀ ds, s ≠ .own ds) (g1 : ∀ kvs, r ≠ .dct true kvs := by intro _ z; cases z) (g2 : ∀ kvs, s ≠ .dct true kvs := by intro _ z; cases z) :
    EvD K b I0 H0 (tCallN 0 2 (spD K args ok out noX) kw21 E tNil tk) δ P :=
  ev_callN (gD := kw21) a ea_nil hk (fun H0 I H vs ws r1 r2 => by
    cases r1
    cases r2 with
    | cons q1 r2 =>
      cases r2 with
      | cons q2 r2 =>
        cases r2
        rw [he]
        exact ⟨rfl, rfl, .cons q2 (.cons q1 .nil)⟩) hp ho (by rw [he]; exact noOwn_cons h1 (noOwn_cons h2 noOwn_nil g2) g1)
theorem ev_kw12 {α : Type} {args : α → List DV} {ok : α → Prop} {out : α → DV → Prop} {E : XK} {tk : TA} {r s : DV} (a : α) (hk : EvA K b I0 H0 tk δ (fun x => x = [r, s])) (he : args a = [r, s]) (hp : ok a) (ho : ∀ r, out a r → P r) (h1 : ∀ ds, r ≠ .own ds) (h2 : ∀ ds, s ≠ .own ds) (g1 : ∀ kvs, r ≠ .dct true kvs := by intro _ z; cases z) (g2 : ∀ kvs, s ≠ .dct true kvs := by intro _ z; cases z) :
    EvD K b I0 H0 (tCallN 0 2 (spD K args ok out noX) kw12 E tNil tk) δ P :=
  ev_callN (gD := kw12) a ea_nil hk (fun H0 I H vs ws r1 r2 => by
    cases r1
    cases r2 with
    | cons q1 r2 =>
      cases r2 with
      | cons q2 r2 =>
        cases r2
        rw [he]
        exact ⟨rfl, rfl, .cons q1 (.cons q2 .nil)⟩) hp ho (by rw [he]; exact noOwn_cons h1 (noOwn_cons h2 noOwn_nil g2) g1)
end
/-! ### the bag's turns -/
theorem Ext.bag {K : PySem.W.Frag} {b : Bg} {I H : Hp} {l : Addr} {ns : List Int} {p q m c : Int} (k : Ok K b I H) (hbl : ∃ xs, H b.a = some (.lst (.ref l :: xs))) (hl : SqL K I l (ns.map V.int)) (hp : 0 ≤ p) (hq : 0 ≤ q) (hm : 0 ≤ m) (hm2 : m < 2147483647) :
    Ext K b I H I (upd H b.a (.lst [.ref l, .int p, .int q, .int m, .int c])) := by
  obtain ⟨ib, pl, tb, l', ns', x, q', m', c', e, sl, r⟩ := k.b
  exact ⟨Same.refl I, fun a o n _ h => by rw [upd_ne n]; exact h, fun a o n _ _ => n, fun l0 xs h => (by obtain ⟨zs, hz⟩ := hbl; rw [hz] at h; cases h; exact ⟨_, upd_same⟩), fun a o h => by rw [upd_ne (ne_of_none h ib)]; exact k.s a o h, ib, pl, tabs_upd tb e, l, ns, p, q, m, c, upd_same, hl, hp, hq, hm, hm2⟩
end DL

set_option Elab.async false
set_option linter.all false
set_option maxRecDepth 100000
set_option maxHeartbeats 4000000
namespace DL
open PySem PySem.Spec PyProof.Rows L2 RZ
theorem ltr {a c : Nat} (h : Nat.ble (a + 1) c = true) : a < c := Nat.le_of_ble_eq_true h
theorem hv1 {p : Nat → Prop} {a : Nat} (h : p a) : ∀ v ∈ [a], p v := fun v hv => by
  rcases List.mem_cons.mp hv with e | e
  · rw [e]; exact h
  · cases e
theorem hv2 {p : Nat → Prop} {a c : Nat} (h : p a) (h2 : p c) : ∀ v ∈ [a, c], p v := fun v hv => by
  rcases List.mem_cons.mp hv with e | e
  · rw [e]; exact h
  · exact hv1 h2 v e
abbrev nums (ns : List Int) : PyData := .tuple (ns.map .int)
/-! ### the rules, K told -/
section
variable {X : Cx} (K : PySem.W.Frag)
theorem k_ix_list (h : X.K = K := by rfl) : IxR X (rIxL K) := h ▸ ix_list
theorem k_ix_tup (h : X.K = K := by rfl) : IxR X (rIxT K) := h ▸ ix_tup
theorem k_ix_seq (h : X.K = K := by rfl) : IxR X (rIx K) := h ▸ ix_seq
theorem k_len (h : X.K = K := by rfl) : CallR X (.builtin "len") (fun xs H Q => ∃ p ys, xs = [.ref p] ∧ (SqL K H p ys ∨ SqT K H p ys) ∧ Q (.int ys.length) H) := h ▸ call_len_seq
theorem k_tuple (h : X.K = K := by rfl) : CallR X (.type "tuple") (TF.rTupleF K) := h ▸ TF.call_tupleF
theorem k_list (h : X.K = K := by rfl) : CallR X (.type "list") (fun xs H Q => ∃ p ys, xs = [.ref p] ∧ (SqL K H p ys ∨ SqT K H p ys) ∧ ∀ l, H l = none → Q (.ref l) (upd H l (.lst ys))) := h ▸ call_list_of
theorem k_sum (hc : X.calm = true) (h : X.K = K := by rfl) : CallR X (.builtin "sum") (rSum K) := h ▸ cr_sum hc
theorem k_all (hc : X.calm = true) (h : X.K = K := by rfl) : CallR X (.builtin "all") (rAll K) := h ▸ cr_all hc
theorem k_any (hc : X.calm = true) (h : X.K = K := by rfl) : CallR X (.builtin "any") (rAny K) := h ▸ cr_any hc
theorem k_isi (h : X.K = K := by rfl) : CallR X (.builtin "isinstance") (rIsi K) := h ▸ call_isi
theorem k_catA (h : X.K = K := by rfl) : OpR X (binaryOp .Add) (TF.rCatF K) := h ▸ TF.op_catF
theorem k_repT (h : X.K = K := by rfl) : OpR X (binaryOp .Mult) (TF.rRepF K) := h ▸ TF.op_repF
theorem k_in (h : X.K = K := by rfl) : OpR X (compareOp .In) (rIn K false) := h ▸ op_in_seq
theorem k_notin (h : X.K = K := by rfl) : OpR X (compareOp .NotIn) (rIn K true) := h ▸ op_notIn_seq
theorem k_eqD (hu : X.A.units + 64 < cLine) (h : X.K = K := by rfl) : OpR X (compareOp .Eq) (rEqD K) := h ▸ op_eqD hu
theorem k_neD (hu : X.A.units + 64 < cLine) (h : X.K = K := by rfl) : OpR X (compareOp .NotEq) (rNeD K) := h ▸ op_neD hu
theorem k_sl_list (h : X.K = K := by rfl) : SlR X (rSlL K) := h ▸ sl_list
theorem k_sl_tup (h : X.K = K := by rfl) : SlR X (TF.rSlF K) := h ▸ TF.sl_tupF
end
section
variable {K : PySem.W.Frag} {b : Bg} {I0 H0 : Hp} {δ : Env} {ta te tb : TE} {P : DV → Prop}
theorem ItD.mono {Rl : Rel} {wi : TI} {A B : List PyData → Prop} (h : ItD K b Rl I0 H0 wi δ A) (m : ∀ x, A x → B x) : ItD K b Rl I0 H0 wi δ B := fun σ I H k n R q => h σ I H k n R fun ds J I' H' p => q ds J I' H' (m ds p)
theorem itd_zip1 {ta : TA} {ds es : List PyData} (h : EvA K b I0 H0 ta δ (fun rs => rs = [.dat (.tuple ds), .dat (.tuple es)])) : ItD K b (PairR K) I0 H0 (iZipA K ta) δ (fun x => x = zipD ds es) :=
  (itd_zipT (A := fun x y => x = ds ∧ y = es) (h.mono fun _ e => ⟨ds, es, e, rfl, rfl⟩)).mono fun _ ⟨x, y, e, e1, e2⟩ => by rw [e, e1, e2]
theorem itd_enum1 {ta : TA} {ds : List PyData} (h : EvA K b I0 H0 ta δ (fun rs => rs = [.dat (.tuple ds)])) : ItD K b (PairR K) I0 H0 (TF.iEnumT K ta) δ (fun x => x = enumD ds) :=
  (itd_enumT (A := fun x => x = ds) (h.mono fun _ e => ⟨ds, e, rfl⟩)).mono fun _ ⟨x, e, e1⟩ => by rw [e, e1]
theorem itd_tup1 {ds : List PyData} (h : EvD K b I0 H0 te δ (fun x => x = .dat (.tuple ds))) : ItD K b (DpR K) I0 H0 (iTup K te) δ (fun x => x = ds) :=
  itd_tup (A := fun x => x = ds) (h.mono fun _ e => ⟨ds, e, rfl⟩)
theorem itd_list1 {ds : List PyData} (h : EvD K b I0 H0 te δ (fun x => x = .dat (.list ds))) : ItD K b (DpR K) I0 H0 (iList K te) δ (fun x => x = ds) :=
  itd_list (A := fun x => x = ds) (h.mono fun _ e => ⟨ds, e, rfl⟩)
theorem itd_rngN {ta : TA} {n : Nat} (h : EvA K b I0 H0 ta δ (fun rs => rs = [dint n])) (hn : n ≤ 100000) : ItD K b (DpR K) I0 H0 (iRng1 ta) δ (fun x => x = rangeD 0 n) :=
  (itd_rng1 (A := fun x => x = (n : Int)) (h.mono fun _ e => ⟨n, e, by omega, by omega, rfl⟩)).mono fun _ ⟨x, e, e1⟩ => by
    subst e1
    rw [e]
    rfl
/-- a range whose end is drawn -/
theorem itd_rngR {ta : TA} {C : Int → Prop} (h : EvA K b I0 H0 ta δ (fun rs => ∃ n, rs = [dint n] ∧ C n)) (hn : ∀ n, C n → 0 ≤ n ∧ n ≤ 100000) : ItD K b (DpR K) I0 H0 (iRng1 ta) δ (fun x => ∃ n : Nat, x = rangeD 0 n ∧ C n) :=
  (itd_rng1 (A := C) (h.mono fun _ ⟨n, e, c⟩ => ⟨n, e, by have := hn n c; omega, by have := hn n c; omega, c⟩)).mono fun _ ⟨x, e, e1⟩ => ⟨x.toNat, e, by
    have := hn x e1
    rw [show ((x.toNat : Nat) : Int) = x by omega]
    exact e1⟩
theorem paired_mapL {α β γ : Type} {g : α → β} {F : β → γ → Prop} : ∀ {l : List α} {ys : List γ}, Paired F (l.map g) ys → Paired (fun x y => F (g x) y) l ys
  | [], _, h => by cases h; exact .nil
  | _ :: _, _, h => by
    cases h with
    | cons r t => exact .cons r (paired_mapL t)
theorem paired_fun {α β : Type} {f : α → β} : ∀ {l : List α} {ys : List β}, Paired (fun x y => y = f x) l ys → ys = l.map f
  | _, _, .nil => rfl
  | _, _, .cons r t => by rw [List.map_cons, ← paired_fun t, r]
theorem paired_len {α β : Type} {F : α → β → Prop} {l : List α} {ys : List β} (h : Paired F l ys) : l.length = ys.length := PySem.Paired.length h
/-- a comprehension over a list of things x that stand as data gI x; what each turn gives is in Pe x -/
theorem ev_lcR {β : Type} {Rl : Rel} {wi : TI} {g : TG} {te : TE} {vs is : List Nat} {A : List β → Prop} {gI : β → PyData} {δf : β → Env} {Pe : β → PyData → Prop} (it : ItD K b Rl I0 H0 wi δ (fun x => ∃ l, x = l.map gI ∧ A l)) (hv : ∀ v ∈ vs, δ[v]? = some none) (his : ∀ v ∈ is, v ∈ vs)
    (hl : ∀ l, A l → l.length ≤ 100000) (tg : ∀ x, TgD K b Rl g is (gI x) δ (δf x)) (body : ∀ l, A l → ∀ x ∈ l, EvD K b I0 H0 te (δf x) (fun r => ∃ y, r = .dat y ∧ Pe x y)) :
    EvD K b I0 H0 (tLc wi g tYes te vs) δ (fun r => ∃ ys, r = .own ys ∧ ∃ l, A l ∧ Paired Pe l ys) :=
  (ev_lc (f := fun _ => true) it hv his hl tg (fun _ _ _ _ => et_yes) fun l a x hx _ => body l a x hx).mono fun r ⟨ys, e, l, a, hp⟩ => by
    have z : l.filter (fun _ => true) = l := by simp
    rw [z] at hp
    exact ⟨ys, e, l, a, hp⟩
theorem ev_lcM {β : Type} {Rl : Rel} {wi : TI} {g : TG} {te : TE} {vs is : List Nat} {l : List β} {gI : β → PyData} {δf : β → Env} {f : β → PyData} (it : ItD K b Rl I0 H0 wi δ (fun x => x = l.map gI)) (hv : ∀ v ∈ vs, δ[v]? = some none) (his : ∀ v ∈ is, v ∈ vs)
    (hl : l.length ≤ 100000) (tg : ∀ x, TgD K b Rl g is (gI x) δ (δf x)) (body : ∀ x ∈ l, EvD K b I0 H0 te (δf x) (fun r => r = .dat (f x))) : EvD K b I0 H0 (tLc wi g tYes te vs) δ (fun r => r = .own (l.map f)) :=
  (ev_lcR (A := fun x => x = l) (Pe := fun x y => y = f x) (it.mono fun x e => ⟨l, e, rfl⟩) hv his (fun _ e => e ▸ hl) tg fun _ e x hx => (body x (e ▸ hx)).mono fun r e => ⟨_, e, rfl⟩).mono fun r ⟨ys, e, l', e2, hp⟩ => by
    subst e2
    rw [e, paired_fun hp]
/-! ### ints, some of them drawn -/
end
section
variable (K : PySem.W.Frag) (b : Bg) (I0 H0 : Hp)
def EvI (te : TE) (δ : Env) (C : Int → Prop) : Prop := EvD K b I0 H0 te δ (fun r => ∃ i, r = dint i ∧ C i)
end
section
variable {K : PySem.W.Frag} {b : Bg} {I0 H0 : Hp} {δ : Env} {ta te tb : TE} {P : DV → Prop} {A B C : Int → Prop}
theorem EvI.mono (h : EvI K b I0 H0 te δ A) (m : ∀ i, A i → B i) : EvI K b I0 H0 te δ B := EvD.mono h fun _ ⟨i, e, a⟩ => ⟨i, e, m i a⟩
theorem ei_of {i : Int} (h : EvD K b I0 H0 te δ (fun r => r = dint i)) : EvI K b I0 H0 te δ (fun x => x = i) := h.mono fun _ e => ⟨i, e, rfl⟩
theorem EvI.one {i : Int} (h : EvI K b I0 H0 te δ (fun x => x = i)) : EvD K b I0 H0 te δ (fun r => r = dint i) := EvD.mono h fun _ ⟨_, e, a⟩ => by rw [e, a]
theorem ei_I0 {g : Int → Int → Int} (ha : EvI K b I0 H0 ta δ A) (hb : EvI K b I0 H0 tb δ B) : EvI K b I0 H0 (tOp (rI0 fun i j => .int (g i j)) ta tb) δ (fun k => ∃ i j, A i ∧ B j ∧ k = g i j) :=
  ev_op ha hb fun x y ⟨i, e, a⟩ ⟨j, f, c⟩ => by
    subst e f
    exact fun H0 I H v w k r1 r2 Q q => od_I0 (fun K I => Dp.int _) H0 I H v w k r1 r2 Q fun z u I' H' p => q z u I' H' ⟨_, p, i, j, a, c, rfl⟩
theorem ei_I {C : Int → Int → Prop} {g : Int → Int → Int} (ha : EvI K b I0 H0 ta δ A) (hb : EvI K b I0 H0 tb δ B) (hc : ∀ i j, A i → B j → C i j) : EvI K b I0 H0 (tOp (rI C fun i j => .int (g i j)) ta tb) δ (fun k => ∃ i j, A i ∧ B j ∧ k = g i j) :=
  ev_op ha hb fun x y ⟨i, e, a⟩ ⟨j, f, c⟩ => by
    subst e f
    exact fun H0 I H v w k r1 r2 Q q => od_I (hc i j a c) (fun K I => Dp.int _) H0 I H v w k r1 r2 Q fun z u I' H' p => q z u I' H' ⟨_, p, i, j, a, c, rfl⟩
theorem ei_U {g : Int → Int} (ha : EvI K b I0 H0 ta δ A) : EvI K b I0 H0 (tUn (rU fun i => .int (g i)) ta) δ (fun k => ∃ i, A i ∧ k = g i) :=
  ev_un ha fun x ⟨i, e, a⟩ => by
    subst e
    exact fun H0 I H v k r1 Q q => ud_U (g := fun i => .int (g i)) (fun K I => Dp.int _) H0 I H v k r1 Q fun z u I' H' p => q z u I' H' ⟨_, p, i, a, rfl⟩
theorem ei_var {i : Nat} {n : Int} (h : δ[i]? = some (some (dint n))) : EvI K b I0 H0 (tVar i) δ (fun x => x = n) := ei_of (ev_var h)
theorem ei_int {n : Int} : EvI K b I0 H0 (tC (.int n)) δ (fun x => x = n) := ei_of ev_int
/-- comparisons of ints -/
theorem ev_cmp {g : Int → Int → Bool} {i j : Int} (ha : EvD K b I0 H0 ta δ (fun r => r = dint i)) (hb : EvD K b I0 H0 tb δ (fun r => r = dint j)) : EvD K b I0 H0 (tOp (rI0 fun i j => .bl (g i j)) ta tb) δ (fun r => r = dbl (g i j)) :=
  ev_op ha hb fun x y e f => by
    subst e f
    exact od_I0 fun K I => Dp.bl _
theorem ev_i2 {g : Int → Int → Int} {i j : Int} (ha : EvD K b I0 H0 ta δ (fun r => r = dint i)) (hb : EvD K b I0 H0 tb δ (fun r => r = dint j)) : EvD K b I0 H0 (tOp (rI0 fun i j => .int (g i j)) ta tb) δ (fun r => r = dint (g i j)) :=
  ev_op ha hb fun x y e f => by
    subst e f
    exact od_I0 fun K I => Dp.int _
theorem ev_i2c {C : Int → Int → Prop} {g : Int → Int → Int} {i j : Int} (ha : EvD K b I0 H0 ta δ (fun r => r = dint i)) (hb : EvD K b I0 H0 tb δ (fun r => r = dint j)) (hc : C i j) : EvD K b I0 H0 (tOp (rI C fun i j => .int (g i j)) ta tb) δ (fun r => r = dint (g i j)) :=
  ev_op ha hb fun x y e f => by
    subst e f
    exact od_I hc fun K I => Dp.int _
theorem ev_ixL {x : DV} {ds : List PyData} {d : PyData} {i : Int} (ha : EvD K b I0 H0 ta δ (fun r => r = x)) (l : LstR x ds) (hb : EvD K b I0 H0 tb δ (fun r => r = dint i)) (h0 : 0 ≤ i) (h : ds[i.toNat]? = some d) : EvD K b I0 H0 (tOp (rIxL K) ta tb) δ (fun r => r = .dat d) :=
  ev_op ha hb fun x y e f => by
    subst e f
    exact ixL_ l h0 h rfl
theorem ev_ixT {ds : List PyData} {d : PyData} {i : Int} (ha : EvD K b I0 H0 ta δ (fun r => r = .dat (.tuple ds))) (hb : EvD K b I0 H0 tb δ (fun r => r = dint i)) (h0 : 0 ≤ i) (h : ds[i.toNat]? = some d) : EvD K b I0 H0 (tOp (rIxT K) ta tb) δ (fun r => r = .dat d) :=
  ev_op ha hb fun x y e f => by
    subst e f
    exact ixT_ h0 h rfl
/-- an item of a list or a tuple (ix_seq) -/
theorem ev_ix {ds : List PyData} {d e : PyData} {i : Int} (ht : e = .list ds ∨ e = .tuple ds) (ha : EvD K b I0 H0 ta δ (fun r => r = .dat e)) (hb : EvD K b I0 H0 tb δ (fun r => r = dint i)) (h0 : 0 ≤ i) (h : ds[i.toNat]? = some d) : EvD K b I0 H0 (tOp (rIx K) ta tb) δ (fun r => r = .dat d) :=
  ev_op ha hb fun x y e f => by
    subst e f
    intro H0 I H v w k r1 r2 Q q
    rcases ht with rfl | rfl
    · exact .inl (ixL_ (P := fun r => r = .dat d) (.inr (.inr rfl)) h0 h rfl H0 I H v w k r1 r2 Q q)
    · exact .inr (.inl (ixT_ (P := fun r => r = .dat d) h0 h rfl H0 I H v w k r1 r2 Q q))
theorem ev_len {x : DV} {ds : List PyData} (ha : EvD K b I0 H0 ta δ (fun r => r = x)) (l : LstR x ds ∨ x = .dat (.tuple ds)) : EvD K b I0 H0 (tCB (fun xs H Q => ∃ p ys, xs = [.ref p] ∧ (SqL K H p ys ∨ SqT K H p ys) ∧ Q (.int ys.length) H) (tCons ta tNil)) δ (fun r => r = dint ds.length) :=
  ev_cb (ea_cons1 ha ea_nil) fun rs e => by
    subst e
    rcases l with l | l
    · exact cb_lenL l
    · subst l
      exact cb_lenT
theorem ev_tupleOf {A : List PyData → Prop} (ha : EvD K b I0 H0 ta δ (fun r => ∃ ds, r = .own ds ∧ A ds)) : EvD K b I0 H0 (tCB (TF.rTupleF K) (tCons ta tNil)) δ (fun r => ∃ ds, r = .dat (.tuple ds) ∧ A ds) :=
  ev_cb (ea_cons (B := fun rs => ∃ ds, rs = [.own ds] ∧ A ds) ha ea_nil fun r rs ⟨ds, e, a⟩ f => ⟨ds, by rw [e, f], a⟩) fun rs ⟨ds, e, a⟩ => by
    subst e
    exact fun H0 I H vs k rs Q q => cb_tupleL (.inl rfl) H0 I H vs k rs Q fun z u I' H' p => q z u I' H' ⟨ds, p, a⟩
theorem ev_tupleOf1 {ds : List PyData} (ha : EvD K b I0 H0 ta δ (fun r => r = .own ds)) : EvD K b I0 H0 (tCB (TF.rTupleF K) (tCons ta tNil)) δ (fun r => r = .dat (.tuple ds)) :=
  ev_cb (ea_cons1 ha ea_nil) fun rs e => by
    subst e
    exact cb_tupleL (.inl rfl)
theorem ev_isi {d : PyData} {n : String} {c : Bool} (ha : EvD K b I0 H0 ta δ (fun r => r = .dat d)) (h : kitB (tyN d) n = some c) : EvD K b I0 H0 (tCB (rIsi K) (tCons ta (tCons (tC (.ty n)) tNil))) δ (fun r => r = dbl c) :=
  ev_cb (ea_cons1 ha (ea_cons1 ev_raw ea_nil)) fun rs e => by
    subst e
    exact cb_isi h
theorem ev_isN {d : PyData} (ha : EvD K b I0 H0 ta δ (fun r => r = .dat d)) : EvD K b I0 H0 (tOp (fun x y H Q => y = .non ∧ Q (.bl (decide (x = .non))) H) ta (tC .non)) δ (fun r => r = dbl (decide (tyN d = "NoneType"))) :=
  ev_op ha ev_non fun x y e f => by
    subst e f
    intro H0 I H v w k r1 r2 Q q
    refine ⟨non_read r2, q _ _ I H rfl k.re ?_⟩
    rw [dp_isN r1]
    exact Dp.bl _
theorem ev_eqD {d e : PyData} (ha : EvD K b I0 H0 ta δ (fun r => r = .dat d)) (hb : EvD K b I0 H0 tb δ (fun r => r = .dat e)) (h1 : SeqAt.shaped d = true) (h2 : SeqAt.shaped e = true) : EvD K b I0 H0 (tOp (rEqD K) ta tb) δ (fun r => r = dbl (PyData.eqv d e)) :=
  ev_op ha hb fun x y e f => by
    subst e f
    exact od_eq h1 h2
/-- != of bools -/
theorem ev_neB {x y : Bool} (ha : EvD K b I0 H0 ta δ (fun r => r = dbl x)) (hb : EvD K b I0 H0 tb δ (fun r => r = dbl y)) : EvD K b I0 H0 (tOp rNe ta tb) δ (fun r => r = dbl (!decide (x = y))) :=
  ev_op ha hb fun _ _ e f => by
    subst e f
    intro H0 I H v w k r1 r2 Q q
    rw [bl_read r1, bl_read r2]
    refine ⟨rfl, q _ _ I H rfl k.re ?_⟩
    have z : decide (V.bl x = V.bl y) = decide (x = y) := by cases x <;> cases y <;> rfl
    rw [z]
    exact Dp.bl _
theorem ev_neI {x y : Int} (ha : EvD K b I0 H0 ta δ (fun r => r = dint x)) (hb : EvD K b I0 H0 tb δ (fun r => r = dint y)) : EvD K b I0 H0 (tOp rNe ta tb) δ (fun r => r = dbl (!decide (x = y))) :=
  ev_op ha hb fun _ _ e f => by
    subst e f
    intro H0 I H v w k r1 r2 Q q
    rw [int_read r1, int_read r2]
    refine ⟨rfl, q _ _ I H rfl k.re ?_⟩
    have z : decide (V.int x = V.int y) = decide (x = y) := by
      by_cases e : x = y
      · subst e; simp
      · rw [decide_eq_false e, decide_eq_false (fun z => e (V.int.inj z))]
    rw [z]
    exact Dp.bl _
theorem ev_eqI {x y : Int} (ha : EvD K b I0 H0 ta δ (fun r => r = dint x)) (hb : EvD K b I0 H0 tb δ (fun r => r = dint y)) : EvD K b I0 H0 (tOp rEq ta tb) δ (fun r => r = dbl (decide (x = y))) :=
  ev_op ha hb fun _ _ e f => by
    subst e f
    intro H0 I H v w k r1 r2 Q q
    rw [int_read r1, int_read r2]
    refine ⟨rfl, q _ _ I H rfl k.re ?_⟩
    have z : decide (V.int x = V.int y) = decide (x = y) := by
      by_cases e : x = y
      · subst e; simp
      · rw [decide_eq_false e, decide_eq_false (fun z => e (V.int.inj z))]
    rw [z]
    exact Dp.bl _
def isSc : PyData → Bool
  | .bool _ => true
  | .int _ => true
  | .str _ => true
  | _ => false
theorem ev_eqS {d : PyData} (hd : isSc d = true) (ha : EvD K b I0 H0 ta δ (fun r => r = .dat d)) (hb : EvD K b I0 H0 tb δ (fun r => r = .dat d)) : EvD K b I0 H0 (tOp rEq ta tb) δ (fun r => r = dbl true) :=
  ev_op ha hb fun _ _ e f => by
    subst e f
    intro H0 I H v w k r1 r2 Q q
    have r1 : Dp K I v d := r1
    have r2 : Dp K I w d := r2
    cases r1 with
    | bl c => cases r2; exact ⟨rfl, q _ _ I H rfl k.re (by rw [decide_eq_true rfl]; exact Dp.bl _)⟩
    | int c => cases r2; exact ⟨rfl, q _ _ I H rfl k.re (by rw [decide_eq_true rfl]; exact Dp.bl _)⟩
    | str c => cases r2; exact ⟨rfl, q _ _ I H rfl k.re (by rw [decide_eq_true rfl]; exact Dp.bl _)⟩
    | non => cases hd
    | lst _ _ => cases hd
    | tup _ _ => cases hd
section
variable {N Bk Ct : Env → Prop} {R : DV → Prop} {t u : TS} {c : TT}
/-- an if that is not taken -/
theorem sv_skip (h : EvT K b I0 H0 c δ (fun x => x = false)) (hu : SvD K b I0 H0 u δ N R Bk Ct) : SvD K b I0 H0 (tSeq (tIfS c t tNext) u) δ N R Bk Ct :=
  sv_seq1 (δ' := δ) (sv_if h (fun e => by cases e) fun _ => sv_nil rfl) hu
/-- an if that is taken, and returns -/
theorem sv_goes (h : EvT K b I0 H0 c δ (fun x => x = true)) (ht : SvD K b I0 H0 t δ (fun _ => False) R Bk Ct) : SvD K b I0 H0 (tSeq (tIfS c t tNext) u) δ N R Bk Ct :=
  sv_seq (N' := fun _ => False) (sv_if h (fun _ => ht) fun e => by cases e) fun _ z => z.elim
end
theorem rangeD_map (n : Nat) : rangeD 0 n = (List.range n).map fun (k : Nat) => PyData.int ((0 : Int) + (k : Int)) := rfl
end
end DL

set_option Elab.async false
set_option linter.all false
set_option maxRecDepth 100000
set_option maxHeartbeats 4000000
namespace DL
open PySem PySem.Spec PyProof.Rows L2 RZ
/-! ### rows of numbers as data -/
theorem canLay_nums (ns : List Int) : PyData.canLayAll0 (ns.map .int) = true := by
  induction ns with
  | nil => rfl
  | cons n ns ih =>
    rw [List.map_cons, PyData.canLayAll0, ih]
    simp [PyData.canLay0]
theorem depth_nums (ns : List Int) : PyData.depthAll (ns.map .int) = 0 := by
  induction ns with
  | nil => simp [PyData.depthAll]
  | cons n ns ih => simp [PyData.depthAll, PyData.depth, ih]
theorem shaped_nums (ns : List Int) : SeqAt.shaped (nums ns) = true := by
  unfold SeqAt.shaped
  simp only [PyData.canLay0, PyData.depth, canLay_nums, depth_nums]
  rfl
theorem eqv_nums : ∀ xs ys : List Int, PyData.eqv (nums xs) (nums ys) = decide (xs = ys) := by
  have go : ∀ xs ys : List Int, PyData.eqvAll (xs.map .int) (ys.map .int) = decide (xs = ys) := by
    intro xs
    induction xs with
    | nil =>
      intro ys
      cases ys with
      | nil => simp [PyData.eqvAll]
      | cons y ys => simp [PyData.eqvAll]
    | cons x xs ih =>
      intro ys
      cases ys with
      | nil => simp [PyData.eqvAll]
      | cons y ys =>
        rw [List.map_cons, List.map_cons, PyData.eqvAll, ih, PyData.eqv]
        by_cases h : x = y
        · subst h; simp
        · simp [h]
  intro xs ys
  rw [PyData.eqv, go]
/-- data of at most so many lists or tuples, one in another -/
def Flat : Nat → PyData → Prop
  | 0, _ => False
  | n + 1, d => match d with
    | .none => True
    | .bool _ => True
    | .int _ => True
    | .str _ => True
    | .list ds => ds.length ≤ 100000 ∧ ∀ x ∈ ds, Flat n x
    | .tuple ds => ds.length ≤ 100000 ∧ ∀ x ∈ ds, Flat n x
    | .dict _ => False
theorem flat_nums {n : Nat} {ns : List Int} (h : ns.length ≤ 100000) : Flat (n + 2) (nums ns) := ⟨by rw [List.length_map]; exact h, fun x hx => by
  obtain ⟨i, _, rfl⟩ := List.mem_map.mp hx
  exact True.intro⟩
theorem flat_int {n : Nat} {i : Int} : Flat (n + 1) (.int i) := True.intro
theorem flat_bool {n : Nat} {i : Bool} : Flat (n + 1) (.bool i) := True.intro
theorem flat_str {n : Nat} {i : Str} : Flat (n + 1) (.str i) := True.intro
theorem flat_none {n : Nat} : Flat (n + 1) .none := True.intro
theorem flat_l {n : Nat} {ds : List PyData} (hl : ds.length ≤ 100000) (h : ∀ x ∈ ds, Flat n x) : Flat (n + 1) (.list ds) := ⟨hl, h⟩
theorem flat_t {n : Nat} {ds : List PyData} (hl : ds.length ≤ 100000) (h : ∀ x ∈ ds, Flat n x) : Flat (n + 1) (.tuple ds) := ⟨hl, h⟩
theorem all_nil {p : PyData → Prop} : ∀ x ∈ ([] : List PyData), p x := fun _ h => by cases h
theorem all_cons {p : PyData → Prop} {d : PyData} {ds : List PyData} (h : p d) (t : ∀ x ∈ ds, p x) : ∀ x ∈ d :: ds, p x := fun x hx => by
  rcases List.mem_cons.mp hx with e | e
  · rw [e]; exact h
  · exact t x e
/-! ### lists of a def's own, changed -/
def noBor (δ : Env) : Bool := δ.all fun x => match x with
  | some (.bor _) => false
  | some (.dct false _) => false
  | _ => true
theorem noBor_at {δ : Env} (h : noBor δ = true) : ∀ (j : Nat) es, δ[j]? ≠ some (some (.bor es)) := fun j es e => by
  have hm := List.mem_of_getElem? e
  have := List.all_eq_true.mp h _ hm
  cases this
section
variable {K : PySem.W.Frag} {b : Bg} {I0 H0 : Hp} {δ : Env} {N Bk Ct : Env → Prop} {R : DV → Prop} {te ti : TE} {t u : TS} {P : DV → Prop}
/-- the list of slot i is changed -/
theorem EnvR.own {I H : Hp} {σ : L2.St} {i : Nat} {a : Addr} {ds es : List PyData} {ys : List V} (n : EnvR K b H0 I H σ δ) (hbor : noBor δ = true) (hi : δ[i]? = some (some (.own ds))) (hs : σ[i]? = some (some (.ref a))) (h0 : Fr H0 a) (hn : I a = none) (hb : a ≠ b.a) (hd : DpAll K I ys es) :
    EnvR K b H0 I (upd H a (.lst ys)) σ (δ.set i (some (.own es))) := by
  have hlt : i < δ.length := (List.getElem?_eq_some_iff.mp hi).1
  refine ⟨by rw [List.length_set]; exact n.len, fun j r hj => ?_, fun j k c ds' es' h1 h2 h3 h4 => ?_⟩
  · by_cases z : i = j
    · subst z
      rw [List.getElem?_set_self hlt] at hj
      cases hj
      exact ⟨_, hs, a, ys, rfl, h0, hn, hb, upd_same, hd⟩
    · rw [List.getElem?_set_ne z] at hj
      obtain ⟨w, g1, g2⟩ := n.at_ j r hj
      refine ⟨w, g1, ?_⟩
      cases r with
      | dat d => exact g2
      | raw u => exact g2
      | bag => exact g2
      | dct own kvs =>
        obtain ⟨c, zs, rfl, q0, qn, qb, qa, qd⟩ := g2
        obtain ⟨_, f1, f2⟩ := n.at_ i _ hi
        rw [hs] at f1
        cases f1
        obtain ⟨_, _, f3, _, _, _, f4, _⟩ := f2
        cases f3
        have nc : c ≠ a := fun zz => by
          subst zz
          rw [f4] at qa
          cases qa
        exact ⟨c, zs, rfl, q0, qn, qb, by rw [upd_ne nc]; exact qa, qd⟩
      | own es' =>
        obtain ⟨c, zs, rfl, q0, qn, qb, qa, qd⟩ := g2
        have nc : c ≠ a := fun zz => by
          subst zz
          exact z (n.nd i j c ds es' hi hs hj g1)
        exact ⟨c, zs, rfl, q0, qn, qb, by rw [upd_ne nc]; exact qa, qd⟩
      | bor es' => exact absurd hj (noBor_at hbor j es')
  · have fix : ∀ (m : Nat) xs, (δ.set i (some (.own es)))[m]? = some (some (.own xs)) → ∃ xs', δ[m]? = some (some (.own xs')) := fun m xs e => by
      by_cases z : i = m
      · subst z
        exact ⟨ds, hi⟩
      · rw [List.getElem?_set_ne z] at e
        exact ⟨xs, e⟩
    obtain ⟨x1, e1⟩ := fix j ds' h1
    obtain ⟨x2, e2⟩ := fix k es' h3
    exact n.nd j k c x1 x2 e1 h2 e2 h4
theorem sv_append {i : Nat} {ds : List PyData} {A : PyData → Prop} (hi : δ[i]? = some (some (.own ds))) (hbor : noBor δ = true) (hl : ds.length < 100000) (he : EvD K b I0 H0 te δ (fun r => ∃ d, r = .dat d ∧ A d)) (hN : ∀ d, A d → N (δ.set i (some (.own (ds ++ [d]))))) :
    SvD K b I0 H0 (tDrop (tBM K "list" rAppend (tVar i) (tCons te tNil))) δ N R Bk Ct := fun σ I H e n D a1 _ _ _ => by
  obtain ⟨v, e1, e2⟩ := n.at_ i _ hi
  obtain ⟨a, xs, rfl, h0, hn, hb, ha, hd⟩ := e2
  refine ⟨.ref a, e1, .inl ⟨rfl, _, .inl (.inl ha)⟩, he σ I H e n _ fun r v I' H' p x rs => ?_⟩
  obtain ⟨d, rfl, p⟩ := p
  have hn' : I' a = none := x.n a _ hn ha lst_tbl
  have ha' : H' a = some (.lst xs) := x.h a _ hb lst_tbl ha
  refine ⟨a, xs, v, rfl, rfl, ha', Nat.lt_of_lt_of_le (by rw [dpa_len hd]; exact hl) (by decide : 100000 ≤ sizeLine), ?_⟩
  exact a1 _ σ I' _ (hN d p) ((e.trans x).mut h0 hn' hb ha') x.i ((n.ext x).own hbor hi e1 h0 hn' hb (dpa_app (dpa_mono x.i hd) (.cons rs .nil)))
/-- xs[k] = e -/
theorem sv_setitem {i : Nat} {ds : List PyData} {k : Int} {A : PyData → Prop} (hi : δ[i]? = some (some (.own ds))) (hbor : noBor δ = true) (hk0 : 0 ≤ k) (hk : k < ds.length) (he : EvD K b I0 H0 te δ (fun r => ∃ d, r = .dat d ∧ A d)) (hti : EvD K b I0 H0 ti δ (fun r => r = dint k))
    (hN : ∀ d, A d → N (δ.set i (some (.own (ds.set k.toNat d))))) : SvD K b I0 H0 (tAsg te (gSub (tVar i) ti rSetL)) δ N R Bk Ct := fun σ I H e n D a1 _ _ _ =>
  he σ I H e n _ fun r v I1 H1 p x rs => by
    obtain ⟨d, rfl, p⟩ := p
    obtain ⟨w, e1, e2⟩ := (n.ext x).at_ i _ hi
    obtain ⟨a, xs, rfl, h0, hn, hb, ha, hd⟩ := e2
    refine ⟨.ref a, e1, hti σ I1 H1 (e.trans x) (n.ext x) _ fun r2 v2 I2 H2 p2 x2 rs2 => ?_⟩
    subst p2
    rw [int_read rs2]
    have hn' : I2 a = none := x2.n a _ hn ha lst_tbl
    have ha' : H2 a = some (.lst xs) := x2.h a _ hb lst_tbl ha
    have hl : xs.length = ds.length := dpa_len hd
    refine ⟨a, xs, k, k.toNat, rfl, rfl, ha', ?_, ?_⟩
    · unfold ixN
      rw [if_pos hk0, if_pos (by omega)]
    · exact a1 _ σ I2 _ (hN d p) ((e.trans (x.trans x2)).mut h0 hn' hb ha') (x.i.trans x2.i) (((n.ext x).ext x2).own hbor hi e1 h0 hn' hb (dpa_set (dp_mono x2.i rs) _ (dpa_mono x2.i hd)))
/-- the law's own turns: of all slots only the bag is known -/
theorem sv_bag {n : Nat} (hl : δ.length = n + 2) (hb : δ[1]? = some (some .bag)) (h : SvD K b I0 H0 t (none :: some .bag :: List.replicate n none) N R Bk Ct) : SvD K b I0 H0 t δ N R Bk Ct :=
  sv_less (by rw [hl]; simp) (fun i r e => by
    match i with
    | 0 => cases e
    | 1 => cases e; exact hb
    | i + 2 =>
      have e : (List.replicate n (none : Option DV))[i]? = some (some r) := e
      rw [List.getElem?_replicate] at e
      split at e <;> cases e) h
theorem itd_rng0 {ta : TA} {n : Nat} (h : EvA K b I0 H0 ta δ (fun rs => rs = [dint n])) (hn : n ≤ 100000) : ItD K b (DpR K) I0 H0 (iRng1 ta) δ (fun x => x = rangeD 0 n) := itd_rngN h hn
end
/-- what is left of a law, run from its bag on -/
theorem law_run {K : PySem.W.Frag} {b : Bg} {I H : Hp} {σ : L2.St} {δ : Env} {t : TS} {D : Ends} (k : Ok K b I H) (n : EnvR K b H I H σ δ) (h : SvD K b I H t δ (fun _ => False) (fun r => r = dbl true) (fun _ => False) (fun _ => False)) (hq : ∀ H', D.rt (.bl true) H') : t D σ H :=
  h σ I H k.re n D (fun _ _ _ _ z => z.elim) (fun r v I' H' e _ rs => by
    subst e
    rw [bl_read rs]
    exact hq H') (fun _ _ _ _ z => z.elim) fun _ _ _ _ z => z.elim
theorem cut_ints (ns : List Int) (lo hi : Option Int) : ∃ ms : List Int, cutV (ns.map V.int) lo hi = ms.map V.int := by
  unfold cutV
  rw [← List.map_drop, ← List.map_take]
  exact ⟨_, rfl⟩
end DL

set_option Elab.async false
set_option linter.all false
set_option maxRecDepth 100000
set_option maxHeartbeats 4000000
namespace DL
open PySem PySem.Spec PyProof.Rows L2 RZ
/-! ### draws -/
abbrev aTake (n : Int) : List DV := [.bag, dint n]
abbrev okTake (n : Int) : Prop := 0 < n ∧ n < 10000000000000000000000000000000000000000000000000000000000000000000000000000000000000000000000000000000000000000000000000000000000000000000000000000000000000000000000000000000000000000000000000000000000000000000000000000000000000000000000000000000000000000000000000000000000000000000000000000000000000000000000
abbrev outTake (n : Int) (r : DV) : Prop := ∃ i, r = dint i ∧ 0 ≤ i ∧ i < n
abbrev aPick (ds : List PyData) : List DV := [.bag, .dat (.list ds)]
abbrev okPick (ds : List PyData) : Prop := 0 < ds.length ∧ ds.length ≤ 1000
abbrev outPick (ds : List PyData) (r : DV) : Prop := ∃ d, d ∈ ds ∧ r = .dat d
theorem noOwn_bag {r : DV} (h : ∀ ds, r ≠ .own ds) (g : ∀ kvs, r ≠ .dct true kvs := by intro _ z; cases z) : NoOwn [.bag, r] := noOwn_cons (fun _ z => by cases z) (noOwn_cons h noOwn_nil g)
section
variable {K : PySem.W.Frag} {b : Bg} {I0 H0 : Hp} {δ : Env} {ta te tb tn : TE} {P : DV → Prop} {E : XK} {i : Nat} {n : Int}
theorem ev_take (hb : δ[i]? = some (some .bag)) (hn : EvD K b I0 H0 tn δ (fun r => r = dint n)) (h : okTake n) : EvI K b I0 H0 (tCall (spD K aTake okTake outTake noX) [] E (tCons (tVar i) (tCons tn tNil))) δ (fun k => 0 ≤ k ∧ k < n) :=
  ev_call1 n (ea_cons1 (ev_var hb) (ea_cons1 hn ea_nil)) h (fun r e => e) (noOwn_bag fun _ z => by cases z)
theorem ev_pick {A : List PyData → Prop} {B : PyData → Prop} (hb : δ[i]? = some (some .bag)) (hn : EvD K b I0 H0 tn δ (fun r => ∃ ds, r = .dat (.list ds) ∧ A ds)) (h : ∀ ds, A ds → okPick ds ∧ ∀ d ∈ ds, B d) :
    EvD K b I0 H0 (tCall (spD K aPick okPick outPick noX) [] E (tCons (tVar i) (tCons tn tNil))) δ (fun r => ∃ d, r = .dat d ∧ B d) :=
  ev_call (A := fun rs => ∃ ds, rs = [.bag, .dat (.list ds)] ∧ A ds) (ea_cons (ev_var hb) (ea_cons hn ea_nil (B := fun rs => ∃ ds, rs = [.dat (.list ds)] ∧ A ds) fun r rs ⟨ds, e, a⟩ f => ⟨ds, by rw [e, f], a⟩) fun r rs e ⟨ds, f, a⟩ => ⟨ds, by rw [e, f], a⟩) fun rs ⟨ds, e, a⟩ =>
    ⟨ds, e, (h ds a).1, e ▸ noOwn_bag (fun _ z => by cases z), fun r ⟨d, hd, f⟩ => ⟨d, f, (h ds a).2 d hd⟩, fun _ _ z => z⟩
/-! ### lists of ints, some drawn -/
theorem ea_nilI : EvA K b I0 H0 tNil δ (fun rs => ∃ ns : List Int, rs = ns.map (fun i => dint i) ∧ ns = []) := ea_nil.mono fun _ e => ⟨[], e, rfl⟩
theorem ea_consI {tr : TA} {C : Int → Prop} {D : List Int → Prop} (ha : EvI K b I0 H0 ta δ C) (hr : EvA K b I0 H0 tr δ (fun rs => ∃ ns : List Int, rs = ns.map (fun i => dint i) ∧ D ns)) :
    EvA K b I0 H0 (tCons ta tr) δ (fun rs => ∃ ns : List Int, rs = ns.map (fun i => dint i) ∧ ∃ i ms, ns = i :: ms ∧ C i ∧ D ms) :=
  ea_cons ha hr fun r rs ⟨i, e, c⟩ ⟨ms, f, d⟩ => ⟨i :: ms, by rw [e, f]; rfl, i, ms, rfl, c, d⟩
theorem ev_lstI {t : TA} {D : List Int → Prop} (h : EvA K b I0 H0 t δ (fun rs => ∃ ns : List Int, rs = ns.map (fun i => dint i) ∧ D ns)) (hl : ∀ ns, D ns → ns.length ≤ 100000) : EvD K b I0 H0 (tLst t) δ (fun r => ∃ ns : List Int, r = .own (ns.map .int) ∧ D ns) :=
  (ev_lst (A := fun ds => ∃ ns : List Int, ds = ns.map .int ∧ D ns) (h.mono fun rs ⟨ns, e, d⟩ => ⟨ns.map .int, by rw [e, List.map_map]; rfl, by rw [List.length_map]; exact hl ns d, ns, rfl, d⟩)).mono fun r ⟨ds, e, ns, f, d⟩ => ⟨ns, by rw [e, f], d⟩
theorem ev_tupI {t : TA} {D : List Int → Prop} (h : EvA K b I0 H0 t δ (fun rs => ∃ ns : List Int, rs = ns.map (fun i => dint i) ∧ D ns)) (hl : ∀ ns, D ns → ns.length ≤ 100000) : EvD K b I0 H0 (TF.tTupF t) δ (fun r => ∃ ns : List Int, r = .dat (nums ns) ∧ D ns) :=
  (ev_tup (A := fun ds => ∃ ns : List Int, ds = ns.map .int ∧ D ns) (h.mono fun rs ⟨ns, e, d⟩ => ⟨ns.map .int, by rw [e, List.map_map]; rfl, by rw [List.length_map]; exact hl ns d, ns, rfl, d⟩)).mono fun r ⟨ds, e, ns, f, d⟩ => ⟨ns, by rw [e, f], d⟩
/-- one of some ints, drawn -/
theorem ev_pickI {t : TA} {D : List Int → Prop} (hb : δ[i]? = some (some .bag)) (h : EvA K b I0 H0 t δ (fun rs => ∃ ns : List Int, rs = ns.map (fun i => dint i) ∧ D ns)) (hl : ∀ ns, D ns → 0 < ns.length ∧ ns.length ≤ 1000) :
    EvI K b I0 H0 (tCall (spD K aPick okPick outPick noX) [] E (tCons (tVar i) (tCons (tLst t) tNil))) δ (fun k => ∃ ns, D ns ∧ k ∈ ns) :=
  (ev_pick (A := fun ds => ∃ ns : List Int, ds = ns.map .int ∧ D ns) (B := fun d => ∃ k : Int, d = .int k ∧ ∃ ns, D ns ∧ k ∈ ns) hb
    (ev_frz ((ev_lstI h fun ns d => by have := (hl ns d).2; omega).mono fun r ⟨ns, e, d⟩ => ⟨_, e, ns, rfl, d⟩)) fun ds ⟨ns, e, d⟩ => by
      subst e
      refine ⟨⟨by rw [List.length_map]; exact (hl ns d).1, by rw [List.length_map]; exact (hl ns d).2⟩, fun x hx => ?_⟩
      obtain ⟨k, hk, rfl⟩ := List.mem_map.mp hx
      exact ⟨k, rfl, ns, d, hk⟩).mono fun r ⟨d, e, k, f, p⟩ => ⟨k, by rw [e, f], p⟩
theorem paired_ints {β : Type} {C : β → Int → Prop} : ∀ {l : List β} {ys : List PyData}, Paired (fun x y => ∃ k : Int, y = .int k ∧ C x k) l ys → ∃ ns : List Int, ys = ns.map .int ∧ Paired C l ns
  | _, _, .nil => ⟨[], rfl, .nil⟩
  | _, _, .cons ⟨k, e, c⟩ t => by
    obtain ⟨ns, f, p⟩ := paired_ints t
    exact ⟨k :: ns, by rw [e, f]; rfl, .cons c p⟩
/-- a comprehension of ints -/
theorem ev_lcI {β : Type} {Rl : Rel} {wi : TI} {g : TG} {te : TE} {vs is : List Nat} {A : List β → Prop} {gI : β → PyData} {δf : β → Env} {C : β → Int → Prop} (it : ItD K b Rl I0 H0 wi δ (fun x => ∃ l, x = l.map gI ∧ A l)) (hv : ∀ v ∈ vs, δ[v]? = some none) (his : ∀ v ∈ is, v ∈ vs)
    (hl : ∀ l, A l → l.length ≤ 100000) (tg : ∀ x, TgD K b Rl g is (gI x) δ (δf x)) (body : ∀ l, A l → ∀ x ∈ l, EvI K b I0 H0 te (δf x) (C x)) :
    EvD K b I0 H0 (tLc wi g tYes te vs) δ (fun r => ∃ ds, r = .own ds ∧ ∃ ns : List Int, ds = ns.map .int ∧ ∃ l, A l ∧ Paired C l ns) :=
  (ev_lcR (Pe := fun x y => ∃ k : Int, y = .int k ∧ C x k) it hv his hl tg fun l a x hx => EvD.mono (body l a x hx) fun r ⟨k, e, c⟩ => ⟨.int k, e, k, rfl, c⟩).mono fun r ⟨ys, e, l, a, hp⟩ => by
    obtain ⟨ns, f, p⟩ := paired_ints hp
    exact ⟨ys, e, ns, f, l, a, p⟩
/-- tuple([.. for ..]) of ints -/
theorem ev_tlcI {β : Type} {Rl : Rel} {wi : TI} {g : TG} {te : TE} {vs is : List Nat} {A : List β → Prop} {gI : β → PyData} {δf : β → Env} {C : β → Int → Prop} (it : ItD K b Rl I0 H0 wi δ (fun x => ∃ l, x = l.map gI ∧ A l)) (hv : ∀ v ∈ vs, δ[v]? = some none) (his : ∀ v ∈ is, v ∈ vs)
    (hl : ∀ l, A l → l.length ≤ 100000) (tg : ∀ x, TgD K b Rl g is (gI x) δ (δf x)) (body : ∀ l, A l → ∀ x ∈ l, EvI K b I0 H0 te (δf x) (C x)) :
    EvD K b I0 H0 (tCB (TF.rTupleF K) (tCons (tLc wi g tYes te vs) tNil)) δ (fun r => ∃ ns : List Int, r = .dat (nums ns) ∧ ∃ l, A l ∧ Paired C l ns) :=
  (ev_tupleOf (ev_lcI it hv his hl tg body)).mono fun r ⟨ds, e, ns, f, p⟩ => ⟨ns, by rw [e, f], p⟩
end
section
variable {K : PySem.W.Frag} {b : Bg} {I0 H0 : Hp} {δ : Env} {te : TE} {C : Int → Prop}
/-- range(e), e drawn; the turns' numbers -/
theorem itd_rngC (h : EvI K b I0 H0 te δ C) (hn : ∀ n, C n → 0 ≤ n ∧ n ≤ 100000) : ItD K b (DpR K) I0 H0 (iRng1 (tCons te tNil)) δ (fun x => ∃ l : List Nat, x = l.map (fun (k : Nat) => PyData.int ((0 : Int) + (k : Int))) ∧ ∃ n : Nat, l = List.range n ∧ C n) :=
  (itd_rngR (C := C) (ea_cons h ea_nil fun r rs ⟨n, e, c⟩ f => ⟨n, by rw [e, f], c⟩) hn).mono fun x ⟨n, e, c⟩ => ⟨List.range n, by rw [e, rangeD_map], n, rfl, c⟩
/-- the ints of a tuple -/
theorem itd_nums {D : List Int → Prop} (h : EvD K b I0 H0 te δ (fun r => ∃ ns : List Int, r = .dat (nums ns) ∧ D ns)) : ItD K b (DpR K) I0 H0 (iTup K te) δ (fun x => ∃ l : List Int, x = l.map PyData.int ∧ D l) :=
  itd_tup (A := fun ds => ∃ ns : List Int, ds = ns.map .int ∧ D ns) (h.mono fun r ⟨ns, e, d⟩ => ⟨_, e, ns, rfl, d⟩)
theorem itd_nums1 {ns : List Int} (h : EvD K b I0 H0 te δ (fun r => r = .dat (nums ns))) : ItD K b (DpR K) I0 H0 (iTup K te) δ (fun x => ∃ l : List Int, x = l.map PyData.int ∧ l = ns) :=
  itd_nums (h.mono fun r e => ⟨ns, e, rfl⟩)
end
end DL

set_option Elab.async false
set_option linter.all false
set_option maxRecDepth 100000
set_option maxHeartbeats 4000000
namespace DL
open PySem PySem.Spec PyProof.Rows L2
/-! ### try: .. except A as n: .. except B as n: .. (every exception of the body meets a clause) -/
abbrev Cls := Value × (Addr → Value → Option Addr → TS)
/-- behind a suite its name is gone -/
def endsN (i : Nat) (D : Ends) : Ends := ⟨fun σ H => D.nx (σ.set i none) H, D.rt, fun σ H => D.bk (σ.set i none) H, fun σ H => D.ct (σ.set i none) H⟩
def wNs (K : PySem.W.Frag) (i : Nat) (D : Ends) : List Cls → WX
  | [] => fun _ _ _ _ => False
  | cl :: more => fun k dd σ H => ∃ y, PySem.W.exmOne K k cl.1 = some y ∧ (y = true → ∀ x, H x = none → cl.2 x k dd (endsN i D) (σ.set i (some (.ref x))) H) ∧ (y = false → wNs K i D more k dd σ H)
/-- the clauses as they stand in the text, each with its class and its suite's reading -/
inductive ClsOk (X : Cx) (n : Str) : List ExceptHandler → List Cls → Prop
  | nil : ClsOk X n [] []
  | cons {nm : Str} {c : Value} {r : Addr → Value → Option Addr → TS} {st : Stmt} {sts : List Stmt} {q1 q2 : Pos} {hs : List ExceptHandler} {cs : List Cls} (named : Names X nm c)
      (suite : ∀ (x : Addr) (o : Obj) (k : Value) (dd : Option Addr) (ps : List (Addr × Obj)), Zc k dd o → (∃ vs, o.data = .fields vs) → PSs (X.suite x ((x, o) :: ps)) (st :: sts) (r x k dd)) (more : ClsOk X n hs cs) :
      ClsOk X n (.ExceptHandler (some (.Name nm q1)) (some n) (st :: sts) q2 :: hs) ((c, r) :: cs)
section
variable {X : Cx} {n : Str} {i : Nat}
theorem clauses {D : Ends} {ground : Heap} {pins : List (Addr × Obj)} {σ : L2.St} {H : Hp} {k : Value} {dd : Option Addr} {x : Addr} {s : Shared} {ho : Heap} (ok : X.Ok) (nod : X.N.Nodup) (at_ : X.N[i]? = some n) (loc : X.env.kindOf n = some .local)
    (stands : ∀ hh : Heap, HandSPX.FlyingZ ground (X.env :: X.outer) x (Zc k dd) hh → s.heap.UpToSlots hh → Inv X pins σ H { s with heap := hh }) (free : H x = none) (offL : x ≠ X.env.locals) (offF : x ∉ X.fs)
    (fly : HandSPX.FlyingZ ground (X.env :: X.outer) x (Zc k dd) ho) (grew : s.heap.UpToSlots ho) {hs : List ExceptHandler} {cs : List Cls} (h : ClsOk X n hs cs) : wNs X.K i D cs k dd σ H →
    wpAny (model X.prog X.w) X.A (handleBy (.ref x) X.env hs) (SP X pins D) X.xe { s with heap := ho } := by
  induction h with
  | nil => exact fun z => z.elim
  | @cons nm c r st sts q1 q2 hs' cs' named suite more ih =>
    rintro ⟨y, hy, yes, no⟩
    obtain ⟨o1, v1, got1, zc1, dat1⟩ := fly.there
    have inv1 := stands ho fly grew
    have insuite := inv1.suite got1 dat1 free offL offF
    have isCls : PySem.W.Looks (model X.prog X.w) ho (typeOf (.ref x)) k := fun _ _ _ _ keep q => wpAny_typeOf_ref (keep _ _ got1) (by rw [zc1.1]; exact q)
    refine wpAny_handleBy_cons (codeAny_handlers_test ?_) (by intro e; cases e)
    have named' : ∀ {Q E : Value → Shared → Prop}, Q c { s with heap := ho } → wpAny (model X.prog X.w) (X.A.mark (some (.ref x))) (eval (.Name nm q1) X.env) Q E { s with heap := ho } := by
      rcases named with ⟨g1, g2, g3⟩
      rcases g3 with g3 | ⟨g3, g4, g5⟩
      · exact fun q => ld_glob (X := X.suite x ((x, o1) :: (X.pn ++ pins))) insuite g1 g3 q g2
      · exact fun q => ld_blt (X := X.suite x ((x, o1) :: (X.pn ++ pins))) insuite g1 g3 g4 q g5 g2
    refine named' ((PySem.W.exm_one (M := model X.prog X.w) inv1.kIn isCls hy).here ?_)
    match y, yes, no with
    | false, _, no => exact ih (no rfl)
    | true, yes, _ =>
      refine codeAny_handlers_suite_as (HandSPX.lands_againZ fly fun h2 fly2 grew2 => ?_)
      obtain ⟨o2, v2, got2, zc2, dat2⟩ := fly2.there
      have insuite2 := (stands h2 fly2 (grew.trans grew2)).suite got2 dat2 free offL offF
      refine store_ok (X := X.suite x ((x, o2) :: (X.pn ++ pins))) (v := .ref x) insuite2 nod at_ (.inl loc) rfl (fun s2 inv2 => ?_) (.inr loc)
      refine wpAny_mono ((suite x o2 k dd (X.pn ++ pins) zc2 ⟨_, dat2⟩).run [] s2 _ H _ inv2 (yes rfl x free)) (fun fl s3 hsp => ?_) fun _ _ z => z.elim
      have off : ∀ {τ : L2.St} {G : Hp} {Q : Shared → Prop}, Inv (X.suite x ((x, o2) :: (X.pn ++ pins))) [] τ G s3 → (∀ s4, Inv X pins (τ.set i none) G s4 → Q s4) → wpAny (model X.prog X.w) X.A (do bindName X.env n .none; unbindBehindTheSuite X.env n q2) (fun _ s4 => Q s4) X.xe s3 :=
        fun iv go => gone_ok (iv.unsuite ok) nod at_ loc go
      match fl, hsp with
      | .next, ⟨_, _, iv, q⟩ => exact off iv fun _ j => ⟨_, _, j, q⟩
      | .brk, ⟨_, _, iv, q⟩ => exact off iv fun _ j => ⟨_, _, j, q⟩
      | .cont, ⟨_, _, iv, q⟩ => exact off iv fun _ j => ⟨_, _, j, q⟩
      | .ret _, ⟨_, _, _, iv, rv, q⟩ => exact off iv fun _ j => ⟨_, _, _, j, rv, q⟩
/-- THE RULE -/
theorem ps_tryN {body : List Stmt} {hd : ExceptHandler} {hs : List ExceptHandler} {cs : List Cls} {pos : Pos} {tb : WX → TS} (nod : X.N.Nodup) (at_ : X.N[i]? = some n) (loc : X.env.kindOf n = some .local) (hcs : ClsOk X n (hd :: hs) cs)
    (hb : ∀ (W : WX) (ps : List (Addr × Obj)) (xe : Value → Shared → Prop), Takes (X.tr ps xe) W → PassesOwn (model X.prog X.w) X.A X.env xe → PSs (X.tr ps xe) body (tb W)) (stk : X.stack = X.env :: X.outer := by rfl) (frm : X.env.frame = some X.env.locals := by rfl) :
    PS X (.Try body (hd :: hs) [] [] pos) (fun D σ H => tb (wNs X.K i D cs) D σ H) := by
  refine ⟨fun pins s σ H D I h => wpAny_Try_except ?_⟩
  have ok := I.ok
  refine wpAny_mono ((hb _ (X.pn ++ pins) (fun e t => wpAny (model X.prog X.w) X.A (noteFrame e X.env) (fun _ t2 => wpAny (model X.prog X.w) X.A (setFlight e none) (fun _ t3 => wpAny (model X.prog X.w) X.A (handleBy e X.env (hd :: hs)) (SP X pins D) X.xe t3) X.xe t2) X.xe t) ?_ PassesOwn.looking).run [] s σ H D (I.toTry _) h) ?_ fun _ _ z => z
  · rintro _ s1 ⟨x, ground, s0, ps, τ, G, k, dd, rfl, inv0, nb, up, sky, free, os, ag, w⟩
    have inv := inv0.ofTry ok
    rw [show (X.tr (X.pn ++ pins) _).stack = X.env :: X.outer from stk] at sky
    have fr : X.A.frames = some (X.env :: X.outer) := by rw [ok.frames, stk]
    refine Sky.land Zc.steady fr frm sky fun h3 fly up3 => ?_
    obtain ⟨o3, v3, got3, _, dat3⟩ := fly.there
    have off : x ∉ frs (X.env :: X.outer) := fun hm => by
      obtain ⟨_, o', e', hn⟩ := fly.2.2.1.mem hm
      rw [got3] at e'
      exact hn _ (Option.some.inj e' ▸ dat3)
    refine clauses ok nod at_ loc (fun hh f u => inv.landed nb f.1 (up.trans u) os ag) free (fun z => off (List.mem_filterMap.mpr ⟨X.env, List.mem_cons_self, by rw [frm, z]⟩)) (fun hm => ?_) fly up3 hcs w
    obtain ⟨e, he, q⟩ := List.mem_filterMap.mp hm
    exact off (List.mem_filterMap.mpr ⟨e, List.mem_cons_of_mem _ he, q⟩)
  · intro fl s1 hsp
    match fl, hsp with
    | .next, ⟨_, _, iv, q⟩ => exact wpAny_execs_nil ⟨_, _, iv.ofTry ok, q⟩
    | .brk, ⟨_, _, iv, q⟩ => exact ⟨_, _, iv.ofTry ok, q⟩
    | .cont, ⟨_, _, iv, q⟩ => exact ⟨_, _, iv.ofTry ok, q⟩
    | .ret _, ⟨_, _, _, iv, rv, q⟩ => exact ⟨_, _, _, iv.ofTry ok, rv, q⟩
end
end DL

set_option Elab.async false
set_option linter.all false
set_option maxRecDepth 100000
set_option maxHeartbeats 4000000
namespace DL
open PySem PySem.Spec PyProof.Rows L2
/-! ### exceptions of the program's own, told by their class and fields -/
/-- what is wished of an exception: X tells which may come -/
def XW (K : PySem.W.Frag) (b : Bg) (I H : Hp) (E : XK) (X : XD) : Prop := ∀ C fs d I' H', X C fs → Ext K b I H I' H' → I' d = none → H' d = some (.xd fs) → E (.ref C) (some d) H'
theorem XW.ext {K : PySem.W.Frag} {b : Bg} {I H I' H' : Hp} {E : XK} {X : XD} (x : XW K b I H E X) (e : Ext K b I H I' H') : XW K b I' H' E X := fun C fs d I2 H2 p e2 => x C fs d I2 H2 p (e.trans e2)
/-- the promise of an exception's own __init__ with m arguments -/
def spInit (C : Addr) (m : Nat) (mk : List V → List (Str × V)) : Sp := fun vs H Q _ => ∃ a ws, vs = .ref a :: ws ∧ ws.length = m ∧ H a = some (exo a C none) ∧
  ∀ dx H', H dx = none → dx ≠ a → H' a = some (exo a C (some dx)) → H' dx = some (exd dx (mk ws)) → (∀ c, c ≠ a → c ≠ dx → H' c = H c) → Q .non H'
/-- a class of the program's own over ValueError, its __init__ -/
structure XCls (K : PySem.W.Frag) (mg : Str → Option Value) (x : Str) (C : Addr) : Prop where
  g : mg x = some (.ref C)
  o : OexC K C
  f : XfC K C
section
variable {P : Program} {w : World} {K : PySem.W.Frag} {mg : Str → Option Value} {base : Heap}
/-- def __init__(self, x): self.word = '..'; self.x = x -/
theorem ok_init1 {qual x : Str} {st : Stmt} {f C : Addr} {fd : FuncData} {wd : Str} {j : Nat} {p1 p2 p3 p4 p5 p6 p7 p8 : Pos} (F : Fun K "__init__" qual st f fd) (sc : FnScope ["self", x] ["self", x] (defScope st)) (T : OexC K C) (n1 : PySem.W.findIn K (.ref C) "word" = some none) (n2 : PySem.W.findIn K (.ref C) x = some none)
    (hb : defBody st = [.Assign [.Attribute (.Name "self" p1) "word" p2] (.Constant (.str wd) j p3) p4, .Assign [.Attribute (.Name "self" p5) x p6] (.Name x p7) p8]) (v0 : Vis (defScope st) "self") (v1 : Vis (defScope st) x)
    (d1 : (x == ("__debug__" : Str)) = false) (d2 : (x == ("__classdict__" : Str)) = false) : FnOk P w K mg base CX0 1 f fd ["self", x] (spInit C 1 fun vs => [(x, vs.getD 0 .non), ("word", .str wd)]) := by
  refine F.ok sc (fun vs H Q E h => ?_) (fun cdv A outer s H vs Q E hr h => ?_)
  · obtain ⟨a, ws, rfl, hl, _⟩ := h
    show ws.length + 1 = 2
    omega
  · obtain ⟨a, ws, rfl, hl, ha, q⟩ := h
    obtain ⟨v, rfl⟩ : ∃ v, ws = [v] := by
      match ws, hl with
      | [v], _ => exact ⟨v, rfl⟩
    rw [hb]
    refine ⟨_, pss_cons (ps_ost (pv 0 (hv := v0)) pe_str) (pss_one (ps_ost (pv 0 (hv := v0)) (pv 1 (hv := v1) (hd := d1) (hcd := d2)))), ?_⟩
    refine ⟨.ref a, rfl, a, C, rfl, T, n1, .inl ⟨ha, fun dx nd ne => ?_⟩⟩
    refine ⟨v, rfl, .ref a, rfl, a, C, rfl, T, n2, .inr ⟨dx, [("word", .str wd)], upd_same, ?_, (by simp), ?_⟩⟩
    · rw [upd_ne ne, upd_same]
    · refine q dx _ nd ne ?_ upd_same fun c h1 h2 => ?_
      · rw [upd_ne ne.symm, upd_same]
      · rw [upd_ne h2, upd_ne h1, upd_ne h2]
/-- the same with two fields -/
theorem ok_init2 {qual x y : Str} {st : Stmt} {f C : Addr} {fd : FuncData} {wd : Str} {j : Nat} {p1 p2 p3 p4 p5 p6 p7 p8 p9 pa pb pc : Pos} (F : Fun K "__init__" qual st f fd) (sc : FnScope ["self", x, y] ["self", x, y] (defScope st)) (T : OexC K C) (n1 : PySem.W.findIn K (.ref C) "word" = some none) (n2 : PySem.W.findIn K (.ref C) x = some none) (n3 : PySem.W.findIn K (.ref C) y = some none)
    (hb : defBody st = [.Assign [.Attribute (.Name "self" p1) "word" p2] (.Constant (.str wd) j p3) p4, .Assign [.Attribute (.Name "self" p5) x p6] (.Name x p7) p8, .Assign [.Attribute (.Name "self" p9) y pa] (.Name y pb) pc]) (v0 : Vis (defScope st) "self") (v1 : Vis (defScope st) x) (v2 : Vis (defScope st) y)
    (d1 : (x == ("__debug__" : Str)) = false) (d2 : (x == ("__classdict__" : Str)) = false) (d3 : (y == ("__debug__" : Str)) = false) (d4 : (y == ("__classdict__" : Str)) = false) :
    FnOk P w K mg base CX0 1 f fd ["self", x, y] (spInit C 2 fun vs => [(y, vs.getD 1 .non), (x, vs.getD 0 .non), ("word", .str wd)]) := by
  refine F.ok sc (fun vs H Q E h => ?_) (fun cdv A outer s H vs Q E hr h => ?_)
  · obtain ⟨a, ws, rfl, hl, _⟩ := h
    show ws.length + 1 = 3
    omega
  · obtain ⟨a, ws, rfl, hl, ha, q⟩ := h
    obtain ⟨v, u, rfl⟩ : ∃ v u, ws = [v, u] := by
      match ws, hl with
      | [v, u], _ => exact ⟨v, u, rfl⟩
    rw [hb]
    refine ⟨_, pss_cons (ps_ost (pv 0 (hv := v0)) pe_str) (pss_cons (ps_ost (pv 0 (hv := v0)) (pv 1 (hv := v1) (hd := d1) (hcd := d2))) (pss_one (ps_ost (pv 0 (hv := v0)) (pv 2 (hv := v2) (hd := d3) (hcd := d4))))), ?_⟩
    refine ⟨.ref a, rfl, a, C, rfl, T, n1, .inl ⟨ha, fun dx nd ne => ?_⟩⟩
    refine ⟨v, rfl, .ref a, rfl, a, C, rfl, T, n2, .inr ⟨dx, [("word", .str wd)], upd_same, ?_, (by simp), ?_⟩⟩
    · rw [upd_ne ne, upd_same]
    · refine ⟨u, rfl, .ref a, rfl, a, C, rfl, T, n3, .inr ⟨dx, [(x, v), ("word", .str wd)], ?_, upd_same, (by simp), ?_⟩⟩
      · rw [upd_ne ne.symm, upd_same]
      · refine q dx _ nd ne ?_ upd_same fun c h1 h2 => ?_
        · rw [upd_ne ne.symm, upd_ne ne.symm, upd_same]
        · rw [upd_ne h2, upd_ne h2, upd_ne h1, upd_ne h2]
end
section
variable {K : PySem.W.Frag} {b : Bg} {I0 H0 : Hp} {δ : Env} {N Bk Ct : Env → Prop} {R : DV → Prop} {P : DV → Prop} {E : XK}
/-- raise C(e, ..) -/
theorem sv_raise {C : Addr} {m : Nat} {mk : List V → List (Str × V)} {ta : TA} {X : XD} {rs : List DV} {vs : List V} (ha : EvA K b I0 H0 ta δ (fun x => x = rs)) (hv : ∀ (H0 I H : Hp) ws, ResA K b H0 I H ws rs → ws = vs) (hl : vs.length = m) (hm : m ≤ 1000) (xw : XW K b I0 H0 E X) (hx : X C (mk vs)) :
    SvD K b I0 H0 (fun _ σ H => tMkO C (spInit C m mk) [] ta σ H fun cls d H' => E cls d H') δ N R Bk Ct := fun σ I H e n D _ _ _ _ =>
  ha σ I H e n _ fun rs' ws I1 H1 p x r => by
    subst p
    have ew := hv _ _ _ _ r
    subst ew
    refine ⟨by omega, fun a na => ?_⟩
    rw [List.append_nil]
    refine ⟨a, ws, rfl, hl, upd_same, fun dx H' nd ne h1 h2 h3 => ⟨rfl, dx, mk ws, h1, h2, ?_, ?_⟩⟩
    · rw [upd_ne ne] at nd
      exact nd
    · have nd' : H1 dx = none := by rw [upd_ne ne] at nd; exact nd
      have eG : upd (del H' a) dx (.xd (mk ws)) = upd H1 dx (.xd (mk ws)) := by
        funext c
        by_cases z : c = dx
        · rw [z, upd_same, upd_same]
        · rw [upd_ne z, upd_ne z]
          by_cases z2 : c = a
          · rw [z2, del_same, na]
          · rw [del_ne z2, h3 c z2 z, upd_ne z2]
      rw [eG]
      exact xw C (mk ws) dx I1 _ hx ((e.trans x).trans (x.ok.newH nd')) (x.ok.inone nd') upd_same
/-- f(e, ..) that may raise -/
theorem ev_callX {α : Type} {args : α → List DV} {ok : α → Prop} {out : α → DV → Prop} {exc : α → XD} {X : XD} {ta : TA} {A : List DV → Prop} (xw : XW K b I0 H0 E X) (ha : EvA K b I0 H0 ta δ A)
    (hp : ∀ rs, A rs → ∃ a, rs = args a ∧ ok a ∧ NoOwn rs ∧ (∀ r, out a r → P r) ∧ ∀ C fs, exc a C fs → X C fs) : EvD K b I0 H0 (tCall (spD K args ok out exc) [] E ta) δ P := fun σ I H k n Q q =>
  ha σ I H k n _ fun rs vs I1 H1 p x r => by
    obtain ⟨a, rfl, p1, p2, p3, p4⟩ := hp rs p
    rw [List.append_nil]
    exact ⟨a, b, I1, x.ok, resA_now r p2, p1, fun r v I' H' o x2 rs' => q r v I' H' (p3 r o) (x.trans x2) (rs'.since (free_of x)), fun C fs d I' H' he x2 h1 h2 => xw C fs d I' H' (p4 C fs he) ((k.trans x).trans x2) h1 h2⟩
theorem ev_callX1 {α : Type} {args : α → List DV} {ok : α → Prop} {out : α → DV → Prop} {exc : α → XD} {X : XD} {ta : TA} (xw : XW K b I0 H0 E X) (a : α) (ha : EvA K b I0 H0 ta δ (fun x => x = args a)) (hp : ok a) (hn : NoOwn (args a)) (ho : ∀ r, out a r → P r) (hx : ∀ C fs, exc a C fs → X C fs) :
    EvD K b I0 H0 (tCall (spD K args ok out exc) [] E ta) δ P := ev_callX xw ha fun _ e => ⟨a, e, hp, e ▸ hn, ho, hx⟩
end
section
variable {P : Program} {w : World} {K : PySem.W.Frag} {mg : Str → Option Value} {base : Heap}
/-- a def that may raise -/
theorem fn_okX {α : Type} {x qual : Str} {st : Stmt} {f : Addr} {fd : FuncData} {N ps : List Str} {k : Nat} {args : α → List DV} {ok : α → Prop} {out : α → DV → Prop} {exc : α → XD} (F : Fun K x qual st f fd) (S : FnScope N ps (defScope st)) (len : ∀ a, ok a → (args a).length = ps.length)
    (hbody : ∀ (cdv : Value) (A : Around) (outer : List PySem.Env) (s : Shared) (H : Hp) (E : XK), Room k (A.deeper (envOfC qual (defScope st) s.heap.objs.size f cdv)) →
      ∃ t, PSs (cxOf (L2.CX P w) P w K mg base N qual (defScope st) f cdv A outer s H E) (defBody st) t ∧ ∀ b I a, ok a → XW K b I H E (exc a) → SvD K b I H t (envOf N (args a)) (fun _ => out a (.dat .none)) (out a) (fun _ => False) (fun _ => False)) :
    FnOk P w K mg base (L2.CX P w) (k + 1) f fd ps (spD K args ok out exc) := by
  refine F.okX S (fun vs H Q E h => ?_) (fun cdv A outer s H vs Q E hr h => ?_)
  · obtain ⟨a, b, I, _, r, p, _⟩ := h
    rw [resA_len r]
    exact len a p
  · obtain ⟨a, b, I, k, r, p, q, xw⟩ := h
    obtain ⟨t, ht, hs⟩ := hbody cdv A outer s H E hr
    exact ⟨t, ht, hs b I a p (fun C fs d I' H' hx e h1 h2 => xw C fs d I' H' hx e h1 h2) _ I H k.re (env_start r) _ (fun δ' σ' I' H' o e _ _ => q _ _ I' H' o e Dp.non) (fun r v I' H' o e rs => q r v I' H' o e rs) (fun _ _ _ _ z => z.elim) (fun _ _ _ _ z => z.elim)⟩
end
/-- in a def that may raise: what a callee raises goes on -/
theorem passX {P : Program} {w : World} {K : PySem.W.Frag} {mg : Str → Option Value} {base : Heap} {N : List Str} {q : Str} {sc : Scope} {f : Addr} {cdv : Value} {A : Around} {outer : List PySem.Env} {s : Shared} {H : Hp} {E : XK} :
    Passes (L2.CX P w) (cxOf (L2.CX P w) P w K mg base N q sc f cdv A outer s H E) E := passes_call (X := cxOf (L2.CX P w) P w K mg base N q sc f cdv A outer s H E) (takes_of rfl rfl rfl rfl) fun _ _ _ _ h => h
end DL

set_option Elab.async false
set_option linter.all false
set_option maxRecDepth 100000
set_option maxHeartbeats 4000000
namespace DL
open PySem PySem.Spec PyProof.Rows L2
/-! ### told(lambda: ..) -/
/-- what the def that calls the lambda makes of it: r0 where nothing is raised, After where an exception of the class C with the fields fs is caught -/
def TTx (r0 : V) (After : Addr → List (Str × V) → Hp → VK → Prop) : (XK → Hp → VK → Prop) → Hp → VK → Prop := fun tl H Q =>
  tl (fun cls d H' => ∃ C dd fs, cls = .ref C ∧ d = some dd ∧ H' dd = some (.xd fs) ∧ After C fs H' Q) H fun _ H' => Q r0 H'
/-- .. where its value is a part of what is told -/
def TTv (mk : V → Hp → VK → Prop) (After : Addr → List (Str × V) → Hp → VK → Prop) : (XK → Hp → VK → Prop) → Hp → VK → Prop := fun tl H Q =>
  tl (fun cls d H' => ∃ C dd fs, cls = .ref C ∧ d = some dd ∧ H' dd = some (.xd fs) ∧ After C fs H' Q) H fun v H' => mk v H' Q
section
variable {K : PySem.W.Frag} {b : Bg} {I0 H0 : Hp} {δ δ' : Env} {P Pb : DV → Prop} {t : XK → TE} {T : List (Addr × Str)} {After : Addr → List (Str × V) → Hp → VK → Prop}
theorem ext_tab {I H H1 : Hp} (k : Ok K b I H) (x : LamX.ExtN H H1) (t : LamX.Tabs b.T H1) : Ext K b I H I H1 := by
  obtain ⟨n, pl, tb, l, ns, x', q, m, c, e, sl, r⟩ := k.b
  exact ⟨Same.refl I, fun a o _ t h => x a o h t, fun a o n _ _ => n, fun l0 xs h => ⟨xs, x _ _ h lst_tbl⟩, fun a o h => x a o (k.s a o h) (plain_tbl (pl a o h)), n, pl, t, l, ns, x', q, m, c, x _ _ e lst_tbl, sl, r⟩
/-- slots of plain worth, seen from another heap -/
theorem EnvR.plain {I H : Hp} {σ : L2.St} (n : EnvR K b H0 I H σ δ) (hl : δ'.length = δ.length) (hs : ∀ (i : Nat) (r : DV), δ'[i]? = some (some r) → δ[i]? = some (some r) ∧ ∀ ds, r ≠ .own ds) (hK : ∀ (i : Nat) kvs, δ'[i]? ≠ some (some (.dct true kvs))) : EnvR K b H I H σ δ' :=
  ⟨n.len.trans hl.symm, fun i r e => by
    obtain ⟨v, e1, e2⟩ := n.at_ i r (hs i r e).1
    refine ⟨v, e1, ?_⟩
    cases r with
    | own ds => exact absurd rfl ((hs i _ e).2 ds)
    | dat d => exact e2
    | bor ds => exact e2
    | raw u => exact e2
    | dct own kvs =>
      cases own with
      | true => exact absurd e (hK i kvs)
      | false =>
        obtain ⟨a, es, rfl, _, z⟩ := e2
        exact ⟨a, es, rfl, (fun z => by cases z), z⟩
    | bag => exact e2, fun i j a ds es e => absurd rfl ((hs i _ e).2 ds)⟩
/-- told(lambda: ..), the value thrown away -/
theorem ev_lam {r0 : V} {d0 : PyData} {X : XD} (hT : b.T = T) (hl : δ'.length = δ.length) (hs : ∀ (i : Nat) (r : DV), δ'[i]? = some (some r) → δ[i]? = some (some r) ∧ ∀ ds, r ≠ .own ds) (hK : ∀ (i : Nat) kvs, δ'[i]? ≠ some (some (.dct true kvs))) (h0 : ∀ I, Dp K I r0 d0) (hP : P (.dat d0) ∨ ∀ r, ¬ Pb r)
    (body : ∀ I1 H1 E, XW K b I1 H1 E X → EvD K b I1 H1 (t E) δ' Pb)
    (exc : ∀ C fs, X C fs → ∀ (I' H' : Hp) (Q : VK), Ok K b I' H' → (∀ r v I'' H'', P r → Ext K b I' H' I'' H'' → Res K b H' I'' H'' v r → Q v H'') → After C fs H' Q) :
    EvD K b I0 H0 (LamX.tLam T (TTx r0 After) t) δ P := fun σ I H k n Q q => by
  subst hT
  refine ⟨k.b.2.2.1, fun H1 x tt => ?_⟩
  have e1 := ext_tab k.ok x tt
  refine body I H1 _ (fun C fs d I' H' hx e2 _ hd => ⟨C, d, fs, rfl, rfl, hd, exc C fs hx I' H' Q e2.ok fun r v I2 H2 p e3 rs => q r v I2 H2 p ((e1.trans e2).trans e3) (rs.since (free_of (e1.trans e2)))⟩) σ I H1 e1.re ((n.ext e1).plain hl hs hK) _ fun r v I' H' p e2 rs => ?_
  rcases hP with hP | hP
  · exact q (.dat d0) r0 I' H' hP (e1.trans e2) (h0 I')
  · exact (hP r p).elim
end
/-- around a body the slots have their number -/
theorem takes_len {X : Cx} {W : WX} (tk : Takes X W) : Takes X (fun cls d σ H => σ.length = X.N.length → W cls d σ H) := fun u s' ⟨a, B, sI, pins, σ, H, cls, d, e, I, nb, up, sky, na, os, ag, w⟩ =>
  tk u s' ⟨a, B, sI, pins, σ, H, cls, d, e, I, nb, up, sky, na, os, ag, w I.len⟩
end DL

set_option Elab.async false
set_option linter.all false
set_option maxRecDepth 100000
set_option maxHeartbeats 4000000
namespace DL
open PySem PySem.Spec PyProof.Rows L2 RZ
section
variable {X : Cx} (K : PySem.W.Frag)
theorem k_pi_tup {tg e : Expr} {te : TE} (he : PE X e te) (h : X.K = K := by rfl) : PI X tg e (iTup K te) := h ▸ pi_tup he
theorem k_pi_list {tg e : Expr} {te : TE} (he : PE X e te) (h : X.K = K := by rfl) : PI X tg e (iList K te) := h ▸ pi_list he
theorem k_get (h : X.K = K := by rfl) : PGet X (TF.rGetL K) := h ▸ TF.get_list
theorem k_count {o e : Expr} {to te : TE} {apos cpos : Pos} (ho : PE X o to) (he : PE X e te) (h : X.K = K := by rfl) (hbase : attributeBase o "count" X.env (eval o X.env) = eval o X.env := by rfl) (hline : (apos.endLine == cpos.line) = true := by rfl)
    (few : ((backTo cpos (starEach [e] X.env)).all (fun x => !x.1) && (backToKw cpos (keywordEach [] X.env)).all (fun x => x.1.isSome) && decide ([e].length + ([] : List Keyword).length + (if ([] : List Keyword).isEmpty then 0 else 1) < 30)) = true := by rfl)
    (one : starEach [e] X.env = [(false, eval e X.env)] := by rfl) : PE X (.Call (.Attribute o "count" apos) [e] [] cpos) (TF.tCount K to te) := h ▸ TF.pe_count ho he hbase hline few one
end
theorem gc_int {mg : Str → Option Value} {x : Str} {i : Int} (h : ∃ tk, mg x = some (.int i tk)) : ∃ u, mg x = some u ∧ RelV (.int i) u := by
  obtain ⟨tk, e⟩ := h
  exact ⟨_, e, tk, rfl⟩
/-- no tuple of the module has a dict of its own -/
def KT (K : PySem.W.Frag) : Prop := ∀ a o, K.lookup a = some o → o.cls = .type "tuple" → o.dict = none
def ktB (K : PySem.W.Frag) : Bool := K.all fun p => !decide (p.2.cls = .type "tuple") || p.2.dict.isNone
theorem mem_lk : ∀ {K : List (Addr × Obj)} {a : Addr} {o : Obj}, K.lookup a = some o → (a, o) ∈ K
  | [], _, _, h => by cases h
  | (c, u) :: K, a, o, h => by
    rw [List.lookup_cons] at h
    by_cases z : a = c
    · subst z
      rw [show (a == a) = true by simp] at h
      cases h
      exact List.mem_cons_self ..
    · have z' : (a == c) = false := by simp [z]
      rw [z'] at h
      exact List.mem_cons_of_mem _ (mem_lk h)
theorem kt_by {K : PySem.W.Frag} (h : ktB K = true) : KT K := fun a o e c => by
  have m := mem_lk e
  have := List.all_eq_true.mp h _ m
  simp only [c, decide_true, Bool.not_true, Bool.false_or] at this
  exact Option.isNone_iff_eq_none.mp this
section
variable (K : PySem.W.Frag) (b : Bg) (I0 H0 : Hp)
/-- a slice's bound -/
def EvO (to : TO) (δ : Env) (P : Option Int → Prop) : Prop := ∀ (σ : L2.St) (I H : Hp), Ext K b I0 H0 I H → EnvR K b H0 I H σ δ → ∀ Q : Option Int → Hp → Prop,
  (∀ o I' H', P o → Ext K b I H I' H' → Q o H') → to σ H Q
end
section
variable {K : PySem.W.Frag} {b : Bg} {I0 H0 : Hp} {δ : Env} {ta te tb ti : TE} {P : DV → Prop} {N Bk Ct : Env → Prop} {R : DV → Prop}
theorem eo_none : EvO K b I0 H0 tNoPart δ (fun o => o = none) := fun σ I H e n Q q => q none I H rfl e.re
theorem eo_some {C : Int → Prop} (h : EvI K b I0 H0 te δ C) : EvO K b I0 H0 (tPart te) δ (fun o => ∃ i, o = some i ∧ C i) := fun σ I H e n Q q =>
  h σ I H e n _ fun r v I' H' ⟨i, er, c⟩ x rs => by
    subst er
    exact ⟨i, int_read rs, q _ I' H' ⟨i, rfl, c⟩ x⟩
theorem dpa_cut {I : Hp} {xs : List V} {ds : List PyData} (lo hi : Option Int) (h : DpAll K I xs ds) : DpAll K I (cutV xs lo hi) (cutD ds lo hi) := by
  unfold cutV cutD
  rw [dpa_len h]
  exact dpa_take _ (dpa_drop _ h)
theorem cutD_whole {ds : List PyData} {lo hi : Option Int} (h : HT.sIx ds.length 0 lo = 0 ∧ HT.sIx ds.length ds.length hi = ds.length) : cutD ds lo hi = ds := by
  unfold cutD
  rw [h.1, h.2]
  simp
/-- t[lo:hi] -/
theorem ev_slT {ds : List PyData} {tl th : TO} {A B : Option Int → Prop} (h : EvD K b I0 H0 te δ (fun r => r = .dat (.tuple ds))) (hl : EvO K b I0 H0 tl δ A) (hh : EvO K b I0 H0 th δ B) : EvD K b I0 H0 (tSl (TF.rSlF K) te tl th) δ (fun r => ∃ lo hi, A lo ∧ B hi ∧ r = .dat (.tuple (cutD ds lo hi))) := fun σ I H e n Q q =>
  h σ I H e n _ fun r v I1 H1 p x rs => hl σ I1 H1 (e.trans x) (n.ext x) _ fun lo I2 H2 pl x2 => hh σ I2 H2 (e.trans (x.trans x2)) (n.ext (x.trans x2)) _ fun hi I3 H3 ph x3 => by
    subst p
    have rs3 := (rs.ext x2).ext x3
    have x13 := (x.trans x2).trans x3
    obtain ⟨a, xs, ev, hs, hd⟩ := tup_read x3.s rs3
    subst ev
    refine ⟨a, xs, rfl, hs, fun z => ?_, fun _ => newT_res x3.ok (dpa_cut lo hi hd) fun v I' H' x4 d => q _ v I' H' ⟨lo, hi, pl, ph, rfl⟩ (x13.trans x4) d⟩
    rw [dpa_len hd] at z
    exact q _ _ I3 H3 ⟨lo, hi, pl, ph, rfl⟩ x13 (by rw [cutD_whole z]; exact rs3)
/-- of a row of numbers -/
def cutN (ns : List Int) (lo hi : Option Int) : List Int := (ns.drop (HT.sIx ns.length 0 lo)).take (HT.sIx ns.length ns.length hi - HT.sIx ns.length 0 lo)
theorem cutD_nums (ns : List Int) (lo hi : Option Int) : cutD (ns.map .int) lo hi = (cutN ns lo hi).map .int := by
  unfold cutD cutN
  rw [List.length_map, List.map_take, List.map_drop]
theorem cutN_len (ns : List Int) (lo hi : Option Int) : (cutN ns lo hi).length ≤ ns.length := by
  unfold cutN
  rw [List.length_take, List.length_drop]
  omega
theorem cutN_take {ns : List Int} {k : Nat} : cutN ns none (some (k : Int)) = ns.take k := by
  unfold cutN
  rw [HT.sIx_none, HT.sIx_nat, List.drop_zero, Nat.sub_zero, Nat.min_def]
  split
  · rfl
  · rw [List.take_length, List.take_of_length_le (by omega)]
theorem ev_slN {ns : List Int} {tl th : TO} {A B : Option Int → Prop} (h : EvD K b I0 H0 te δ (fun r => r = .dat (nums ns))) (hl : EvO K b I0 H0 tl δ A) (hh : EvO K b I0 H0 th δ B) : EvD K b I0 H0 (tSl (TF.rSlF K) te tl th) δ (fun r => ∃ lo hi, A lo ∧ B hi ∧ r = .dat (nums (cutN ns lo hi))) :=
  (ev_slT h hl hh).mono fun r ⟨lo, hi, a, c, e⟩ => ⟨lo, hi, a, c, by rw [e, cutD_nums]⟩
/-- rows of numbers of which the length alone is told -/
def EvN (K : PySem.W.Frag) (b : Bg) (I0 H0 : Hp) (te : TE) (δ : Env) (D : List Int → Prop) : Prop := EvD K b I0 H0 te δ (fun r => ∃ ns : List Int, r = .dat (nums ns) ∧ D ns)
theorem EvN.mono {D D' : List Int → Prop} (h : EvN K b I0 H0 te δ D) (m : ∀ ns, D ns → D' ns) : EvN K b I0 H0 te δ D' := EvD.mono h fun _ ⟨ns, e, d⟩ => ⟨ns, e, m ns d⟩
theorem en_of {ns : List Int} (h : EvD K b I0 H0 te δ (fun r => r = .dat (nums ns))) : EvN K b I0 H0 te δ (fun x => x = ns) := h.mono fun _ e => ⟨ns, e, rfl⟩
theorem en_var {i : Nat} {ns : List Int} (h : δ[i]? = some (some (.dat (nums ns)))) : EvN K b I0 H0 (tVar i) δ (fun x => x = ns) := en_of (ev_var h)
theorem en_sl {ns : List Int} {tl th : TO} {A B : Option Int → Prop} (h : EvD K b I0 H0 te δ (fun r => r = .dat (nums ns))) (hl : EvO K b I0 H0 tl δ A) (hh : EvO K b I0 H0 th δ B) : EvN K b I0 H0 (tSl (TF.rSlF K) te tl th) δ (fun x => x.length ≤ ns.length) :=
  (ev_slN h hl hh).mono fun r ⟨lo, hi, _, _, e⟩ => ⟨_, e, cutN_len _ _ _⟩
theorem en_cat {D D' : List Int → Prop} (ha : EvN K b I0 H0 ta δ D) (hb : EvN K b I0 H0 tb δ D') (hl : ∀ ns ms, D ns → D' ms → ns.length + ms.length ≤ 100000) : EvN K b I0 H0 (tOp (TF.rCatF K) ta tb) δ (fun x => ∃ ns ms, D ns ∧ D' ms ∧ x = ns ++ ms) :=
  ev_op ha hb fun x y ⟨ns, e, d⟩ ⟨ms, f, d'⟩ => by
    subst e f
    exact fun H0 I H v w k r1 r2 Q q => od_cat (by rw [List.length_map, List.length_map]; exact hl ns ms d d') H0 I H v w k r1 r2 Q fun z u I' H' p => q z u I' H' ⟨ns ++ ms, by rw [p, nums, List.map_append], ns, ms, d, d', rfl⟩
theorem en_tup {t : TA} {D : List Int → Prop} (h : EvA K b I0 H0 t δ (fun rs => ∃ ns : List Int, rs = ns.map (fun i => dint i) ∧ D ns)) (hl : ∀ ns, D ns → ns.length ≤ 100000) : EvN K b I0 H0 (TF.tTupF t) δ D := ev_tupI h hl
theorem flat_rep (n : Nat) (x : PyData) : (List.replicate n [x]).flatten = List.replicate n x := by
  induction n with
  | zero => rfl
  | succ n ih => rw [List.replicate_succ, List.replicate_succ, List.flatten_cons, ih]; rfl
/-- (k,) * n -/
theorem en_rep {C D : Int → Prop} (ha : EvN K b I0 H0 ta δ (fun x => ∃ k, x = [k] ∧ C k)) (hb : EvI K b I0 H0 tb δ D) (hn : ∀ n, D n → -1000 ≤ n ∧ n ≤ 1000) : EvN K b I0 H0 (tOp (TF.rRepF K) ta tb) δ (fun x => ∃ k n, C k ∧ D n ∧ x = List.replicate n.toNat k) :=
  ev_op ha hb fun x y ⟨ns, e, k, e2, c⟩ ⟨n, f, d⟩ => by
    subst e f e2
    exact fun H0 I H v w k' r1 r2 Q q => od_rep (by simp) (by simp) (hn n d).1 (hn n d).2 H0 I H v w k' r1 r2 Q fun z u I' H' p => q z u I' H' ⟨List.replicate n.toNat k, by rw [p, List.map_cons, List.map_nil, flat_rep, nums, List.map_replicate], k, n, c, d, rfl⟩
/-- [k] * n -/
theorem ev_repL {ds : List PyData} {n : Int} (ha : EvD K b I0 H0 ta δ (fun r => r = .own ds)) (hb : EvD K b I0 H0 tb δ (fun r => r = dint n)) (hl : ds.length ≤ 1) (n0 : 0 ≤ n) (n1 : n ≤ 100000) : EvD K b I0 H0 (tOp rRep ta tb) δ (fun r => r = .own (List.replicate n.toNat ds).flatten) :=
  ev_op ha hb fun x y e f => by
    subst e f
    intro H0 I H v w k r1 r2 Q q
    obtain ⟨a, xs, rfl, h0, hi, hb, ha, hd⟩ := r1
    have l1 := dpa_len hd
    refine ⟨a, n, xs, rfl, int_read r2, ha, by omega, by omega, ?_, fun p hp => q _ _ _ _ rfl (k.newH hp) ⟨p, _, rfl, fr_none hp, k.inone hp, k.nb hp, upd_same, dpa_rep hd _⟩⟩
    have z : xs.length * n.toNat ≤ 1 * n.toNat := Nat.mul_le_mul_right _ (by omega)
    exact Nat.le_trans (by omega) (by decide : 100000 ≤ sizeLine)
/-- xs[k] op= e -/
theorem sv_augS {i : Nat} {ds : List PyData} {k x y : Int} {f : Int → Int → Int} (hi : δ[i]? = some (some (.own ds))) (hbor : noBor δ = true) (hk0 : 0 ≤ k) (hk : ds[k.toNat]? = some (.int x)) (hti : EvD K b I0 H0 ti δ (fun r => r = dint k)) (he : EvD K b I0 H0 te δ (fun r => r = dint y))
    (hN : N (δ.set i (some (.own (ds.set k.toNat (.int (f x y))))))) : SvD K b I0 H0 (tAugS (tVar i) ti te (TF.rGetL K) (ipI f) rSetL) δ N R Bk Ct := fun σ I H e n D a1 _ _ _ => by
  obtain ⟨w, e1, e2⟩ := n.at_ i _ hi
  obtain ⟨a, xs, rfl, h0, hn, hb, ha, hd⟩ := e2
  refine ⟨.ref a, e1, hti σ I H e n _ fun r1 v1 I1 H1 p1 x1 rs1 => ?_⟩
  subst p1
  rw [int_read rs1]
  have ha1 : H1 a = some (.lst xs) := x1.h a _ hb lst_tbl ha
  obtain ⟨u, g1, g2⟩ := dpa_get hd hk
  cases g2
  refine ⟨a, xs, k, _, rfl, rfl, .inl (.inl ha1), hk0, g1, he σ I1 H1 (e.trans x1) (n.ext x1) _ fun r2 v2 I2 H2 p2 x2 rs2 => ?_⟩
  subst p2
  rw [int_read rs2]
  have hn2 : I2 a = none := x2.n a _ (x1.n a _ hn ha lst_tbl) ha1 lst_tbl
  have ha2 : H2 a = some (.lst xs) := x2.h a _ hb lst_tbl ha1
  have hlt : k.toNat < xs.length := (List.getElem?_eq_some_iff.mp g1).1
  refine ⟨x, y, rfl, rfl, a, xs, k, k.toNat, rfl, rfl, ha2, ?_, ?_⟩
  · unfold ixN
    rw [if_pos hk0, if_pos (by omega)]
  · exact a1 _ σ I2 _ hN ((e.trans (x1.trans x2)).mut h0 hn2 hb ha2) (x1.i.trans x2.i) (((n.ext x1).ext x2).own hbor hi e1 h0 hn2 hb (dpa_set (.int _) _ (dpa_mono (x1.i.trans x2.i) hd)))
/-- t.count(k) -/
theorem ev_count {ns : List Int} {k : Int} (kt : KT K) (ha : EvD K b I0 H0 ta δ (fun r => r = .dat (nums ns))) (hb : EvD K b I0 H0 tb δ (fun r => r = dint k)) : EvD K b I0 H0 (TF.tCount K ta tb) δ (fun r => r = dint (ns.count k : Nat)) := fun σ I H e n Q q =>
  ha σ I H e n _ fun r v I1 H1 p x rs => by
    subst p
    have rs' : Dp K I1 v (nums ns) := rs
    cases rs' with
    | @tup a xs _ hs hd =>
      have ex := dpa_ints hd
      subst ex
      have nd : TF.Nd K H1 a := by
        rcases hs with (hs | ⟨o, hs⟩) | ⟨o, its, m, q1, q2, _⟩
        · exact absurd (x.b.2.1 a _ hs) (fun z => z)
        · exact .inl ⟨o, _, x.s a _ hs, x.b.2.1 a _ hs⟩
        · exact .inr ⟨o, q1, kt a o q1 q2⟩
      refine ⟨a, ns, rfl, st_mono x.s hs, nd, hb σ I1 H1 (e.trans x) (n.ext x) _ fun r2 v2 I2 H2 p2 x2 rs2 => ?_⟩
      subst p2
      rw [int_read rs2]
      exact ⟨k, rfl, st_mono (x2.i.trans x2.s) hs, q _ _ I2 H2 rfl (x.trans x2) (Dp.int _)⟩
/-- i < j < k -/
theorem ev_chainI {g1 g2 : Int → Int → Bool} {tc : TE} {i j k : Int} (ha : EvD K b I0 H0 ta δ (fun r => r = dint i)) (hb : EvD K b I0 H0 tb δ (fun r => r = dint j)) (hc : EvD K b I0 H0 tc δ (fun r => r = dint k)) :
    EvD K b I0 H0 (tChain (rI0 fun i j => .bl (g1 i j)) (rI0 fun i j => .bl (g2 i j)) ta tb tc) δ (fun r => r = dbl (g1 i j && g2 j k)) :=
  ev_chain (A := fun _ => True) ha hb hc fun x y e f => by
    subst e f
    intro H0 I H v w k' r1 r2 Q q
    refine od_I0 (d := .bool (g1 i j)) (g := fun i j => .bl (g1 i j)) (fun K I => Dp.bl _) H0 I H v w k' r1 r2 Q fun z u I' H' p => q z u I' H' ⟨g1 i j, p, fun e => by rw [e]; rfl, fun e z f => ?_⟩
    subst f
    rw [e, Bool.true_and]
    exact od_I0 fun K I => Dp.bl _
/-- == of an int and a text, or of two texts -/
theorem ev_eqIS {i : Int} {s : Str} (ha : EvD K b I0 H0 ta δ (fun r => r = dint i)) (hb : EvD K b I0 H0 tb δ (fun r => r = dstr s)) : EvD K b I0 H0 (tOp rEq ta tb) δ (fun r => r = dbl false) :=
  ev_op ha hb fun _ _ e f => by
    subst e f
    intro H0 I H v w k r1 r2 Q q
    rw [int_read r1, str_read r2]
    exact ⟨rfl, q _ _ I H rfl k.re (by rw [decide_eq_false (fun z => by cases z)]; exact Dp.bl _)⟩
end
/-- in a lambda: what the called def raises goes on -/
theorem passLam {X : Cx} {A : Around} {outer : List PySem.Env} {s : Shared} {H : Hp} {E : XK} {scope : Scope} {f c' : Addr} : Passes (L2.CX X.prog X.w) (LamX.lamCx X A outer s H E scope f c') E := passes_call (takes_of rfl rfl rfl rfl) fun _ _ _ _ h => h
end DL
namespace DL
open PySem PySem.Spec PyProof.Rows L2 RZ
theorem pe_weak {X : Cx} {e : Expr} {te : TE} (h : PE X e te) : PE X e (fun σ H Q => ∃ QQ : VK, (∀ v H1, QQ v H1 → Q v H1) ∧ te σ H QQ) :=
  ⟨fun pins s σ H Q I ⟨QQ, m, h'⟩ => wpAny_mono (h.run pins s σ H QQ I h') (fun v s1 ⟨x, H1, I1, r1, q1⟩ => ⟨x, H1, I1, r1, m x H1 q1⟩) fun _ _ z => z⟩
section
variable {K : PySem.W.Frag} {b : Bg} {I0 H0 : Hp} {δ : Env} {ta tb : TE} {P : DV → Prop}
/-- xs + ys of lists -/
theorem ev_catL {x : DV} {A B : List PyData → Prop} (ha : EvD K b I0 H0 ta δ (fun r => ∃ ds, (r = .own ds ∨ r = .bor ds) ∧ A ds)) (hb : EvD K b I0 H0 tb δ (fun r => ∃ ds, r = .own ds ∧ B ds)) (hl : ∀ ds es, A ds → B es → ds.length + es.length ≤ 100000) :
    EvD K b I0 H0 (tOp rCat ta tb) δ (fun r => ∃ ds, r = .own ds ∧ ∃ xs ys, A xs ∧ B ys ∧ ds = xs ++ ys) :=
  ev_op ha hb fun x y ⟨ds, e, a⟩ ⟨es, f, c⟩ => by
    subst f
    intro H0 I H v w k r1 r2 Q q
    obtain ⟨d, ys, rfl, g0, gi, gb, ga, gd⟩ := r2
    have h1 : ∃ p xs, v = .ref p ∧ H p = some (.lst xs) ∧ DpAll K I xs ds := by
      rcases e with rfl | rfl
      · obtain ⟨p, xs, rfl, _, _, _, hp, hd⟩ := r1
        exact ⟨p, xs, rfl, hp, hd⟩
      · obtain ⟨p, xs, rfl, hp, _, _, hd⟩ := r1
        exact ⟨p, xs, rfl, hp, hd⟩
    obtain ⟨p, xs, rfl, hp, hd⟩ := h1
    have l1 := dpa_len hd
    have l2 := dpa_len gd
    have l3 := hl ds es a c
    exact ⟨p, d, xs, ys, rfl, rfl, hp, ga, Nat.le_trans (by omega) (by decide : 100000 ≤ sizeLine), fun n hn => q _ _ _ _ ⟨ds ++ es, rfl, ds, es, a, c, rfl⟩ (k.newH hn) ⟨n, _, rfl, fr_none hn, k.inone hn, k.nb hn, upd_same, dpa_app hd gd⟩⟩
/-- keywords, the def may raise elsewhere -/
theorem ev_kw21X {α : Type} {args : α → List DV} {ok : α → Prop} {out : α → DV → Prop} {exc : α → XD} {E : XK} {tk : TA} {r s : DV} (a : α) (hk : EvA K b I0 H0 tk δ (fun x => x = [s, r])) (he : args a = [r, s]) (hp : ok a) (ho : ∀ r, out a r → P r) (hx : ∀ C fs, ¬ exc a C fs) (h1 : ∀ ds, r ≠ .own ds) (h2 : ∀ ds, s ≠ .own ds) (g1 : ∀ kvs, r ≠ .dct true kvs := by intro _ z; cases z) (g2 : ∀ kvs, s ≠ .dct true kvs := by intro _ z; cases z) :
    EvD K b I0 H0 (tCallN 0 2 (spD K args ok out exc) kw21 E tNil tk) δ P := fun σ I H k n Q q =>
  hk σ I H k n _ fun zs ws I2 H2 p2 x2 r2 => by
    subst p2
    cases r2 with
    | @cons u1 _ _ _ q1 r2 =>
      cases r2 with
      | @cons u2 _ _ _ q2 r2 =>
        cases r2
        have r3 : ResA K b H I2 H2 [u2, u1] (args a) := by
          rw [he]
          exact .cons q2 (.cons q1 .nil)
        exact ⟨rfl, rfl, a, b, I2, x2.ok, resA_now r3 (by rw [he]; exact noOwn_cons h1 (noOwn_cons h2 noOwn_nil g2) g1), hp, fun r v I' H' o x3 rs' => q r v I' H' (ho r o) (x2.trans x3) (rs'.since (free_of x2)), fun C fs d I' H' he' _ _ _ => (hx C fs he').elim⟩
end
/-- fewer slots, none of them a list of its own -/
inductive LessP : Env → Env → Prop
  | nil : LessP [] []
  | no {x : Option DV} {t' t : Env} : LessP t' t → LessP (none :: t') (x :: t)
  | dat {d : PyData} {t' t : Env} : LessP t' t → LessP (some (.dat d) :: t') (some (.dat d) :: t)
  | bag {t' t : Env} : LessP t' t → LessP (some .bag :: t') (some .bag :: t)
theorem LessP.len : ∀ {δ' δ : Env}, LessP δ' δ → δ'.length = δ.length
  | _, _, .nil => rfl
  | _, _, .no h => congrArg Nat.succ h.len
  | _, _, .dat h => congrArg Nat.succ h.len
  | _, _, .bag h => congrArg Nat.succ h.len
theorem LessP.hK : ∀ {δ' δ : Env}, LessP δ' δ → ∀ (i : Nat) (kvs : List (PyData × PyData)), δ'[i]? ≠ some (some (.dct true kvs))
  | _, _, .nil, _, _, e => by cases e
  | _, _, .no h, 0, _, e => by cases e
  | _, _, .no h, i + 1, r, e => h.hK i r e
  | _, _, .dat h, 0, _, e => by cases e
  | _, _, .dat h, i + 1, r, e => h.hK i r e
  | _, _, .bag h, 0, _, e => by cases e
  | _, _, .bag h, i + 1, r, e => h.hK i r e
theorem LessP.hs : ∀ {δ' δ : Env}, LessP δ' δ → ∀ (i : Nat) (r : DV), δ'[i]? = some (some r) → δ[i]? = some (some r) ∧ ∀ ds, r ≠ .own ds
  | _, _, .nil, _, _, e => by cases e
  | _, _, .no h, 0, _, e => by cases e
  | _, _, .no h, i + 1, r, e => h.hs i r e
  | _, _, .dat h, 0, _, e => by
    cases e
    exact ⟨rfl, fun _ z => by cases z⟩
  | _, _, .dat h, i + 1, r, e => h.hs i r e
  | _, _, .bag h, 0, _, e => by
    cases e
    exact ⟨rfl, fun _ z => by cases z⟩
  | _, _, .bag h, i + 1, r, e => h.hs i r e
section
variable {K : PySem.W.Frag} {b : Bg} {I0 H0 : Hp} {δ δ' : Env} {N Bk Ct : Env → Prop} {R P Pb : DV → Prop} {t : TS}
/-- some slots are let go -/
theorem sv_drop (l : LessP δ' δ) (h : SvD K b I0 H0 t δ' N R Bk Ct) : SvD K b I0 H0 t δ N R Bk Ct := sv_less l.len (fun i r e => (l.hs i r e).1) h
/-- told(lambda: ..), slots let go -/
theorem ev_lamP {te : XK → TE} {T : List (Addr × Str)} {After : Addr → List (Str × V) → Hp → VK → Prop} {r0 : V} {d0 : PyData} {X : XD} (l : LessP δ' δ) (hT : b.T = T) (h0 : ∀ I, Dp K I r0 d0) (hP : P (.dat d0) ∨ ∀ r, ¬ Pb r)
    (body : ∀ I1 H1 E, XW K b I1 H1 E X → EvD K b I1 H1 (te E) δ' Pb)
    (exc : ∀ C fs, X C fs → ∀ (I' H' : Hp) (Q : VK), Ok K b I' H' → (∀ r v I'' H'', P r → Ext K b I' H' I'' H'' → Res K b H' I'' H'' v r → Q v H'') → After C fs H' Q) :
    EvD K b I0 H0 (LamX.tLam T (TTx r0 After) te) δ P := ev_lam hT l.len l.hs l.hK h0 hP body exc
end
/-! ### what is asked of a class of errors, all at once -/
def clsB (K : PySem.W.Frag) (C fI : Addr) (q : Str) (cd : Value) (bm : List Value) (fs : List Str) : Bool :=
  PySem.HandSPX.refsVE bm && (decide (PySem.W.findIn K (.ref C) "__setattr__" = some (some (.builtin "object.__setattr__"))) && (decide (PySem.W.subIn K (.ref C) (.type "BaseException") = some true) && (decide (PySem.W.typeIn K (.ref C) = some (.type "type")) && (PySem.W.keepIn K (.ref C) && (xfB K C &&
    (decide (PySem.W.typeIn K (.ref fI) = some (.type "function")) && (PySem.W.keepIn K (.ref fI) && (PySem.W.codeIn K cd q && fs.all fun f => decide (PySem.W.findIn K (.ref C) f = some none)))))))))
structure ClsF (K : PySem.W.Frag) (C fI : Addr) (q : Str) (cd : Value) (fs : List Str) : Prop where
  o : OexC K C
  f : XfC K C
  ti : PySem.W.typeIn K (.ref fI) = some (.type "function")
  kI : PySem.W.keepIn K (.ref fI) = true
  cI : PySem.W.codeIn K cd q = true
  nf : ∀ f ∈ fs, PySem.W.findIn K (.ref C) f = some none
theorem clsB_ok {K : PySem.W.Frag} {C fI : Addr} {q : Str} {cd : Value} {bm : List Value} {fs : List Str} (h : clsB K C fI q cd bm fs = true)
    (hc : ∃ nm q N bs sn sub ab col dd k0 k1 k2 k3 k5, K.lookup C = some (excClassObj nm q C N bs bm true sn sub ab col dd k0 k1 k2 k3 k5 "ValueError.__new__")) : ClsF K C fI q cd fs := by
  obtain ⟨h1, h⟩ := Bool.and_eq_true_iff.mp h
  obtain ⟨h2, h⟩ := Bool.and_eq_true_iff.mp h
  obtain ⟨h3, h⟩ := Bool.and_eq_true_iff.mp h
  obtain ⟨h4, h⟩ := Bool.and_eq_true_iff.mp h
  obtain ⟨h5, h⟩ := Bool.and_eq_true_iff.mp h
  obtain ⟨h6, h⟩ := Bool.and_eq_true_iff.mp h
  obtain ⟨h7, h⟩ := Bool.and_eq_true_iff.mp h
  obtain ⟨h8, h⟩ := Bool.and_eq_true_iff.mp h
  obtain ⟨h9, h⟩ := Bool.and_eq_true_iff.mp h
  obtain ⟨nm, q', N, bs, sn, sub, ab, col, dd, k0, k1, k2, k3, k5, e⟩ := hc
  exact ⟨⟨⟨nm, q', N, bs, bm, sn, sub, ab, col, dd, k0, k1, k2, k3, k5, e, h1⟩, of_decide_eq_true h2, of_decide_eq_true h3, of_decide_eq_true h4, h5⟩, xfB_ok h6, of_decide_eq_true h7, h8, h9, fun f hf => of_decide_eq_true (List.all_eq_true.mp h f hf)⟩
end DL

set_option Elab.async false
set_option linter.all false
set_option maxRecDepth 100000
set_option maxHeartbeats 4000000
namespace DL
open PySem PySem.Spec PyProof.Rows L2 RZ
/-! ### what may be a list or a tuple -/
theorem pi_or {X : Cx} {tg iter : Expr} {wi wj : TI} (h : PI X tg iter wi) (h' : PI X tg iter wj) : PI X tg iter (fun σ H R => wi σ H R ∨ wj σ H R) :=
  ⟨fun pins s σ H R I q => q.elim (h.run pins s σ H R I) (h'.run pins s σ H R I)⟩
section
variable {X : Cx} (K : PySem.W.Frag)
theorem k_enum {e : Expr} {ta : TA} {p pos tpos : Pos} {elts : List Expr} {kk : Nat} (hg : Gl X "enumerate") (hm : X.mg "enumerate" = none) (ha : PA X [e] ta) (h : X.K = K := by rfl) (hs : starEach [e] X.env = [(false, eval e X.env)] := by rfl) :
    PI X (.Tuple elts kk tpos) (.Call (.Name "enumerate" p) [e] [] pos) (fun σ H R => iEnum K ta σ H R ∨ TF.iEnumT K ta σ H R) := h ▸ pi_or (pi_enum hg hm ha hs) (TF.pi_enumT hg hm ha hs)
theorem k_bm {o e : Expr} {es : List Expr} {to : TE} {t : TA} {name : Str} {apos cpos : Pos} {T id : String} {r : V → List V → Hp → VK → Prop} (pa : PlainAttrs T) (slot : Slot T name id) (hty : typeOf (.builtin id) = pure (.type "method_descriptor")) (hm : MtR X id r) (ho : PE X o to) (ha : PA X (e :: es) t) (h : X.K = K := by rfl)
    (hbase : attributeBase o name X.env (eval o X.env) = eval o X.env := by rfl)
    (hfew : ((backTo cpos (starEach (e :: es) X.env)).all (fun x => !x.1) && (backToKw cpos (keywordEach [] X.env)).all (fun x => x.1.isSome) && decide ((e :: es).length + ([] : List Keyword).length + (if ([] : List Keyword).isEmpty then 0 else 1) < 30)) = true := by rfl)
    (hline : (apos.endLine == cpos.line) = true := by rfl) (hs : starEach (e :: es) X.env = (false, eval e X.env) :: starEach es X.env := by rfl) (hplain : (backTo cpos (starEach es X.env)).any (·.1) = false := by rfl) :
    PE X (.Call (.Attribute o name apos) (e :: es) [] cpos) (tBM K T r to t) := h ▸ pe_bm pa slot hty hm ho ha hbase hfew hline hs hplain
theorem k_pi_seq {tg e : Expr} {te : TE} (he : PE X e te) (h : X.K = K := by rfl) : PI X tg e (fun σ H R => iList K te σ H R ∨ iTup K te σ H R) := h ▸ pi_or (pi_list he) (pi_tup he)
end
/-- a list or a tuple -/
def SeqD (d : PyData) (ds : List PyData) : Prop := d = .list ds ∨ d = .tuple ds
section
variable {K : PySem.W.Frag} {b : Bg} {I0 H0 : Hp} {δ : Env} {ta te tb ti : TE} {P : DV → Prop} {N Bk Ct : Env → Prop} {R : DV → Prop}
theorem itd_seq {d : PyData} {ds : List PyData} (hd : SeqD d ds) (h : EvD K b I0 H0 te δ (fun r => r = .dat d)) : ItD K b (DpR K) I0 H0 (fun σ H R => iList K te σ H R ∨ iTup K te σ H R) δ (fun x => x = ds) := fun σ I H k n R q => by
  rcases hd with rfl | rfl
  · exact .inl (itd_list1 h σ I H k n R q)
  · exact .inr (itd_tup1 h σ I H k n R q)
/-- enumerate of a list -/
theorem itd_enumL {ta : TA} {ds : List PyData} (h : EvA K b I0 H0 ta δ (fun rs => rs = [.dat (.list ds)])) : ItD K b (PairR K) I0 H0 (iEnum K ta) δ (fun zs => zs = enumD ds) := fun σ I H k n R q =>
  h σ I H k n _ fun rs vs I1 H1 p x r => by
    subst p
    cases r with
    | cons r1 rr =>
      cases rr
      have r1 : Dp K I1 _ (.list ds) := r1
      cases r1 with
      | @lst a xs _ hs hd =>
        refine ⟨a, xs, rfl, sl_mono x.s hs, q _ _ I1 H1 rfl x ⟨fun H => SqL K H a xs, YPair (fun i => some (.int (i : Nat))) (fun i => xs[i]?), ?_, fun H e => sl_mono e hs, fun i I2 H x H' d e k2 y hz => ?_⟩⟩
        · unfold enumD
          rw [List.length_map, List.length_zipIdx, ← dpa_len hd]
          exact walk_enum
        · obtain ⟨T, x1, x2, rfl, nT, rfl, g1, g2⟩ := y
          have g1 : some (V.int (i : Nat)) = some x1 := g1
          have g2 : xs[i]? = some x2 := g2
          cases g1
          unfold enumD at hz
          rw [List.getElem?_map, List.getElem?_zipIdx] at hz
          cases q1 : ds[i]? with
          | none => rw [q1] at hz; cases hz
          | some d1 =>
            rw [q1] at hz
            have hz := (Option.some.inj hz).symm
            subst hz
            obtain ⟨u1, e1, f1⟩ := dpa_get hd q1
            rw [g2] at e1
            cases e1
            refine ⟨I2, k2.newH nT, T, _, x2, .int (i : Int), d1, rfl, upd_same, ?_, .int _, dp_mono e f1⟩
            simp
theorem itd_enumS {ta : TA} {d : PyData} {ds : List PyData} (hd : SeqD d ds) (h : EvA K b I0 H0 ta δ (fun rs => rs = [.dat d])) : ItD K b (PairR K) I0 H0 (fun σ H R => iEnum K ta σ H R ∨ TF.iEnumT K ta σ H R) δ (fun x => x = enumD ds) := fun σ I H k n R q => by
  rcases hd with rfl | rfl
  · exact .inl (itd_enumL h σ I H k n R q)
  · exact .inr (itd_enum1 h σ I H k n R q)
/-! ### in -/
theorem dpa_strs {I : Hp} : ∀ {vs : List V} {ns : List Str}, DpAll K I vs (ns.map .str) → vs = ns.map V.str
  | [], [], _ => rfl
  | _ :: _, n :: ns, .cons q r => by
    cases q
    rw [dpa_strs r]
    rfl
theorem inV_ints (k : Int) (ns : List Int) : inV (.int k) (ns.map V.int) = decide (k ∈ ns) := by
  unfold inV
  induction ns with
  | nil => rfl
  | cons n ns ih =>
    rw [List.map_cons, List.any_cons, ih]
    by_cases h : n = k
    · subst h; simp [eqV]
    · have h' : ¬ k = n := fun z => h z.symm
      simp [eqV, h, h']
theorem inV_strs (k : Str) (ns : List Str) : inV (.str k) (ns.map V.str) = decide (k ∈ ns) := by
  unfold inV
  induction ns with
  | nil => rfl
  | cons n ns ih =>
    rw [List.map_cons, List.any_cons, ih]
    by_cases h : n = k
    · subst h; simp [eqV]
    · have h' : ¬ k = n := fun z => h z.symm
      simp [eqV, h, h']
theorem all_flatI (ns : List Int) : (ns.map V.int).all flatV = true := by simp [flatV]
theorem all_flatS (ns : List Str) : (ns.map V.str).all flatV = true := by simp [flatV]
/-- k in a tuple of ints -/
theorem ev_inI {k : Int} {ns : List Int} {neg : Bool} (ha : EvD K b I0 H0 ta δ (fun r => r = dint k)) (hb : EvD K b I0 H0 tb δ (fun r => r = .dat (nums ns))) : EvD K b I0 H0 (tOp (rIn K neg) ta tb) δ (fun r => r = dbl (if neg then !decide (k ∈ ns) else decide (k ∈ ns))) :=
  ev_op ha hb fun x y e f => by
    subst e f
    intro H0 I H v w kk r1 r2 Q q
    obtain ⟨a, xs, rfl, hs, hd⟩ := tup_read kk.s r2
    have ex := dpa_ints hd
    subst ex
    rw [int_read r1]
    refine ⟨a, _, rfl, .inr hs, rfl, all_flatI ns, q _ _ I H rfl kk.re ?_⟩
    rw [inV_ints]
    exact Dp.bl _
/-- a text in a list or tuple of texts -/
theorem ev_inS {k : Str} {ns : List Str} {neg : Bool} {x : DV} (hx : LstR x (ns.map .str) ∨ x = .dat (.tuple (ns.map .str))) (ha : EvD K b I0 H0 ta δ (fun r => r = dstr k)) (hb : EvD K b I0 H0 tb δ (fun r => r = x)) : EvD K b I0 H0 (tOp (rIn K neg) ta tb) δ (fun r => r = dbl (if neg then !decide (k ∈ ns) else decide (k ∈ ns))) :=
  ev_op ha hb fun x' y e f => by
    subst e f
    intro H0 I H v w kk r1 r2 Q q
    have h : ∃ a xs, w = .ref a ∧ (SqL K H a xs ∨ SqT K H a xs) ∧ DpAll K I xs (ns.map .str) := by
      rcases hx with hx | hx
      · obtain ⟨a, xs, e, hs, hd⟩ := hx.read kk.s r2
        exact ⟨a, xs, e, .inl hs, hd⟩
      · subst hx
        obtain ⟨a, xs, e, hs, hd⟩ := tup_read kk.s r2
        exact ⟨a, xs, e, .inr hs, hd⟩
    obtain ⟨a, xs, rfl, hs, hd⟩ := h
    have ex := dpa_strs hd
    subst ex
    rw [str_read r1]
    refine ⟨a, _, rfl, hs, rfl, all_flatS ns, q _ _ I H rfl kk.re ?_⟩
    rw [inV_strs]
    exact Dp.bl _
/-- == of texts -/
theorem ev_eqStr {x y : Str} (ha : EvD K b I0 H0 ta δ (fun r => r = dstr x)) (hb : EvD K b I0 H0 tb δ (fun r => r = dstr y)) : EvD K b I0 H0 (tOp rEq ta tb) δ (fun r => r = dbl (decide (x = y))) :=
  ev_op ha hb fun _ _ e f => by
    subst e f
    intro H0 I H v w k r1 r2 Q q
    rw [str_read r1, str_read r2]
    refine ⟨rfl, q _ _ I H rfl k.re ?_⟩
    have z : decide (V.str x = V.str y) = decide (x = y) := by
      by_cases e : x = y
      · subst e; simp
      · rw [decide_eq_false e, decide_eq_false (fun z => e (V.str.inj z))]
    rw [z]
    exact Dp.bl _
/-! ### list(range(n)), slices of lists, extend -/
theorem ev_lstRg {n : Nat} (h : EvD K b I0 H0 te δ (fun r => r = dint n)) (hn : n ≤ 100000) : EvD K b I0 H0 (tLstRg (tRg1 te)) δ (fun r => r = .own ((List.range n).map fun (k : Nat) => .int (k : Int))) := fun σ I H k e Q q =>
  h σ I H k e _ fun r v I1 H1 p x rs => by
    subst p
    refine ⟨n, int_read rs, RgOk.of_le (by omega) (by omega) (by omega) (by omega), fun a na => ?_⟩
    refine q _ _ I1 _ rfl (x.trans (x.ok.newH na)) ⟨a, _, rfl, x.free (fr_none na), x.ok.inone na, x.ok.nb na, upd_same, ?_⟩
    have z : rgV 0 (n : Int) = ((List.range n).map fun (k : Nat) => (k : Int)).map V.int := by
      unfold rgV
      rw [List.map_map]
      simp
    rw [z]
    have z2 : (List.range n).map (fun (k : Nat) => PyData.int (k : Int)) = ((List.range n).map fun (k : Nat) => (k : Int)).map .int := by
      rw [List.map_map]
      rfl
    rw [z2]
    exact dpa_ofInts _
theorem ev_slL {A : List PyData → Prop} {tl th : TO} {B C : Option Int → Prop} (h : EvD K b I0 H0 te δ (fun r => ∃ ds, LstR r ds ∧ A ds)) (hl : EvO K b I0 H0 tl δ B) (hh : EvO K b I0 H0 th δ C) : EvD K b I0 H0 (tSl (rSlL K) te tl th) δ (fun r => ∃ ds, r = .own ds ∧ ∃ es lo hi, A es ∧ B lo ∧ C hi ∧ ds = cutD es lo hi) := fun σ I H e n Q q =>
  h σ I H e n _ fun r v I1 H1 ⟨ds, hr, a⟩ x rs => hl σ I1 H1 (e.trans x) (n.ext x) _ fun lo I2 H2 pl x2 => hh σ I2 H2 (e.trans (x.trans x2)) (n.ext (x.trans x2)) _ fun hi I3 H3 ph x3 => by
    have rs3 := (rs.ext x2).ext x3
    have x13 := (x.trans x2).trans x3
    obtain ⟨p, xs, rfl, hs, hd⟩ := hr.read x3.s rs3
    exact ⟨p, xs, rfl, hs, fun c nc => q _ _ _ _ ⟨_, rfl, ds, lo, hi, a, pl, ph, rfl⟩ (x13.trans (x3.ok.newH nc)) ⟨c, _, rfl, x13.free (fr_none nc), x3.ok.inone nc, x3.ok.nb nc, upd_same, dpa_cut lo hi hd⟩⟩
/-- xs.extend([..]) -/
theorem sv_extend {i : Nat} {ds : List PyData} {A : List PyData → Prop} (hi : δ[i]? = some (some (.own ds))) (hbor : noBor δ = true) (hl : ∀ es, A es → ds.length + es.length ≤ 100000) (he : EvD K b I0 H0 te δ (fun r => ∃ es, r = .own es ∧ A es)) (hN : ∀ es, A es → N (δ.set i (some (.own (ds ++ es))))) :
    SvD K b I0 H0 (tDrop (tBM K "list" rExtend (tVar i) (tCons te tNil))) δ N R Bk Ct := fun σ I H e n D a1 _ _ _ => by
  obtain ⟨v, e1, e2⟩ := n.at_ i _ hi
  obtain ⟨a, xs, rfl, h0, hn, hb, ha, hd⟩ := e2
  refine ⟨.ref a, e1, .inl ⟨rfl, _, .inl (.inl ha)⟩, he σ I H e n _ fun r v I' H' p x rs => ?_⟩
  obtain ⟨es, rfl, p⟩ := p
  obtain ⟨c, ys, rfl, g0, gn, gb, gc, gd⟩ := rs
  have hn' : I' a = none := x.n a _ hn ha lst_tbl
  have ha' : H' a = some (.lst xs) := x.h a _ hb lst_tbl ha
  have l1 := dpa_len hd
  have l2 := dpa_len gd
  have l3 := hl es p
  exact ⟨a, c, xs, ys, rfl, rfl, ha', gc, Nat.le_trans (by omega) (by decide : 100000 ≤ sizeLine), a1 _ σ I' _ (hN es p) ((e.trans x).mut h0 hn' hb ha') x.i ((n.ext x).own hbor hi e1 h0 hn' hb (dpa_app (dpa_mono x.i hd) gd))⟩
/-! ### a list emptied by draws -/
theorem erase_perm : ∀ (l : List Int) (k : Nat) (h : k < l.length), (l[k] :: l.eraseIdx k).Perm l
  | x :: l, 0, _ => List.Perm.refl _
  | x :: l, k + 1, h => by
    have ih := erase_perm l k (Nat.lt_of_succ_lt_succ h)
    exact (List.Perm.swap ..).trans (ih.cons x)
/-- a list that no slot holds changes -/
theorem EnvR.other {I H : Hp} {σ : L2.St} {D : Addr} {o : HO} (n : EnvR K b H0 I H σ δ) (hbor : noBor δ = true) (hD : ∀ (i : Nat) ds, δ[i]? = some (some (.own ds)) → σ[i]? ≠ some (some (.ref D))) (hK : ∀ (i : Nat) kvs, δ[i]? ≠ some (some (.dct true kvs)) := by intro i kvs; first | (rcases i with _ | _ | _ | _ | i <;> (intro z; first | cases z | (simp at z))) | simp) : EnvR K b H0 I (upd H D o) σ δ :=
  ⟨n.len, fun j r hj => by
    obtain ⟨w, g1, g2⟩ := n.at_ j r hj
    refine ⟨w, g1, ?_⟩
    cases r with
    | dat d => exact g2
    | raw u => exact g2
    | bag => exact g2
    | dct own kvs =>
      cases own with
      | true => exact absurd hj (hK j kvs)
      | false =>
        have hm := List.mem_of_getElem? hj
        have := List.all_eq_true.mp hbor _ hm
        cases this
    | own es =>
      obtain ⟨c, zs, rfl, q0, qn, qb, qa, qd⟩ := g2
      have nc : c ≠ D := fun z => by
        subst z
        exact hD j es hj g1
      exact ⟨c, zs, rfl, q0, qn, qb, by rw [upd_ne nc]; exact qa, qd⟩
    | bor es => exact absurd hj (noBor_at hbor j es), n.nd⟩
theorem perm_erase {outs rest ns : List Int} {k : Nat} (h : (outs ++ rest).Perm ns) (hk : k < rest.length) : (outs ++ [rest[k]] ++ rest.eraseIdx k).Perm ns := by
  refine List.Perm.trans ?_ h
  rw [List.append_assoc]
  refine List.Perm.append_left _ ?_
  exact erase_perm rest k hk
theorem erase_map {rest : List Int} {k : Nat} : (rest.map V.int).eraseIdx k = (rest.eraseIdx k).map V.int := by
  induction rest generalizing k with
  | nil => rfl
  | cons x rest ih =>
    cases k with
    | zero => rfl
    | succ k => rw [List.map_cons, List.eraseIdx_cons_succ, List.eraseIdx_cons_succ, ih]; rfl
theorem seqIx {k : Int} {n : Nat} (h0 : 0 ≤ k) (h1 : k < (n : Int)) : seqIndex? k n = some k.toNat := by
  unfold seqIndex?
  have z : ¬ k < 0 := by omega
  simp [z, h0, h1]
theorem sv_shuf {E : XK} {ns : List Int} (hl : ns.length ≤ 1000) (hR : ∀ ms : List Int, ms.Perm ns → R (.own (ms.map .int))) :
    SvD K b I0 H0 (tRet (tLc (iList K (tVar 1)) (gName 3) tYes (tBM K "list" rPopAt (tVar 2) (tCons (tCall (spD K aTake okTake outTake noX) [] E (tCons (tVar 0) (tCons (tCB (fun xs H Q => ∃ p ys, xs = [.ref p] ∧ (SqL K H p ys ∨ SqT K H p ys) ∧ Q (.int ys.length) H) (tCons (tVar 2) tNil)) tNil))) tNil)) [3]))
      [some .bag, some (.dat (.list (ns.map .int))), some (.own (ns.map .int)), none] N R Bk Ct := fun σ I H e n D a1 a2 a3 a4 => by
  obtain ⟨v1, g1, r1⟩ := n.at_ 1 _ rfl
  obtain ⟨v2, g2, r2⟩ := n.at_ 2 _ rfl
  have r1 : Dp K I v1 (.list (ns.map .int)) := r1
  cases r1 with
  | @lst a1' xs _ hs hd =>
    obtain ⟨L, ys, rfl, h0, hn, hb, hL, hdL⟩ := r2
    have ey := dpa_ints hdL
    subst ey
    refine ⟨_, g1, a1', rfl, ⟨xs, sl_mono e.s hs⟩, fun Dl hD => ?_⟩
    have nDb : Dl ≠ b.a := e.ok.nb hD
    have nLD : L ≠ Dl := ne_of_none hL hD
    have w : Walk (Itl K a1') ns.length (fun H => SqL K H a1' xs) (YAt xs) := by
      have := dpa_len hd
      rw [List.length_map] at this
      rw [← this]
      exact walk_list
    refine lc_it w (fun i Hk => ∃ (Ik : Hp) (outs rest : List Int), Ext K b I0 H0 Ik Hk ∧ Same I Ik ∧ EnvR K b H0 Ik Hk σ [some .bag, some (.dat (.list (ns.map .int))), some (.own (rest.map .int)), none] ∧ Ik Dl = none ∧ Hk Dl = some (.lst (outs.map V.int)) ∧ (outs ++ rest).Perm ns ∧ outs.length = i) ?_ (fun i Hk _ ⟨Ik, outs, rest, ek, sm, _⟩ => sl_mono (sm.trans ek.s) hs) ?_ ?_
    · exact ⟨I, [], ns, e.trans (e.ok.newH hD), Same.refl I, n.ext (e.ok.newH hD), e.ok.inone hD, upd_same, List.Perm.refl _, rfl⟩
    · rintro i x Hk Hk' hi ⟨Ik, outs, rest, ek, sm, nk, iD, aD, pm, ol⟩ ⟨eH, hx⟩
      subst eH
      have xi : ∃ d, (ns.map PyData.int)[i]? = some (.int d) := by
        refine ⟨ns[i], ?_⟩
        rw [List.getElem?_map, List.getElem?_eq_getElem hi]
        rfl
      obtain ⟨d, hdi⟩ := xi
      obtain ⟨u, e1, e2⟩ := dpa_get hd hdi
      rw [hx] at e1
      cases e1
      have rl : rest.length + i = ns.length := by
        have := pm.length_eq
        rw [List.length_append] at this
        omega
      have sl : σ.length = 4 := n.len
      have nw : EnvR K b H0 Ik Hk' (wipe σ [3]) [some .bag, some (.dat (.list (ns.map .int))), some (.own (rest.map .int)), none] := nk.wipe (hv1 rfl)
      have n2 : EnvR K b H0 Ik Hk' ((wipe σ [3]).set 3 (some x)) [some .bag, some (.dat (.list (ns.map .int))), some (.own (rest.map .int)), some (dint d)] :=
        nw.setD (i := 3) (r := dint d) (ltr rfl) (dp_mono sm e2) (fun _ z => by cases z)
      refine ⟨?_, ?_⟩
      · refine (wipe_eq (by rw [List.length_set]) fun j hj => ?_).trans (wipe_eq (wipe_length _ _) fun j hj => wipe_out hj)
        exact List.getElem?_set_ne (fun z => hj (by rw [← z]; exact List.mem_cons_self ..))
      · dsimp only [tYes]
        rw [if_pos rfl]
        obtain ⟨v2', g2', r2'⟩ := n2.at_ 2 _ rfl
        obtain ⟨L', ys', rfl, h0', hn', hb', hL', hdL'⟩ := r2'
        have ey' := dpa_ints hdL'
        subst ey'
        refine ⟨_, g2', .inl ⟨rfl, _, .inl (.inl hL')⟩, ?_⟩
        have take := ev_take (K := K) (b := b) (I0 := I0) (H0 := H0) (E := E) (i := 0) (n := (rest.length : Int)) (δ := [some .bag, some (.dat (.list (ns.map .int))), some (.own (rest.map .int)), some (dint d)]) rfl ((ev_len (ds := rest.map .int) (ev_varB (i := 2) rfl) (.inl (.inr (.inl rfl)))).to (s := dint (rest.length : Int)) (by rw [List.length_map])) ⟨by omega, by omega⟩
        refine take _ Ik Hk' ek n2 _ fun r v I3 H3 ⟨k, er, hk0, hk1⟩ x3 rs => ?_
        subst er
        have ev := int_read rs
        subst ev
        have aD3 : H3 Dl = some (.lst (outs.map V.int)) := x3.h Dl _ nDb lst_tbl aD
        have iD3 : I3 Dl = none := x3.n Dl _ iD aD lst_tbl
        have hL3 : H3 L' = some (.lst (rest.map V.int)) := x3.h L' _ hb' lst_tbl hL'
        have iL3 : I3 L' = none := x3.n L' _ hn' hL' lst_tbl
        have g3 : ((wipe σ [3]).set 3 (some x))[2]? = σ[2]? := by
          rw [List.getElem?_set_ne (by decide), wipe_out (by decide)]
        have eL : L' = L := by
          rw [g3, g2] at g2'
          cases g2'
          rfl
        have nL : L' ≠ Dl := eL ▸ nLD
        have hk : k.toNat < rest.length := by omega
        refine ⟨L', rest.map V.int, k, k.toNat, .int rest[k.toNat], rfl, rfl, hL3, by omega, by omega, ?_, ?_, ?_⟩
        · rw [List.length_map]
          exact seqIx hk0 hk1
        · rw [List.getElem?_map, List.getElem?_eq_getElem hk]
          rfl
        · have e4 : Ext K b I0 H0 I3 (upd H3 L' (.lst ((rest.map V.int).eraseIdx k.toNat))) := (ek.trans x3).mut h0' iL3 hb' hL3
          have aD4 : upd H3 L' (.lst ((rest.map V.int).eraseIdx k.toNat)) Dl = some (.lst (outs.map V.int)) := by rw [upd_ne nL.symm]; exact aD3
          have hsL : σ[2]? = some (some (.ref L')) := by rw [g2, eL]
          have n4 := (nk.ext x3).own (i := 2) (a := L') (ys := (rest.map V.int).eraseIdx k.toNat) (es := (rest.eraseIdx k.toNat).map .int) rfl rfl hsL h0' iL3 hb' (by rw [erase_map]; exact dpa_ofInts _)
          refine ⟨outs.map V.int, aD4, Nat.lt_of_lt_of_le (by rw [List.length_map]; omega : _ < 100000) (by decide : 100000 ≤ sizeLine), I3, outs ++ [rest[k.toNat]], rest.eraseIdx k.toNat, e4.mut (e.free (fr_none hD)) iD3 nDb aD4, sm.trans x3.i, n4.other rfl (fun j ds hj => ?_), iD3, ?_, perm_erase pm hk, by rw [List.length_append, ol]; rfl⟩
          · match j, hj with
            | 0, h => cases h
            | 1, h => cases h
            | 2, _ => rw [hsL]; exact fun z => nL (V.ref.inj (Option.some.inj (Option.some.inj z)))
            | 3, h => cases h
            | j + 4, h => cases h
          · rw [upd_same, List.map_append]
            rfl
    · rintro Hk ⟨Ik, outs, rest, ek, sm, nk, iD, aD, pm, ol⟩
      have hr : rest = [] := by
        have := pm.length_eq
        rw [List.length_append] at this
        exact List.eq_nil_of_length_eq_zero (by omega)
      subst hr
      rw [List.append_nil] at pm
      exact a2 _ _ Ik Hk (hR outs pm) ek ⟨Dl, _, rfl, e.free (fr_none hD), iD, nDb, aD, dpa_ofInts _⟩
end
/-- fewer slots, lists of its own among them -/
inductive LessO : Env → Env → Prop
  | nil : LessO [] []
  | no {x : Option DV} {t' t : Env} : LessO t' t → LessO (none :: t') (x :: t)
  | keep {x : DV} {t' t : Env} : LessO t' t → LessO (some x :: t') (some x :: t)
theorem LessO.len : ∀ {δ' δ : Env}, LessO δ' δ → δ'.length = δ.length
  | _, _, .nil => rfl
  | _, _, .no h => congrArg Nat.succ h.len
  | _, _, .keep h => congrArg Nat.succ h.len
theorem LessO.hs : ∀ {δ' δ : Env}, LessO δ' δ → ∀ (i : Nat) (r : DV), δ'[i]? = some (some r) → δ[i]? = some (some r)
  | _, _, .nil, _, _, e => by cases e
  | _, _, .no h, 0, _, e => by cases e
  | _, _, .no h, i + 1, r, e => h.hs i r e
  | _, _, .keep h, 0, _, e => e
  | _, _, .keep h, i + 1, r, e => h.hs i r e
section
variable {K : PySem.W.Frag} {b : Bg} {I0 H0 : Hp} {δ δ' : Env} {N Bk Ct : Env → Prop} {R P : DV → Prop} {t : TS} {ta tb : TE}
theorem sv_dropO (l : LessO δ' δ) (h : SvD K b I0 H0 t δ' N R Bk Ct) : SvD K b I0 H0 t δ N R Bk Ct := sv_less l.len l.hs h
/-- t + u of tuples, the second drawn -/
theorem ev_catD {xs : List PyData} {B : List PyData → Prop} (ha : EvD K b I0 H0 ta δ (fun r => r = .dat (.tuple xs))) (hb : EvD K b I0 H0 tb δ (fun r => ∃ ys, r = .dat (.tuple ys) ∧ B ys)) (hl : ∀ ys, B ys → xs.length + ys.length ≤ 100000) : EvD K b I0 H0 (tOp (TF.rCatF K) ta tb) δ (fun r => ∃ ys, B ys ∧ r = .dat (.tuple (xs ++ ys))) :=
  ev_op ha hb fun x y e ⟨ys, f, c⟩ => by
    subst e f
    exact fun H0 I H v w k r1 r2 Q q => od_cat (hl ys c) H0 I H v w k r1 r2 Q fun z u I' H' p => q z u I' H' ⟨ys, c, p⟩
end
/-! ### a tuple of texts among the module's names -/
def strsB : List Value → List Str → Bool
  | [], [] => true
  | .str x _ :: vs, y :: ys => decide (x = y) && strsB vs ys
  | _, _ => false
theorem strsB_ok : ∀ {vs : List Value} {ys : List Str}, strsB vs ys = true → Vals (ys.map V.str) vs
  | [], [], _ => .nil
  | .str x t :: vs, y :: ys, h => by
    unfold strsB at h
    obtain ⟨h1, h2⟩ := Bool.and_eq_true_iff.mp h
    have e := of_decide_eq_true h1
    subst e
    exact .cons ⟨t, rfl⟩ (strsB_ok h2)
  | [], _ :: _, h => by unfold strsB at h; cases h
  | .none :: _, _, h => by unfold strsB at h; cases h
  | .bool _ :: _, _, h => by unfold strsB at h; cases h
  | .int _ _ :: _, _, h => by unfold strsB at h; cases h
  | .ref _ :: _, _, h => by unfold strsB at h; cases h
  | .str _ _ :: _, [], h => by unfold strsB at h; cases h
  | .bytes _ _ :: _, _, h => by unfold strsB at h; cases h
  | .float _ _ :: _, _, h => by unfold strsB at h; cases h
  | .type _ :: _, _, h => by unfold strsB at h; cases h
  | .builtin _ :: _, _, h => by unfold strsB at h; cases h
def strTupB (K : PySem.W.Frag) (a : Addr) (ss : List Str) : Bool := match K.lookup a with
  | some ⟨.type "tuple", _, .seq vs _, _⟩ => decide (vs.size ≤ 1000) && strsB vs.toList ss
  | _ => false
theorem dpa_ofStrs {K : PySem.W.Frag} {I : Hp} : ∀ (ss : List Str), DpAll K I (ss.map V.str) (ss.map .str)
  | [] => .nil
  | s :: ss => .cons (.str s) (dpa_ofStrs ss)
theorem strTup_ok {K : PySem.W.Frag} {a : Addr} {ss : List Str} (h : strTupB K a ss = true) : ∀ I, Dp K I (.ref a) (.tuple (ss.map .str)) := fun I => by
  unfold strTupB at h
  split at h
  · rename_i dd vs n sl e
    obtain ⟨h1, h2⟩ := Bool.and_eq_true_iff.mp h
    exact .tup (.inr ⟨_, vs, n, e, rfl, rfl, Nat.le_trans (of_decide_eq_true h1) (by decide : 1000 ≤ sizeLine), strsB_ok h2⟩) (dpa_ofStrs ss)
  · cases h
theorem ev_gd {K : PySem.W.Frag} {b : Bg} {I0 H0 : Hp} {δ : Env} {v : V} {d : PyData} (h : ∀ I, Dp K I v d) : EvD K b I0 H0 (tC v) δ (fun r => r = .dat d) := fun σ I H e n Q q => q _ _ I H rfl e.re (h I)
/-- is not None -/
theorem ev_notN {K : PySem.W.Frag} {b : Bg} {I0 H0 : Hp} {δ : Env} {ta : TE} {d : PyData} (ha : EvD K b I0 H0 ta δ (fun r => r = .dat d)) : EvD K b I0 H0 (tOp (fun x y H Q => y = .non ∧ Q (.bl (!decide (x = .non))) H) ta (tC .non)) δ (fun r => r = dbl (!decide (tyN d = "NoneType"))) :=
  ev_op ha ev_non fun x y e f => by
    subst e f
    intro H0 I H v w k r1 r2 Q q
    refine ⟨non_read r2, q _ _ I H rfl k.re ?_⟩
    rw [dp_isN r1]
    exact Dp.bl _
/-- no list stands among the module's names -/
def KL (K : PySem.W.Frag) : Prop := ∀ a o, K.lookup a = some o → o.cls ≠ .type "list"
def klB (K : PySem.W.Frag) : Bool := K.all fun p => !decide (p.2.cls = .type "list")
theorem kl_by {K : PySem.W.Frag} (h : klB K = true) : KL K := fun a o e c => by
  have := List.all_eq_true.mp h _ (mem_lk e)
  simp [c] at this
section
variable {K : PySem.W.Frag} {b : Bg} {I0 H0 : Hp} {δ : Env} {ta tb te : TE} {P : DV → Prop}
/-- a list as it stands -/
theorem LstR.lst {I H H1 : Hp} {r : DV} {v : V} {ds : List PyData} (kl : KL K) (k : Ok K b I H) (l : LstR r ds) (h : Res K b H1 I H v r) : ∃ a xs, v = .ref a ∧ H a = some (.lst xs) ∧ DpAll K I xs ds := by
  rcases l with rfl | rfl | rfl
  · obtain ⟨a, xs, rfl, _, _, _, ha, hd⟩ := h
    exact ⟨a, xs, rfl, ha, hd⟩
  · obtain ⟨a, xs, rfl, ha, _, _, hd⟩ := h
    exact ⟨a, xs, rfl, ha, hd⟩
  · have h : Dp K I v (.list ds) := h
    cases h with
    | @lst a xs _ q r =>
      rcases q with (q | ⟨o, q⟩) | ⟨o, its, n, q1, q2, _⟩
      · exact ⟨a, xs, rfl, k.s a _ q, r⟩
      · exact absurd (k.b.2.1 a _ q) (fun z => z)
      · exact absurd q2 (kl a o q1)
/-- xs + ys of any lists -/
theorem ev_catA {A B : List PyData → Prop} (kl : KL K) (ha : EvD K b I0 H0 ta δ (fun r => ∃ ds, LstR r ds ∧ A ds)) (hb : EvD K b I0 H0 tb δ (fun r => ∃ ds, LstR r ds ∧ B ds)) (hl : ∀ ds es, A ds → B es → ds.length + es.length ≤ 100000) :
    EvD K b I0 H0 (tOp rCat ta tb) δ (fun r => ∃ ds, r = .own ds ∧ ∃ xs ys, A xs ∧ B ys ∧ ds = xs ++ ys) :=
  ev_op ha hb fun x y ⟨ds, e, a⟩ ⟨es, f, c⟩ => by
    intro H0 I H v w k r1 r2 Q q
    obtain ⟨p, xs, rfl, hp, hd⟩ := e.lst kl k r1
    obtain ⟨d, ys, rfl, gd, ge⟩ := f.lst kl k r2
    have l1 := dpa_len hd
    have l2 := dpa_len ge
    have l3 := hl ds es a c
    exact ⟨p, d, xs, ys, rfl, rfl, hp, gd, Nat.le_trans (by omega) (by decide : 100000 ≤ sizeLine), fun n hn => q _ _ _ _ ⟨ds ++ es, rfl, ds, es, a, c, rfl⟩ (k.newH hn) ⟨n, _, rfl, fr_none hn, k.inone hn, k.nb hn, upd_same, dpa_app hd ge⟩⟩
/-- tuple(xs) of any list -/
theorem ev_tupleL {x : DV} {ds : List PyData} (l : LstR x ds) (ha : EvD K b I0 H0 ta δ (fun r => r = x)) : EvD K b I0 H0 (tCB (TF.rTupleF K) (tCons ta tNil)) δ (fun r => r = .dat (.tuple ds)) :=
  ev_cb (ea_cons1 ha ea_nil) fun rs e => by
    subst e
    exact cb_tupleL l
/-- t[-1] -/
theorem ev_last {ds : List PyData} {d : PyData} (ha : EvD K b I0 H0 ta δ (fun r => r = .dat (.tuple ds))) (hb : EvD K b I0 H0 tb δ (fun r => r = dint (-1))) (h : ds[ds.length - 1]? = some d) : EvD K b I0 H0 (tOp (rIxT K) ta tb) δ (fun r => r = .dat d) :=
  ev_op ha hb fun x y e f => by
    subst e f
    intro H0 I H v w k r1 r2 Q q
    obtain ⟨a, xs, rfl, hs, hd⟩ := tup_read k.s r1
    obtain ⟨u, e1, e2⟩ := dpa_get hd h
    refine ⟨a, xs, -1, u, rfl, int_read r2, hs, ?_, q _ _ I H rfl k.re e2⟩
    have l1 := dpa_len hd
    have hlt : ds.length - 1 < xs.length := (List.getElem?_eq_some_iff.mp e1).1
    rw [← l1] at e1 hlt
    have z : ixN xs.length (-1) = some (xs.length - 1) := by
      unfold ixN
      rw [if_neg (by decide), if_pos (by omega)]
      congr 1
      omega
    unfold atI
    rw [z]
    exact e1
/-- what told makes of a text and of none -/
theorem ev_neN {d : PyData} {o : Bool} (h : (d = .str "none" ∧ o = false) ∨ (∃ k : Int, d = .int k) ∧ o = true) (ha : EvD K b I0 H0 ta δ (fun r => r = .dat d)) (hb : EvD K b I0 H0 tb δ (fun r => r = dstr "none")) : EvD K b I0 H0 (tOp rNe ta tb) δ (fun r => r = dbl o) :=
  ev_op ha hb fun _ _ e f => by
    subst e f
    intro H0 I H v w k r1 r2 Q q
    rcases h with ⟨rfl, rfl⟩ | ⟨⟨i, rfl⟩, rfl⟩
    · rw [str_read r1, str_read r2]
      exact ⟨rfl, q _ _ I H rfl k.re (by rw [decide_eq_true rfl]; exact Dp.bl _)⟩
    · rw [int_read r1, str_read r2]
      exact ⟨rfl, q _ _ I H rfl k.re (by rw [decide_eq_false (fun z => by cases z)]; exact Dp.bl _)⟩
end
end DL

set_option Elab.async false
set_option linter.all false
set_option maxRecDepth 100000
set_option maxHeartbeats 4000000
/-! A def's text read as a transformer of data: judgements in which the hand layer's reading is hidden. -/
namespace DW
open PySem PySem.Spec PyProof.Rows L2 RZ DL
abbrev DP := DV → Prop
abbrev En := DL.Env
abbrev XN := Nat → List (Str × V) → Prop
/-- what may be raised; where the defs stand -/
structure Cn where
  x : XN
  fa : Nat → Addr
abbrev DE := Cn → En → DP → Prop
abbrev DT := Cn → En → (Bool → Prop) → Prop
abbrev DA := Cn → En → (List DV → Prop) → Prop
abbrev DO := Cn → En → (Option Int → Prop) → Prop
abbrev DI := Cn → En → (List PyData → Prop) → Prop
structure Ed where
  nx : En → Prop
  rt : DP
  bk : En → Prop
  ct : En → Prop
abbrev DS := Cn → En → Ed → Prop
/-- what a def asks of its arguments, its wish and what may be raised -/
abbrev Wt := List DV → DP → Cn → Prop
/-- what stands around a def's text -/
structure Sg where
  n : Nat
  E : XK
  cls : Nat → Addr
  fa : Nat → Addr
  tb : List (Addr × Str) → Prop
def toXD (cls : Nat → Addr) (x : XN) : XD := fun C fs => ∃ s, C = cls s ∧ x s fs
structure Cok (K : PySem.W.Frag) (S : Sg) (b : Bg) (I0 H0 : Hp) (c : Cn) : Prop where
  fa : c.fa = S.fa
  xw : XW K b I0 H0 S.E (toXD S.cls c.x)
  tb : S.tb b.T
structure NB (n : Nat) (δ : En) : Prop where
  len : δ.length = n
  nb : noBor δ = true
def isPl : DV → Bool
  | .own _ => false
  | .bor _ => false
  | .dct _ _ => false
  | _ => true
def fz : DV → DV
  | .own ds => .dat (.list ds)
  | r => r
theorem isPl_own {rs : List DV} (h : rs.all isPl = true) : NoOwn rs := fun r hr => by
  have := List.all_eq_true.mp h r hr
  constructor
  · intro ds e
    rw [e] at this
    cases this
  · intro ds e
    rw [e] at this
    cases this
section
variable (K : PySem.W.Frag) (S : Sg)
def CE (te : TE) (de : DE) : Prop := ∀ b I0 H0 c δ P, NB S.n δ → Cok K S b I0 H0 c → de c δ P → EvD K b I0 H0 te δ P
def CT (tt : TT) (dt : DT) : Prop := ∀ b I0 H0 c δ P, NB S.n δ → Cok K S b I0 H0 c → dt c δ P → EvT K b I0 H0 tt δ P
def CA (m : Nat) (ta : TA) (da : DA) : Prop := ∀ b I0 H0 c δ P, NB S.n δ → Cok K S b I0 H0 c → da c δ P → EvA K b I0 H0 ta δ (fun rs => rs.length = m ∧ P rs)
def CO (to : TO) (d : DO) : Prop := ∀ b I0 H0 c δ P, NB S.n δ → Cok K S b I0 H0 c → d c δ P → EvO K b I0 H0 to δ P
def CI (Rl : Rel) (wi : TI) (di : DI) : Prop := ∀ b I0 H0 c δ A, NB S.n δ → Cok K S b I0 H0 c → di c δ A → ItD K b Rl I0 H0 wi δ A
def CS (ts : TS) (ds : DS) : Prop := ∀ b I0 H0 c δ D, NB S.n δ → Cok K S b I0 H0 c → ds c δ D → SvD K b I0 H0 ts δ (fun d => NB S.n d ∧ D.nx d) D.rt (fun d => NB S.n d ∧ D.bk d) (fun d => NB S.n d ∧ D.ct d)
end
section
variable (X : Cx) (S : Sg)
def JE (e : Expr) (de : DE) : Prop := ∃ te, PE X e te ∧ CE X.K S te de
def JT (e : Expr) (dt : DT) : Prop := ∃ t, PT X e t ∧ CT X.K S t dt
def JW (e : Expr) (dt : DT) : Prop := ∃ t, PW X e t ∧ CT X.K S t dt
def JA (es : List Expr) (da : DA) : Prop := ∃ t, PA X es t ∧ CA X.K S es.length t da
def JK (ks : List Keyword) (da : DA) : Prop := ∃ t, PK X ks t ∧ CA X.K S ks.length t da
def JO (e : Option Expr) (d : DO) : Prop := ∃ t, PO X e t ∧ CO X.K S t d
def JI (Rl : Rel) (tg e : Expr) (di : DI) : Prop := ∃ t, PI X tg e t ∧ CI X.K S Rl t di
def JS (st : Stmt) (ds : DS) : Prop := ∃ t, PS X st t ∧ CS X.K S t ds
def JSs (sts : List Stmt) (ds : DS) : Prop := ∃ t, PSs X sts t ∧ CS X.K S t ds
/-- an operation: its rule and its meaning -/
def JOp (f : Value → Value → Sem Value) (o : DV → DV → DP → Prop) : Prop := ∃ r, OpR X f r ∧ ∀ b x y P, o x y P → OpD X.K b r x y P
def JIx (o : DV → DV → DP → Prop) : Prop := ∃ r, IxR X r ∧ ∀ b x y P, o x y P → OpD X.K b r x y P
def JUn (f : Value → Sem Value) (o : DV → DP → Prop) : Prop := ∃ r, UnR X f r ∧ ∀ b x P, o x P → UnD X.K b r x P
def JCb (f : Value) (o : List DV → DP → Prop) : Prop := ∃ r, CallR X f r ∧ ∀ b rs P, o rs P → CbD X.K b r rs P
end
/-! ### freezing of what was made -/
section
variable {K : PySem.W.Frag} {b : Bg} {I0 H0 : Hp} {δ : En} {te ta tb : TE} {P : DP}
theorem ev_fz {Q : DP} (h : EvD K b I0 H0 te δ (fun r => Q (fz r))) : EvD K b I0 H0 te δ Q := fun σ I H e n R q =>
  h σ I H e n R fun r v I' H' p x rs => by
    cases r with
    | own ds =>
      obtain ⟨I'', x', rs'⟩ := frz_res x rs
      exact q _ _ I'' H' p x' rs'
    | dat d => exact q _ _ I' H' p x rs
    | bor ds => exact q _ _ I' H' p x rs
    | raw u => exact q _ _ I' H' p x rs
    | bag => exact q _ _ I' H' p x rs
    | dct o kvs => exact q _ _ I' H' p x rs
theorem ev_opC {r : R2} {Pa : DP} {Pb : DV → DP} (ha : EvD K b I0 H0 ta δ Pa) (hb : ∀ x, Pa x → EvD K b I0 H0 tb δ (Pb x)) (ho : ∀ x y, Pb x y → OpD K b r x y P) : EvD K b I0 H0 (tOp r ta tb) δ P := fun σ I H e n Q q =>
  ha σ I H e n _ fun x v I1 H1 p1 x1 r1 => hb x p1 σ I1 H1 (e.trans x1) (n.ext x1) _ fun y w I2 H2 p2 x2 r2 =>
    ho x y p2 H I2 H2 v w x2.ok (r1.ext x2) (r2.since (free_of x1)) Q fun z u I3 H3 p3 x3 r3 => q z u I3 H3 p3 ((x1.trans x2).trans x3) (r3.since (free_of (x1.trans x2)))
theorem ev_chainC {r r' : R2} {tc : TE} {Pa : DP} {Pb : DV → DP} {Pm : DV → Bool → Prop} {Pc : DV → DP} (ha : EvD K b I0 H0 ta δ Pa) (hb : ∀ x, Pa x → EvD K b I0 H0 tb δ (Pb x)) (ho : ∀ x y, Pb x y → OpD K b r x y (fun z => ∃ c, z = dbl c ∧ Pm y c))
    (hf : ∀ y, Pm y false → P (dbl false)) (hc : ∀ y, Pm y true → EvD K b I0 H0 tc δ (Pc y)) (ho' : ∀ y z, Pc y z → OpD K b r' y z P) : EvD K b I0 H0 (tChain r r' ta tb tc) δ P := fun σ I H e n Q q =>
  ha σ I H e n _ fun x v I1 H1 p1 x1 r1 => hb x p1 σ I1 H1 (e.trans x1) (n.ext x1) _ fun y w I2 H2 p2 x2 r2 =>
    ho x y p2 H I2 H2 v w x2.ok (r1.ext x2) (r2.since (free_of x1)) _ fun z u I3 H3 p3 x3 r3 => by
      obtain ⟨c, rfl, pm⟩ := p3
      refine ⟨c, bl_read r3, ?_⟩
      cases c with
      | false => exact q _ _ I3 H3 (hf y pm) ((x1.trans x2).trans x3) (Dp.bl false)
      | true =>
        exact hc y pm σ I3 H3 (e.trans ((x1.trans x2).trans x3)) (n.ext ((x1.trans x2).trans x3)) _ fun zz ww I4 H4 p4 x4 r4 =>
          ho' y zz p4 H I4 H4 w ww x4.ok (((r2.since (free_of x1)).ext x3).ext x4) (r4.since (free_of ((x1.trans x2).trans x3))) Q fun z5 u5 I5 H5 p5 x5 r5 =>
            q z5 u5 I5 H5 p5 ((((x1.trans x2).trans x3).trans x4).trans x5) (r5.since (free_of (((x1.trans x2).trans x3).trans x4)))
theorem ea_consC {tr : TA} {Pa : DP} {B : List DV → Prop} (ha : EvD K b I0 H0 ta δ Pa) (hr : ∀ x, Pa x → EvA K b I0 H0 tr δ (fun rs => B (x :: rs))) : EvA K b I0 H0 (tCons ta tr) δ B := fun σ I H e n Q q =>
  ha σ I H e n _ fun x v I1 H1 p1 x1 r1 => hr x p1 σ I1 H1 (e.trans x1) (n.ext x1) _ fun rs vs I2 H2 p2 x2 r2 =>
    q (x :: rs) (v :: vs) I2 H2 p2 (x1.trans x2) (.cons (r1.ext x2) (r2.since (free_of x1)))
end
/-! ### names, constants -/
def dVar (i : Nat) : DE := fun _ δ P => match δ[i]? with
  | some (some (.own ds)) => P (.bor ds)
  | some (some (.dct true kvs)) => P (.dct false kvs)
  | some (some r) => P r
  | _ => False
def dC (r : DV) : DE := fun _ _ P => P r
section
variable {X : Cx} {S : Sg} {a b e : Expr} {da db de : DE} {pos : Pos}
theorem je_var {i : Nat} (h : PE X e (tVar i)) : JE X S e (dVar i) := ⟨_, h, fun b I0 H0 c δ P nb ok hd => by
  unfold dVar at hd
  split at hd
  · rename_i ds e1
    exact (ev_varB e1).mono fun _ z => z ▸ hd
  · rename_i kvs e1
    exact (ev_varK e1).mono fun _ z => z ▸ hd
  · rename_i r no nk e1
    exact (ev_var e1 (fun ds z => no ds (z ▸ rfl)) (fun ds z => nk ds (z ▸ rfl))).mono fun _ z => z ▸ hd
  · exact hd.elim⟩
theorem je_c {v : V} {d : PyData} (h : PE X e (tC v)) (hd : ∀ I, Dp X.K I v d) : JE X S e (dC (.dat d)) := ⟨_, h, fun b I0 H0 c δ P nb ok p σ I H ex n Q q => q _ _ I H p ex.re (hd I)⟩
theorem je_int {i j} : JE X S (.Constant (.int i) j pos) (dC (dint i)) := je_c pe_int fun _ => Dp.int _
theorem je_bl {i j} : JE X S (.Constant (.bool i) j pos) (dC (dbl i)) := je_c pe_bl fun _ => Dp.bl _
theorem je_str {i j} : JE X S (.Constant (.str i) j pos) (dC (dstr i)) := je_c pe_str fun _ => Dp.str _
theorem je_non {j} : JE X S (.Constant .none j pos) (dC (.dat .none)) := je_c pe_non fun _ => Dp.non
theorem je_raw {v : V} (h : PE X e (tC v)) : JE X S e (dC (.raw v)) := ⟨_, h, fun b I0 H0 c δ P nb ok p σ I H ex n Q q => q _ _ I H p ex.re rfl⟩
/-! ### operations -/
def dBin (o : DV → DV → DP → Prop) (da db : DE) : DE := fun c δ P => da c δ fun x => db c δ fun y => o (fz x) (fz y) P
def dUn (o : DV → DP → Prop) (da : DE) : DE := fun c δ P => da c δ fun x => o (fz x) P
def dChain (o o' : DV → DV → DP → Prop) (da db dc : DE) : DE := fun c δ P => da c δ fun x => db c δ fun y => o (fz x) (fz y) fun z => match z with
  | .dat (.bool k) => if k = true then dc c δ fun w => o' (fz y) (fz w) P else P (dbl false)
  | _ => False
theorem ce_bin {K : PySem.W.Frag} {r : R2} {o : DV → DV → DP → Prop} {ta tb : TE} (ho : ∀ b x y P, o x y P → OpD K b r x y P) (ha : CE K S ta da) (hb : CE K S tb db) : CE K S (tOp r ta tb) (dBin o da db) := fun b I0 H0 c δ P nb ok p =>
  ev_opC (Pa := fun x => db c δ fun y => o x (fz y) P) (Pb := fun x y => o x y P) (ev_fz (ha b I0 H0 c δ _ nb ok p)) (fun x px => ev_fz (hb b I0 H0 c δ _ nb ok px)) fun x y h => ho b x y P h
theorem je_op {op : Operator} {o : DV → DV → DP → Prop} (ho : JOp X (binaryOp op) o) (ha : JE X S a da) (hb : JE X S b db) : JE X S (.BinOp a op b pos) (dBin o da db) := by
  obtain ⟨r, h1, h2⟩ := ho
  obtain ⟨ta, ha1, ha2⟩ := ha
  obtain ⟨tb, hb1, hb2⟩ := hb
  exact ⟨_, pe_op h1 ha1 hb1, ce_bin h2 ha2 hb2⟩
theorem je_cmp {op : CmpOp} {o : DV → DV → DP → Prop} (ho : JOp X (compareOp op) o) (ha : JE X S a da) (hb : JE X S b db) (hm : behindInMarks op b = false) : JE X S (.Compare a [op] [b] pos) (dBin o da db) := by
  obtain ⟨r, h1, h2⟩ := ho
  obtain ⟨ta, ha1, ha2⟩ := ha
  obtain ⟨tb, hb1, hb2⟩ := hb
  exact ⟨_, pe_cmpR h1 ha1 hb1 hm, ce_bin h2 ha2 hb2⟩
theorem je_ix {o : DV → DV → DP → Prop} (ho : JIx X o) (ha : JE X S a da) (hb : JE X S b db) (hs : PlainIx b) : JE X S (.Subscript a b pos) (dBin o da db) := by
  obtain ⟨r, h1, h2⟩ := ho
  obtain ⟨ta, ha1, ha2⟩ := ha
  obtain ⟨tb, hb1, hb2⟩ := hb
  exact ⟨_, pe_ix h1 ha1 hb1 hs, ce_bin h2 ha2 hb2⟩
theorem je_un {op : UnaryOp} {o : DV → DP → Prop} (ho : JUn X (unaryOp op) o) (ha : JE X S a da) : JE X S (.UnaryOp op a pos) (dUn o da) := by
  obtain ⟨r, h1, h2⟩ := ho
  obtain ⟨ta, ha1, ha2⟩ := ha
  exact ⟨_, pe_un h1 ha1, fun b I0 H0 c δ P nb ok p => ev_un (Pa := fun x => o x P) (ev_fz (ha2 b I0 H0 c δ _ nb ok p)) fun x h => h2 b x P h⟩
theorem ce_chain {K : PySem.W.Frag} {r r' : R2} {o o' : DV → DV → DP → Prop} {ta tb tc : TE} {dc : DE} (ho : ∀ b x y P, o x y P → OpD K b r x y P) (ho' : ∀ b x y P, o' x y P → OpD K b r' x y P) (ha : CE K S ta da) (hb : CE K S tb db) (hc : CE K S tc dc) :
    CE K S (tChain r r' ta tb tc) (dChain o o' da db dc) := fun b I0 H0 c δ P nb ok p => by
  refine ev_chainC (Pa := fun x => db c δ fun y => o x (fz y) fun z => match z with
    | .dat (.bool k) => if k = true then dc c δ fun w => o' (fz y) (fz w) P else P (dbl false)
    | _ => False) (Pb := fun x y => o x y fun z => match z with
    | .dat (.bool k) => if k = true then dc c δ fun w => o' y (fz w) P else P (dbl false)
    | _ => False) (Pm := fun y k => if k = true then dc c δ fun w => o' y (fz w) P else P (dbl false)) (Pc := fun y w => o' y w P) (ev_fz (ha b I0 H0 c δ _ nb ok p)) (fun x px => ev_fz (hb b I0 H0 c δ _ nb ok px)) (fun x y h => ?_) (fun y h => h) (fun y h => ev_fz (hc b I0 H0 c δ _ nb ok h)) fun y z h => ho' b y z P h
  have := ho b x y _ h
  intro H0' I H v w k r1 r2 Q q
  refine this H0' I H v w k r1 r2 Q fun z u I' H' hz => ?_
  dsimp only at hz
  split at hz
  · exact q _ u I' H' ⟨_, rfl, hz⟩
  · exact hz.elim
theorem je_chain {op op' : CmpOp} {o o' : DV → DV → DP → Prop} {c' : Expr} {dc : DE} (ho : JOp X (compareOp op) o) (ho' : JOp X (compareOp op') o') (ha : JE X S a da) (hb : JE X S b db) (hc : JE X S c' dc) (hm : lastMarks [op, op'] [b, c'] = false := by with_unfolding_all rfl) :
    JE X S (.Compare a [op, op'] [b, c'] pos) (dChain o o' da db dc) := by
  obtain ⟨r, h1, h2⟩ := ho
  obtain ⟨r', h3, h4⟩ := ho'
  obtain ⟨ta, ha1, ha2⟩ := ha
  obtain ⟨tb, hb1, hb2⟩ := hb
  obtain ⟨tc, hc1, hc2⟩ := hc
  exact ⟨_, pe_chain h1 h3 ha1 hb1 hc1 hm, ce_chain h2 h4 ha2 hb2 hc2⟩
/-! ### tests -/
def dTst (de : DE) : DT := fun c δ P => de c δ fun r => match r with
  | .dat (.bool k) => P k
  | _ => False
def dAnd (a b : DT) : DT := fun c δ P => a c δ fun v => if v = true then b c δ P else P false
def dOr (a b : DT) : DT := fun c δ P => a c δ fun v => if v = true then P true else b c δ P
def dNot (a : DT) : DT := fun c δ P => a c δ fun v => P (!v)
def dYes : DT := fun _ _ P => P true
theorem tst_of {K : PySem.W.Frag} {b : Bg} {I0 H0 : Hp} {δ : En} {te : TE} {P : Bool → Prop} (h : EvD K b I0 H0 te δ (fun r => match r with
  | .dat (.bool k) => P k
  | _ => False)) : EvD K b I0 H0 te δ (fun x => ∃ c, x = dbl c ∧ P c) := h.mono fun r hr => by
  split at hr
  · exact ⟨_, rfl, hr⟩
  · exact hr.elim
theorem jt_val (h : JE X S e de) (he : ∀ whole, isTrue e X.env whole = (do let v ← whole; standAt e.pos; holding [v] (truthy v)) := by intro _; rfl) : JT X S e (dTst de) := by
  obtain ⟨te, h1, h2⟩ := h
  exact ⟨_, pt_val h1 he, fun b I0 H0 c δ P nb ok p => et_B (tst_of (h2 b I0 H0 c δ _ nb ok p))⟩
theorem jt_cmp {op : CmpOp} {o : DV → DV → DP → Prop} (ho : JOp X (compareOp op) o) (ha : JE X S a da) (hb : JE X S b db) (hm : behindInMarks op b = false) : JT X S (.Compare a [op] [b] pos) (dTst (dBin o da db)) := by
  obtain ⟨r, h1, h2⟩ := ho
  obtain ⟨ta, ha1, ha2⟩ := ha
  obtain ⟨tb, hb1, hb2⟩ := hb
  exact ⟨_, pt_cmpR h1 ha1 hb1 hm, fun b I0 H0 c δ P nb ok p => et_test (tst_of (ce_bin h2 ha2 hb2 b I0 H0 c δ _ nb ok p))⟩
theorem jt_chain {op op' : CmpOp} {o o' : DV → DV → DP → Prop} {c' : Expr} {dc : DE} (ho : JOp X (compareOp op) o) (ho' : JOp X (compareOp op') o') (ha : JE X S a da) (hb : JE X S b db) (hc : JE X S c' dc) (hm : lastMarks [op, op'] [b, c'] = false := by with_unfolding_all rfl) :
    JT X S (.Compare a [op, op'] [b, c'] pos) (dTst (dChain o o' da db dc)) := by
  obtain ⟨r, h1, h2⟩ := ho
  obtain ⟨r', h3, h4⟩ := ho'
  obtain ⟨ta, ha1, ha2⟩ := ha
  obtain ⟨tb, hb1, hb2⟩ := hb
  obtain ⟨tc, hc1, hc2⟩ := hc
  exact ⟨_, pt_chain h1 h3 ha1 hb1 hc1 hm, fun b I0 H0 c δ P nb ok p => et_test (tst_of (ce_chain h2 h4 ha2 hb2 hc2 b I0 H0 c δ _ nb ok p))⟩
theorem jt_not {dt : DT} (h : JT X S a dt) : JT X S (.UnaryOp .Not a pos) (dNot dt) := by
  obtain ⟨t, h1, h2⟩ := h
  exact ⟨_, pt_not h1, fun b I0 H0 c δ P nb ok p => (et_not (h2 b I0 H0 c δ _ nb ok p)).mono fun r hr => by simpa using hr⟩
theorem jt_w {dt : DT} (h : JW X S a dt) : JT X S a dt := by
  obtain ⟨t, h1, h2⟩ := h
  exact ⟨_, h1.pt, h2⟩
theorem jw_and1 {dt : DT} (h : JT X S a dt) : JW X S (.BoolOp .And [a] pos) dt := by
  obtain ⟨t, h1, h2⟩ := h
  exact ⟨_, pw_and1 h1, h2⟩
theorem jw_or1 {dt : DT} (h : JT X S a dt) : JW X S (.BoolOp .Or [a] pos) dt := by
  obtain ⟨t, h1, h2⟩ := h
  exact ⟨_, pw_or1 h1, h2⟩
theorem ct_and {K : PySem.W.Frag} {t u : TT} {dt du : DT} (h : CT K S t dt) (h' : CT K S u du) : CT K S (tAnd t u) (dAnd dt du) := fun b I0 H0 c δ P nb ok p =>
  et_and (A := fun v => if v = true then du c δ P else P false) (B := P) (h b I0 H0 c δ _ nb ok p) (fun hA => h' b I0 H0 c δ _ nb ok hA) (fun hA => hA) fun _ _ hB => hB
theorem ct_or {K : PySem.W.Frag} {t u : TT} {dt du : DT} (h : CT K S t dt) (h' : CT K S u du) : CT K S (tOr t u) (dOr dt du) := fun b I0 H0 c δ P nb ok p =>
  et_or (A := fun v => if v = true then P true else du c δ P) (B := P) (h b I0 H0 c δ _ nb ok p) (fun hA => h' b I0 H0 c δ _ nb ok hA) (fun hA => hA) fun _ _ hB => hB
theorem jw_and {rest : List Expr} {dt du : DT} (h : JT X S a dt) (h' : JW X S (.BoolOp .And (b :: rest) pos) du) : JW X S (.BoolOp .And (a :: b :: rest) pos) (dAnd dt du) := by
  obtain ⟨t, h1, h2⟩ := h
  obtain ⟨u, h3, h4⟩ := h'
  exact ⟨_, pw_and h1 h3, ct_and h2 h4⟩
theorem jw_or {rest : List Expr} {dt du : DT} (h : JT X S a dt) (h' : JW X S (.BoolOp .Or (b :: rest) pos) du) : JW X S (.BoolOp .Or (a :: b :: rest) pos) (dOr dt du) := by
  obtain ⟨t, h1, h2⟩ := h
  obtain ⟨u, h3, h4⟩ := h'
  exact ⟨_, pw_or h1 h3, ct_or h2 h4⟩
/-! ### and, or, not as values; if as an expression -/
def dAndV (a b : DE) : DE := fun c δ P => a c δ fun r => match r with
  | .dat (.bool k) => if k = true then b c δ P else P (dbl false)
  | _ => False
def dOrV (a b : DE) : DE := fun c δ P => a c δ fun r => match r with
  | .dat (.bool k) => if k = true then P (dbl true) else b c δ P
  | _ => False
def dNotV (a : DE) : DE := fun c δ P => a c δ fun r => match r with
  | .dat (.bool k) => P (dbl (!k))
  | _ => False
def dIfE (t : DT) (a b : DE) : DE := fun c δ P => t c δ fun v => if v = true then a c δ P else b c δ P
theorem je_one {op} (h : JE X S a da) : JE X S (.BoolOp op [a] pos) da := by
  obtain ⟨t, h1, h2⟩ := h
  exact ⟨_, pe_one h1, h2⟩
theorem je_and {rest : List Expr} (h : JE X S a da) (h' : JE X S (.BoolOp .And (b :: rest) pos) db) : JE X S (.BoolOp .And (a :: b :: rest) pos) (dAndV da db) := by
  obtain ⟨t, h1, h2⟩ := h
  obtain ⟨u, h3, h4⟩ := h'
  exact ⟨_, pe_and h1 h3, fun b I0 H0 c δ P nb ok p => ev_andV (A := fun k => if k = true then db c δ P else P (dbl false)) (tst_of (h2 b I0 H0 c δ _ nb ok p)) (fun hA => h4 b I0 H0 c δ _ nb ok hA) fun hA => hA⟩
theorem je_or {rest : List Expr} (h : JE X S a da) (h' : JE X S (.BoolOp .Or (b :: rest) pos) db) : JE X S (.BoolOp .Or (a :: b :: rest) pos) (dOrV da db) := by
  obtain ⟨t, h1, h2⟩ := h
  obtain ⟨u, h3, h4⟩ := h'
  exact ⟨_, pe_or h1 h3, fun b I0 H0 c δ P nb ok p => ev_orV (A := fun k => if k = true then P (dbl true) else db c δ P) (tst_of (h2 b I0 H0 c δ _ nb ok p)) (fun hA => h4 b I0 H0 c δ _ nb ok hA) fun hA => hA⟩
theorem je_not (h : JE X S a da) : JE X S (.UnaryOp .Not a pos) (dNotV da) := by
  obtain ⟨t, h1, h2⟩ := h
  exact ⟨_, pe_not h1, fun b I0 H0 c δ P nb ok p => ev_notV (A := fun k => P (dbl (!k))) (tst_of (h2 b I0 H0 c δ _ nb ok p)) fun k hk => hk⟩
theorem je_ifE {t : Expr} {dt : DT} (ht : JT X S t dt) (ha : JE X S a da) (hb : JE X S b db) : JE X S (.IfExp t a b pos) (dIfE dt da db) := by
  obtain ⟨tt, h1, h2⟩ := ht
  obtain ⟨ta, ha1, ha2⟩ := ha
  obtain ⟨tb, hb1, hb2⟩ := hb
  exact ⟨_, pe_ifExp h1 ha1 hb1, fun b I0 H0 c δ P nb ok p => ev_if (A := fun k => if k = true then da c δ P else db c δ P) (h2 b I0 H0 c δ _ nb ok p) (fun hA => ha2 b I0 H0 c δ _ nb ok hA) fun hA => hb2 b I0 H0 c δ _ nb ok hA⟩
/-! ### arguments, displays -/
def dNil : DA := fun _ _ P => P []
def dCons (de : DE) (da : DA) : DA := fun c δ P => de c δ fun r => da c δ fun rs => P (fz r :: rs)
theorem ca_nil {K : PySem.W.Frag} : CA K S 0 tNil dNil := fun b I0 H0 c δ P nb ok p => ea_nil.mono fun _ e => by
  subst e
  exact ⟨rfl, p⟩
theorem ca_cons {K : PySem.W.Frag} {m : Nat} {te : TE} {ta : TA} {da : DA} (h : CE K S te de) (h' : CA K S m ta da) : CA K S (m + 1) (tCons te ta) (dCons de da) := fun b I0 H0 c δ P nb ok p =>
  ea_consC (Pa := fun r => da c δ fun rs => P (r :: rs)) (ev_fz (h b I0 H0 c δ _ nb ok p)) fun r hr => (h' b I0 H0 c δ _ nb ok hr).mono fun rs ⟨l, p⟩ => ⟨congrArg Nat.succ l, p⟩
theorem ja_nil : JA X S [] dNil := ⟨_, pa_nil, ca_nil⟩
theorem ja_cons {es : List Expr} {da : DA} (h : JE X S e de) (h' : JA X S es da) (hs : starEach (e :: es) X.env = (false, eval e X.env) :: starEach es X.env := by rfl) : JA X S (e :: es) (dCons de da) := by
  obtain ⟨t, h1, h2⟩ := h
  obtain ⟨u, h3, h4⟩ := h'
  exact ⟨_, pa_cons h1 h3 hs, ca_cons h2 h4⟩
theorem jk_nil : JK X S [] dNil := ⟨_, pk_nil, ca_nil⟩
theorem jk_cons {nm : Option Str} {kpos : Pos} {ks : List Keyword} {da : DA} (h : JE X S e de) (h' : JK X S ks da) : JK X S (⟨nm, e, kpos⟩ :: ks) (dCons de da) := by
  obtain ⟨t, h1, h2⟩ := h
  obtain ⟨u, h3, h4⟩ := h'
  exact ⟨_, pk_cons h1 h3, ca_cons h2 h4⟩
/-- plain data, all of them -/
def dats : List DV → Option (List PyData)
  | [] => some []
  | .dat d :: rs => match dats rs with
    | some ds => some (d :: ds)
    | none => none
  | _ :: _ => none
theorem dats_ok : ∀ {rs : List DV} {ds : List PyData}, dats rs = some ds → rs = ds.map .dat
  | [], ds, h => by
    cases h
    rfl
  | .dat d :: rs, ds, h => by
    unfold dats at h
    cases q : dats rs with
    | none => rw [q] at h; cases h
    | some es =>
      rw [q] at h
      cases h
      rw [dats_ok q]
      rfl
  | .own _ :: _, _, h => by cases h
  | .bor _ :: _, _, h => by cases h
  | .raw _ :: _, _, h => by cases h
  | .bag :: _, _, h => by cases h
  | .dct _ _ :: _, _, h => by cases h
def dTup (da : DA) : DE := fun c δ P => da c δ fun rs => match dats rs with
  | some ds => P (.dat (.tuple ds))
  | none => False
def dLst (da : DA) : DE := fun c δ P => da c δ fun rs => match dats rs with
  | some ds => P (.own ds)
  | none => False
theorem dats_ev {K : PySem.W.Frag} {b : Bg} {I0 H0 : Hp} {δ : En} {ta : TA} {m : Nat} {A : List PyData → Prop} (hl : m ≤ 100000) (h : EvA K b I0 H0 ta δ (fun rs => rs.length = m ∧ match dats rs with
  | some ds => A ds
  | none => False)) : EvA K b I0 H0 ta δ (fun rs => ∃ ds, rs = ds.map .dat ∧ ds.length ≤ 100000 ∧ A ds) := h.mono fun rs ⟨l, p⟩ => by
  cases q : dats rs with
  | none => rw [q] at p; exact p.elim
  | some ds =>
    rw [q] at p
    have e := dats_ok q
    refine ⟨ds, e, ?_, p⟩
    rw [e, List.length_map] at l
    omega
theorem je_tup {es : List Expr} {da : DA} {x1} (h : JA X S es da) (hl : es.length ≤ 100000 := by decide) : JE X S (.Tuple es x1 pos) (dTup da) := by
  obtain ⟨t, h1, h2⟩ := h
  exact ⟨_, TF.pe_tupF h1, fun b I0 H0 c δ P nb ok p => (ev_tup (A := fun ds => P (.dat (.tuple ds))) (dats_ev hl (h2 b I0 H0 c δ _ nb ok p))).mono fun r ⟨ds, e, q⟩ => e ▸ q⟩
theorem je_lst {es : List Expr} {da : DA} (h : JA X S es da) (hl : es.length ≤ 100000 := by decide) : JE X S (.List es pos) (dLst da) := by
  obtain ⟨t, h1, h2⟩ := h
  exact ⟨_, pe_lst h1, fun b I0 H0 c δ P nb ok p => (ev_lst (A := fun ds => P (.own ds)) (dats_ev hl (h2 b I0 H0 c δ _ nb ok p))).mono fun r ⟨ds, e, q⟩ => e ▸ q⟩
/-! ### slices -/
def dNone : DO := fun _ _ P => P none
def dSome (de : DE) : DO := fun c δ P => de c δ fun r => match r with
  | .dat (.int i) => P (some i)
  | _ => False
theorem jo_none : JO X S none dNone := ⟨_, po_none, fun b I0 H0 c δ P nb ok p => fun σ I H e n Q q => q none I H p e.re⟩
theorem jo_some (h : JE X S e de) : JO X S (some e) (dSome de) := by
  obtain ⟨t, h1, h2⟩ := h
  refine ⟨_, po_some h1, fun b I0 H0 c δ P nb ok p => fun σ I H e n Q q => ?_⟩
  refine h2 b I0 H0 c δ _ nb ok p σ I H e n _ fun r v I' H' hr x rs => ?_
  split at hr
  · rename_i i
    exact ⟨i, int_read rs, q _ I' H' hr x⟩
  · exact hr.elim
def oCut (lo hi : Option Int) : DV → DP → Prop
  | .dat (.tuple ds), P => P (.dat (.tuple (cutD ds lo hi)))
  | .dat (.list ds), P => P (.own (cutD ds lo hi))
  | .bor ds, P => P (.own (cutD ds lo hi))
  | .dat (.str z), P => z.length ≤ 100000 ∧ P (.dat (.str (cutS z lo hi)))
  | _, _ => False
def dSl (de : DE) (dl dh : DO) : DE := fun c δ P => de c δ fun r => dl c δ fun lo => dh c δ fun hi => oCut lo hi (fz r) P
theorem je_sl {lo hi : Option Expr} {dl dh : DO} {p2 : Pos} (h : JE X S e de) (hl : JO X S lo dl) (hh : JO X S hi dh) : JE X S (.Subscript e (.Slice lo hi none p2) pos) (dSl de dl dh) := by
  obtain ⟨te, h1, h2⟩ := h
  obtain ⟨tl, l1, l2⟩ := hl
  obtain ⟨th, g1, g2⟩ := hh
  refine ⟨_, pe_slice (TF.sl_tupF.or (sl_list.or sl_str)) h1 l1 g1, fun b I0 H0 c δ P nb ok p => fun σ I H e n Q q => ?_⟩
  refine ev_fz (Q := fun r => dl c δ fun lo => dh c δ fun hi => oCut lo hi r P) (h2 b I0 H0 c δ _ nb ok p) σ I H e n _ fun r v I1 H1 p1 x rs => ?_
  refine l2 b I0 H0 c δ _ nb ok p1 σ I1 H1 (e.trans x) (n.ext x) _ fun lo I2 H2 pl x2 => ?_
  refine g2 b I0 H0 c δ _ nb ok pl σ I2 H2 (e.trans (x.trans x2)) (n.ext (x.trans x2)) _ fun hi I3 H3 ph x3 => ?_
  have rs3 := (rs.ext x2).ext x3
  have x13 := (x.trans x2).trans x3
  have lst : ∀ ds, LstR r ds → P (.own (cutD ds lo hi)) → rSlL X.K v lo hi H3 Q := fun ds hr hp => by
    obtain ⟨p, xs, rfl, hs, hd⟩ := hr.read x3.s rs3
    exact ⟨p, xs, rfl, hs, fun c nc => q _ _ _ _ hp (x13.trans (x3.ok.newH nc)) ⟨c, _, rfl, x13.free (fr_none nc), x3.ok.inone nc, x3.ok.nb nc, upd_same, dpa_cut lo hi hd⟩⟩
  unfold oCut at ph
  split at ph
  · rename_i ds
    obtain ⟨a, xs, ev, hs, hd⟩ := tup_read x3.s rs3
    subst ev
    refine .inl ⟨a, xs, rfl, hs, fun z => ?_, fun _ => newT_res x3.ok (dpa_cut lo hi hd) fun v I' H' x4 d => q _ v I' H' ph (x13.trans x4) d⟩
    rw [dpa_len hd] at z
    rw [cutD_whole z] at ph
    exact q _ _ I3 H3 ph x13 rs3
  · exact .inr (.inl (lst _ (.inr (.inr rfl)) ph))
  · exact .inr (.inl (lst _ (.inr (.inl rfl)) ph))
  · obtain ⟨hz, ph⟩ := ph
    rw [str_read rs3]
    exact .inr (.inr ⟨_, rfl, Nat.le_trans hz (by decide : 100000 ≤ sizeLine), q _ _ I3 H3 ph x13 (Dp.str _)⟩)
  · exact ph.elim
end
end DW

set_option Elab.async false
set_option linter.all false
set_option maxRecDepth 100000
set_option maxHeartbeats 4000000
namespace DW
open PySem PySem.Spec PyProof.Rows L2 RZ DL
/-! ### operations on worths -/
theorem opr_or {X : Cx} {f : Value → Value → Sem Value} {r r' : R2} (h : OpR X f r) (h' : OpR X f r') : OpR X f (fun x y H Q => r x y H Q ∨ r' x y H Q) := fun pins s σ H x y v u Q I rx ry q => q.elim (h pins s σ H x y v u Q I rx ry) (h' pins s σ H x y v u Q I rx ry)
theorem cbr_or {X : Cx} {f : Value} {r r' : List V → Hp → VK → Prop} (h : CallR X f r) (h' : CallR X f r') : CallR X f (fun x H Q => r x H Q ∨ r' x H Q) := fun pins s σ H x v Q I rx q => q.elim (h pins s σ H x v Q I rx) (h' pins s σ H x v Q I rx)
/-- plain data, or a list as it stands -/
def toD : DV → Option PyData
  | .dat d => some d
  | .own ds => some (.list ds)
  | .bor ds => some (.list ds)
  | _ => none
theorem toD_ok {K : PySem.W.Frag} {b : Bg} {H0 I H : Hp} {v : V} {r : DV} {d : PyData} (s : Same I H) (e : toD r = some d) (h : Res K b H0 I H v r) : Dp K H v d := by
  cases r with
  | dat x =>
    cases e
    exact dp_mono s h
  | own ds =>
    cases e
    obtain ⟨a, xs, rfl, _, _, _, ha, hd⟩ := h
    exact .lst (.inl (.inl ha)) (dpa_mono s hd)
  | bor ds =>
    cases e
    obtain ⟨a, xs, rfl, ha, _, _, hd⟩ := h
    exact .lst (.inl (.inl ha)) (dpa_mono s hd)
  | raw u => cases e
  | bag => cases e
  | dct _ _ => cases e
/-! dicts as data -/
def keyT (d : PyData) : Option NestedKey := match d with
  | .tuple ds => match DK.keyOf (.tuple ds) with
    | some k => if k.depth ≤ 8 then some k else none
    | none => none
  | _ => none
def lkD (kvs : List (PyData × PyData)) (k : NestedKey) : Option PyData := (kvs.find? fun kv => decide (DK.keyOf kv.1 = some k)).map (·.2)
def putD (kvs : List (PyData × PyData)) (d : PyData) (k : NestedKey) (v : PyData) : List (PyData × PyData) := if (lkD kvs k).isSome = true then kvs.map (fun kv => if DK.keyOf kv.1 = some k then (kv.1, v) else kv) else kvs ++ [(d, v)]
theorem keyT_ok {d : PyData} {k : NestedKey} (h : keyT d = some k) : DK.keyOf d = some k ∧ k.depth ≤ 8 ∧ ∃ ds, d = .tuple ds := by
  unfold keyT at h
  split at h
  · split at h
    · rename_i k' e
      split at h
      · cases h
        exact ⟨e, by assumption, _, rfl⟩
      · cases h
    · cases h
  · cases h
theorem keyV_of {K : PySem.W.Frag} {I H : Hp} {v : V} {d : PyData} {k : NestedKey} (s : Same I H) (h : keyT d = some k) (hd : Dp K I v d) : ∃ b, DK.KeyV K H v b k := by
  obtain ⟨h1, h2, ds, rfl⟩ := keyT_ok h
  have hd' := dp_mono s hd
  cases hd with
  | @tup a xs _ hs ha => exact ⟨a, rfl, h2, _, h1, hd'⟩
theorem keys_ok {K : PySem.W.Frag} {I H : Hp} (s : Same I H) : ∀ {es : List DK.Ent} {kvs : List (PyData × PyData)}, DctR K I es kvs → DK.KeysOk K H es
  | _, _, .nil => fun _ h => by cases h
  | _, _, .cons h t => fun e he => by
    rcases List.mem_cons.mp he with z | z
    · rw [z]; exact ⟨_, h.1, dp_mono s h.2.1⟩
    · exact keys_ok s t e z
theorem lk_rel {K : PySem.W.Frag} {I : Hp} (k : NestedKey) : ∀ {es : List DK.Ent} {kvs : List (PyData × PyData)}, DctR K I es kvs → (lkD kvs k = none ∧ DK.atE es k = none) ∨ ∃ v d, lkD kvs k = some d ∧ DK.atE es k = some v ∧ Dp K I v d
  | _, _, .nil => .inl ⟨rfl, rfl⟩
  | _, _, .cons (a := e) (b := kv) h t => by
    unfold lkD DK.atE
    by_cases z : e.1 = k
    · refine .inr ⟨e.2.2, kv.2, ?_, ?_, h.2.2⟩
      · rw [List.find?_cons_of_pos (by rw [h.1, z]; simp)]; rfl
      · rw [List.find?_cons_of_pos (by simpa using z)]; rfl
    · rw [List.find?_cons_of_neg (by rw [h.1]; simpa using z), List.find?_cons_of_neg (by simpa using z)]
      exact lk_rel k t
theorem lk_some {K : PySem.W.Frag} {I : Hp} (k : NestedKey) {es : List DK.Ent} {kvs : List (PyData × PyData)} (r : DctR K I es kvs) : (DK.atE es k).isSome = (lkD kvs k).isSome := by
  rcases lk_rel k r with ⟨h1, h2⟩ | ⟨x, y, h1, h2, _⟩ <;> rw [h1, h2] <;> rfl
theorem put_rel {K : PySem.W.Frag} {I : Hp} {es : List DK.Ent} {kvs : List (PyData × PyData)} {k : NestedKey} {b : Addr} {v : V} {d dv : PyData} (r : DctR K I es kvs) (hk : DK.keyOf d = some k) (hb : Dp K I (.ref b) d) (hv : Dp K I v dv) : DctR K I (DK.putE es k b v) (putD kvs d k dv) := by
  have e : (DK.atE es k).isSome = (lkD kvs k).isSome := by
    rcases lk_rel k r with ⟨h1, h2⟩ | ⟨x, y, h1, h2, _⟩ <;> rw [h1, h2] <;> rfl
  unfold DK.putE putD
  rw [e]
  split
  · clear e
    rename_i zz
    clear zz
    induction r with
    | nil => exact .nil
    | @cons p q ps qs h t ih =>
      rw [List.map_cons, List.map_cons]
      refine .cons ?_ ih
      by_cases z : p.1 = k
      · rw [if_pos z, if_pos (by rw [h.1, z])]
        exact ⟨h.1, h.2.1, hv⟩
      · rw [if_neg z, if_neg (by rw [h.1]; simpa using z)]
        exact h
  · exact DK.paired_app r (.cons ⟨hk, hb, hv⟩ .nil)
theorem dct_refs {K : PySem.W.Frag} {I : Hp} : ∀ {es : List DK.Ent} {kvs : List (PyData × PyData)}, DctR K I es kvs → DpAll K I (es.map fun e => V.ref e.2.1) (kvs.map (·.1))
  | _, _, .nil => .nil
  | _, _, .cons h t => .cons h.2.1 (dct_refs t)
theorem ixr_or {X : Cx} {r r' : R2} (h : IxR X r) (h' : IxR X r') : IxR X (fun x y H Q => r x y H Q ∨ r' x y H Q) := fun v sl pins s σ H x y u w Q I rx ry q hs => q.elim (fun q => h v sl pins s σ H x y u w Q I rx ry q hs) fun q => h' v sl pins s σ H x y u w Q I rx ry q hs
theorem pset_or {X : Cx} {r r' : V → V → V → Hp → (Hp → Prop) → Prop} (h : PSet X r) (h' : PSet X r') : PSet X (fun o i v H Q => r o i v H Q ∨ r' o i v H Q) := by
  intro pins s σ H o i v ov iv u Q I ro ri rv q
  exact q.elim (h pins s σ H o i v ov iv u Q I ro ri rv) (h' pins s σ H o i v ov iv u Q I ro ri rv)
def oAdd : DV → DV → DP → Prop
  | .dat (.int i), .dat (.int j), P => P (dint (i + j))
  | .dat (.tuple xs), .dat (.tuple ys), P => xs.length + ys.length ≤ 100000 ∧ P (.dat (.tuple (xs ++ ys)))
  | .dat (.str s), .dat (.str t), P => s.length + t.length ≤ 100000 ∧ P (.dat (.str (s ++ t)))
  | .dat (.list xs), .dat (.list ys), P => xs.length + ys.length ≤ 100000 ∧ P (.own (xs ++ ys))
  | .bor xs, .dat (.list ys), P => xs.length + ys.length ≤ 100000 ∧ P (.own (xs ++ ys))
  | .dat (.list xs), .bor ys, P => xs.length + ys.length ≤ 100000 ∧ P (.own (xs ++ ys))
  | .bor xs, .bor ys, P => xs.length + ys.length ≤ 100000 ∧ P (.own (xs ++ ys))
  | _, _, _ => False
def oSub : DV → DV → DP → Prop
  | .dat (.int i), .dat (.int j), P => P (dint (i - j))
  | _, _, _ => False
def oMul : DV → DV → DP → Prop
  | .dat (.int i), .dat (.int j), P => (CMul i j ∨ CMulW i j) ∧ P (dint (i * j))
  | .dat (.tuple xs), .dat (.int k), P => (xs ≠ [] ∧ xs.length ≤ 1000 ∧ -1000 ≤ k ∧ k ≤ 1000) ∧ P (.dat (.tuple (List.replicate k.toNat xs).flatten))
  | .dat (.list xs), .dat (.int k), P => (-1000000 ≤ k ∧ k ≤ 1000000 ∧ xs.length * k.toNat ≤ 100000) ∧ P (.own (List.replicate k.toNat xs).flatten)
  | .bor xs, .dat (.int k), P => (-1000000 ≤ k ∧ k ≤ 1000000 ∧ xs.length * k.toNat ≤ 100000) ∧ P (.own (List.replicate k.toNat xs).flatten)
  | _, _, _ => False
def oMod : DV → DV → DP → Prop
  | .dat (.int i), .dat (.int j), P => 0 < j ∧ P (dint (i % j))
  | _, _, _ => False
def oDiv : DV → DV → DP → Prop
  | .dat (.int i), .dat (.int j), P => (0 < j ∧ j.natAbs.log2 < 9000) ∧ P (dint (i / j))
  | _, _, _ => False
def CPowG (i j : Int) : Prop := 0 ≤ j ∧ (Builtin.Int.intBits i : Int) * j ≤ 2 ^ 27
theorem op_powG {X : Cx} : OpR X (binaryOp .Pow) (rI CPowG fun i j => .int (i ^ j.toNat)) := opI fun _ _ _ _ _ _ _ hc q => pow_int hc.1 hc.2 q
def oPow : DV → DV → DP → Prop
  | .dat (.int i), .dat (.int j), P => (CPow i j ∨ CPowG i j) ∧ P (dint (i ^ j.toNat))
  | _, _, _ => False
def oCmp (g : Int → Int → Bool) : DV → DV → DP → Prop
  | .dat (.int i), .dat (.int j), P => P (dbl (g i j))
  | _, _, _ => False
abbrev oLt := oCmp fun i j => decide (i < j)
abbrev oLe := oCmp fun i j => decide (i ≤ j)
abbrev oGt := oCmp fun i j => decide (j < i)
abbrev oGe := oCmp fun i j => decide (j ≤ i)
def oEq (neg : Bool) (x y : DV) (P : DP) : Prop := match toD x, toD y with
  | some d, some e => (SeqAt.shaped d = true ∧ SeqAt.shaped e = true) ∧ P (dbl (if neg then !PyData.eqv d e else PyData.eqv d e))
  | _, _ => False
def oIsN (neg : Bool) (x y : DV) (P : DP) : Prop := match x, y with
  | .dat d, .dat .none => P (dbl (if neg then !decide (tyN d = "NoneType") else decide (tyN d = "NoneType")))
  | .dat (.bool a), .dat (.bool c) => P (dbl (if neg then a != c else a == c))
  | _, _ => False
theorem op_isB {X : Cx} : OpR X (compareOp .Is) (fun x y H Q => ∃ a c, x = .bl a ∧ y = .bl c ∧ Q (.bl (a == c)) H) := by
  intro pins s σ H x y v u Q I rx ry h
  obtain ⟨a, c, rfl, rfl, q⟩ := h
  cases rx
  cases ry
  exact is_bool (fin_bl I q rfl)
theorem op_notB {X : Cx} : OpR X (compareOp .IsNot) (fun x y H Q => ∃ a c, x = .bl a ∧ y = .bl c ∧ Q (.bl (a != c)) H) := by
  intro pins s σ H x y v u Q I rx ry h
  obtain ⟨a, c, rfl, rfl, q⟩ := h
  cases rx
  cases ry
  exact isnot_bool (fin_bl I q rfl)
/-- flat data -/
def flD : PyData → Bool
  | .list _ => false
  | .tuple _ => false
  | .dict _ => false
  | _ => true
def seqD : DV → Option (List PyData)
  | .dat (.list ds) => some ds
  | .dat (.tuple ds) => some ds
  | .bor ds => some ds
  | .own ds => some ds
  | _ => none
/-- x in a list or tuple of flat things, in a list of any, in a text -/
def oIn (neg : Bool) (x y : DV) (P : DP) : Prop := match x with
  | .dat d => match seqD y with
    | some ds => ((flD d = true ∧ ds.all flD = true) ∨ (SeqAt.shaped d = true ∧ SeqAt.shaped (.list ds) = true ∧ ∃ e, toD y = some (.list e))) ∧ P (dbl (if neg then !ds.any fun z => PyData.eqv z d else ds.any fun z => PyData.eqv z d))
    | none => match d, y with
      | .str x, .dat (.str z) => match x.cps.toList with
        | [k] => P (dbl (if neg then !decide (k ∈ z.cps.toList) else decide (k ∈ z.cps.toList)))
        | _ => False
      | .tuple ds, .dct _ kvs => match keyT (.tuple ds) with
        | some k => P (dbl (if neg then !(lkD kvs k).isSome else (lkD kvs k).isSome))
        | none => False
      | _, _ => False
  | _ => False
section
variable {X : Cx}
theorem jo_I0 {f : Value → Value → Sem Value} {g : Int → Int → Int} {o : DV → DV → DP → Prop} (h : OpR X f (rI0 fun i j => .int (g i j))) (ho : ∀ x y P, o x y P → ∃ i j, x = dint i ∧ y = dint j ∧ P (dint (g i j))) : JOp X f o := ⟨_, h, fun b x y P p => by
  obtain ⟨i, j, rfl, rfl, p'⟩ := ho x y P p
  intro H0 I H v w k r1 r2 Q q
  exact ⟨i, j, int_read r1, int_read r2, q _ _ I H p' k.re (Dp.int _)⟩⟩
theorem jo_cmp {f : Value → Value → Sem Value} {g : Int → Int → Bool} (h : OpR X f (rI0 fun i j => .bl (g i j))) : JOp X f (oCmp g) := ⟨_, h, fun b x y P p => by
  unfold oCmp at p
  split at p
  · intro H0 I H v w k r1 r2 Q q
    exact ⟨_, _, int_read r1, int_read r2, q _ _ I H p k.re (Dp.bl _)⟩
  · exact p.elim⟩
theorem jo_lt : JOp X (compareOp .Lt) oLt := jo_cmp op_lt
theorem jo_le : JOp X (compareOp .LtE) oLe := jo_cmp op_le
theorem jo_gt : JOp X (compareOp .Gt) oGt := jo_cmp op_gt
theorem jo_ge : JOp X (compareOp .GtE) oGe := jo_cmp op_ge
theorem jo_sub : JOp X (binaryOp .Sub) oSub := jo_I0 op_sub fun x y P p => by
  unfold oSub at p
  split at p
  · exact ⟨_, _, rfl, rfl, p⟩
  · exact p.elim
theorem lst_of {K : PySem.W.Frag} {b : Bg} {I H H1 : Hp} {r : DV} {v : V} {ds : List PyData} (kl : KL K) (k : Ok K b I H) (e : r = .bor ds ∨ r = .dat (.list ds)) (h : Res K b H1 I H v r) : ∃ a xs, v = .ref a ∧ H a = some (.lst xs) ∧ DpAll K I xs ds :=
  LstR.lst kl k (.inr e) h
theorem cat_lst {b : Bg} {x y : DV} {P : DP} {xs ys : List PyData} (kl : KL X.K) (ex : x = .bor xs ∨ x = .dat (.list xs)) (ey : y = .bor ys ∨ y = .dat (.list ys)) (hl : xs.length + ys.length ≤ 100000) (p : P (.own (xs ++ ys))) : OpD X.K b rCat x y P := fun H0 I H v w k r1 r2 Q q => by
  obtain ⟨a, us, rfl, ha, hd⟩ := lst_of kl k ex r1
  obtain ⟨c, ws, rfl, hc, he⟩ := lst_of kl k ey r2
  have l1 := dpa_len hd
  have l2 := dpa_len he
  exact ⟨a, c, us, ws, rfl, rfl, ha, hc, Nat.le_trans (by omega) (by decide : 100000 ≤ sizeLine), fun n hn => q _ _ _ _ p (k.newH hn) ⟨n, _, rfl, fr_none hn, k.inone hn, k.nb hn, upd_same, dpa_app hd he⟩⟩
theorem jo_add (kl : KL X.K) : JOp X (binaryOp .Add) oAdd := ⟨_, opr_or op_add (opr_or TF.op_catF (opr_or op_cat op_add_str)), fun b x y P p => by
  unfold oAdd at p
  split at p
  · intro H0 I H v w k r1 r2 Q q
    exact .inl ⟨_, _, int_read r1, int_read r2, q _ _ I H p k.re (Dp.int _)⟩
  · intro H0 I H v w k r1 r2 Q q
    exact .inr (.inl (od_cat p.1 H0 I H v w k r1 r2 Q fun z u I' H' e => q z u I' H' (e ▸ p.2)))
  · intro H0 I H v w k r1 r2 Q q
    exact .inr (.inr (.inr ⟨_, _, str_read r1, str_read r2, Nat.le_trans p.1 (by decide : 100000 ≤ sizeLine), q _ _ I H p.2 k.re (Dp.str _)⟩))
  · exact fun H0 I H v w k r1 r2 Q q => .inr (.inr (.inl (cat_lst kl (.inr rfl) (.inr rfl) p.1 p.2 H0 I H v w k r1 r2 Q q)))
  · exact fun H0 I H v w k r1 r2 Q q => .inr (.inr (.inl (cat_lst kl (.inl rfl) (.inr rfl) p.1 p.2 H0 I H v w k r1 r2 Q q)))
  · exact fun H0 I H v w k r1 r2 Q q => .inr (.inr (.inl (cat_lst kl (.inr rfl) (.inl rfl) p.1 p.2 H0 I H v w k r1 r2 Q q)))
  · exact fun H0 I H v w k r1 r2 Q q => .inr (.inr (.inl (cat_lst kl (.inl rfl) (.inl rfl) p.1 p.2 H0 I H v w k r1 r2 Q q)))
  · exact p.elim⟩
theorem rep_lst {b : Bg} {x : DV} {P : DP} {xs : List PyData} {n : Int} (kl : KL X.K) (ex : x = .bor xs ∨ x = .dat (.list xs)) (h : -1000000 ≤ n ∧ n ≤ 1000000 ∧ xs.length * n.toNat ≤ 100000) (p : P (.own (List.replicate n.toNat xs).flatten)) : OpD X.K b rRep x (dint n) P := fun H0 I H v w k r1 r2 Q q => by
  obtain ⟨a, us, rfl, ha, hd⟩ := lst_of kl k ex r1
  have l1 := dpa_len hd
  refine ⟨a, n, us, rfl, int_read r2, ha, by omega, by omega, Nat.le_trans (by rw [l1]; exact h.2.2) (by decide : 100000 ≤ sizeLine), fun c hc => q _ _ _ _ p (k.newH hc) ⟨c, _, rfl, fr_none hc, k.inone hc, k.nb hc, upd_same, dpa_rep hd _⟩⟩
theorem jo_mul (kl : KL X.K) : JOp X (binaryOp .Mult) oMul := ⟨_, opr_or op_mul (opr_or op_mulW (opr_or TF.op_repF op_rep)), fun b x y P p => by
  unfold oMul at p
  split at p
  · intro H0 I H v w k r1 r2 Q q
    rcases p with ⟨p | p, pp⟩
    · exact .inl ⟨_, _, int_read r1, int_read r2, p, q _ _ I H pp k.re (Dp.int _)⟩
    · exact .inr (.inl ⟨_, _, int_read r1, int_read r2, p, q _ _ I H pp k.re (Dp.int _)⟩)
  · intro H0 I H v w k r1 r2 Q q
    exact .inr (.inr (.inl (od_rep p.1.1 p.1.2.1 p.1.2.2.1 p.1.2.2.2 H0 I H v w k r1 r2 Q fun z u I' H' e => q z u I' H' (e ▸ p.2))))
  · exact fun H0 I H v w k r1 r2 Q q => .inr (.inr (.inr (rep_lst kl (.inr rfl) p.1 p.2 H0 I H v w k r1 r2 Q q)))
  · exact fun H0 I H v w k r1 r2 Q q => .inr (.inr (.inr (rep_lst kl (.inl rfl) p.1 p.2 H0 I H v w k r1 r2 Q q)))
  · exact p.elim⟩
theorem jo_mod : JOp X (binaryOp .Mod) oMod := ⟨_, op_mod, fun b x y P p => by
  unfold oMod at p
  split at p
  · intro H0 I H v w k r1 r2 Q q
    exact ⟨_, _, int_read r1, int_read r2, p.1, q _ _ I H p.2 k.re (Dp.int _)⟩
  · exact p.elim⟩
theorem jo_div : JOp X (binaryOp .FloorDiv) oDiv := ⟨_, op_fdivW, fun b x y P p => by
  unfold oDiv at p
  split at p
  · intro H0 I H v w k r1 r2 Q q
    exact ⟨_, _, int_read r1, int_read r2, p.1, q _ _ I H p.2 k.re (Dp.int _)⟩
  · exact p.elim⟩
theorem jo_pow : JOp X (binaryOp .Pow) oPow := ⟨_, opr_or op_pow op_powG, fun b x y P p => by
  unfold oPow at p
  split at p
  · intro H0 I H v w k r1 r2 Q q
    rcases p with ⟨p | p, pp⟩
    · exact .inl ⟨_, _, int_read r1, int_read r2, p, q _ _ I H pp k.re (Dp.int _)⟩
    · exact .inr ⟨_, _, int_read r1, int_read r2, p, q _ _ I H pp k.re (Dp.int _)⟩
  · exact p.elim⟩
theorem jo_eq (hu : X.A.units + 64 < cLine) : JOp X (compareOp .Eq) (oEq false) := ⟨_, op_eqD hu, fun b x y P p => by
  unfold oEq at p
  split at p
  · rename_i d e ex ey
    intro H0 I H v w k r1 r2 Q q
    exact ⟨d, e, toD_ok k.s ex r1, toD_ok k.s ey r2, p.1.1, p.1.2, q _ _ I H p.2 k.re (Dp.bl _)⟩
  · exact p.elim⟩
theorem jo_ne (hu : X.A.units + 64 < cLine) : JOp X (compareOp .NotEq) (oEq true) := ⟨_, op_neD hu, fun b x y P p => by
  unfold oEq at p
  split at p
  · rename_i d e ex ey
    intro H0 I H v w k r1 r2 Q q
    exact ⟨d, e, toD_ok k.s ex r1, toD_ok k.s ey r2, p.1.1, p.1.2, q _ _ I H p.2 k.re (Dp.bl _)⟩
  · exact p.elim⟩
theorem jo_isN : JOp X (compareOp .Is) (oIsN false) := ⟨_, opr_or op_isN op_isB, fun b x y P p => by
  unfold oIsN at p
  split at p
  · intro H0 I H v w k r1 r2 Q q
    refine .inl ⟨non_read r2, q _ _ I H p k.re ?_⟩
    rw [dp_isN r1]
    exact Dp.bl _
  · intro H0 I H v w k r1 r2 Q q
    exact .inr ⟨_, _, bl_read r1, bl_read r2, q _ _ I H p k.re (Dp.bl _)⟩
  · exact p.elim⟩
theorem jo_notN : JOp X (compareOp .IsNot) (oIsN true) := ⟨_, opr_or op_notN op_notB, fun b x y P p => by
  unfold oIsN at p
  split at p
  · intro H0 I H v w k r1 r2 Q q
    refine .inl ⟨non_read r2, q _ _ I H p k.re ?_⟩
    rw [dp_isN r1]
    exact Dp.bl _
  · intro H0 I H v w k r1 r2 Q q
    exact .inr ⟨_, _, bl_read r1, bl_read r2, q _ _ I H p k.re (Dp.bl _)⟩
  · exact p.elim⟩
theorem dp_flat {K : PySem.W.Frag} {I : Hp} {v : V} {d : PyData} (h : Dp K I v d) (f : flD d = true) : flatV v = true := by
  cases h with
  | non => rfl
  | bl _ => rfl
  | int _ => rfl
  | str _ => rfl
  | lst _ _ => cases f
  | tup _ _ => cases f
theorem dpa_flat {K : PySem.W.Frag} {I : Hp} : ∀ {vs : List V} {ds : List PyData}, DpAll K I vs ds → ds.all flD = true → vs.all flatV = true
  | _, _, .nil, _ => rfl
  | _, _, .cons q r, f => by
    rw [List.all_cons] at f ⊢
    obtain ⟨f1, f2⟩ := Bool.and_eq_true_iff.mp f
    rw [dp_flat q f1, dpa_flat r f2]
    rfl
theorem dp_eqV {K : PySem.W.Frag} {I : Hp} {v w : V} {d e : PyData} (h : Dp K I v d) (h' : Dp K I w e) (f : flD d = true) (f' : flD e = true) : eqV v w = PyData.eqv d e := by
  cases h <;> cases h' <;> first | rfl | cases f | cases f' | skip
  all_goals (try (rename_i a c; simp [eqV, PyData.eqv]; done))
theorem dpa_inV {K : PySem.W.Frag} {I : Hp} {v : V} {d : PyData} (h : Dp K I v d) (f : flD d = true) : ∀ {vs : List V} {ds : List PyData}, DpAll K I vs ds → ds.all flD = true → inV v vs = ds.any fun z => PyData.eqv z d
  | _, _, .nil, _ => rfl
  | _, _, .cons q r, g => by
    rw [List.all_cons] at g
    obtain ⟨g1, g2⟩ := Bool.and_eq_true_iff.mp g
    have ih := dpa_inV h f r g2
    unfold inV at ih ⊢
    rw [List.any_cons, List.any_cons, ih, dp_eqV q h g1 f]
theorem seqD_ok {K : PySem.W.Frag} {b : Bg} {H0 I H : Hp} {v : V} {r : DV} {ds : List PyData} (s : Same I H) (e : seqD r = some ds) (h : Res K b H0 I H v r) : ∃ a xs, v = .ref a ∧ (SqL K H a xs ∨ SqT K H a xs) ∧ DpAll K I xs ds := by
  unfold seqD at e
  split at e
  · cases e
    obtain ⟨a, xs, e1, hs, hd⟩ := LstR.read s (.inr (.inr rfl)) h
    exact ⟨a, xs, e1, .inl hs, hd⟩
  · cases e
    obtain ⟨a, xs, e1, hs, hd⟩ := tup_read s h
    exact ⟨a, xs, e1, .inr hs, hd⟩
  · cases e
    obtain ⟨a, xs, e1, hs, hd⟩ := LstR.read s (.inr (.inl rfl)) h
    exact ⟨a, xs, e1, .inl hs, hd⟩
  · cases e
    obtain ⟨a, xs, e1, hs, hd⟩ := LstR.read s (.inl rfl) h
    exact ⟨a, xs, e1, .inl hs, hd⟩
  · cases e
theorem toD_seq {y : DV} {ds e : List PyData} (h1 : seqD y = some ds) (h2 : toD y = some (.list e)) : e = ds := by
  cases y with
  | dat d => cases h2; cases h1; rfl
  | own xs => cases h2; cases h1; rfl
  | bor xs => cases h2; cases h1; rfl
  | raw _ => cases h2
  | bag => cases h2
  | dct _ _ => cases h2
theorem str_one {x : Str} {k : Nat} (h : x.cps.toList = [k]) : x = ⟨#[k]⟩ := by
  obtain ⟨a⟩ := x
  congr 1
  exact Array.toList_inj.mp h
theorem jo_in (hu : X.A.units + 65 < cLine) : JOp X (compareOp .In) (oIn false) := ⟨_, opr_or (opr_or op_in_seq (opr_or (op_inD hu) op_in_sign)) (DK.op_din (by omega)), fun b x y P p => by
  unfold oIn at p
  split at p
  · rename_i d
    split at p
    · rename_i ds ey
      obtain ⟨f, p⟩ := p
      intro H0 I H v w k r1 r2 Q q
      rcases f with ⟨f1, f2⟩ | ⟨s1, s2, e, he⟩
      · obtain ⟨a, xs, rfl, hs, hd⟩ := seqD_ok k.s ey r2
        refine .inl (.inl ⟨a, xs, rfl, hs, dp_flat r1 f1, dpa_flat hd f2, q _ _ I H p k.re ?_⟩)
        rw [dpa_inV r1 f1 hd f2]
        exact Dp.bl _
      · have := toD_seq ey he
        subst this
        exact .inl (.inr (.inl ⟨d, e, dp_mono k.s r1, toD_ok k.s he r2, s1, s2, q _ _ I H p k.re (Dp.bl _)⟩))
    · split at p
      · split at p
        · rename_i k ek
          intro H0 I H v w kk r1 r2 Q q
          rw [str_read r1, str_read r2]
          exact .inl (.inr (.inr ⟨k, _, by rw [str_one ek], rfl, q _ _ I H p kk.re (Dp.bl _)⟩))
        · exact p.elim
      · split at p
        · rename_i k ek
          intro H0 I H v w kk r1 r2 Q q
          obtain ⟨bb, hkv⟩ := keyV_of kk.s ek r1
          obtain ⟨a, es, rfl, _, _, _, ha, hr⟩ := r2
          refine .inr ⟨bb, k, a, es, hkv, rfl, ha, keys_ok kk.s hr, ?_⟩
          rw [lk_some k hr]
          exact q _ _ I H p kk.re (Dp.bl _)
        · exact p.elim
      · exact p.elim
  · exact p.elim⟩
theorem jo_notin (hu : X.A.units + 65 < cLine) : JOp X (compareOp .NotIn) (oIn true) := ⟨_, opr_or (opr_or op_notIn_seq (opr_or (op_notInD hu) op_notIn_sign)) (DK.op_dnotin (by omega)), fun b x y P p => by
  unfold oIn at p
  split at p
  · rename_i d
    split at p
    · rename_i ds ey
      obtain ⟨f, p⟩ := p
      intro H0 I H v w k r1 r2 Q q
      rcases f with ⟨f1, f2⟩ | ⟨s1, s2, e, he⟩
      · obtain ⟨a, xs, rfl, hs, hd⟩ := seqD_ok k.s ey r2
        refine .inl (.inl ⟨a, xs, rfl, hs, dp_flat r1 f1, dpa_flat hd f2, q _ _ I H p k.re ?_⟩)
        rw [dpa_inV r1 f1 hd f2]
        exact Dp.bl _
      · have := toD_seq ey he
        subst this
        exact .inl (.inr (.inl ⟨d, e, dp_mono k.s r1, toD_ok k.s he r2, s1, s2, q _ _ I H p k.re (Dp.bl _)⟩))
    · split at p
      · split at p
        · rename_i k ek
          intro H0 I H v w kk r1 r2 Q q
          rw [str_read r1, str_read r2]
          exact .inl (.inr (.inr ⟨k, _, by rw [str_one ek], rfl, q _ _ I H p kk.re (Dp.bl _)⟩))
        · exact p.elim
      · split at p
        · rename_i k ek
          intro H0 I H v w kk r1 r2 Q q
          obtain ⟨bb, hkv⟩ := keyV_of kk.s ek r1
          obtain ⟨a, es, rfl, _, _, _, ha, hr⟩ := r2
          refine .inr ⟨bb, k, a, es, hkv, rfl, ha, keys_ok kk.s hr, ?_⟩
          rw [lk_some k hr]
          exact q _ _ I H p kk.re (Dp.bl _)
        · exact p.elim
      · exact p.elim
  · exact p.elim⟩
/-! ### items -/
/-- ds[i], also from behind -/
def atD (ds : List PyData) (i : Int) : Option PyData := match ixN ds.length i with
  | some j => ds[j]?
  | none => none
theorem atD_nat {ds : List PyData} {i : Int} (h : 0 ≤ i) : atD ds i = ds[i.toNat]? := by
  unfold atD ixN
  rw [if_pos h]
  split
  · rename_i j e
    split at e
    · cases e; rfl
    · cases e
  · rename_i e
    split at e
    · cases e
    · rename_i hh
      rw [List.getElem?_eq_none]
      omega
def oIx (x y : DV) (P : DP) : Prop := match y with
  | .dat (.int i) => match seqD x with
    | some ds => match atD ds i with
      | some d => P (.dat d)
      | none => False
    | none => match x with
      | .dat (.str z) => z.length ≤ 100000 ∧ match atI z.cps.toList i with
        | some k => P (.dat (.str ⟨#[k]⟩))
        | none => False
      | _ => False
  | .dat (.tuple es) => match x with
    | .dct _ kvs => match keyT (.tuple es) with
      | some k => match lkD kvs k with
        | some d => P (.dat d)
        | none => False
      | none => False
    | _ => False
  | _ => False
theorem atD_ok {K : PySem.W.Frag} {I : Hp} {xs : List V} {ds : List PyData} {i : Int} {d : PyData} (hd : DpAll K I xs ds) (e : atD ds i = some d) : ∃ v, atI xs i = some v ∧ Dp K I v d := by
  unfold atD at e
  unfold atI
  rw [dpa_len hd]
  split at e
  · rename_i j ej
    obtain ⟨v, h1, h2⟩ := dpa_get hd e
    rw [ej]
    exact ⟨v, h1, h2⟩
  · cases e
theorem jx_seq (hu : X.A.units + 65 < cLine) : JIx X oIx := ⟨_, ixr_or ix_seq (DK.ix_dct (by omega)), fun b x y P p => by
  unfold oIx at p
  split at p
  · rename_i i
    split at p
    · rename_i ds ex
      split at p
      · rename_i d ed
        intro H0 I H v w k r1 r2 Q q
        obtain ⟨a, xs, rfl, hs, hd⟩ := seqD_ok k.s ex r1
        obtain ⟨u, h1, h2⟩ := atD_ok hd ed
        rcases hs with hs | hs
        · exact .inl (.inl ⟨a, xs, i, u, rfl, int_read r2, hs, h1, q _ _ I H p k.re h2⟩)
        · exact .inl (.inr (.inl ⟨a, xs, i, u, rfl, int_read r2, hs, h1, q _ _ I H p k.re h2⟩))
      · exact p.elim
    · split at p
      · obtain ⟨hz, p⟩ := p
        split at p
        · rename_i kk ek
          intro H0 I H v w k r1 r2 Q q
          exact .inl (.inr (.inr ⟨_, i, kk, str_read r1, int_read r2, Nat.le_trans hz (by decide : 100000 ≤ sizeLine), ek, q _ _ I H p k.re (Dp.str _)⟩))
        · exact p.elim
      · exact p.elim
  · split at p
    · split at p
      · rename_i k ek
        split at p
        · rename_i d ed
          intro H0 I H v w kk r1 r2 Q q
          obtain ⟨bb, hkv⟩ := keyV_of kk.s ek r2
          obtain ⟨a, es, rfl, _, _, _, ha, hr⟩ := r1
          rcases lk_rel k hr with ⟨h1, h2⟩ | ⟨x, y, h1, h2, h3⟩
          · rw [h1] at ed; cases ed
          · rw [h1] at ed
            cases ed
            exact .inr ⟨bb, k, a, es, x, hkv, rfl, ha, keys_ok kk.s hr, h2, q _ _ I H p kk.re h3⟩
        · exact p.elim
      · exact p.elim
    · exact p.elim
  · exact p.elim⟩
def oNeg : DV → DP → Prop
  | .dat (.int i), P => P (dint (-i))
  | _, _ => False
theorem ju_neg : JUn X (unaryOp .USub) oNeg := ⟨_, un_neg, fun b x P p => by
  unfold oNeg at p
  split at p
  · intro H0 I H v k r1 Q q
    exact ⟨_, int_read r1, q _ _ I H p k.re (Dp.int _)⟩
  · exact p.elim⟩
/-! ### built-ins -/
def bLen : List DV → DP → Prop
  | [x], P => match seqD x with
    | some ds => P (dint ds.length)
    | none => match x with
      | .dat (.str z) => z.length ≤ 100000 ∧ P (dint z.length)
      | .dct _ kvs => P (dint kvs.length)
      | _ => False
  | _, _ => False
theorem jb_len : JCb X (.builtin "len") bLen := ⟨_, cbr_or (cbr_or call_len_seq call_len_str) DK.call_lenDct, fun b rs P p => by
  unfold bLen at p
  split at p
  · split at p
    · rename_i ds ex
      intro H0 I H vs k r Q q
      cases r with
      | cons r1 rr =>
        cases rr
        obtain ⟨a, xs, rfl, hs, hd⟩ := seqD_ok k.s ex r1
        exact .inl (.inl ⟨a, xs, rfl, hs, q _ _ I H p k.re (by rw [dpa_len hd]; exact Dp.int _)⟩)
    · split at p
      · intro H0 I H vs k r Q q
        cases r with
        | cons r1 rr =>
          cases rr
          rw [str_read r1]
          exact .inl (.inr ⟨_, rfl, Nat.le_trans p.1 (by decide : 100000 ≤ sizeLine), q _ _ I H p.2 k.re (Dp.int _)⟩)
      · intro H0 I H vs k r Q q
        cases r with
        | cons r1 rr =>
          cases rr
          obtain ⟨a, es, rfl, _, _, _, ha, hr⟩ := r1
          exact .inr ⟨a, es, rfl, ha, keys_ok k.s hr, q _ _ I H p k.re (by rw [Paired.length hr]; exact Dp.int _)⟩
      · exact p.elim
  · exact p.elim⟩
/-- numbers, all of them -/
def intsD : List PyData → Option (List Int)
  | [] => some []
  | .int i :: ds => match intsD ds with
    | some is => some (i :: is)
    | none => none
  | _ :: _ => none
theorem ints_ok : ∀ {ds : List PyData} {ns : List Int}, intsD ds = some ns → ds = ns.map .int
  | [], ns, h => by cases h; rfl
  | .int i :: ds, ns, h => by
    unfold intsD at h
    cases q : intsD ds with
    | none => rw [q] at h; cases h
    | some es =>
      rw [q] at h
      cases h
      rw [ints_ok q]
      rfl
  | .none :: _, _, h => by cases h
  | .bool _ :: _, _, h => by cases h
  | .str _ :: _, _, h => by cases h
  | .list _ :: _, _, h => by cases h
  | .tuple _ :: _, _, h => by cases h
  | .dict _ :: _, _, h => by cases h
theorem ints_map (ns : List Int) : intsD (ns.map .int) = some ns := by
  induction ns with
  | nil => rfl
  | cons n ns ih =>
    show (match intsD (ns.map .int) with
      | some is => some (n :: is)
      | none => none) = _
    rw [ih]
def boolsD : List PyData → Option (List Bool)
  | [] => some []
  | .bool i :: ds => match boolsD ds with
    | some is => some (i :: is)
    | none => none
  | _ :: _ => none
theorem bools_ok : ∀ {ds : List PyData} {ns : List Bool}, boolsD ds = some ns → ds = ns.map .bool
  | [], ns, h => by cases h; rfl
  | .bool i :: ds, ns, h => by
    unfold boolsD at h
    cases q : boolsD ds with
    | none => rw [q] at h; cases h
    | some es =>
      rw [q] at h
      cases h
      rw [bools_ok q]
      rfl
  | .none :: _, _, h => by cases h
  | .int _ :: _, _, h => by cases h
  | .str _ :: _, _, h => by cases h
  | .list _ :: _, _, h => by cases h
  | .tuple _ :: _, _, h => by cases h
  | .dict _ :: _, _, h => by cases h
theorem bools_map (ns : List Bool) : boolsD (ns.map .bool) = some ns := by
  induction ns with
  | nil => rfl
  | cons n ns ih =>
    show (match boolsD (ns.map .bool) with
      | some is => some (n :: is)
      | none => none) = _
    rw [ih]
def lstD : DV → Option (List PyData)
  | .dat (.list ds) => some ds
  | .bor ds => some ds
  | .own ds => some ds
  | _ => none
theorem lstD_ok {r : DV} {ds : List PyData} (e : lstD r = some ds) : LstR r ds := by
  unfold lstD at e
  split at e
  · cases e; exact .inr (.inr rfl)
  · cases e; exact .inr (.inl rfl)
  · cases e; exact .inl rfl
  · cases e
def bTuple : List DV → DP → Prop
  | [x], P => match lstD x with
    | some ds => P (.dat (.tuple ds))
    | none => match x with
      | .dat (.tuple ds) => P (.dat (.tuple ds))
      | _ => False
  | _, _ => False
theorem jb_tuple : JCb X (.type "tuple") bTuple := ⟨_, TF.call_tupleF, fun b rs P p => by
  unfold bTuple at p
  split at p
  · split at p
    · rename_i ds ex
      intro H0 I H vs k r Q q
      exact cb_tupleL (lstD_ok ex) H0 I H vs k r Q fun z u I' H' e => q z u I' H' (e ▸ p)
    · split at p
      · intro H0 I H vs k r Q q
        exact cb_tupleT H0 I H vs k r Q fun z u I' H' e => q z u I' H' (e ▸ p)
      · exact p.elim
  · exact p.elim⟩
def bList : List DV → DP → Prop
  | [x], P => match seqD x with
    | some ds => P (.own ds)
    | none => match x with
      | .dct _ kvs => P (.own (kvs.map (·.1)))
      | _ => False
  | _, _ => False
theorem jb_list (hc : X.calm = true) : JCb X (.type "list") bList := ⟨_, cbr_or call_list_of (DK.call_listDct hc), fun b rs P p => by
  unfold bList at p
  split at p
  · split at p
    · rename_i ds ex
      intro H0 I H vs k r Q q
      cases r with
      | cons r1 rr =>
        cases rr
        obtain ⟨a, xs, rfl, hs, hd⟩ := seqD_ok k.s ex r1
        exact .inl ⟨a, xs, rfl, hs, fun p' hp => q _ _ _ _ p (k.newH hp) ⟨p', xs, rfl, fr_none hp, k.inone hp, k.nb hp, upd_same, hd⟩⟩
    · split at p
      · intro H0 I H vs k r Q q
        cases r with
        | cons r1 rr =>
          cases rr
          obtain ⟨a, es, rfl, _, _, _, ha, hr⟩ := r1
          exact .inr ⟨a, es, rfl, ha, keys_ok k.s hr, fun p' hp => q _ _ _ _ p (k.newH hp) ⟨p', _, rfl, fr_none hp, k.inone hp, k.nb hp, upd_same, dct_refs hr⟩⟩
      · exact p.elim
  · exact p.elim⟩
def bAbs : List DV → DP → Prop
  | [.dat (.int i)], P => P (dint (if i < 0 then -i else i))
  | _, _ => False
theorem jb_abs : JCb X (.builtin "abs") bAbs := ⟨_, call_abs, fun b rs P p => by
  unfold bAbs at p
  split at p
  · intro H0 I H vs k r Q q
    exact cb_abs H0 I H vs k r Q fun z u I' H' e => q z u I' H' (e ▸ p)
  · exact p.elim⟩
def bMin : List DV → DP → Prop
  | [.dat (.int i), .dat (.int j)], P => P (dint (if j < i then j else i))
  | [x], P => match lstD x with
    | some ds => match intsD ds with
      | some ns => 0 < ns.length ∧ ∀ m, m ∈ ns → (∀ y, y ∈ ns → m ≤ y) → P (dint m)
      | none => False
    | none => False
  | _, _ => False
def bMax : List DV → DP → Prop
  | [.dat (.int i), .dat (.int j)], P => P (dint (if j > i then j else i))
  | [x], P => match lstD x with
    | some ds => match intsD ds with
      | some ns => 0 < ns.length ∧ ∀ m, m ∈ ns → (∀ y, y ∈ ns → y ≤ m) → P (dint m)
      | none => False
    | none => False
  | _, _ => False
theorem jb_min (hc : X.calm = true) : JCb X (.builtin "min") bMin := ⟨_, cbr_or (call_min2 hc) (cr_min hc), fun b rs P p => by
  unfold bMin at p
  split at p
  · intro H0 I H vs k r Q q
    exact .inl (cb_min H0 I H vs k r Q fun z u I' H' e => q z u I' H' (e ▸ p))
  · split at p
    · rename_i ds ex
      split at p
      · rename_i ns en
        intro H0 I H vs k r Q q
        cases r with
        | cons r1 rr =>
          cases rr
          obtain ⟨a, xs, rfl, hs, hd⟩ := (lstD_ok ex).read k.s r1
          rw [ints_ok en] at hd
          rw [dpa_ints hd] at hs
          exact .inr ⟨a, ns, rfl, hs, p.1, fun m h1 h2 => q _ _ I H (p.2 m h1 h2) k.re (Dp.int _)⟩
      · exact p.elim
    · exact p.elim
  · exact p.elim⟩
theorem jb_max (hc : X.calm = true) : JCb X (.builtin "max") bMax := ⟨_, cbr_or (call_max2 hc) (cr_max hc), fun b rs P p => by
  unfold bMax at p
  split at p
  · intro H0 I H vs k r Q q
    exact .inl (cb_max H0 I H vs k r Q fun z u I' H' e => q z u I' H' (e ▸ p))
  · split at p
    · rename_i ds ex
      split at p
      · rename_i ns en
        intro H0 I H vs k r Q q
        cases r with
        | cons r1 rr =>
          cases rr
          obtain ⟨a, xs, rfl, hs, hd⟩ := (lstD_ok ex).read k.s r1
          rw [ints_ok en] at hd
          rw [dpa_ints hd] at hs
          exact .inr ⟨a, ns, rfl, hs, p.1, fun m h1 h2 => q _ _ I H (p.2 m h1 h2) k.re (Dp.int _)⟩
      · exact p.elim
    · exact p.elim
  · exact p.elim⟩
def bSum : List DV → DP → Prop
  | [x], P => match seqD x with
    | some ds => match intsD ds with
      | some ns => P (dint ns.sum)
      | none => False
    | none => False
  | _, _ => False
def rSumT (K : PySem.W.Frag) : List V → Hp → VK → Prop := fun vs H Q => ∃ (a : Addr) (ns : List Int), vs = [V.ref a] ∧ SqT K H a (ns.map V.int) ∧ Q (.int ns.sum) H
theorem cr_sumT (hc : X.calm = true) : CallR X (.builtin "sum") (rSumT X.K) := by
  intro pins s σ H vs us Q I r h
  obtain ⟨a, ns, rfl, hs, q⟩ := h
  obtain ⟨its, rv, hl, _⟩ := I.tuple hs
  rw [Vals.ref1 r]
  have hi : IntsAre its ns := rv.ints
  obtain ⟨xs, hx⟩ := hi.allInts.items
  have hn : numsOf its.toArray.toList = ns := by rw [show its.toArray.toList = its from rfl, hi.numsOf]
  have hl' : s.heap.IsTuple a its.toArray := hl
  rw [hx] at hl' hn
  rw [nums_intItems] at hn
  refine PySem.W.ktm_sumG (I.ok.hd hc) hl' fun h' tk t' hk => ?_
  rw [preSum_eq, List.take_of_length_le (by simp), hn]
  exact ⟨.int _, H, I.kept hk, ⟨_, rfl⟩, q⟩
theorem jb_sum (hc : X.calm = true) : JCb X (.builtin "sum") bSum := ⟨_, cbr_or (cr_sum hc) (cr_sumT hc), fun b rs P p => by
  unfold bSum at p
  split at p
  · split at p
    · rename_i ds ex
      split at p
      · rename_i ns en
        intro H0 I H vs k r Q q
        cases r with
        | cons r1 rr =>
          cases rr
          obtain ⟨a, xs, rfl, hs, hd⟩ := seqD_ok k.s ex r1
          rw [ints_ok en] at hd
          rw [dpa_ints hd] at hs
          rcases hs with hs | hs
          · exact .inl ⟨a, ns, rfl, hs, q _ _ I H p k.re (Dp.int _)⟩
          · exact .inr ⟨a, ns, rfl, hs, q _ _ I H p k.re (Dp.int _)⟩
      · exact p.elim
    · exact p.elim
  · exact p.elim⟩
def bAll : List DV → DP → Prop
  | [x], P => match lstD x with
    | some ds => match boolsD ds with
      | some ns => P (dbl (ns.all id))
      | none => False
    | none => False
  | _, _ => False
def bAny : List DV → DP → Prop
  | [x], P => match lstD x with
    | some ds => match boolsD ds with
      | some ns => P (dbl (ns.any id))
      | none => False
    | none => False
  | _, _ => False
theorem jb_all (hc : X.calm = true) : JCb X (.builtin "all") bAll := ⟨_, cr_all hc, fun b rs P p => by
  unfold bAll at p
  split at p
  · split at p
    · rename_i ds ex
      split at p
      · rename_i ns en
        intro H0 I H vs k r Q q
        exact cb_all (by rw [← bools_ok en]; exact lstD_ok ex) H0 I H vs k r Q fun z u I' H' e => q z u I' H' (e ▸ p)
      · exact p.elim
    · exact p.elim
  · exact p.elim⟩
theorem jb_any (hc : X.calm = true) : JCb X (.builtin "any") bAny := ⟨_, cr_any hc, fun b rs P p => by
  unfold bAny at p
  split at p
  · split at p
    · rename_i ds ex
      split at p
      · rename_i ns en
        intro H0 I H vs k r Q q
        exact cb_any (by rw [← bools_ok en]; exact lstD_ok ex) H0 I H vs k r Q fun z u I' H' e => q z u I' H' (e ▸ p)
      · exact p.elim
    · exact p.elim
  · exact p.elim⟩
def bSorted : List DV → DP → Prop
  | [x], P => match lstD x with
    | some ds => match intsD ds with
      | some ns => ∀ ms : List Int, ms.Perm ns → ms.Pairwise (· ≤ ·) → P (.own (ms.map .int))
      | none => False
    | none => False
  | _, _ => False
theorem jb_sorted : JCb X (.builtin "sorted") bSorted := ⟨_, cr_sortedI, fun b rs P p => by
  unfold bSorted at p
  split at p
  · split at p
    · rename_i ds ex
      split at p
      · rename_i ns en
        intro H0 I H vs k r Q q
        cases r with
        | cons r1 rr =>
          cases rr
          obtain ⟨a, xs, rfl, hs, hd⟩ := (lstD_ok ex).read k.s r1
          rw [ints_ok en] at hd
          rw [dpa_ints hd] at hs
          exact ⟨a, ns, rfl, hs, fun ms c h1 h2 hc => q _ _ _ _ (p ms h1 h2) (k.newH hc) ⟨c, _, rfl, fr_none hc, k.inone hc, k.nb hc, upd_same, dpa_ofInts _⟩⟩
      · exact p.elim
    · exact p.elim
  · exact p.elim⟩
def bIsi : List DV → DP → Prop
  | [.dat d, .raw (.ty n)], P => match kitB (tyN d) n with
    | some k => P (dbl k)
    | none => False
  | _, _ => False
theorem jb_isi : JCb X (.builtin "isinstance") bIsi := ⟨_, call_isi, fun b rs P p => by
  unfold bIsi at p
  split at p
  · split at p
    · rename_i k ek
      intro H0 I H vs kk r Q q
      exact cb_isi ek H0 I H vs kk r Q fun z u I' H' e => q z u I' H' (e ▸ p)
    · exact p.elim
  · exact p.elim⟩
end
end DW

set_option Elab.async false
set_option linter.all false
set_option maxRecDepth 100000
set_option maxHeartbeats 4000000
namespace DW
open PySem PySem.Spec PyProof.Rows L2 RZ DL
/-! ### calls -/
/-- a def's promise by its transformer -/
def spW (K : PySem.W.Frag) (cls fa : Nat → Addr) (W : Wt) : Sp := spD K (fun a : List DV × DP × Cn => a.1) (fun a => a.2.2.fa = fa ∧ a.1.all isPl = true ∧ W a.1 a.2.1 a.2.2) (fun a => a.2.1) (fun a => toXD cls a.2.2.x)
def dCall (W : Wt) (da : DA) : DE := fun c δ P => da c δ fun rs => rs.all isPl = true ∧ W rs P c
def dCb (o : List DV → DP → Prop) (da : DA) : DE := fun c δ P => da c δ fun rs => o rs P
section
variable {X : Cx} {S : Sg} {a b e : Expr} {es : List Expr} {da db de : DE} {pos p : Pos} {x : Str}
theorem ce_cb {K : PySem.W.Frag} {m : Nat} {r : List V → Hp → VK → Prop} {o : List DV → DP → Prop} {ta : TA} {da : DA} (ho : ∀ b rs P, o rs P → CbD K b r rs P) (ha : CA K S m ta da) : DW.CE K S (tCB r ta) (dCb o da) := fun b I0 H0 c δ P nb ok p =>
  ev_cb (A := fun rs => o rs P) ((ha b I0 H0 c δ _ nb ok p).mono fun rs h => h.2) fun rs h => ho b rs P h
theorem je_callB {id : String} {o : List DV → DP → Prop} {da : DA} (hc : JCb X (.builtin id) o) (hg : Gl X x) (hm : X.mg x = none) (hv : bootBuiltins x = some (.builtin id)) (ha : JA X S (e :: es) da) (hn : x ≠ "__name__" := by decide) (hdb : (x == ("__debug__" : Str)) = false := by decide)
    (he : starEach (e :: es) X.env = (false, eval e X.env) :: starEach es X.env := by rfl) (hpl : (backTo pos (starEach es X.env)).any (·.1) = false := by rfl) : JE X S (.Call (.Name x p) (e :: es) [] pos) (dCb o da) := by
  obtain ⟨r, h1, h2⟩ := hc
  obtain ⟨t, a1, a2⟩ := ha
  exact ⟨_, pe_callB h1 hg hm hv a1 hn hdb he hpl, ce_cb h2 a2⟩
theorem je_callT {T : String} {o : List DV → DP → Prop} {da : DA} (hc : JCb X (.type T) o) (hg : Gl X x) (hm : X.mg x = none) (hv : bootBuiltins x = some (.type T)) (ha : JA X S (e :: es) da) (hn : x ≠ "__name__" := by decide) (hdb : (x == ("__debug__" : Str)) = false := by decide)
    (he : starEach (e :: es) X.env = (false, eval e X.env) :: starEach es X.env := by rfl) (hpl : (backTo pos (starEach es X.env)).any (·.1) = false := by rfl) : JE X S (.Call (.Name x p) (e :: es) [] pos) (dCb o da) := by
  obtain ⟨r, h1, h2⟩ := hc
  obtain ⟨t, a1, a2⟩ := ha
  exact ⟨_, pe_callTy h1 hg hm hv a1 hn hdb he hpl, ce_cb h2 a2⟩
/-- list(range(n)) -/
def bRange (n : Nat) : List PyData := (List.range n).map fun (k : Nat) => .int (k : Int)
def dLrg (de : DE) : DE := fun c δ P => de c δ fun r => match r with
  | .dat (.int n) => (0 ≤ n ∧ n ≤ 100000) ∧ P (.own (bRange n.toNat))
  | _ => False
theorem je_lrg {p2 pos2 : Pos} (hc : X.calm = true) (hg : Gl X "list") (hm : X.mg "list" = none) (hg2 : Gl X "range") (hm2 : X.mg "range" = none) (he : JE X S e de) (na : starEach [e] X.env = (false, eval e X.env) :: starEach [] X.env := by rfl)
    (na2 : starEach [(.Call (.Name "range" p2) [e] [] pos2 : Expr)] X.env = (false, eval (.Call (.Name "range" p2) [e] [] pos2) X.env) :: starEach [] X.env := by rfl) : JE X S (.Call (.Name "list" p) [.Call (.Name "range" p2) [e] [] pos2] [] pos) (dLrg de) := by
  obtain ⟨t, h1, h2⟩ := he
  refine ⟨_, pe_listRg hc hg hm (prg_1 hg2 hm2 h1 na) na2, fun b I0 H0 c δ P nb ok p σ I H k e Q q => ?_⟩
  refine h2 b I0 H0 c δ _ nb ok p σ I H k e _ fun r v I1 H1 pr x rs => ?_
  split at pr
  · rename_i n
    obtain ⟨⟨n0, n1⟩, pr⟩ := pr
    have en : n = ((n.toNat : Nat) : Int) := by omega
    refine ⟨n, int_read rs, RgOk.of_le (by omega) (by omega) (by omega) (by omega), fun a na => ?_⟩
    refine q _ _ I1 _ pr (x.trans (x.ok.newH na)) ⟨a, _, rfl, x.free (fr_none na), x.ok.inone na, x.ok.nb na, upd_same, ?_⟩
    have z : rgV 0 n = ((List.range n.toNat).map fun (k : Nat) => (k : Int)).map V.int := by
      unfold rgV
      rw [List.map_map]
      simp
    rw [z]
    have z2 : bRange n.toNat = ((List.range n.toNat).map fun (k : Nat) => (k : Int)).map .int := by
      unfold bRange
      rw [List.map_map]
      rfl
    rw [z2]
    exact dpa_ofInts _
  · exact pr.elim
theorem ev_w {K : PySem.W.Frag} {bg : Bg} {I0 H0 : Hp} {c : Cn} {δ : En} {W : Wt} {P : DP} {ta : TA} (ok : Cok K S bg I0 H0 c) (ha : EvA K bg I0 H0 ta δ (fun rs => rs.all isPl = true ∧ W rs P c)) : EvD K bg I0 H0 (tCall (spW K S.cls S.fa W) [] S.E ta) δ P :=
  ev_callX ok.xw ha fun rs h => ⟨(rs, P, c), rfl, ⟨ok.fa, h⟩, isPl_own h.1, fun r o => o, fun C fs e => e⟩
section
variable {k : Nat} {f : Addr} {fd : FuncData} {ps : List Str} {W : Wt} {da : DA}
theorem je_call (F : FnOk X.prog X.w X.K X.mg X.base (L2.CX X.prog X.w) k f fd ps (spW X.K S.cls S.fa W)) (hr : Room k X.A) (hg : Gl X x) (hm : X.mg x = some (.ref f)) (hk : PySem.W.keepIn X.K (.ref f) = true) (hb : Binds X.K fd ps []) (hx : Passes (L2.CX X.prog X.w) X S.E)
    (ha : JA X S (e :: es) da) (hdb : (x == ("__debug__" : Str)) = false := by decide) (he : starEach (e :: es) X.env = (false, eval e X.env) :: starEach es X.env := by rfl) (hpl : (backTo pos (starEach es X.env)).any (·.1) = false := by rfl) :
    JE X S (.Call (.Name x p) (e :: es) [] pos) (dCall W da) := by
  obtain ⟨t, a1, a2⟩ := ha
  exact ⟨_, pe_call F hr hg hm hk hb .nil hx a1 hdb he hpl, fun b I0 H0 c δ P nb ok p => ev_w ok ((a2 b I0 H0 c δ _ nb ok p).mono fun rs h => h.2)⟩
theorem je_call0 (F : FnOk X.prog X.w X.K X.mg X.base (L2.CX X.prog X.w) k f fd ps (spW X.K S.cls S.fa W)) (hr : Room k X.A) (hg : Gl X x) (hm : X.mg x = some (.ref f)) (hk : PySem.W.keepIn X.K (.ref f) = true) (hb : Binds X.K fd ps []) (hx : Passes (L2.CX X.prog X.w) X S.E)
    (hdb : (x == ("__debug__" : Str)) = false := by decide) : JE X S (.Call (.Name x p) [] [] pos) (dCall W dNil) :=
  ⟨_, pe_call0 F hr hg hm hk hb .nil hx hdb, fun b I0 H0 c δ P nb ok p => ev_w ok (ea_nil.mono fun _ e => by subst e; exact p)⟩
/-! ### keywords -/
/-- the arguments by their places -/
def pk (is : List Nat) {α : Type} (vs ws : List α) : List α := is.filterMap fun i => (vs ++ ws)[i]?
theorem vals_app {vs zs : List V} {us ws : List Value} (h : Vals vs us) (h' : Vals zs ws) : Vals (vs ++ zs) (us ++ ws) := Vals.append h h'
theorem pk_rel (is : List Nat) {vs : List V} {us : List Value} {zs : List V} {ws : List Value} (h : Vals vs us) (h' : Vals zs ws) : Vals (pk is vs zs) (pk is us ws) := by
  have g := vals_app h h'
  unfold pk
  induction is with
  | nil => exact .nil
  | cons i is ih =>
    rw [List.filterMap_cons, List.filterMap_cons]
    cases q : (vs ++ zs)[i]? with
    | none =>
      have l := g.length
      rw [List.getElem?_eq_none (by have := List.getElem?_eq_none_iff.mp q; omega)]
      exact ih
    | some v =>
      obtain ⟨u, e1, e2⟩ := g.get q
      rw [e1]
      exact .cons e2 ih
theorem resA_app {K : PySem.W.Frag} {b : Bg} {H0 I H : Hp} : ∀ {vs ws : List V} {rs zs : List DV}, ResA K b H0 I H vs rs → ResA K b H0 I H ws zs → ResA K b H0 I H (vs ++ ws) (rs ++ zs)
  | _, _, _, _, .nil, r => r
  | _, _, _, _, .cons q t, r => .cons q (resA_app t r)
theorem pk_res {K : PySem.W.Frag} {b : Bg} {H0 I H : Hp} (is : List Nat) {vs ws : List V} {rs zs : List DV} (h : ResA K b H0 I H vs rs) (h' : ResA K b H0 I H ws zs) : ResA K b H0 I H (pk is vs ws) (pk is rs zs) := by
  have g := resA_app h h'
  unfold pk
  induction is with
  | nil => exact .nil
  | cons i is ih =>
    rw [List.filterMap_cons, List.filterMap_cons]
    cases q : (rs ++ zs)[i]? with
    | none =>
      have l := resA_len g
      rw [List.getElem?_eq_none (by have := List.getElem?_eq_none_iff.mp q; omega)]
      exact ih
    | some r =>
      obtain ⟨v, e1, e2⟩ := resA_get g q
      rw [e1]
      exact .cons e2 ih
def dCallK (W : Wt) (is : List Nat) (da dk : DA) : DE := fun c δ P => da c δ fun rs => dk c δ fun zs => (pk is rs zs).all isPl = true ∧ W (pk is rs zs) P c
theorem ce_callK {K : PySem.W.Frag} {n m : Nat} {is : List Nat} {ta tk : TA} {da dk : DA} (ha : CA K S n ta da) (hk : CA K S m tk dk) : DW.CE K S (tCallN n m (spW K S.cls S.fa W) (pk is) S.E ta tk) (dCallK W is da dk) := fun b I0 H0 c δ P nb ok p σ I H k e Q q =>
  ha b I0 H0 c δ _ nb ok p σ I H k e _ fun rs vs I1 H1 ⟨l1, p1⟩ x1 r1 => hk b I0 H0 c δ _ nb ok p1 σ I1 H1 (k.trans x1) (e.ext x1) _ fun zs ws I2 H2 ⟨l2, p2⟩ x2 r2 =>
    ⟨by rw [resA_len r1]; exact l1, by rw [resA_len r2]; exact l2, (pk is rs zs, P, c), b, I2, x2.ok, resA_now (pk_res is (r1.ext x2) (r2.since (free_of x1))) (isPl_own p2.1), ⟨ok.fa, p2⟩, fun r v I' H' o x3 rs' => q r v I' H' o ((x1.trans x2).trans x3) (rs'.since (free_of (x1.trans x2))), fun C fs d I' H' he x3 h1 h2 => ok.xw C fs d I' H' he (((k.trans x1).trans x2).trans x3) h1 h2⟩
theorem je_callK0 {is : List Nat} {ks : List Str} {kws : List Keyword} {dk : DA} (F : FnOk X.prog X.w X.K X.mg X.base (L2.CX X.prog X.w) k f fd ps (spW X.K S.cls S.fa W)) (hr : Room k X.A) (hg : Gl X x) (hm : X.mg x = some (.ref f)) (hk : PySem.W.keepIn X.K (.ref f) = true) (hb : KBn X.K fd ps 0 ks (pk is) (pk is)) (hx : Passes (L2.CX X.prog X.w) X S.E) (hkw : JK X S kws dk)
    (hl : kws.length = ks.length := by rfl) (hall : (backToKw pos (keywordEach kws X.env)).all (·.1.isSome) = true := by rfl) (hks : (backToKw pos (keywordEach kws X.env)).filterMap (·.1) = ks := by rfl) (hdb : (x == ("__debug__" : Str)) = false := by decide)
    (hpl : ((backTo pos (starEach [] X.env)).any (·.1) || (backToKw pos (keywordEach kws X.env)).any (·.1.isNone)) = false := by rfl) : JE X S (.Call (.Name x p) [] kws pos) (dCallK W is dNil dk) := by
  obtain ⟨t, k1, k2⟩ := hkw
  refine ⟨_, pe_callK0 F hr hg hm hk hb hx k1 hall hks hdb hpl, ?_⟩
  rw [hl] at k2
  exact ce_callK ca_nil k2
theorem je_callKN {is : List Nat} {n : Nat} {ks : List Str} {kws : List Keyword} {dk : DA} (F : FnOk X.prog X.w X.K X.mg X.base (L2.CX X.prog X.w) k f fd ps (spW X.K S.cls S.fa W)) (hr : Room k X.A) (hg : Gl X x) (hm : X.mg x = some (.ref f)) (hk : PySem.W.keepIn X.K (.ref f) = true) (hb : KBn X.K fd ps n ks (pk is) (pk is)) (hx : Passes (L2.CX X.prog X.w) X S.E) (ha : JA X S (e :: es) da) (hkw : JK X S kws dk)
    (hl : kws.length = ks.length := by rfl) (hn : (e :: es).length = n := by rfl) (hall : (backToKw pos (keywordEach kws X.env)).all (·.1.isSome) = true := by rfl) (hks : (backToKw pos (keywordEach kws X.env)).filterMap (·.1) = ks := by rfl) (hdb : (x == ("__debug__" : Str)) = false := by decide)
    (he : starEach (e :: es) X.env = (false, eval e X.env) :: starEach es X.env := by rfl) (hpl : ((backTo pos (starEach (e :: es) X.env)).any (·.1) || (backToKw pos (keywordEach kws X.env)).any (·.1.isNone)) = false := by rfl) : JE X S (.Call (.Name x p) (e :: es) kws pos) (dCallK W is da dk) := by
  obtain ⟨t, k1, k2⟩ := hkw
  obtain ⟨u, a1, a2⟩ := ha
  refine ⟨_, pe_callN F hr hg hm hk hb hx a1 k1 hall hks hdb he hpl, ?_⟩
  rw [hl] at k2
  rw [hn] at a2
  exact ce_callK a2 k2
theorem kb_mk {K : PySem.W.Frag} {x qual : Str} {st : Stmt} {f : Addr} {fd : FuncData} {ps ks : List Str} {n : Nat} (is : List Nat) (F : Fun K x qual st f fd)
    (h : ∀ (kV doc pm : Value) (an : Option Addr) (cdv ct : Value) (us ws : List Value), us.length = n → ws.length = ks.length → bindArgs (PySem.W.fnOf x qual (defArgs st) (defBody st) (defScope st) .none kV doc pm an cdv ct) ⟨us, ks.zip ws⟩ = pure (ps.zip (pk is us ws))) : KBn K fd ps n ks (pk is) (pk is) :=
  kbn_mk F (fun {α} vs ws => pk is vs ws) h fun r1 r2 => pk_rel is r1 r2
/-! ### a def out of a written dict, called by the name that holds it -/
/-- the written dict at a tells the defs by texts -/
def KTab (K : PySem.W.Frag) (w : World) (fa : Nat → Addr) (a : Addr) (tab : List (Str × Nat)) : Prop := ∀ s f, tab.lookup s = some f → KDct K w a s (.ref (fa f))
def dTab (tab : List (Str × Nat)) (de : DE) : DE := fun c δ P => de c δ fun r => match r with
  | .dat (.str s) => match tab.lookup s with
    | some f => P (.raw (.ref (c.fa f)))
    | none => False
  | _ => False
theorem je_tab {tab : List (Str × Nat)} {a : Addr} {d : Expr} (hd : PE X d (tC (.ref a))) (ht : KTab X.K X.w S.fa a tab) (he : JE X S e de) (hs : PlainIx e) : JE X S (.Subscript d e pos) (dTab tab de) := by
  obtain ⟨t, h1, h2⟩ := he
  refine ⟨_, pe_ix ix_kdict hd h1 hs, fun b I0 H0 c δ P nb ok p σ I H k e Q q => ?_⟩
  refine h2 b I0 H0 c δ _ nb ok p σ I H k e _ fun r v I1 H1 pr x rs => ?_
  split at pr
  · rename_i s
    split at pr
    · rename_i f ef
      rw [str_read rs]
      rw [ok.fa] at pr
      exact ⟨a, s, _, rfl, rfl, ht s f ef, q _ _ I1 H1 pr x rfl⟩
    · exact pr.elim
  · exact pr.elim
/-- the defs that a name may hold -/
structure HeldW (X : Cx) (S : Sg) (k : Nat) (f : Nat) (W : Wt) : Prop where
  ex : ∃ (fd : FuncData) (ps : List Str), FnOk X.prog X.w X.K X.mg X.base (L2.CX X.prog X.w) k (S.fa f) fd ps (spW X.K S.cls S.fa W) ∧ PySem.W.keepIn X.K (.ref (S.fa f)) = true ∧ Binds X.K fd ps []
def dCallV (i : Nat) (ws : List (Nat × Wt)) (da : DA) : DE := fun c δ P => ∃ f W, (f, W) ∈ ws ∧ δ[i]? = some (some (.raw (.ref (c.fa f)))) ∧ da c δ fun rs => rs.all isPl = true ∧ W rs P c
theorem je_callV {i k : Nat} {ws : List (Nat × Wt)} {da : DA} (A : ∀ q ∈ ws, HeldW X S k q.1 q.2) (hr : Room k X.A) (hN : X.N[i]? = some x) (hv : Vis X.env.scope x) (hx : Passes (L2.CX X.prog X.w) X S.E) (ha : JA X S (e :: es) da)
    (hdb : (x == ("__debug__" : Str)) = false := by decide) (hcd : (x == ("__classdict__" : Str)) = false := by decide)
    (he : starEach (e :: es) X.env = (false, eval e X.env) :: starEach es X.env := by rfl) (hpl : (backTo pos (starEach es X.env)).any (·.1) = false := by rfl) : JE X S (.Call (.Name x p) (e :: es) [] pos) (dCallV i ws da) := by
  obtain ⟨t, a1, a2⟩ := ha
  refine ⟨fun σ H Q => ∃ q ∈ ws, tCallL i (S.fa q.1) (spW X.K S.cls S.fa q.2) [] S.E t σ H Q, ⟨fun pins s σ H Q I h => ?_⟩, fun b I0 H0 c δ P nb ok p σ I H k e Q q => ?_⟩
  · obtain ⟨q, hq, h⟩ := h
    obtain ⟨fd, ps, F, hk, hb⟩ := (A q hq).ex
    exact (pe_callL F hr hN hv hk hb .nil hx a1 hdb hcd he hpl).run pins s σ H Q I h
  · obtain ⟨f, W, hm, hi, p⟩ := p
    obtain ⟨v, e1, e2⟩ := e.at_ i _ hi
    have e2 : v = .ref (c.fa f) := e2
    subst e2
    refine ⟨(f, W), hm, by rw [← ok.fa]; exact e1, ?_⟩
    exact ev_w (W := W) ok ((a2 b I0 H0 c δ _ nb ok p).mono fun rs h => h.2) σ I H k e Q q
end
end
/-! ### what is walked -/
def chars (z : Str) : List PyData := z.cps.toList.map fun k => .str ⟨#[k]⟩
def dISeq (de : DE) : DI := fun c δ A => de c δ fun r => match fz r with
  | .dat (.list ds) => A ds
  | .dat (.tuple ds) => A ds
  | .dat (.str z) => A (chars z)
  | _ => False
def dIRg1 (da : DA) : DI := fun c δ A => da c δ fun rs => match rs with
  | [.dat (.int n)] => (-(2 ^ 62) ≤ n ∧ n < 2 ^ 62) ∧ A (rangeD 0 n.toNat)
  | _ => False
def dIRg2 (da : DA) : DI := fun c δ A => da c δ fun rs => match rs with
  | [.dat (.int m), .dat (.int n)] => (-(2 ^ 62) ≤ m ∧ m < 2 ^ 62 ∧ -(2 ^ 62) ≤ n ∧ n < 2 ^ 62) ∧ A (rangeD m (n - m).toNat)
  | _ => False
def dIZip (da : DA) : DI := fun c δ A => da c δ fun rs => match rs with
  | [.dat (.tuple ds), .dat (.tuple es)] => A (zipD ds es)
  | _ => False
def dIEnum (da : DA) : DI := fun c δ A => da c δ fun rs => match rs with
  | [.dat (.tuple ds)] => A (enumD ds)
  | [.dat (.list ds)] => A (enumD ds)
  | _ => False
/-- a list, a tuple or a text, walked: which of them is told by what stands there -/
def iSeq (K : PySem.W.Frag) (te : TE) : TI := fun σ H R => te σ H fun x H1 => (∃ a xs, x = .ref a ∧ SqL K H1 a xs ∧ R (Itl K a) H1) ∨ (∃ a xs, x = .ref a ∧ SqT K H1 a xs ∧ R (Itt K a) H1) ∨ ∃ z, x = .str z ∧ R (Its z) H1
def iEnumS (K : PySem.W.Frag) (ta : TA) : TI := fun σ H R => ta σ H fun vs H1 => ∃ a xs, vs = [.ref a] ∧ ((SqL K H1 a xs ∧ R (Ite K a) H1) ∨ (SqT K H1 a xs ∧ R (TF.IteT K a) H1))
section
variable {X : Cx} {tg e : Expr} {te : TE}
theorem pi_seqS (he : PE X e te) : PI X tg e (iSeq X.K te) := by
  refine ⟨fun pins s σ H R I h => thn (he.run pins s σ H _ I h) ?_⟩
  rintro v s1 ⟨x, H1, I1, r1, ⟨a, xs, ex, hs, q⟩ | ⟨a, xs, ex, hs, q⟩ | ⟨z, ex, q⟩⟩
  · subst ex
    obtain rfl : v = Value.ref a := r1
    obtain ⟨us, rel, pl, _⟩ := I1.list hs
    exact wpAny_pyIter_list pl.isList (pi_one (tk := s1.toks) I1 _ (turn_list a _) ⟨_, Heap.get?_push_size _ rfl, rfl, rfl⟩ q)
  · subst ex
    obtain rfl : v = Value.ref a := r1
    obtain ⟨us, rel, pt, _⟩ := I1.tuple hs
    exact wpAny_pyIter_tuple (show s1.heap.IsTuple a us.toArray from pt) (pi_one (tk := s1.toks) I1 _ (turn_tuple a _) ⟨_, Heap.get?_push_size _ rfl, rfl, rfl⟩ q)
  · subst ex
    obtain ⟨tk, rfl⟩ := r1
    by_cases hz : z.cps.all (· < 128) = true
    · exact wpAny_pyIter_ascii hz (pi_one (tk := s1.toks) I1 _ (turn_str _ z tk "str_ascii_iterator" (.inl rfl)) ⟨_, Heap.get?_push_size _ rfl, rfl, rfl⟩ q)
    · exact wpAny_pyIter_wide (by simpa using hz) (pi_one (tk := s1.toks) I1 _ (turn_str _ z tk "str_iterator" (.inr rfl)) ⟨_, Heap.get?_push_size _ rfl, rfl, rfl⟩ q)
theorem pi_enumS {ta : TA} {p pos tpos : Pos} {elts : List Expr} {kk : Nat} (hg : Gl X "enumerate") (hm : X.mg "enumerate" = none) (ha : PA X [e] ta) (one : starEach [e] X.env = [(false, eval e X.env)] := by rfl) :
    PI X (.Tuple elts kk tpos) (.Call (.Name "enumerate" p) [e] [] pos) (iEnumS X.K ta) := by
  refine ⟨fun pins s σ H R I h => Call_ (ld_blt I hg hm boot_enumerate (PyProof.Rows.callWith_type1 (thn (ha.run pos pins s σ H _ I h) ?_) one rfl))⟩
  rintro us s1 ⟨vs, H1, I1, r1, a, xs, rfl, z⟩
  obtain ⟨u, rfl, ru⟩ := vals1 r1
  obtain rfl : u = Value.ref a := ru
  have off : ∀ b ∈ [s1.heap.objs.size + 1, s1.heap.objs.size], FpOk X pins H1 b → True := fun _ _ _ => trivial
  have big : ∀ b, b ∈ [s1.heap.objs.size + 1, s1.heap.objs.size] → s1.heap.objs.size ≤ b := fun b hb => by
    rcases List.mem_cons.mp hb with z | z
    · rw [z]
      exact Nat.le_succ _
    · rw [List.mem_singleton.mp z]
      exact Nat.le_refl _
  rcases z with ⟨hs, q⟩ | ⟨hs, q⟩
  · obtain ⟨ws, rel, pl, _⟩ := I1.list hs
    refine call_enumerate_list pl.isList fun g isE itr _ kept => wpAny_pyIter_enum isE ?_
    have J : Inv X pins σ H1 { s1 with heap := g } := I1.kept (t' := s1.toks) kept
    exact ⟨s1.heap.objs.size + 1, [s1.heap.objs.size + 1, s1.heap.objs.size], _, _, H1, rfl, J, turn_enum a (s1.heap.objs.size + 1) s1.heap.objs.size, ⟨⟨.none, isE⟩, itr, Nat.succ_ne_self _⟩, fun b hb => I1.fpOk (big b hb) (I1.hok.fresh (big b hb)), q⟩
  · obtain ⟨ws, rel, pt, _⟩ := I1.tuple hs
    refine TF.call_enum1 (begins_tuple a ws.toArray) pt fun g isE itr kept => wpAny_pyIter_enum isE ?_
    have J : Inv X pins σ H1 { s1 with heap := g } := I1.kept (t' := s1.toks) kept
    exact ⟨s1.heap.objs.size + 1, [s1.heap.objs.size + 1, s1.heap.objs.size], _, _, H1, rfl, J, TF.turn_enumT a (s1.heap.objs.size + 1) s1.heap.objs.size, ⟨⟨.none, isE⟩, ⟨_, itr, rfl, rfl⟩, Nat.succ_ne_self _⟩, fun b hb => I1.fpOk (big b hb) (I1.hok.fresh (big b hb)), q⟩
end
section
variable {K : PySem.W.Frag} {b : Bg}
theorem io_list {I : Hp} {a : Addr} {xs : List V} {ds : List PyData} (hs : SqL K I a xs) (hd : DpAll K I xs ds) : IterOk K b (DpR K) (Itl K a) I ds := by
  refine ⟨fun H => SqL K H a xs, YAt xs, ?_, fun H e => sl_mono e hs, fun i I2 H x H' d e k2 y hd' => ?_⟩
  · rw [← dpa_len hd]
    exact walk_list
  · obtain ⟨rfl, y⟩ := y
    obtain ⟨u, e1, e2⟩ := dpa_get hd hd'
    rw [y] at e1
    cases e1
    exact ⟨I2, k2.re, dp_mono e e2⟩
theorem io_tup {I : Hp} {a : Addr} {xs : List V} {ds : List PyData} (hs : SqT K I a xs) (hd : DpAll K I xs ds) : IterOk K b (DpR K) (Itt K a) I ds := by
  refine ⟨fun H => SqT K H a xs, YAt xs, ?_, fun H e => st_mono e hs, fun i I2 H x H' d e k2 y hd' => ?_⟩
  · rw [← dpa_len hd]
    exact walk_tup
  · obtain ⟨rfl, y⟩ := y
    obtain ⟨u, e1, e2⟩ := dpa_get hd hd'
    rw [y] at e1
    cases e1
    exact ⟨I2, k2.re, dp_mono e e2⟩
theorem io_str {I : Hp} {z : Str} : IterOk K b (DpR K) (Its z) I (chars z) := by
  refine ⟨fun _ => True, fun i H x H' => H' = H ∧ ∃ c, z.cps[i]? = some c ∧ x = .str ⟨#[c]⟩, ⟨fun i _ hi _ => ?_, fun _ _ => ?_, fun i H v H' _ _ y => y⟩, fun _ _ => trivial, fun i I2 H x H' d e k2 y hd => ?_⟩
  · unfold chars at hi
    rw [List.length_map, Array.length_toList] at hi
    exact hi
  · show z.cps.size ≤ (chars z).length
    unfold chars
    rw [List.length_map, Array.length_toList]
    exact Nat.le_refl _
  · obtain ⟨rfl, c, hc, rfl⟩ := y
    unfold chars at hd
    rw [List.getElem?_map, Array.getElem?_toList, hc] at hd
    cases hd
    exact ⟨I2, k2.re, Dp.str _⟩
theorem io_enum {I : Hp} {J : It} {G : Hp → Prop} {xs : List V} {ds : List PyData} (w : Walk J xs.length G (YPair (fun i => some (.int (i : Nat))) (fun i => xs[i]?))) (hG : ∀ H, Same I H → G H) (hd : DpAll K I xs ds) : IterOk K b (PairR K) J I (enumD ds) := by
  refine ⟨G, YPair (fun i => some (.int (i : Nat))) (fun i => xs[i]?), ?_, hG, fun i I2 H x H' d e k2 y hz => ?_⟩
  · unfold enumD
    rw [List.length_map, List.length_zipIdx, ← dpa_len hd]
    exact w
  · obtain ⟨T, x1, x2, rfl, nT, rfl, g1, g2⟩ := y
    have g1 : some (V.int (i : Nat)) = some x1 := g1
    have g2 : xs[i]? = some x2 := g2
    cases g1
    unfold enumD at hz
    rw [List.getElem?_map, List.getElem?_zipIdx] at hz
    cases q1 : ds[i]? with
    | none => rw [q1] at hz; cases hz
    | some d1 =>
      rw [q1] at hz
      have hz := (Option.some.inj hz).symm
      subst hz
      obtain ⟨u1, e1, f1⟩ := dpa_get hd q1
      rw [g2] at e1
      cases e1
      refine ⟨I2, k2.newH nT, T, _, x2, .int (i : Int), d1, rfl, upd_same, ?_, .int _, dp_mono e f1⟩
      simp
end
section
variable {X : Cx} {S : Sg} {tg e : Expr} {de : DE} {pos p : Pos}
theorem ji_seq (h : JE X S e de) : JI X S (DpR X.K) tg e (dISeq de) := by
  obtain ⟨t, h1, h2⟩ := h
  refine ⟨_, pi_seqS h1, fun b I0 H0 c δ A nb ok p σ I H k n R q => ?_⟩
  refine ev_fz (Q := fun r => match r with
    | .dat (.list ds) => A ds
    | .dat (.tuple ds) => A ds
    | .dat (.str z) => A (chars z)
    | _ => False) (h2 b I0 H0 c δ _ nb ok p) σ I H k n _ fun r v I1 H1 pr x rs => ?_
  dsimp only at pr
  split at pr
  · rename_i ds
    have rs : Dp X.K I1 v (.list ds) := rs
    cases rs with
    | @lst a xs _ hs hd => exact .inl ⟨a, xs, rfl, sl_mono x.s hs, q _ _ I1 H1 pr x (io_list hs hd)⟩
  · rename_i ds
    have rs : Dp X.K I1 v (.tuple ds) := rs
    cases rs with
    | @tup a xs _ hs hd => exact .inr (.inl ⟨a, xs, rfl, st_mono x.s hs, q _ _ I1 H1 pr x (io_tup hs hd)⟩)
  · exact .inr (.inr ⟨_, str_read rs, q _ _ I1 H1 pr x io_str⟩)
  · exact pr.elim
theorem ji_rg1 {a : Expr} {da : DA} (hg : Gl X "range") (hm : X.mg "range" = none) (ha : JA X S [a] da) (hs : starEach [a] X.env = [(false, eval a X.env)] := by rfl) : JI X S (DpR X.K) tg (.Call (.Name "range" p) [a] [] pos) (dIRg1 da) := by
  obtain ⟨t, a1, a2⟩ := ha
  refine ⟨_, pi_range1 hg hm a1 hs, fun b I0 H0 c δ A nb ok p => ?_⟩
  refine (itd_rng1 (A := fun n => A (rangeD 0 n.toNat)) ((a2 b I0 H0 c δ _ nb ok p).mono fun rs h => ?_)).mono fun ds ⟨n, e, h⟩ => e ▸ h
  obtain ⟨_, h⟩ := h
  split at h
  · exact ⟨_, rfl, h.1.2, h.1.1, h.2⟩
  · exact h.elim
theorem ji_rg2 {a a' : Expr} {da : DA} (hg : Gl X "range") (hm : X.mg "range" = none) (ha : JA X S [a, a'] da) (hs : starEach [a, a'] X.env = [(false, eval a X.env), (false, eval a' X.env)] := by rfl) (hs2 : starEach [a'] X.env = [(false, eval a' X.env)] := by rfl) : JI X S (DpR X.K) tg (.Call (.Name "range" p) [a, a'] [] pos) (dIRg2 da) := by
  obtain ⟨t, a1, a2⟩ := ha
  refine ⟨_, pi_range2 hg hm a1 hs hs2, fun b I0 H0 c δ A nb ok p => ?_⟩
  refine (itd_rng2 (A := fun m n => A (rangeD m (n - m).toNat)) ((a2 b I0 H0 c δ _ nb ok p).mono fun rs h => ?_)).mono fun ds ⟨m, n, e, h⟩ => e ▸ h
  obtain ⟨_, h⟩ := h
  split at h
  · exact ⟨_, _, rfl, h.1, h.2⟩
  · exact h.elim
theorem ji_zip {a a' : Expr} {da : DA} {tpos : Pos} {elts : List Expr} {kk : Nat} (hg : Gl X "zip") (hm : X.mg "zip" = none) (ha : JA X S [a, a'] da) (hs : starEach [a, a'] X.env = (false, eval a X.env) :: starEach [a'] X.env := by rfl) (hpl : (backTo pos (starEach [a'] X.env)).any (·.1) = false := by rfl) :
    JI X S (PairR X.K) (.Tuple elts kk tpos) (.Call (.Name "zip" p) [a, a'] [] pos) (dIZip da) := by
  obtain ⟨t, a1, a2⟩ := ha
  refine ⟨_, pi_zipA hg hm a1 hs hpl, fun b I0 H0 c δ A nb ok p => ?_⟩
  refine (itd_zipT (A := fun m n => A (zipD m n)) ((a2 b I0 H0 c δ _ nb ok p).mono fun rs h => ?_)).mono fun ds ⟨m, n, e, h⟩ => e ▸ h
  obtain ⟨_, h⟩ := h
  split at h
  · exact ⟨_, _, rfl, h⟩
  · exact h.elim
theorem ji_enum {a : Expr} {da : DA} {tpos : Pos} {elts : List Expr} {kk : Nat} (hg : Gl X "enumerate") (hm : X.mg "enumerate" = none) (ha : JA X S [a] da) (hs : starEach [a] X.env = [(false, eval a X.env)] := by rfl) :
    JI X S (PairR X.K) (.Tuple elts kk tpos) (.Call (.Name "enumerate" p) [a] [] pos) (dIEnum da) := by
  obtain ⟨t, a1, a2⟩ := ha
  refine ⟨_, pi_enumS hg hm a1 hs, fun b I0 H0 c δ A nb ok p σ I H k n R q => ?_⟩
  refine a2 b I0 H0 c δ _ nb ok p σ I H k n _ fun rs vs I1 H1 pr x r => ?_
  obtain ⟨_, pr⟩ := pr
  split at pr
  · rename_i ds _
    cases r with
    | cons r1 rr =>
      cases rr
      have r1 : Dp X.K I1 _ (.tuple ds) := r1
      cases r1 with
      | @tup a xs _ hs hd => exact ⟨a, xs, rfl, .inr ⟨st_mono x.s hs, q _ _ I1 H1 pr x (io_enum walk_enumT (fun H e => st_mono e hs) hd)⟩⟩
  · rename_i ds _
    cases r with
    | cons r1 rr =>
      cases rr
      have r1 : Dp X.K I1 _ (.list ds) := r1
      cases r1 with
      | @lst a xs _ hs hd => exact ⟨a, xs, rfl, .inl ⟨sl_mono x.s hs, q _ _ I1 H1 pr x (io_enum walk_enum (fun H e => sl_mono e hs) hd)⟩⟩
  · exact pr.elim
end
end DW

set_option Elab.async false
set_option linter.all false
set_option maxRecDepth 100000
set_option maxHeartbeats 4000000
namespace DW
open PySem PySem.Spec PyProof.Rows L2 RZ DL
/-! ### targets of walks -/
abbrev Tf := PyData → En → Option En
def tfName (i : Nat) : Tf := fun d δ => some (δ.set i (some (.dat d)))
def tfPair (i j : Nat) : Tf := fun d δ => match d with
  | .tuple [a, b] => some ((δ.set i (some (.dat a))).set j (some (.dat b)))
  | _ => none
theorem nb_set {n i : Nat} {δ : En} {r : DV} (h : NB n δ) (hr : ∀ ds, r ≠ .bor ds) (hk : ∀ kvs, r ≠ .dct false kvs := by intro _ z; cases z) : NB n (δ.set i (some r)) := by
  refine ⟨by rw [List.length_set]; exact h.len, ?_⟩
  have h2 := h.nb
  unfold noBor at h2 ⊢
  rw [List.all_eq_true] at h2 ⊢
  intro x hx
  rcases List.mem_or_eq_of_mem_set hx with z | z
  · exact h2 x z
  · subst z
    cases r with
    | bor ds => exact absurd rfl (hr ds)
    | dct o kvs =>
      cases o with
      | true => rfl
      | false => exact absurd rfl (hk kvs)
    | _ => rfl
theorem nb_dat {n i : Nat} {δ : En} {d : PyData} (h : NB n δ) : NB n (δ.set i (some (.dat d))) := nb_set h fun _ z => by cases z
theorem nb_own {n i : Nat} {δ : En} {d : List PyData} (h : NB n δ) : NB n (δ.set i (some (.own d))) := nb_set h fun _ z => by cases z
section
variable (X : Cx) (S : Sg)
def JG (Rl : Rel) (is : List Nat) (tg : Expr) (tf : Tf) : Prop := ∃ g, PG X tg g ∧ ∀ b d δ δ', NB S.n δ → tf d δ = some δ' → TgD X.K b Rl g is d δ δ'
def TfOk (n : Nat) (tf : Tf) : Prop := ∀ d δ δ', NB n δ → tf d δ = some δ' → NB n δ'
end
section
variable {X : Cx} {S : Sg} {pos : Pos}
theorem jg_name {i : Nat} {tg : Expr} (h : PG X tg (gName i)) (hi : i < S.n) : JG X S (DpR X.K) [i] tg (tfName i) := ⟨_, h, fun b d δ δ' nb e => by
  cases e
  exact tg_name (by rw [nb.len]; exact hi)⟩
theorem jg_pair {i j : Nat} {tg : Expr} (h : PG X tg (gTup X.K 2 (gCons (gName i) (gCons (gName j) gNil)))) (hi : i < S.n) (hj : j < S.n) : JG X S (PairR X.K) [i, j] tg (tfPair i j) := ⟨_, h, fun b d δ δ' nb e => by
  unfold tfPair at e
  split at e
  · cases e
    exact tg_pair (by rw [nb.len]; exact hi) (by rw [nb.len]; exact hj)
  · cases e⟩
theorem jg_pairD {i j : Nat} {tg : Expr} (h : PG X tg (gTup X.K 2 (gCons (gName i) (gCons (gName j) gNil)))) (hi : i < S.n) (hj : j < S.n) : JG X S (DpR X.K) [i, j] tg (tfPair i j) := ⟨_, h, fun b d δ δ' nb e => by
  unfold tfPair at e
  split at e
  · cases e
    exact tg_pairD (by rw [nb.len]; exact hi) (by rw [nb.len]; exact hj)
  · cases e⟩
end
theorem to_name {n i : Nat} : TfOk n (tfName i) := fun d δ δ' nb e => by
  cases e
  exact nb_dat nb
theorem to_pair {n i j : Nat} : TfOk n (tfPair i j) := fun d δ δ' nb e => by
  unfold tfPair at e
  split at e
  · cases e
    exact nb_dat (nb_dat nb)
  · cases e
/-! ### comprehensions -/
def lcGo (step : PyData → (Option DV → Prop) → Prop) : List PyData → (List PyData → Prop) → Prop
  | [], P => P []
  | d :: ds, P => step d fun o => match o with
    | none => lcGo step ds P
    | some (.dat y) => lcGo step ds fun ys => P (y :: ys)
    | _ => False
def Cn.no (c : Cn) : Cn := ⟨fun _ _ => False, c.fa⟩
def Sg.no (S : Sg) : Sg := ⟨S.n, fun _ _ _ => False, S.cls, S.fa, S.tb⟩
def lcStep (tf : Tf) (dt : DT) (de : DE) (c : Cn) (δ : En) : PyData → (Option DV → Prop) → Prop := fun d k => match tf d δ with
  | some δ' => dt c.no δ' fun t => if t = true then de c.no δ' fun r => k (some (fz r)) else k none
  | none => False
def dLc (di : DI) (tf : Tf) (dt : DT) (de : DE) (vs : List Nat) : DE := fun c δ P => (∀ v ∈ vs, δ[v]? = some none) ∧ di c δ fun items => items.length ≤ 100000 ∧ lcGo (lcStep tf dt de c δ) items fun ys => P (.own ys)
theorem Cok.no {K : PySem.W.Frag} {S : Sg} {b : Bg} {I0 H0 : Hp} {c : Cn} (h : Cok K S b I0 H0 c) : Cok K S.no b I0 H0 c.no := ⟨h.fa, (fun C fs d I' H' hx => by
  obtain ⟨s, _, z⟩ := hx
  exact z.elim), h.tb⟩
theorem ce_lc {K : PySem.W.Frag} {S : Sg} {Rl : Rel} {wi : TI} {g : TG} {tt : TT} {te : TE} {vs is : List Nat} {di : DI} {tf : Tf} {dt : DT} {de : DE} (hi : CI K S Rl wi di) (ho : TfOk S.n tf) (hg : ∀ b d δ δ', NB S.n δ → tf d δ = some δ' → TgD K b Rl g is d δ δ') (his : ∀ v ∈ is, v ∈ vs) (ht : CT K S.no tt dt) (he : DW.CE K S.no te de) :
    DW.CE K S (tLc wi g tt te vs) (dLc di tf dt de vs) := fun b I0 H0 c δ P nb ok p σ I H k n Q q => by
  obtain ⟨hv, p⟩ := p
  refine hi b I0 H0 c δ _ nb ok p σ I H k n _ fun items J I1 H1 pg x okI => fun D hD => ?_
  obtain ⟨hlen, go⟩ := pg
  obtain ⟨G, Y, w, hG, hY⟩ := okI
  have nDb : D ≠ b.a := x.ok.nb hD
  refine lc_it w (fun i Hk => ∃ Ik acc ys, Ext K b I1 H1 Ik Hk ∧ Ik D = none ∧ Hk D = some (.lst acc) ∧ DpAll K Ik acc ys ∧ acc.length ≤ i ∧ lcGo (lcStep tf dt de c δ) (items.drop i) fun zs => P (.own (ys ++ zs))) ?_ (fun i Hk _ ⟨Ik, acc, ys, e, _⟩ => hG Hk (e.i.trans e.s)) ?_ ?_
  · exact ⟨I1, [], [], x.ok.newH hD, x.ok.inone hD, upd_same, .nil, Nat.le_refl _, go⟩
  · rintro i v Hk Hk' hi' ⟨Ik, acc, ys, e, iD, aD, hd, al, go'⟩ hy
    have hd1 : items[i]? = some items[i] := List.getElem?_eq_getElem hi'
    rw [List.drop_eq_getElem_cons hi'] at go'
    generalize items[i] = d at hd1 go'
    obtain ⟨I3, e3, d3⟩ := hY i Ik Hk v Hk' d e.i e.ok hy hd1
    have e13 := e.trans e3
    have n3 : EnvR K b H0 I3 Hk' (wipe σ vs) δ := ((n.ext x).ext e13).wipe hv
    unfold lcGo lcStep at go'
    split at go'
    · rename_i δ' et
      have nb' := ho d δ δ' nb et
      have tg := hg b d δ δ' nb et
      refine tg H0 I3 Hk' _ v e3.ok n3 d3 _ fun σ2 n2 out hl => ⟨?_, ?_⟩
      · rw [wipe_eq (σ := wipe σ vs) (τ := σ2) hl (fun j hj => out j (fun z => hj (his j z)))]
        exact wipe_eq (wipe_length _ _) fun j hj => wipe_out hj
      · refine ht b I0 H0 c.no δ' _ nb' ok.no go' σ2 I3 Hk' (k.trans (x.trans e13)) n2 _ fun t I4 H4 pc e4 => ?_
        have e14 := e13.trans e4
        have aD3 : Hk' D = some (.lst acc) := e3.h D _ nDb lst_tbl aD
        have iD4 : I4 D = none := e4.n D _ (e3.n D _ iD aD lst_tbl) aD3 lst_tbl
        have aD4 : H4 D = some (.lst acc) := e4.h D _ nDb lst_tbl aD3
        have hd4 := dpa_mono (e3.i.trans e4.i) hd
        cases t with
        | false =>
          rw [if_neg (by decide)] at pc
          rw [if_neg (by decide)]
          exact ⟨I4, acc, ys, e14, iD4, aD4, hd4, by omega, pc⟩
        | true =>
          rw [if_pos rfl] at pc
          rw [if_pos rfl]
          refine ev_fz (Q := fun r => match some r with
            | none => lcGo (lcStep tf dt de c δ) (items.drop (i + 1)) fun zs => P (.own (ys ++ zs))
            | some (.dat y) => lcGo (lcStep tf dt de c δ) (items.drop (i + 1)) fun zs => P (.own (ys ++ y :: zs))
            | _ => False) (he b I0 H0 c.no δ' _ nb' ok.no pc) σ2 I4 H4 (k.trans (x.trans e14)) (n2.ext e4) _ fun r y I5 H5 pr e5 rs => ?_
          have iD5 : I5 D = none := e5.n D _ iD4 aD4 lst_tbl
          have aD5 : H5 D = some (.lst acc) := e5.h D _ nDb lst_tbl aD4
          cases r with
          | dat yd =>
            refine ⟨acc, aD5, Nat.lt_of_lt_of_le (by omega : acc.length < 100000) (by decide : 100000 ≤ sizeLine), I5, acc ++ [y], ys ++ [yd], (e14.trans e5).mut (fr_none hD) iD5 nDb aD5, iD5, upd_same, dpa_app (dpa_mono e5.i hd4) (.cons rs .nil), by rw [List.length_append]; simp; omega, ?_⟩
            have ez : (fun zs => P (.own (ys ++ [yd] ++ zs))) = fun zs => P (.own (ys ++ yd :: zs)) := by
              funext zs
              rw [List.append_assoc]
              rfl
            rw [ez]
            exact pr
          | own _ => exact (pr : False).elim
          | bor _ => exact (pr : False).elim
          | raw _ => exact (pr : False).elim
          | bag => exact (pr : False).elim
          | dct _ _ => exact (pr : False).elim
    · exact go'.elim
  · rintro Hk ⟨Ik, acc, ys, e, iD, aD, hd, al, go'⟩
    rw [List.drop_length] at go'
    unfold lcGo at go'
    rw [List.append_nil] at go'
    exact q _ _ Ik Hk go' (x.trans e) ⟨D, acc, rfl, x.free (fr_none hD), iD, nDb, aD, hd⟩
/-- all readings at once -/
theorem all_e {ι : Type} {Xi : ι → Cx} {K : PySem.W.Frag} {S : Sg} {e : Expr} {de : DE} (hK : ∀ i, (Xi i).K = K) (h : ∀ i, JE (Xi i) S e de) : ∃ te, (∀ i, PE (Xi i) e te) ∧ DW.CE K S te de := by
  have h' : ∀ i, ∃ te, PE (Xi i) e te ∧ DW.CE K S te de := fun i => by
    obtain ⟨te, h1, h2⟩ := h i
    exact ⟨te, h1, hK i ▸ h2⟩
  refine ⟨fun σ H Q => ∀ i, Classical.choose (h' i) σ H Q, fun i => ⟨fun pins s σ H Q I q => (Classical.choose_spec (h' i)).1.run pins s σ H Q I (q i)⟩, fun b I0 H0 c δ P nb ok p σ I H k n Q q i => (Classical.choose_spec (h' i)).2 b I0 H0 c δ P nb ok p σ I H k n Q q⟩
theorem all_t {ι : Type} {Xi : ι → Cx} {K : PySem.W.Frag} {S : Sg} {es : List Expr} {de : DT} (hK : ∀ i, (Xi i).K = K) (h : ∀ i, ∃ t, PTs (Xi i) es t ∧ CT (Xi i).K S t de) : ∃ te, (∀ i, PTs (Xi i) es te) ∧ CT K S te de := by
  have h' : ∀ i, ∃ te, PTs (Xi i) es te ∧ CT K S te de := fun i => by
    obtain ⟨te, h1, h2⟩ := h i
    exact ⟨te, h1, hK i ▸ h2⟩
  refine ⟨fun σ H Q => ∀ i, Classical.choose (h' i) σ H Q, fun i => ⟨fun pins s σ H Q I q => (Classical.choose_spec (h' i)).1.run pins s σ H Q I (q i)⟩, fun b I0 H0 c δ P nb ok p σ I H k n Q q i => (Classical.choose_spec (h' i)).2 b I0 H0 c δ P nb ok p σ I H k n Q q⟩
theorem all_g {ι : Type} {Xi : ι → Cx} {K : PySem.W.Frag} {S : Sg} {Rl : Rel} {is : List Nat} {tg : Expr} {tf : Tf} (hK : ∀ i, (Xi i).K = K) (h : ∀ i, JG (Xi i) S Rl is tg tf) : ∃ g, (∀ i, PG (Xi i) tg g) ∧ ∀ b d δ δ', NB S.n δ → tf d δ = some δ' → TgD K b Rl g is d δ δ' := by
  have h' : ∀ i, ∃ g, PG (Xi i) tg g ∧ ∀ b d δ δ', NB S.n δ → tf d δ = some δ' → TgD K b Rl g is d δ δ' := fun i => by
    obtain ⟨te, h1, h2⟩ := h i
    exact ⟨te, h1, hK i ▸ h2⟩
  exact ⟨fun v σ H Q => ∀ i, Classical.choose (h' i) v σ H Q, fun i => ⟨fun pins s σ H v u Q I r q => (Classical.choose_spec (h' i)).1.run pins s σ H v u Q I r (q i)⟩, fun b d δ δ' nb e H0 I H σ v k n hd Q q i => (Classical.choose_spec (h' i)).2 b d δ δ' nb e H0 I H σ v k n hd Q q⟩
def JTs (X : Cx) (S : Sg) (es : List Expr) (dt : DT) : Prop := ∃ t, PTs X es t ∧ CT X.K S t dt
theorem jts_nil {X : Cx} {S : Sg} : JTs X S [] dYes := ⟨_, pts_nil, fun b I0 H0 c δ P nb ok p σ I H k n Q q => q true I H p k.re⟩
theorem jts_one {X : Cx} {S : Sg} {e : Expr} {dt : DT} (h : JT X S e dt) : JTs X S [e] dt := by
  obtain ⟨t, h1, h2⟩ := h
  exact ⟨_, pts_one h1, h2⟩
section
variable {X : Cx} {S : Sg} {elt tg iter : Expr} {ifs : List Expr} {scope : Scope} {own : List (Str × Nat)} {pos spos : Pos} {Rl : Rel} {is : List Nat} {di : DI} {tf : Tf} {dt : DT} {de : DE}
abbrev Blk := Shared × Hp × Addr × List (Str × Addr) × List Addr
abbrev Xb (X : Cx) (scope : Scope) (q : Blk) : Cx := X.blk q.1 q.2.1 scope (compEnvC scope q.2.2.2.1 q.2.2.1 X.env) q.2.2.2.2
theorem je_lc (hc : X.calm = true) (hN : X.N.Nodup) (hi : JI X S Rl tg iter di) (ok : BlkOk X.N X.env.scope scope own) (ho : TfOk S.n tf) (hg : ∀ q : Blk, JG (Xb X scope q) S Rl is tg tf) (his : ∀ v ∈ is, v ∈ own.map (·.2))
    (ht : ∀ q : Blk, JTs (Xb X scope q) S.no ifs dt) (he : ∀ q : Blk, JE (Xb X scope q) S.no elt de) (hs : ∀ x, foldedSetIterable iter X.env x = pure x := by intro _; rfl) : JE X S (.ListComp elt [⟨tg, iter, ifs, 0⟩] scope pos) (dLc di tf dt de (own.map (·.2))) := by
  obtain ⟨wi, i1, i2⟩ := hi
  obtain ⟨g, g1, g2⟩ := all_g (Xi := Xb X scope) (K := X.K) (fun _ => rfl) hg
  obtain ⟨tt, t1, t2⟩ := all_t (Xi := Xb X scope) (K := X.K) (fun _ => rfl) ht
  obtain ⟨te, e1, e2⟩ := all_e (Xi := Xb X scope) (K := X.K) (fun _ => rfl) he
  exact ⟨_, pe_lc hc hN i1 ok (fun s H C cl fp => g1 (s, H, C, cl, fp)) (fun s H C cl fp => t1 (s, H, C, cl, fp)) (fun s H C cl fp => e1 (s, H, C, cl, fp)) hs, ce_lc i2 ho g2 his t2 e2⟩
end
end DW

set_option Elab.async false
set_option linter.all false
set_option maxRecDepth 100000
set_option maxHeartbeats 4000000
namespace DW
open PySem PySem.Spec PyProof.Rows L2 RZ DL
/-! ### statements -/
def dNext : DS := fun _ δ D => D.nx δ
/-- what comes behind a statement -/
def later (b : DS) (c : Cn) (D : Ed) (δ : En) : Prop := b c δ D
def dSeq (a b : DS) : DS := fun c δ D => a c δ ⟨later b c D, D.rt, D.bk, D.ct⟩
def dIfS (t : DT) (a b : DS) : DS := fun c δ D => t c δ fun v => if v = true then a c δ D else b c δ D
def dAsg (i : Nat) (de : DE) : DS := fun c δ D => de c δ fun r => match r with
  | .bor _ => False
  | .dct false _ => False
  | r => D.nx (δ.set i (some r))
def dPar (i j : Nat) (da : DA) : DS := fun c δ D => da c δ fun rs => match rs with
  | [.dat a, .dat b] => D.nx ((δ.set i (some (.dat a))).set j (some (.dat b)))
  | _ => False
def dRet (de : DE) : DS := fun c δ D => de c δ D.rt
def dRetV (i : Nat) : DS := fun _ δ D => match δ[i]? with
  | some (some (.dct _ _)) => False
  | some (some r) => D.rt r
  | _ => False
def dRetN : DS := fun _ _ D => D.rt (.dat .none)
def dExpr (de : DE) : DS := fun c δ D => de c δ fun _ => D.nx δ
def dBrk : DS := fun _ δ D => D.bk δ
def dCnt : DS := fun _ δ D => D.ct δ
def forGo (c : Cn) (tf : Tf) (db : DS) (D : Ed) : List PyData → En → Prop
  | [], δ => D.nx δ
  | d :: ds, δ => match tf d δ with
    | some δ' => db c δ' ⟨forGo c tf db D ds, D.rt, D.nx, forGo c tf db D ds⟩
    | none => False
def dFor (di : DI) (tf : Tf) (db : DS) : DS := fun c δ D => di c δ fun items => forGo c tf db D items δ
def frzAt (i : Nat) (δ : En) : En := match δ[i]? with
  | some (some (.own ds)) => δ.set i (some (.dat (.list ds)))
  | _ => δ
def dFrz (i : Nat) (ds : DS) : DS := fun c δ D => ds c (frzAt i δ) D
section
variable {K : PySem.W.Frag} {S : Sg}
theorem cs_next : CS K S tNext dNext := fun b I0 H0 c δ D nb ok p => sv_nil ⟨nb, p⟩
theorem cs_seq {t u : TS} {a d : DS} (h : CS K S t a) (h' : CS K S u d) : CS K S (tSeq t u) (dSeq a d) := fun b I0 H0 c δ D nb ok p =>
  sv_seq (N' := fun δ' => NB S.n δ' ∧ d c δ' D) (h b I0 H0 c δ _ nb ok p) fun δ' ⟨nb', p'⟩ => h' b I0 H0 c δ' D nb' ok p'
theorem cs_if {t : TT} {u w : TS} {dt : DT} {a d : DS} (ht : CT K S t dt) (h : CS K S u a) (h' : CS K S w d) : CS K S (tIfS t u w) (dIfS dt a d) := fun b I0 H0 c δ D nb ok p =>
  sv_if (A := fun v => if v = true then a c δ D else d c δ D) (ht b I0 H0 c δ _ nb ok p) (fun hA => h b I0 H0 c δ D nb ok hA) fun hA => h' b I0 H0 c δ D nb ok hA
theorem cs_asg {i : Nat} {te : TE} {de : DE} (hi : i < S.n) (h : DW.CE K S te de) : CS K S (tAsg te (gName i)) (dAsg i de) := fun b I0 H0 c δ D nb ok p =>
  sv_asg (h b I0 H0 c δ _ nb ok p) (by rw [nb.len]; exact hi) fun r hr => by
    cases r with
    | bor ds => exact hr.elim
    | dat d => exact ⟨(fun _ z => by cases z), nb_dat nb, hr⟩
    | own d => exact ⟨(fun _ z => by cases z), nb_own nb, hr⟩
    | raw d => exact ⟨(fun _ z => by cases z), nb_set nb (fun _ z => by cases z), hr⟩
    | bag => exact ⟨(fun _ z => by cases z), nb_set nb (fun _ z => by cases z), hr⟩
    | dct o kvs =>
      cases o with
      | true => exact ⟨(fun _ z => by cases z), nb_set nb (fun _ z => by cases z) (fun _ z => by cases z), hr⟩
      | false => exact hr.elim
theorem cs_par {i j m : Nat} {ta : TA} {da : DA} (hi : i < S.n) (hj : j < S.n) (h : CA K S m ta da) : CS K S (tPar i j ta) (dPar i j da) := fun b I0 H0 c δ D nb ok p σ I H e n Dd a1 a2 a3 a4 =>
  h b I0 H0 c δ _ nb ok p σ I H e n _ fun rs vs I' H' pr x ra => by
    obtain ⟨_, pr⟩ := pr
    split at pr
    · cases ra with
      | cons q1 ra =>
        cases ra with
        | cons q2 ra =>
          cases ra
          exact ⟨_, _, rfl, a1 _ _ I' H' ⟨nb_dat (nb_dat nb), pr⟩ (e.trans x) x.i (((n.ext x).setD (by rw [nb.len]; exact hi) (q1.since (free_of e)) (fun _ z => by cases z)).setD (by rw [List.length_set, nb.len]; exact hj) (q2.since (free_of e)) (fun _ z => by cases z))⟩
    · exact pr.elim
theorem cs_ret {te : TE} {de : DE} (h : DW.CE K S te de) : CS K S (tRet te) (dRet de) := fun b I0 H0 c δ D nb ok p => sv_ret (h b I0 H0 c δ _ nb ok p) fun r hr => hr
theorem cs_retV {i : Nat} : CS K S (tRet (tVar i)) (dRetV i) := fun b I0 H0 c δ D nb ok p => by
  unfold dRetV at p
  split at p
  · exact p.elim
  · rename_i r nd er
    cases r with
    | dct o kvs => exact absurd rfl (nd o kvs)
    | own ds => exact sv_retO er p
    | bor ds => exact absurd er (noBor_at nb.nb i ds)
    | dat d => exact sv_ret (ev_var er) fun _ e => e ▸ p
    | raw d => exact sv_ret (ev_var er) fun _ e => e ▸ p
    | bag => exact sv_ret (ev_var er) fun _ e => e ▸ p
  · exact p.elim
theorem cs_retN : CS K S tRetN dRetN := fun b I0 H0 c δ D nb ok p => sv_retN p
theorem cs_expr {te : TE} {de : DE} (h : DW.CE K S te de) : CS K S (tDrop te) (dExpr de) := fun b I0 H0 c δ D nb ok p σ I H e n Dd a1 a2 a3 a4 =>
  h b I0 H0 c δ _ nb ok p σ I H e n _ fun r v I' H' hr x rs => a1 _ _ I' H' ⟨nb, hr⟩ (e.trans x) x.i (n.ext x)
theorem cs_brk : CS K S tBreak dBrk := fun b I0 H0 c δ D nb ok p => sv_break ⟨nb, p⟩
theorem cs_cnt : CS K S tCont dCnt := fun b I0 H0 c δ D nb ok p => sv_cont ⟨nb, p⟩
theorem cs_for {Rl : Rel} {wi : TI} {g : TG} {tb : TS} {is : List Nat} {di : DI} {tf : Tf} {db : DS} (hi : CI K S Rl wi di) (ho : TfOk S.n tf) (hg : ∀ b d δ δ', NB S.n δ → tf d δ = some δ' → TgD K b Rl g is d δ δ') (hb : CS K S tb db) : CS K S (tFor wi g tb) (dFor di tf db) := fun b I0 H0 c δ D nb ok p =>
  sv_for (A := fun items => forGo c tf db D items δ) (hi b I0 H0 c δ _ nb ok p) fun items go => by
    refine ⟨fun k δk => NB S.n δk ∧ forGo c tf db D (items.drop k) δk, ⟨nb, go⟩, fun k d δk hd h => ?_, fun δn h => ?_⟩
    · obtain ⟨nbk, h⟩ := h
      have hk : k < items.length := (List.getElem?_eq_some_iff.mp hd).1
      rw [List.drop_eq_getElem_cons hk] at h
      have e : items[k] = d := (List.getElem?_eq_some_iff.mp hd).2
      rw [e] at h
      unfold forGo at h
      split at h
      · rename_i δ' et
        have nb' := ho d δk δ' nbk et
        exact ⟨δ', is, hg b d δk δ' nbk et, hb b I0 H0 c δ' _ nb' ok h⟩
      · exact h.elim
    · obtain ⟨nbn, h⟩ := h
      rw [List.drop_length] at h
      exact ⟨nbn, h⟩
theorem cs_frz {t : TS} {ds : DS} (i : Nat) (h : CS K S t ds) : CS K S t (dFrz i ds) := fun b I0 H0 c δ D nb ok p => by
  unfold dFrz frzAt at p
  split at p
  · rename_i es e
    exact sv_frz e (noBor_at nb.nb) (h b I0 H0 c _ D (nb_dat nb) ok p)
  · exact h b I0 H0 c δ D nb ok p
end
/-! ### general targets of an assignment -/
abbrev DG := Cn → En → PyData → (En → Prop) → Prop
section
variable (K : PySem.W.Frag) (b : Bg) (I0 H0 : Hp)
def GvD (g : TG) (δ : En) (d : PyData) (N : En → Prop) : Prop := ∀ (σ : L2.St) (I H : Hp) (v : V), Ext K b I0 H0 I H → EnvR K b H0 I H σ δ → Dp K I v d → ∀ Q : L2.St → Hp → Prop,
  (∀ δ' σ' I' H', N δ' → Ext K b I0 H0 I' H' → Same I I' → EnvR K b H0 I' H' σ' δ' → Q σ' H') → g v σ H Q
def GsD (g : TGs) (δ : En) (ds : List PyData) (N : En → Prop) : Prop := ∀ (σ : L2.St) (I H : Hp) (vs : List V), Ext K b I0 H0 I H → EnvR K b H0 I H σ δ → DpAll K I vs ds → ∀ Q : L2.St → Hp → Prop,
  (∀ δ' σ' I' H', N δ' → Ext K b I0 H0 I' H' → Same I I' → EnvR K b H0 I' H' σ' δ' → Q σ' H') → g vs σ H Q
end
def CG (K : PySem.W.Frag) (S : Sg) (g : TG) (dg : DG) : Prop := ∀ b I0 H0 c δ d N, NB S.n δ → Cok K S b I0 H0 c → dg c δ d N → GvD K b I0 H0 g δ d (fun δ' => NB S.n δ' ∧ N δ')
abbrev DGs := Cn → En → List PyData → (En → Prop) → Prop
def CGs (K : PySem.W.Frag) (S : Sg) (g : TGs) (dg : DGs) : Prop := ∀ b I0 H0 c δ ds N, NB S.n δ → Cok K S b I0 H0 c → dg c δ ds N → GsD K b I0 H0 g δ ds (fun δ' => NB S.n δ' ∧ N δ')
def dGName (i : Nat) : DG := fun _ δ d N => N (δ.set i (some (.dat d)))
/-- no other slot holds a dict -/
def oneDct : Nat → En → Bool
  | _, [] => true
  | 0, _ :: δ => δ.all fun x => match x with
    | some (.dct _ _) => false
    | _ => true
  | i + 1, x :: δ => (match x with
    | some (.dct _ _) => false
    | _ => true) && oneDct i δ
theorem oneDct_at : ∀ {i : Nat} {δ : En}, oneDct i δ = true → ∀ (j : Nat) o kvs, j ≠ i → δ[j]? ≠ some (some (.dct o kvs))
  | _, [], _, _, _, _, _, e => by cases e
  | 0, x :: δ, h, 0, o, kvs, n, e => n rfl
  | 0, x :: δ, h, j + 1, o, kvs, n, e => by
    have e : δ[j]? = some (some (.dct o kvs)) := e
    have := List.all_eq_true.mp h _ (List.mem_of_getElem? e)
    cases this
  | i + 1, x :: δ, h, 0, o, kvs, n, e => by
    have e : some x = some (some (.dct o kvs)) := e
    cases e
    cases h
  | i + 1, x :: δ, h, j + 1, o, kvs, n, e => oneDct_at (i := i) (δ := δ) (Bool.and_eq_true_iff.mp h).2 j o kvs (fun z => n (by rw [z])) e
def rSetX (K : PySem.W.Frag) : V → V → V → Hp → (Hp → Prop) → Prop := fun o i v H Q => rSetL o i v H Q ∨ DK.rDSet K o i v H Q
theorem set_x {X : Cx} (hu : X.A.units + 65 < cLine) : PSet X (rSetX X.K) := pset_or set_list (DK.set_dct (by omega))
theorem dct_code {a : Addr} {es : List DK.Ent} {q : Str} : DK.dctO a es ≠ LamX.CodeO a q := fun z => by
  have z : DK.dctP a es = fun h => ∃ (oc : Obj) (vs : Array Value) (t : Tok), h.get? a = some oc ∧ oc.data = .fields vs ∧ vs[1]? = some (.str q t) := by
    have := (HO.ext.inj z)
    exact this
  obtain ⟨h, hh⟩ : ∃ h : Heap, h.objs.size = a := ⟨⟨Array.replicate a { cls := .none, data := .fields #[] }, {}⟩, by simp⟩
  have hg : (h.push { cls := .none, data := .fields #[.none, .str q 0] }).get? a = some { cls := .none, data := .fields #[.none, .str q 0] } := by
    rw [← hh]
    exact Heap.get?_push_size _ rfl
  have : DK.dctP a es (h.push { cls := .none, data := .fields #[.none, .str q 0] }) := by
    rw [z]
    exact ⟨_, _, 0, hg, rfl, rfl⟩
  obtain ⟨_, xs, _, o, ds, ep, e, _, hd, _⟩ := this
  rw [hg] at e
  cases e
  cases hd
theorem tabs_updD {T : List (Addr × Str)} {H : Hp} {a : Addr} {es : List DK.Ent} {o : HO} (t : LamX.Tabs T H) (h : H a = some (DK.dctO a es)) : LamX.Tabs T (upd H a o) := fun p hp => by
  obtain ⟨ps, h1, h2, h3⟩ := t p hp
  refine ⟨ps, by rw [upd_ne (ne_of h1 h (fun z => by cases z))]; exact h1, h2, fun pos cv hc => ?_⟩
  obtain ⟨c, e1, e2⟩ := h3 pos cv hc
  refine ⟨c, e1, ?_⟩
  by_cases z : c = a
  · subst z
    rw [h] at e2
    exact absurd (Option.some.inj e2) dct_code
  · rw [upd_ne z]; exact e2
/-- a dict's object changes -/
theorem Ext.mutD {K : PySem.W.Frag} {b : Bg} {I H I' H' : Hp} {D : Addr} {es : List DK.Ent} {o : HO} (e : Ext K b I H I' H') (h0 : DL.Fr H D) (hi : I' D = none) (hb : D ≠ b.a) (hD : H' D = some (DK.dctO D es)) : Ext K b I H I' (upd H' D o) := by
  obtain ⟨n, pl, tb, l, ns, x, q, m, c, e1, sl, r⟩ := e.b
  refine ⟨e.i, fun a u n t h => ?_, e.n, fun l xs h => (let ⟨ys, h1⟩ := e.k l xs h; ⟨ys, by rw [upd_ne (fun z => hb z.symm)]; exact h1⟩), fun a u h => ?_, n, pl, tabs_updD tb hD, l, ns, x, q, m, c, ?_, sl, r⟩
  · rw [upd_ne (fun (z : a = D) => fr_not h0 (z ▸ h) t)]; exact e.h a u n t h
  · rw [upd_ne (ne_of_none h hi)]; exact e.s a u h
  · rw [upd_ne (fun z => hb z.symm)]; exact e1
/-- the dict of slot i is changed -/
theorem EnvR.dctU {K : PySem.W.Frag} {b : Bg} {H0 I H : Hp} {δ : En} {σ : L2.St} {i : Nat} {a : Addr} {kvs ls : List (PyData × PyData)} {es fs : List DK.Ent} (n : EnvR K b H0 I H σ δ) (hbor : noBor δ = true) (h1 : oneDct i δ = true) (hi : δ[i]? = some (some (.dct true kvs))) (hs : σ[i]? = some (some (.ref a))) (h0 : DL.Fr H0 a) (hn : I a = none) (hb : a ≠ b.a) (ha : H a = some (DK.dctO a es)) (hd : DctR K I fs ls) :
    EnvR K b H0 I (upd H a (DK.dctO a fs)) σ (δ.set i (some (.dct true ls))) := by
  have hlt : i < δ.length := (List.getElem?_eq_some_iff.mp hi).1
  refine ⟨by rw [List.length_set]; exact n.len, fun j r hj => ?_, fun j k c ds' es' h1 h2 h3 h4 => ?_⟩
  · by_cases z : i = j
    · subst z
      rw [List.getElem?_set_self hlt] at hj
      cases hj
      exact ⟨_, hs, a, fs, rfl, (fun _ => h0), hn, hb, upd_same, hd⟩
    · rw [List.getElem?_set_ne z] at hj
      obtain ⟨w, g1, g2⟩ := n.at_ j r hj
      refine ⟨w, g1, ?_⟩
      cases r with
      | dat d => exact g2
      | raw u => exact g2
      | bag => exact g2
      | dct o ms => exact absurd hj (oneDct_at h1 j o ms (fun y => z y.symm))
      | own es' =>
        obtain ⟨c, zs, rfl, q0, qn, qb, qa, qd⟩ := g2
        have nc : c ≠ a := fun zz => by
          subst zz
          rw [ha] at qa
          cases qa
        exact ⟨c, zs, rfl, q0, qn, qb, by rw [upd_ne nc]; exact qa, qd⟩
      | bor es' => exact absurd hj (noBor_at hbor j es')
  · have fix : ∀ (m : Nat) xs, (δ.set i (some (.dct true ls)))[m]? = some (some (.own xs)) → δ[m]? = some (some (.own xs)) := fun m xs e => by
      by_cases z : i = m
      · subst z
        rw [List.getElem?_set_self hlt] at e
        cases e
      · rw [List.getElem?_set_ne z] at e
        exact e
    exact n.nd j k c ds' es' (fix j ds' h1) h2 (fix k es' h3) h4
def dGSub (i : Nat) (di : DE) : DG := fun c δ d N => match δ[i]? with
  | some (some (.own ds)) => di c δ fun k => match k with
    | .dat (.int k) => match ixN ds.length k with
      | some j => N (δ.set i (some (.own (ds.set j d))))
      | none => False
    | _ => False
  | some (some (.dct true kvs)) => di c δ fun k => match k with
    | .dat kd => match keyT kd with
      | some kk => (oneDct i δ = true ∧ kvs.length < 100000) ∧ N (δ.set i (some (.dct true (putD kvs kd kk d))))
      | none => False
    | _ => False
  | _ => False
def dGNil : DGs := fun _ δ ds N => match ds with
  | [] => N δ
  | _ => False
def dGCons (g : DG) (gs : DGs) : DGs := fun c δ ds N => match ds with
  | d :: ds => g c δ d fun δ' => gs c δ' ds N
  | [] => False
def dGTup (n : Nat) (gs : DGs) : DG := fun c δ d N => match d with
  | .tuple ds => ds.length = n ∧ gs c δ ds N
  | _ => False
def dAsgG (de : DE) (dg : DG) : DS := fun c δ D => de c δ fun r => match fz r with
  | .dat d => dg c δ d D.nx
  | _ => False
section
variable {K : PySem.W.Frag} {S : Sg}
theorem cg_name {i : Nat} (hi : i < S.n) : CG K S (gName i) (dGName i) := fun b I0 H0 c δ d N nb ok p σ I H v e n hd Q q =>
  q _ _ I H ⟨nb_dat nb, p⟩ e (Same.refl I) (n.setD (by rw [nb.len]; exact hi) (r := .dat d) hd (fun _ z => by cases z))
theorem cg_sub {i : Nat} {ti : TE} {di : DE} (h : DW.CE K S ti di) : CG K S (gSub (tVar i) ti (rSetX K)) (dGSub i di) := fun b I0 H0 c δ d N nb ok p σ I H v e n hd Q q => by
  unfold dGSub at p
  split at p
  · rename_i ds hi
    obtain ⟨w, e1, e2⟩ := n.at_ i _ hi
    obtain ⟨a, xs, rfl, h0, hn, hb, ha, hds⟩ := e2
    refine ⟨.ref a, e1, h b I0 H0 c δ _ nb ok p σ I H e n _ fun r2 v2 I2 H2 p2 x2 rs2 => ?_⟩
    split at p2
    · rename_i k
      split at p2
      · rename_i j ej
        rw [int_read rs2]
        have hn' : I2 a = none := x2.n a _ hn ha lst_tbl
        have ha' : H2 a = some (.lst xs) := x2.h a _ hb lst_tbl ha
        have hl : xs.length = ds.length := dpa_len hds
        refine .inl ⟨a, xs, k, j, rfl, rfl, ha', by rw [hl]; exact ej, ?_⟩
        exact q _ σ I2 _ ⟨nb_own nb, p2⟩ ((e.trans x2).mut h0 hn' hb ha') x2.i ((n.ext x2).own nb.nb hi e1 h0 hn' hb (dpa_set (dp_mono x2.i hd) _ (dpa_mono x2.i hds)))
      · exact p2.elim
    · exact p2.elim
  · rename_i kvs hi
    obtain ⟨w, e1, e2⟩ := n.at_ i _ hi
    obtain ⟨a, es, rfl, h0, hn, hb, ha, hr⟩ := e2
    refine ⟨.ref a, e1, h b I0 H0 c δ _ nb ok p σ I H e n _ fun r2 v2 I2 H2 p2 x2 rs2 => ?_⟩
    split at p2
    · rename_i kd
      split at p2
      · rename_i kk ek
        obtain ⟨⟨o1, hl⟩, p2⟩ := p2
        have hn' : I2 a = none := x2.n a _ hn ha dct_tbl
        have ha' : H2 a = some (DK.dctO a es) := x2.h a _ hb dct_tbl ha
        have hr' := dctR_mono x2.i hr
        have rs2 : Dp K I2 v2 kd := rs2
        obtain ⟨bb, hkv⟩ := keyV_of x2.s ek rs2
        have ev := hkv.1
        subst ev
        refine .inr ⟨bb, kk, a, es, hkv, DK.keyOf_plain (keyT_ok ek).1, rfl, ha', keys_ok x2.s hr', Nat.lt_of_lt_of_le (by rw [Paired.length hr']; exact hl) (by decide : 100000 ≤ sizeLine), ?_⟩
        exact q _ σ I2 _ ⟨nb_set nb (fun _ z => by cases z), p2⟩ (Ext.mutD (e.trans x2) (h0 rfl) hn' hb ha') x2.i (EnvR.dctU (n.ext x2) nb.nb o1 hi e1 (h0 rfl) hn' hb ha' (put_rel hr' (keyT_ok ek).1 rs2 (dp_mono x2.i hd)))
      · exact p2.elim
    · exact p2.elim
  · exact p.elim
theorem cgs_nil : CGs K S gNil dGNil := fun b I0 H0 c δ ds N nb ok p σ I H vs e n hd Q q => by
  unfold dGNil at p
  split at p
  · cases hd
    exact ⟨rfl, q _ _ I H ⟨nb, p⟩ e (Same.refl I) n⟩
  · exact p.elim
theorem cgs_cons {g : TG} {gs : TGs} {dg : DG} {dgs : DGs} (h : CG K S g dg) (h' : CGs K S gs dgs) : CGs K S (gCons g gs) (dGCons dg dgs) := fun b I0 H0 c δ ds N nb ok p σ I H vs e n hd Q q => by
  unfold dGCons at p
  split at p
  · cases hd with
    | @cons v vs _ _ hv hvs =>
      exact ⟨v, vs, rfl, h b I0 H0 c δ _ _ nb ok p σ I H v e n hv _ fun δ' σ' I' H' ⟨nb', p'⟩ e' s' n' => h' b I0 H0 c δ' _ N nb' ok p' σ' I' H' vs e' n' (dpa_mono s' hvs) Q fun δ2 σ2 I2 H2 p2 e2 s2 n2 => q δ2 σ2 I2 H2 p2 e2 (s'.trans s2) n2⟩
  · exact p.elim
theorem cg_tup {m : Nat} {gs : TGs} {dgs : DGs} (h : CGs K S gs dgs) : CG K S (gTup K m gs) (dGTup m dgs) := fun b I0 H0 c δ d N nb ok p σ I H v e n hd Q q => by
  unfold dGTup at p
  split at p
  · cases hd with
    | @tup a xs _ hs ha =>
      exact ⟨a, xs, rfl, st_mono e.s hs, by rw [dpa_len ha]; exact p.1, h b I0 H0 c δ _ N nb ok p.2 σ I H xs e n ha Q q⟩
  · exact p.elim
theorem cs_asgG {te : TE} {g : TG} {de : DE} {dg : DG} (h : DW.CE K S te de) (hg : CG K S g dg) : CS K S (tAsg te g) (dAsgG de dg) := fun b I0 H0 c δ D nb ok p σ I H e n Dd a1 a2 a3 a4 =>
  ev_fz (Q := fun r => match r with
    | .dat d => dg c δ d D.nx
    | _ => False) (h b I0 H0 c δ _ nb ok p) σ I H e n _ fun r v I' H' hr x rs => by
    dsimp only at hr
    split at hr
    · exact hg b I0 H0 c δ _ _ nb ok hr σ I' H' v (e.trans x) (n.ext x) rs _ fun δ' σ' I2 H2 p2 e2 s2 n2 => a1 δ' σ' I2 H2 p2 e2 (x.i.trans s2) n2
    · exact hr.elim
/-! ### xs[k] op= e, x op= e, xs.append(e), xs.extend(e) -/
end
def dAugI (i : Nat) (g : Int → Int → Int) (di de : DE) : DS := fun c δ D => match δ[i]? with
  | some (some (.own ds)) => di c δ fun k => match k with
    | .dat (.int k) => 0 ≤ k ∧ match ds[k.toNat]? with
      | some (.int m) => de c δ fun r => match r with
        | .dat (.int n) => D.nx (δ.set i (some (.own (ds.set k.toNat (.int (g m n))))))
        | _ => False
      | _ => False
    | _ => False
  | _ => False
def dAug (i : Nat) (g : Int → Int → Int) (de : DE) : DS := fun c δ D => match δ[i]? with
  | some (some (.dat (.int m))) => de c δ fun r => match r with
    | .dat (.int n) => D.nx (δ.set i (some (dint (g m n))))
    | _ => False
  | _ => False
def dApp (i : Nat) (de : DE) : DS := fun c δ D => match δ[i]? with
  | some (some (.own ds)) => de c δ fun r => match fz r with
    | .dat d => ds.length < 100000 ∧ D.nx (δ.set i (some (.own (ds ++ [d]))))
    | _ => False
  | _ => False
def dExt (i : Nat) (de : DE) : DS := fun c δ D => match δ[i]? with
  | some (some (.own ds)) => de c δ fun r => match fz r with
    | .dat (.list es) => ds.length + es.length ≤ 100000 ∧ D.nx (δ.set i (some (.own (ds ++ es))))
    | _ => False
  | _ => False
section
variable {K : PySem.W.Frag} {S : Sg}
theorem cs_augI {i : Nat} {g : Int → Int → Int} {ti te : TE} {di de : DE} (hi : DW.CE K S ti di) (he : DW.CE K S te de) : CS K S (tAugS (tVar i) ti te (TF.rGetL K) (ipI g) rSetL) (dAugI i g di de) := fun b I0 H0 c δ D nb ok p σ I H e n Dd a1 a2 a3 a4 => by
  unfold dAugI at p
  split at p
  · rename_i ds hs
    obtain ⟨w, e1, e2⟩ := n.at_ i _ hs
    obtain ⟨a, xs, rfl, h0, hn, hb, ha, hds⟩ := e2
    refine ⟨.ref a, e1, hi b I0 H0 c δ _ nb ok p σ I H e n _ fun r2 v2 I2 H2 p2 x2 rs2 => ?_⟩
    split at p2
    · rename_i k
      obtain ⟨k0, p2⟩ := p2
      split at p2
      · rename_i m em
        rw [int_read rs2]
        have hn2 : I2 a = none := x2.n a _ hn ha lst_tbl
        have ha2 : H2 a = some (.lst xs) := x2.h a _ hb lst_tbl ha
        obtain ⟨u, f1, f2⟩ := dpa_get hds em
        cases f2
        refine ⟨a, xs, k, _, rfl, rfl, .inl (.inl ha2), k0, f1, he b I0 H0 c δ _ nb ok p2 σ I2 H2 (e.trans x2) (n.ext x2) _ fun r3 v3 I3 H3 p3 x3 rs3 => ?_⟩
        split at p3
        · rename_i nn
          rw [int_read rs3]
          have hn3 : I3 a = none := x3.n a _ hn2 ha2 lst_tbl
          have ha3 : H3 a = some (.lst xs) := x3.h a _ hb lst_tbl ha2
          have hl : xs.length = ds.length := dpa_len hds
          have hk : k.toNat < ds.length := (List.getElem?_eq_some_iff.mp em).1
          refine ⟨m, nn, rfl, rfl, a, xs, k, k.toNat, rfl, rfl, ha3, ?_, ?_⟩
          · unfold ixN
            rw [if_pos k0, if_pos (by omega)]
          · have x23 := x2.trans x3
            exact a1 _ σ I3 _ ⟨nb_own nb, p3⟩ ((e.trans x23).mut h0 hn3 hb ha3) x23.i ((n.ext x23).own nb.nb hs e1 h0 hn3 hb (dpa_set (Dp.int _) _ (dpa_mono x23.i hds)))
        · exact p3.elim
      · exact p2.elim
    · exact p2.elim
  · exact p.elim
theorem cs_aug {i : Nat} {g : Int → Int → Int} {te : TE} {de : DE} (hi : i < S.n) (he : DW.CE K S te de) : CS K S (tAug i te (ipI g)) (dAug i g de) := fun b I0 H0 c δ D nb ok p σ I H e n Dd a1 a2 a3 a4 => by
  unfold dAug at p
  split at p
  · rename_i m hs
    obtain ⟨w, e1, e2⟩ := n.at_ i _ hs
    have e2 := int_read e2
    subst e2
    refine ⟨_, e1, he b I0 H0 c δ _ nb ok p σ I H e n _ fun r2 v2 I2 H2 p2 x2 rs2 => ?_⟩
    split at p2
    · rename_i nn
      exact ⟨m, nn, rfl, int_read rs2, a1 _ _ I2 H2 ⟨nb_dat nb, p2⟩ (e.trans x2) x2.i ((n.ext x2).setD (by rw [nb.len]; exact hi) (r := dint (g m nn)) (Dp.int _) (fun _ z => by cases z))⟩
    · exact p2.elim
  · exact p.elim
theorem cs_app {i : Nat} {te : TE} {de : DE} (he : DW.CE K S te de) : CS K S (tDrop (tBM K "list" rAppend (tVar i) (tCons te tNil))) (dApp i de) := fun b I0 H0 c δ D nb ok p σ I H e n Dd a1 a2 a3 a4 => by
  unfold dApp at p
  split at p
  · rename_i ds hs
    obtain ⟨w, e1, e2⟩ := n.at_ i _ hs
    obtain ⟨a, xs, rfl, h0, hn, hb, ha, hds⟩ := e2
    refine ⟨.ref a, e1, .inl ⟨rfl, _, .inl (.inl ha)⟩, ev_fz (Q := fun r => match r with
      | .dat d => ds.length < 100000 ∧ D.nx (δ.set i (some (.own (ds ++ [d]))))
      | _ => False) (he b I0 H0 c δ _ nb ok p) σ I H e n _ fun r v I' H' hr x rs => ?_⟩
    dsimp only at hr
    split at hr
    · have hn' : I' a = none := x.n a _ hn ha lst_tbl
      have ha' : H' a = some (.lst xs) := x.h a _ hb lst_tbl ha
      refine ⟨a, xs, v, rfl, rfl, ha', Nat.lt_of_lt_of_le (by rw [dpa_len hds]; exact hr.1) (by decide : 100000 ≤ sizeLine), ?_⟩
      exact a1 _ σ I' _ ⟨nb_own nb, hr.2⟩ ((e.trans x).mut h0 hn' hb ha') x.i ((n.ext x).own nb.nb hs e1 h0 hn' hb (dpa_app (dpa_mono x.i hds) (.cons rs .nil)))
    · exact hr.elim
  · exact p.elim
theorem cs_ext {i : Nat} {te : TE} {de : DE} (kl : KL K) (he : DW.CE K S te de) : CS K S (tDrop (tBM K "list" rExtend (tVar i) (tCons te tNil))) (dExt i de) := fun b I0 H0 c δ D nb ok p σ I H e n Dd a1 a2 a3 a4 => by
  unfold dExt at p
  split at p
  · rename_i ds hs
    obtain ⟨w, e1, e2⟩ := n.at_ i _ hs
    obtain ⟨a, xs, rfl, h0, hn, hb, ha, hds⟩ := e2
    refine ⟨.ref a, e1, .inl ⟨rfl, _, .inl (.inl ha)⟩, ev_fz (Q := fun r => match r with
      | .dat (.list es) => ds.length + es.length ≤ 100000 ∧ D.nx (δ.set i (some (.own (ds ++ es))))
      | _ => False) (he b I0 H0 c δ _ nb ok p) σ I H e n _ fun r v I' H' hr x rs => ?_⟩
    dsimp only at hr
    split at hr
    · have hn' : I' a = none := x.n a _ hn ha lst_tbl
      have ha' : H' a = some (.lst xs) := x.h a _ hb lst_tbl ha
      obtain ⟨a2', ys, rfl, hy, hyd⟩ := lst_of kl x.ok (.inr rfl) rs
      refine ⟨a, a2', xs, ys, rfl, rfl, ha', hy, Nat.le_trans (by rw [dpa_len hds, dpa_len hyd]; exact hr.1) (by decide : 100000 ≤ sizeLine), ?_⟩
      exact a1 _ σ I' _ ⟨nb_own nb, hr.2⟩ ((e.trans x).mut h0 hn' hb ha') x.i ((n.ext x).own nb.nb hs e1 h0 hn' hb (dpa_app (dpa_mono x.i hds) hyd))
    · exact hr.elim
  · exact p.elim
end
/-! ### raise -/
/-- a value that is told by its worth -/
def scV : DV → Option V
  | .dat .none => some .non
  | .dat (.bool i) => some (.bl i)
  | .dat (.int i) => some (.int i)
  | .dat (.str i) => some (.str i)
  | _ => none
def scVs : List DV → Option (List V)
  | [] => some []
  | r :: rs => match scV r with
    | some v => match scVs rs with
      | some vs => some (v :: vs)
      | none => none
    | none => none
theorem scV_ok {K : PySem.W.Frag} {b : Bg} {H0 I H : Hp} {v w : V} {r : DV} (e : scV r = some w) (h : Res K b H0 I H v r) : v = w := by
  unfold scV at e
  split at e
  · cases e; exact non_read h
  · cases e; exact bl_read h
  · cases e; exact int_read h
  · cases e; exact str_read h
  · cases e
theorem scVs_ok {K : PySem.W.Frag} {b : Bg} {H0 I H : Hp} : ∀ {vs ws : List V} {rs : List DV}, scVs rs = some ws → ResA K b H0 I H vs rs → vs = ws
  | _, _, [], e, .nil => by cases e; rfl
  | _, _, r :: rs, e, .cons q t => by
    unfold scVs at e
    cases e1 : scV r with
    | none => rw [e1] at e; cases e
    | some v =>
      cases e2 : scVs rs with
      | none => rw [e1, e2] at e; cases e
      | some vs =>
        rw [e1, e2] at e
        cases e
        rw [scV_ok e1 q, scVs_ok e2 t]
def dRaise (x : Nat) (mk : List V → List (Str × V)) (da : DA) : DS := fun c δ _ => da c δ fun rs => match scVs rs with
  | some vs => c.x x (mk vs)
  | none => False
theorem cs_raise {K : PySem.W.Frag} {S : Sg} {x : Nat} {m : Nat} {mk : List V → List (Str × V)} {ta : TA} {da : DA} (hm : m ≤ 1000) (ha : CA K S m ta da) : CS K S (fun _ σ H => tMkO (S.cls x) (spInit (S.cls x) m mk) [] ta σ H fun cls d H' => S.E cls d H') (dRaise x mk da) := fun b I0 H0 c δ D nb ok p σ I H e n Dd _ _ _ _ =>
  ha b I0 H0 c δ _ nb ok p σ I H e n _ fun rs ws I1 H1 pr x' r => by
    obtain ⟨hl, pr⟩ := pr
    split at pr
    · rename_i vs evs
      have ew := scVs_ok evs r
      subst ew
      have hlv : ws.length = m := by rw [resA_len r]; exact hl
      refine ⟨by omega, fun a na => ?_⟩
      rw [List.append_nil]
      refine ⟨a, ws, rfl, hlv, upd_same, fun dx H' nd ne h1 h2 h3 => ⟨rfl, dx, mk ws, h1, h2, ?_, ?_⟩⟩
      · rw [upd_ne ne] at nd
        exact nd
      · have nd' : H1 dx = none := by rw [upd_ne ne] at nd; exact nd
        have eG : upd (del H' a) dx (.xd (mk ws)) = upd H1 dx (.xd (mk ws)) := by
          funext c
          by_cases z : c = dx
          · rw [z, upd_same, upd_same]
          · rw [upd_ne z, upd_ne z]
            by_cases z2 : c = a
            · rw [z2, del_same, na]
            · rw [del_ne z2, h3 c z2 z, upd_ne z2]
        rw [eG]
        exact ok.xw _ (mk ws) dx I1 _ ⟨x, rfl, pr⟩ ((e.trans x').trans (x'.ok.newH nd')) (x'.ok.inone nd') upd_same
    · exact pr.elim
/-! ### the text's rules -/
section
variable {X : Cx} {S : Sg} {e a b tg iter : Expr} {de : DE} {pos : Pos} {st : Stmt} {sts : List Stmt} {d d' : DS}
theorem jss_nil : JSs X S [] dNext := ⟨_, pss_nil, cs_next⟩
theorem jss_one (h : JS X S st d) : JSs X S [st] d := by
  obtain ⟨t, h1, h2⟩ := h
  exact ⟨_, pss_one h1, h2⟩
theorem jss_cons (h : JS X S st d) (h' : JSs X S sts d') : JSs X S (st :: sts) (dSeq d d') := by
  obtain ⟨t, h1, h2⟩ := h
  obtain ⟨u, h3, h4⟩ := h'
  exact ⟨_, pss_cons h1 h3, cs_seq h2 h4⟩
theorem js_frz (i : Nat) (h : JS X S st d) : JS X S st (dFrz i d) := by
  obtain ⟨t, h1, h2⟩ := h
  exact ⟨_, h1, cs_frz i h2⟩
theorem js_pass : JS X S (.Pass pos) dNext := ⟨_, ps_pass, cs_next⟩
theorem js_brk : JS X S (.Break pos) dBrk := ⟨_, ps_break, cs_brk⟩
theorem js_cnt : JS X S (.Continue pos) dCnt := ⟨_, ps_continue, cs_cnt⟩
theorem js_if {c : Expr} {u v : List Stmt} {dt : DT} (hc : JT X S c dt) (h : JSs X S u d) (h' : JSs X S v d') : JS X S (.If c u v pos) (dIfS dt d d') := by
  obtain ⟨t, t1, t2⟩ := hc
  obtain ⟨t', h1, h2⟩ := h
  obtain ⟨u', h3, h4⟩ := h'
  exact ⟨_, ps_if t1 h1 h3, cs_if t2 h2 h4⟩
theorem js_ret (h : JE X S e de) : JS X S (.Return (some e) pos) (dRet de) := by
  obtain ⟨t, h1, h2⟩ := h
  exact ⟨_, ps_ret h1, cs_ret h2⟩
theorem js_retV {i : Nat} (h : PE X e (tVar i)) : JS X S (.Return (some e) pos) (dRetV i) := ⟨_, ps_ret h, cs_retV⟩
theorem js_retN : JS X S (.Return none pos) dRetN := ⟨_, ps_retN, cs_retN⟩
theorem js_expr (h : JE X S e de) (hs : swapsWith e none pos.line X.env = pure false := by rfl) : JS X S (.Expr e pos) (dExpr de) := by
  obtain ⟨t, h1, h2⟩ := h
  exact ⟨_, ps_expr h1 hs, cs_expr h2⟩
theorem js_set {i : Nat} {x : Str} {pos' : Pos} (hN : X.N.Nodup) (hx : X.N[i]? = some x) (hi : i < S.n) (h : JE X S e de) (hp : ∀ te, PE X e te → PS X (.Assign [.Name x pos'] e pos) (tAsg te (gName i))) : JS X S (.Assign [.Name x pos'] e pos) (dAsg i de) := by
  obtain ⟨t, h1, h2⟩ := h
  exact ⟨_, hp t h1, cs_asg hi h2⟩
theorem js_setLc {i : Nat} {y : Str} {py : Pos} {elt tg iter : Expr} {ifs : List Expr} {scope : Scope} {own : List (Str × Nat)} {spos : Pos} {Rl : Rel} {is : List Nat} {di : DI} {tf : Tf} {dt : DT} (hc : X.calm = true) (hN : X.N.Nodup) (hy : X.N[i]? = some y) (hyl : X.env.scope.names.lookup y = some .local)
    (hsw : swapsWith (.ListComp elt [⟨tg, iter, ifs, 0⟩] scope pos) (some (.Name y py)) spos.line X.env = pure true) (hin : i < S.n) (hi : JI X S Rl tg iter di) (ok : BlkOk X.N X.env.scope scope own) (ho : TfOk S.n tf) (hg : ∀ q : Blk, JG (Xb X scope q) S Rl is tg tf) (his : ∀ v ∈ is, v ∈ own.map (·.2))
    (ht : ∀ q : Blk, JTs (Xb X scope q) S.no ifs dt) (he : ∀ q : Blk, JE (Xb X scope q) S.no elt de) (hs : ∀ x, foldedSetIterable iter X.env x = pure x := by intro _; rfl) :
    JS X S (.Assign [.Name y py] (.ListComp elt [⟨tg, iter, ifs, 0⟩] scope pos) spos) (dAsg i (dLc di tf dt de (own.map (·.2)))) := by
  obtain ⟨wi, i1, i2⟩ := hi
  obtain ⟨g, g1, g2⟩ := all_g (Xi := Xb X scope) (K := X.K) (fun _ => rfl) hg
  obtain ⟨tt, t1, t2⟩ := all_t (Xi := Xb X scope) (K := X.K) (fun _ => rfl) ht
  obtain ⟨te, e1, e2⟩ := all_e (Xi := Xb X scope) (K := X.K) (fun _ => rfl) he
  exact ⟨_, ps_setLc hc hN hy hyl hsw i1 ok (fun s H C cl fp => g1 (s, H, C, cl, fp)) (fun s H C cl fp => t1 (s, H, C, cl, fp)) (fun s H C cl fp => e1 (s, H, C, cl, fp)) hs, cs_asg hin (ce_lc i2 ho g2 his t2 e2)⟩
theorem js_for {Rl : Rel} {is : List Nat} {di : DI} {tf : Tf} {body : List Stmt} {db : DS} (hp : PassesOwn (model X.prog X.w) X.A X.env X.xe) (hc : X.calm = true) (hi : JI X S Rl tg iter di) (ho : TfOk S.n tf) (hg : JG X S Rl is tg tf) (hb : JSs X S body db)
    (hps : ∀ wi g tb, PI X tg iter wi → PG X tg g → PSs X body tb → PS X (.For tg iter body [] pos) (tFor wi g tb)) : JS X S (.For tg iter body [] pos) (dFor di tf db) := by
  obtain ⟨wi, i1, i2⟩ := hi
  obtain ⟨g, g1, g2⟩ := hg
  obtain ⟨tb, b1, b2⟩ := hb
  exact ⟨_, hps wi g tb i1 g1 b1, cs_for i2 ho g2 b2⟩
/-! ### targets -/
def JGt (X : Cx) (S : Sg) (tg : Expr) (dg : DG) : Prop := ∃ g, PG X tg g ∧ CG X.K S g dg
def JGs (X : Cx) (S : Sg) (ts : List Expr) (dg : DGs) : Prop := ∃ g, PGs X ts g ∧ CGs X.K S g dg
theorem jt_gname {i : Nat} (h : PG X tg (gName i)) (hi : i < S.n) : JGt X S tg (dGName i) := ⟨_, h, cg_name hi⟩
theorem jt_gsub {i : Nat} {o k : Expr} {dk : DE} (ho : PE X o (tVar i)) (hk : JE X S k dk) (hps : ∀ ti, PE X k ti → PG X (.Subscript o k pos) (gSub (tVar i) ti (rSetX X.K))) : JGt X S (.Subscript o k pos) (dGSub i dk) := by
  obtain ⟨t, h1, h2⟩ := hk
  exact ⟨_, hps t h1, cg_sub h2⟩
theorem jgs_nil : JGs X S [] dGNil := ⟨_, pgs_nil, cgs_nil⟩
theorem jgs_cons {es : List Expr} {dg : DG} {dgs : DGs} (h : JGt X S e dg) (h' : JGs X S es dgs) (hs : (assignEach (e :: es) X.env).map (·.2) = assign e X.env :: (assignEach es X.env).map (·.2) := by rfl) : JGs X S (e :: es) (dGCons dg dgs) := by
  obtain ⟨g, h1, h2⟩ := h
  obtain ⟨gs, h3, h4⟩ := h'
  exact ⟨_, pgs_cons h1 h3 hs, cgs_cons h2 h4⟩
theorem jt_gtup {es : List Expr} {k n : Nat} {dgs : DGs} (hc : X.calm = true) (h : JGs X S es dgs) (hn : (assignEach es X.env).length = n := by rfl) (hst : (assignEach es X.env).findIdx? (·.1) = none := by rfl) : JGt X S (.Tuple es k pos) (dGTup n dgs) := by
  obtain ⟨gs, h1, h2⟩ := h
  exact ⟨_, pg_tup hc h1 hn hst, cg_tup h2⟩
theorem js_asg {dg : DG} (h : JE X S e de) (hg : JGt X S tg dg) (hs : swapsWithSole [tg] e pos.line X.env = pure false := by rfl) (hw : swappedStores [tg] e X.env = pure none := by rfl) (h1 : (assignEach [tg] X.env).map (·.2) = [assign tg X.env] := by rfl) : JS X S (.Assign [tg] e pos) (dAsgG de dg) := by
  obtain ⟨t, a1, a2⟩ := h
  obtain ⟨g, g1, g2⟩ := hg
  exact ⟨_, ps_asg a1 g1 hs hw h1, cs_asgG a2 g2⟩
theorem js_par {i j : Nat} {da : DA} (hi : i < S.n) (hj : j < S.n) {es : List Expr} (h : JA X S es da) (hp : ∀ ta, PA X es ta → PS X st (tPar i j ta)) : JS X S st (dPar i j da) := by
  obtain ⟨t, h1, h2⟩ := h
  exact ⟨_, hp t h1, cs_par hi hj h2⟩
theorem js_aug {i : Nat} {g : Int → Int → Int} (hi : i < S.n) (h : JE X S e de) (hp : ∀ te, PE X e te → PS X st (tAug i te (ipI g))) : JS X S st (dAug i g de) := by
  obtain ⟨t, h1, h2⟩ := h
  exact ⟨_, hp t h1, cs_aug hi h2⟩
theorem js_augI {i : Nat} {g : Int → Int → Int} {k : Expr} {dk : DE} (hk : JE X S k dk) (h : JE X S e de) (hp : ∀ ti te, PE X k ti → PE X e te → PS X st (tAugS (tVar i) ti te (TF.rGetL X.K) (ipI g) rSetL)) : JS X S st (dAugI i g dk de) := by
  obtain ⟨t, h1, h2⟩ := h
  obtain ⟨u, k1, k2⟩ := hk
  exact ⟨_, hp u t k1 h1, cs_augI k2 h2⟩
theorem js_app {i : Nat} (h : JE X S e de) (hp : ∀ te, PE X e te → PS X st (tDrop (tBM X.K "list" rAppend (tVar i) (tCons te tNil)))) : JS X S st (dApp i de) := by
  obtain ⟨t, h1, h2⟩ := h
  exact ⟨_, hp t h1, cs_app h2⟩
theorem js_ext {i : Nat} (kl : KL X.K) (h : JE X S e de) (hp : ∀ te, PE X e te → PS X st (tDrop (tBM X.K "list" rExtend (tVar i) (tCons te tNil)))) : JS X S st (dExt i de) := by
  obtain ⟨t, h1, h2⟩ := h
  exact ⟨_, hp t h1, cs_ext kl h2⟩
theorem js_raise {x : Nat} {es : List Expr} {mk : List V → List (Str × V)} {da : DA} (ha : JA X S es da) (hm : es.length ≤ 1000) (hp : ∀ ta, PA X es ta → PS X st (fun _ σ H => tMkO (S.cls x) (spInit (S.cls x) es.length mk) [] ta σ H fun cls d H' => S.E cls d H')) : JS X S st (dRaise x mk da) := by
  obtain ⟨t, h1, h2⟩ := ha
  exact ⟨_, hp t h1, cs_raise hm h2⟩
end
/-! ### t.count(k) -/
def dCount (do_ de : DE) : DE := fun c δ P => do_ c δ fun x => match x with
  | .dat (.tuple ds) => match intsD ds with
    | some ns => de c δ fun y => match y with
      | .dat (.int k) => P (dint (ns.count k))
      | _ => False
    | none => False
  | _ => False
theorem je_count {X : Cx} {S : Sg} {o e : Expr} {do_ de : DE} {apos cpos : Pos} (kt : KT X.K) (ho : JE X S o do_) (he : JE X S e de) (hbase : attributeBase o "count" X.env (eval o X.env) = eval o X.env := by rfl) (hline : (apos.endLine == cpos.line) = true := by rfl)
    (few : ((backTo cpos (starEach [e] X.env)).all (fun x => !x.1) && (backToKw cpos (keywordEach [] X.env)).all (fun x => x.1.isSome) && decide ([e].length + ([] : List Keyword).length + (if ([] : List Keyword).isEmpty then 0 else 1) < 30)) = true := by rfl)
    (one : starEach [e] X.env = [(false, eval e X.env)] := by rfl) : JE X S (.Call (.Attribute o "count" apos) [e] [] cpos) (dCount do_ de) := by
  obtain ⟨t, o1, o2⟩ := ho
  obtain ⟨u, e1, e2⟩ := he
  refine ⟨_, TF.pe_count o1 e1 hbase hline few one, fun b I0 H0 c δ P nb ok p σ I H k n Q q => ?_⟩
  refine o2 b I0 H0 c δ _ nb ok p σ I H k n _ fun r v I1 H1 hr x rs => ?_
  split at hr
  · rename_i ds
    split at hr
    · rename_i ns en
      have ed := ints_ok en
      subst ed
      have rs : Dp X.K I1 v (.tuple (ns.map .int)) := rs
      cases rs with
      | @tup a xs _ hs hd =>
        have ex := dpa_ints hd
        subst ex
        refine ⟨a, ns, rfl, st_mono x.s hs, ?_, e2 b I0 H0 c δ _ nb ok hr σ I1 H1 (k.trans x) (n.ext x) _ fun r2 v2 I2 H2 hr2 x2 rs2 => ?_⟩
        · rcases st_mono x.s hs with (h | ⟨o', h⟩) | ⟨o', its, nn, h, hc, _⟩
          · rcases hs with (h' | ⟨o', h'⟩) | ⟨o', its, nn, h', hc, _⟩
            · exact absurd (x.b.2.1 a _ h') (fun z => z)
            · exact .inl ⟨o', _, x.s a _ h', x.b.2.1 a _ h'⟩
            · exact .inr ⟨o', h', kt a o' h' hc⟩
          · rcases hs with (h' | ⟨o2', h'⟩) | ⟨o2', its, nn, h', hc, _⟩
            · exact absurd (x.b.2.1 a _ h') (fun z => z)
            · exact .inl ⟨o2', _, x.s a _ h', x.b.2.1 a _ h'⟩
            · exact .inr ⟨o2', h', kt a o2' h' hc⟩
          · exact .inr ⟨o', h, kt a o' h hc⟩
        · split at hr2
          · rename_i kk
            exact ⟨kk, by rw [int_read rs2], st_mono x2.s (st_mono x2.i hs), q _ _ I2 H2 hr2 (x.trans x2) (Dp.int _)⟩
          · exact hr2.elim
    · exact hr.elim
  · exact hr.elim
/-! ### a def -/
def wFn (n m : Nat) (D : DS) : Wt := fun rs P c => rs.length = n ∧ D c (rs.map some ++ List.replicate (m - n) none) ⟨fun _ => P (.dat .none), P, fun _ => False, fun _ => False⟩
theorem nb_args {n : Nat} {N : List Str} {rs : List DV} (h : rs.all isPl = true) (hl : rs.length = n) (hn : n ≤ N.length) : NB N.length (envOf N rs) := by
  refine ⟨?_, ?_⟩
  · unfold DL.envOf
    rw [List.length_append, List.length_map, List.length_replicate]
    omega
  · unfold DL.envOf noBor
    rw [List.all_append, Bool.and_eq_true_iff]
    constructor
    · rw [List.all_map, List.all_eq_true]
      intro r hr
      have := List.all_eq_true.mp h r hr
      cases r with
      | bor _ => cases this
      | dct _ _ => cases this
      | _ => rfl
    · rw [List.all_eq_true]
      intro x hx
      rw [(List.mem_replicate.mp hx).2]
theorem fn_w {P : Program} {w : World} {K : PySem.W.Frag} {mg : Str → Option Value} {base : Heap} {cls fa : Nat → Addr} {x qual : Str} {st : Stmt} {f : Addr} {fd : FuncData} {N ps : List Str} {k : Nat} {D : DS} (n m : Nat) (F : Fun K x qual st f fd) (Sc : FnScope N ps (defScope st)) (hn : ps.length = n) (hm : N.length = m) (hnm : n ≤ m)
    (hbody : ∀ (cdv : Value) (A : Around) (outer : List PySem.Env) (s : Shared) (H : Hp) (E : XK), Room k (A.deeper (envOfC qual (defScope st) s.heap.objs.size f cdv)) →
      JSs (cxOf (L2.CX P w) P w K mg base N qual (defScope st) f cdv A outer s H E) ⟨m, E, cls, fa, fun _ => True⟩ (defBody st) D) :
    FnOk P w K mg base (L2.CX P w) (k + 1) f fd ps (spW K cls fa (wFn n m D)) := by
  subst hm
  refine fn_okX F Sc (fun a ha => ?_) fun cdv A outer s H E hr => ?_
  · rw [hn]
    exact ha.2.2.1
  · obtain ⟨t, h1, h2⟩ := hbody cdv A outer s H E hr
    refine ⟨t, h1, fun b I a ha xw => ?_⟩
    obtain ⟨hfa, hpl, hl, hD⟩ := ha
    have e : envOf N a.1 = a.1.map some ++ List.replicate (N.length - n) none := by
      unfold DL.envOf
      rw [hl]
    have := h2 b I H a.2.2 (envOf N a.1) ⟨fun _ => a.2.1 (.dat .none), a.2.1, fun _ => False, fun _ => False⟩ (nb_args hpl hl hnm) ⟨hfa, xw, True.intro⟩ (by rw [e]; exact hD)
    exact this.mono (fun d hd => hd.2) (fun r hr => hr) (fun d hd => hd.2) fun d hd => hd.2
end DW

set_option Elab.async false
set_option linter.all false
set_option maxRecDepth 100000
set_option maxHeartbeats 4000000
namespace DW
open PySem PySem.Spec PyProof.Rows L2 RZ DL
theorem units65 {k : Nat} {A : Around} (r : Room k A) : A.units + 65 < cLine := by
  have := r.un
  omega
theorem passE0 {X : Cx} : Passes (L2.CX X.prog X.w) X (fun _ _ _ => False) := fun _ _ _ _ _ _ _ c => by
  obtain ⟨_, _, _, _, _, _, _, _, _, _, _, _, h⟩ := c
  exact h.elim
/-- a def whose promise was told otherwise -/
theorem fn_to {P : Program} {w : World} {K : PySem.W.Frag} {mg : Str → Option Value} {base : Heap} {cls fa : Nat → Addr} {k : Nat} {f : Addr} {fd : FuncData} {ps : List Str} {α : Type} {args : α → List DV} {ok : α → Prop} {out : α → DV → Prop} {W : Wt} (F : FnOk P w K mg base CX0 k f fd ps (spD K args ok out noX))
    (h : ∀ rs Q c, W rs Q c → ∃ a, rs = args a ∧ ok a ∧ ∀ r, out a r → Q r) : FnOk P w K mg base (L2.CX P w) k f fd ps (spW K cls fa W) := by
  have to : ∀ vs H Q E, spW K cls fa W vs H Q E → spD K args ok out noX vs H Q E := fun vs H Q E hs => by
    obtain ⟨⟨rs, R, c⟩, b, I, k, r, ⟨_, _, hw⟩, q, _⟩ := hs
    obtain ⟨a, e, ho, hout⟩ := h rs R c hw
    have e : rs = args a := e
    subst e
    exact ⟨a, b, I, k, r, ho, fun z v I' H' o => q z v I' H' (hout z o), fun _ _ _ _ _ z => z.elim⟩
  refine ⟨fun vs H Q E hs => F.len vs H Q E (to vs H Q E hs), fun A outer s H ar us vs Q E hr h0 hb hv hs => ?_⟩
  refine codeAny_mono (F.run A outer s H ar us vs Q E hr h0 hb hv (to vs H Q E hs)) fun r s' hr => ?_
  unfold CR at hr ⊢
  split at hr
  · exact hr
  · exact hr.elim
  · exact (hr : False).elim
theorem fn_less {P : Program} {w : World} {K : PySem.W.Frag} {mg : Str → Option Value} {base : Heap} {cls fa : Nat → Addr} {k : Nat} {f : Addr} {fd : FuncData} {ps : List Str} {W W' : Wt} (F : FnOk P w K mg base (L2.CX P w) k f fd ps (spW K cls fa W))
    (h : ∀ rs Q c, W' rs Q c → W rs Q c) : FnOk P w K mg base (L2.CX P w) k f fd ps (spW K cls fa W') := by
  have to : ∀ vs H Q E, spW K cls fa W' vs H Q E → spW K cls fa W vs H Q E := fun vs H Q E hs => by
    obtain ⟨⟨rs, R, c⟩, b, I, k, r, ⟨h1, h2, hw⟩, q⟩ := hs
    exact ⟨⟨rs, R, c⟩, b, I, k, r, ⟨h1, h2, h rs R c hw⟩, q⟩
  exact ⟨fun vs H Q E hs => F.len vs H Q E (to vs H Q E hs), fun A outer s H ar us vs Q E hr h0 hb hv hs => F.run A outer s H ar us vs Q E hr h0 hb hv (to vs H Q E hs)⟩
/-! ### the draws -/
def W_take : Wt := fun rs P _ => match rs with
  | [.bag, .dat (.int n)] => okTake n ∧ ∀ i, 0 ≤ i → i < n → P (dint i)
  | _ => False
theorem take_to : ∀ rs Q c, W_take rs Q c → ∃ a, rs = aTake a ∧ okTake a ∧ ∀ r, outTake a r → Q r := fun rs Q c h => by
  unfold W_take at h
  split at h
  · exact ⟨_, rfl, h.1, fun r ⟨i, e, h0, h1⟩ => e ▸ h.2 i h0 h1⟩
  · exact h.elim
def W_shuffled : Wt := fun rs P _ => match rs with
  | [.bag, .dat (.list ds)] => match intsD ds with
    | some ns => ns.length ≤ 1000 ∧ ∀ ms : List Int, ms.Perm ns → P (.own (ms.map .int))
    | none => False
  | _ => False
theorem shuffled_to : ∀ rs Q c, W_shuffled rs Q c → ∃ ns : List Int, rs = [.bag, .dat (.list (ns.map .int))] ∧ ns.length ≤ 1000 ∧ ∀ r, (∃ ms : List Int, r = .own (ms.map .int) ∧ ms.Perm ns) → Q r := fun rs Q c h => by
  unfold W_shuffled at h
  split at h
  · split at h
    · rename_i ns en
      exact ⟨ns, by rw [ints_ok en], h.1, fun r ⟨ms, e, hp⟩ => e ▸ h.2 ms hp⟩
    · exact h.elim
  · exact h.elim
/-! ### the law's own text, behind its bag -/
theorem law_w {K : PySem.W.Frag} {S : Sg} {b : Bg} {I H : Hp} {σ : L2.St} {c : Cn} {δ : En} {t : TS} {ds : DS} {D : Ends} (h : CS K S t ds) (k : Ok K b I H) (n : EnvR K b H I H σ δ) (nb : NB S.n δ) (fa : c.fa = S.fa) (hx : ∀ s fs, ¬ c.x s fs) (htb : S.tb b.T) (hd : ds c δ ⟨fun _ => False, fun r => r = dbl true, fun _ => False, fun _ => False⟩) (hq : ∀ H', D.rt (.bl true) H') : t D σ H := by
  refine law_run k n ((h b I H c δ _ nb ⟨fa, (fun C fs d I' H' hxx => ?_), htb⟩ hd).mono (fun _ z => z.2) (fun _ z => z) (fun _ z => z.2) fun _ z => z.2) hq
  obtain ⟨s, _, z⟩ := hxx
  exact (hx s fs z).elim
end DW
namespace DW
open PySem PySem.Spec PyProof.Rows L2 RZ DL
theorem fn_none {P : Program} {w : World} {K : PySem.W.Frag} {mg : Str → Option Value} {base : Heap} {cls fa : Nat → Addr} {k : Nat} {f : Addr} {fd : FuncData} {ps : List Str} : FnOk P w K mg base (L2.CX P w) k f fd ps (spW K cls fa (fun _ _ _ => False)) :=
  ⟨fun vs H Q E ⟨_, _, _, _, _, h, _⟩ => h.2.2.elim, fun A outer s H ar us vs Q E hr h0 hb hv ⟨_, _, _, _, _, h, _⟩ => h.2.2.elim⟩
theorem ktab_by {K : PySem.W.Frag} {w : World} {fa : Nat → Addr} {a : Addr} {tab : List (Str × Nat)} {es : Array DictEntry} {n : Nat} (h1 : K.lookup a = some ⟨.type "dict", none, .dict es n, #[]⟩) (h2 : PySem.W.KeysLit w.params es.toList)
    (h : ∀ s f, tab.lookup s = some f → ∃ u, PySem.W.nsIn K a s = some (some u) ∧ RelV (.ref (fa f)) u) : KTab K w fa a tab := fun s f e => by
  obtain ⟨u, h3, h4⟩ := h s f e
  exact ⟨es, n, u, h1, h2, h3, h4⟩
end DW

set_option Elab.async false
set_option linter.all false
set_option maxRecDepth 100000
set_option maxHeartbeats 4000000
namespace DW
open PySem PySem.Spec PyProof.Rows L2 RZ DL
/-! ### while -/
def whGo (t : DT) (b : DS) (c : Cn) (D : Ed) : Nat → En → Prop
  | 0, _ => False
  | n + 1, δ => t c δ fun v => if v = true then b c δ ⟨whGo t b c D n, D.rt, D.nx, whGo t b c D n⟩ else D.nx δ
def dWh (t : DT) (b : DS) : DS := fun c δ D => ∃ n, whGo t b c D n δ
theorem cs_while {K : PySem.W.Frag} {S : Sg} {tc : TT} {tb : TS} {dt : DT} {db : DS} (ht : CT K S tc dt) (hb : CS K S tb db) : CS K S (tWhile tc tb) (dWh dt db) := fun b I0 H0 c δ D nb ok p σ I H e n Dd a1 a2 a3 a4 => by
  obtain ⟨m, p⟩ := p
  refine ⟨fun m σ' H' => ∃ I' δ', NB S.n δ' ∧ whGo dt db c D m δ' ∧ Ext K b I0 H0 I' H' ∧ Same I I' ∧ EnvR K b H0 I' H' σ' δ', ⟨m, I, δ, nb, p, e, Same.refl I, n⟩, ?_⟩
  rintro m σ' H' ⟨I', δ', nb', p', e', s', n'⟩
  cases m with
  | zero => exact p'.elim
  | succ m =>
    refine ht b I0 H0 c δ' _ nb' ok p' σ' I' H' e' n' _ fun v I1 H1 pv x => ?_
    cases v with
    | true =>
      rw [if_pos rfl] at pv
      rw [if_pos rfl]
      refine ⟨fun σ'' H'' => ∃ I'' δ'', NB S.n δ'' ∧ whGo dt db c D m δ'' ∧ Ext K b I0 H0 I'' H'' ∧ Same I I'' ∧ EnvR K b H0 I'' H'' σ'' δ'', fun σ'' H'' h => ⟨m, Nat.lt_succ_self m, h⟩, ?_⟩
      exact hb b I0 H0 c δ' _ nb' ok pv σ' I1 H1 (e'.trans x) (n'.ext x) _ (fun d σ4 I4 H4 p4 e4 s4 n4 => ⟨I4, d, p4.1, p4.2, e4, (s'.trans x.i).trans s4, n4⟩) a2 (fun d σ4 I4 H4 p4 e4 s4 n4 => a1 d σ4 I4 H4 p4 e4 ((s'.trans x.i).trans s4) n4) (fun d σ4 I4 H4 p4 e4 s4 n4 => ⟨I4, d, p4.1, p4.2, e4, (s'.trans x.i).trans s4, n4⟩)
    | false =>
      rw [if_neg (by decide)] at pv
      rw [if_neg (by decide)]
      exact a1 δ' σ' I1 H1 ⟨nb', pv⟩ (e'.trans x) (s'.trans x.i) (n'.ext x)
theorem js_while {X : Cx} {S : Sg} {c : Expr} {body : List Stmt} {dt : DT} {db : DS} {pos : Pos} (hp : PassesOwn (model X.prog X.w) X.A X.env X.xe) (hc : JT X S c dt) (hb : JSs X S body db) : JS X S (.While c body [] pos) (dWh dt db) := by
  obtain ⟨tc, c1, c2⟩ := hc
  obtain ⟨tb, b1, b2⟩ := hb
  exact ⟨_, ps_while hp c1 b1, cs_while c2 b2⟩
/-! ### dicts made -/
def dDNew : DE := fun _ _ P => P (.dct true [])
theorem je_dnew {X : Cx} {S : Sg} {pos : Pos} : JE X S (.Dict [] [] pos) dDNew := ⟨_, DK.pe_dnewD, fun b I0 H0 c δ P nb ok p σ I H e n Q q a na => q _ _ I _ p (e.ok.newH na) ⟨a, [], rfl, (fun _ => fr_none na), e.ok.inone na, e.ok.nb na, upd_same, .nil⟩⟩
def oneP (P : DP) : DV → DV → Prop
  | .dat kd, .dat vd => match keyT kd with
    | some _ => P (.dct true [(kd, vd)])
    | none => False
  | _, _ => False
def dDOne (dk dv : DE) : DE := fun c δ P => dk c δ fun k => dv c δ fun v => oneP P (fz k) (fz v)
theorem je_done {X : Cx} {S : Sg} {k v : Expr} {dk dv : DE} {pos : Pos} (hu : X.A.units + 65 < cLine) (hk : JE X S k dk) (hv : JE X S v dv) : JE X S (.Dict [some k] [v] pos) (dDOne dk dv) := by
  obtain ⟨tk, k1, k2⟩ := hk
  obtain ⟨tv, v1, v2⟩ := hv
  refine ⟨_, DK.pe_done (by omega) k1 v1, fun b I0 H0 c δ P nb ok p σ I H e n Q q a na => ?_⟩
  have ex : Ext X.K b I H I (upd H a (DK.dctO a [])) := e.ok.newH na
  refine ev_fz (Q := fun k => dv c δ fun v => oneP P k (fz v)) (k2 b I0 H0 c δ _ nb ok p) σ I _ (e.trans ex) (n.ext ex) _ fun r1 u1 I1 H1 p1 x1 rs1 => ?_
  refine ev_fz (Q := fun v => oneP P r1 v) (v2 b I0 H0 c δ _ nb ok p1) σ I1 H1 ((e.trans ex).trans x1) ((n.ext ex).ext x1) _ fun r2 u2 I2 H2 p2 x2 rs2 => ?_
  have x12 := x1.trans x2
  have hab : a ≠ b.a := e.ok.nb na
  have ha2 : H2 a = some (DK.dctO a []) := x12.h a _ hab dct_tbl upd_same
  have ia2 : I2 a = none := x12.n a _ (e.ok.inone na) upd_same dct_tbl
  refine ⟨ha2, ?_⟩
  have p2 : oneP P r1 r2 := p2
  unfold oneP at p2
  split at p2
  · rename_i kd vd _
    split at p2
    · rename_i kk ek
      have rs1 : Dp X.K I2 u1 kd := dp_mono x2.i rs1
      have rs2 : Dp X.K I2 u2 vd := rs2
      obtain ⟨bb, hkv⟩ := keyV_of x2.s ek rs1
      have ev := hkv.1
      subst ev
      refine ⟨bb, kk, hkv, DK.keyOf_plain (keyT_ok ek).1, ?_⟩
      exact q _ _ I2 _ p2 (Ext.mutD (ex.trans x12) (fr_none na) ia2 hab ha2) ⟨a, _, rfl, (fun _ => fr_none na), ia2, hab, upd_same, .cons ⟨(keyT_ok ek).1, rs1, rs2⟩ .nil⟩
    · exact p2.elim
  · exact p2.elim
/-! ### what is never reached -/
def dNever : DS := fun _ _ _ => False
theorem js_never {X : Cx} {S : Sg} {st : Stmt} : JS X S st dNever := ⟨fun _ _ _ => False, ⟨fun _ _ _ _ _ _ h => h.elim⟩, fun _ _ _ _ _ _ _ _ h => h.elim⟩
/-! ### a def as a value -/
def dFn (f : Nat) : DE := fun c _ P => P (.raw (.ref (c.fa f)))
theorem je_fn {X : Cx} {S : Sg} {e : Expr} {f : Nat} (h : PE X e (tC (.ref (S.fa f)))) : JE X S e (dFn f) := ⟨_, h, fun b I0 H0 c δ P nb ok p σ I H ex n Q q => q _ _ I H p ex.re (by show V.ref _ = V.ref _; rw [ok.fa])⟩
/-! ### xs.index(x) -/
def dIndex (do_ de : DE) : DE := fun c δ P => do_ c δ fun x => match toD x with
  | some (.list ds) => de c δ fun y => match fz y with
    | .dat d => (SeqAt.shaped (.list ds) = true ∧ SeqAt.shaped d = true) ∧ ∃ (j : Nat) (z : PyData), ds[j]? = some z ∧ PyData.eqv z d = true ∧ (∀ (m : Nat) (z' : PyData), m < j → ds[m]? = some z' → PyData.eqv z' d = false) ∧ P (dint j)
    | _ => False
  | _ => False
theorem je_index {X : Cx} {S : Sg} {o e : Expr} {do_ de : DE} {apos cpos : Pos} (hu : X.A.units + 65 < cLine) (ho : JE X S o do_) (he : JE X S e de)
    (hp : ∀ to te, PE X o to → PE X e te → PE X (.Call (.Attribute o "index" apos) [e] [] cpos) (tBM X.K "list" (rIndexD X.K) to (tCons te tNil))) : JE X S (.Call (.Attribute o "index" apos) [e] [] cpos) (dIndex do_ de) := by
  obtain ⟨t, o1, o2⟩ := ho
  obtain ⟨u, e1, e2⟩ := he
  refine ⟨_, hp t u o1 e1, fun b I0 H0 c δ P nb ok p σ I H k n Q q => ?_⟩
  refine o2 b I0 H0 c δ _ nb ok p σ I H k n _ fun r v I1 H1 hr x rs => ?_
  split at hr
  · rename_i ds er
    have dx := toD_ok x.s er rs
    have dx' := dx
    cases dx with
    | @lst a xs _ hs hd =>
      refine ⟨.inl ⟨rfl, _, hs⟩, ?_⟩
      refine ev_fz (Q := fun y => match y with
        | .dat d => (SeqAt.shaped (.list ds) = true ∧ SeqAt.shaped d = true) ∧ ∃ (j : Nat) (z : PyData), ds[j]? = some z ∧ PyData.eqv z d = true ∧ (∀ (m : Nat) (z' : PyData), m < j → ds[m]? = some z' → PyData.eqv z' d = false) ∧ P (dint j)
        | _ => False) (e2 b I0 H0 c δ _ nb ok hr) σ I1 H1 (k.trans x) (n.ext x) _ fun r2 v2 I2 H2 p2 x2 rs2 => ?_
      dsimp only at p2
      split at p2
      · rename_i d
        obtain ⟨⟨s1, s2⟩, j, z, h1, h2, h3, h4⟩ := p2
        exact ⟨a, v2, d, ds, j, z, rfl, rfl, toD_ok x2.s er (rs.ext x2), dp_mono x2.s rs2, s1, s2, h1, h2, h3, q _ _ I2 H2 h4 (x.trans x2) (Dp.int _)⟩
      · exact p2.elim
  · exact hr.elim
end DW

set_option Elab.async false
set_option linter.all false
set_option maxRecDepth 100000
set_option maxHeartbeats 4000000
namespace DW
open PySem PySem.Spec PyProof.Rows L2 RZ DL
/-! ### lists of a def's own, lent to a def that tells a plain worth -/
def lend : DV → DV
  | .bor ds => .dat (.list ds)
  | r => r
def scal : DV → Bool
  | .dat .none => true
  | .dat (.bool _) => true
  | .dat (.int _) => true
  | .dat (.str _) => true
  | _ => false
def dCallL (W : Wt) (da : DA) : DE := fun c δ P => da c δ fun rs => (rs.map lend).all isPl = true ∧ W (rs.map lend) (fun r => scal r = true ∧ P r) c.no
theorem scal_any {K : PySem.W.Frag} {b : Bg} {H0 I H H0' I' H' : Hp} {v : V} {r : DV} (h : scal r = true) (hr : Res K b H0 I H v r) : Res K b H0' I' H' v r := by
  unfold scal at h
  split at h
  · rw [non_read hr]; exact Dp.non
  · rw [bl_read hr]; exact Dp.bl _
  · rw [int_read hr]; exact Dp.int _
  · rw [str_read hr]; exact Dp.str _
  · cases h
theorem resA_mono {K : PySem.W.Frag} {b : Bg} {H I I' H1 : Hp} (s : Same I I') : ∀ {vs : List V} {rs : List DV}, ResA K b H I H1 vs rs → (rs.all isPl = true) → ResA K b H I' H1 vs rs
  | _, _, .nil, _ => .nil
  | _, r :: rs, .cons q t, h => by
    rw [List.all_cons] at h
    obtain ⟨h1, h2⟩ := Bool.and_eq_true_iff.mp h
    refine .cons ?_ (resA_mono s t h2)
    cases r with
    | dat d => exact dp_mono s q
    | raw u => exact q
    | bag => exact q
    | own _ => cases h1
    | bor _ => cases h1
    | dct _ _ => cases h1
theorem lend_res {K : PySem.W.Frag} {b : Bg} {H I1 H1 : Hp} (k : Ok K b I1 H1) : ∀ {vs : List V} {rs : List DV}, ResA K b H I1 H1 vs rs → ((rs.map lend).all isPl = true) →
    ∃ I2, Ok K b I2 H1 ∧ Same I1 I2 ∧ ResA K b H1 I2 H1 vs (rs.map lend)
  | _, _, .nil, _ => ⟨I1, k, Same.refl _, .nil⟩
  | _, r :: rs, .cons (v := v) q t, h => by
    rw [List.map_cons, List.all_cons] at h
    obtain ⟨h1, h2⟩ := Bool.and_eq_true_iff.mp h
    obtain ⟨I2, k2, s2, r2⟩ := lend_res k t h2
    cases r with
    | dat d => exact ⟨I2, k2, s2, .cons (dp_mono s2 q) r2⟩
    | raw u => exact ⟨I2, k2, s2, .cons q r2⟩
    | bag => exact ⟨I2, k2, s2, .cons q r2⟩
    | own _ => cases h1
    | dct _ _ => cases h1
    | bor ds =>
      obtain ⟨a, xs, rfl, ha, hb, hi, hd⟩ := q
      cases z : I2 a with
      | some o =>
        have := k2.s a o z
        rw [ha] at this
        cases this
        exact ⟨I2, k2, s2, .cons (.lst (.inl (.inl z)) (dpa_mono s2 hd)) r2⟩
      | none =>
        have sm : Same I2 (upd I2 a (.lst xs)) := fun c o h => by rw [upd_ne (ne_of_none h z)]; exact h
        refine ⟨upd I2 a (.lst xs), ⟨fun c o h => ?_, ?_⟩, s2.trans sm, .cons (.lst (.inl (.inl upd_same)) (dpa_mono (s2.trans sm) hd)) (resA_mono sm r2 h2)⟩
        · by_cases zz : c = a
          · subst zz; rw [upd_same] at h; cases h; exact ha
          · rw [upd_ne zz] at h; exact k2.s c o h
        · obtain ⟨n, pl, tb, l, ns, x, q, m, cc, e, sl, rr⟩ := k2.b
          refine ⟨by rw [upd_ne (fun z => hb z.symm)]; exact n, fun c o h => ?_, tb, l, ns, x, q, m, cc, e, sl_mono sm sl, rr⟩
          by_cases zz : c = a
          · subst zz; rw [upd_same] at h; cases h; exact True.intro
          · rw [upd_ne zz] at h; exact pl c o h
theorem lend_back {K : PySem.W.Frag} {b : Bg} {I1 I2 H1 I' H' : Hp} (k : Ok K b I1 H1) (s2 : Same I1 I2) (e : Ext K b I2 H1 I' H') : ∃ I3, Ext K b I1 H1 I3 H' := by
  have hIf : ∀ x u, (if I1 x = none ∧ (H1 x).isSome = true then none else I' x) = some u → I' x = some u := fun x u h => by
    split at h
    · cases h
    · exact h
  have sm : Same I1 (fun x => if I1 x = none ∧ (H1 x).isSome = true then none else I' x) := fun x u h => by
    show (if _ then _ else _) = _
    rw [if_neg (fun z => by rw [h] at z; cases z.1)]
    exact e.i x u (s2 x u h)
  obtain ⟨n0, pl0, tb0, l0, ns0, x0, q0, m0, c0, e0, sl0, rr0⟩ := k.b
  obtain ⟨n, pl, tb, l, ns, x, q, m, c, e1, sl, rr⟩ := e.b
  obtain ⟨ys, hy⟩ := e.k l0 _ e0
  have el : l = l0 := by
    rw [e1] at hy
    injection hy with hy
    injection hy with hy
    injection hy with hy _
    injection hy
  subst el
  refine ⟨fun x => if I1 x = none ∧ (H1 x).isSome = true then none else I' x, sm, e.h, fun a o hn ha ht => ?_, e.k, fun a o h => e.s a o (hIf a o h), ?_, fun a o h => pl a o (hIf a o h), tb, l, ns0, x, q, m, c, e1, sl_mono sm sl0, rr⟩
  · show (if _ then _ else _) = _
    rw [if_pos ⟨hn, by rw [ha]; rfl⟩]
  · show (if _ then _ else _) = _
    rw [if_pos ⟨n0, by rw [e0]; rfl⟩]
section
variable {X : Cx} {S : Sg} {e : Expr} {es : List Expr} {pos p : Pos} {x : Str} {k : Nat} {f : Addr} {fd : FuncData} {ps : List Str} {W : Wt} {da : DA}
theorem ev_lendW {K : PySem.W.Frag} {bg : Bg} {I0 H0 : Hp} {c : Cn} {δ : En} {P : DP} {ta : TA} (ok : Cok K S bg I0 H0 c) (ha : EvA K bg I0 H0 ta δ (fun rs => (rs.map lend).all isPl = true ∧ W (rs.map lend) (fun r => scal r = true ∧ P r) c.no)) : EvD K bg I0 H0 (tCall (spW K S.cls S.fa W) [] S.E ta) δ P := fun σ I H kk n Q q =>
  ha σ I H kk n _ fun rs vs I1 H1 hp x r => by
    rw [List.append_nil]
    obtain ⟨I2, k2, s2, r2⟩ := lend_res x.ok r hp.1
    refine ⟨(rs.map lend, fun r => scal r = true ∧ P r, c.no), bg, I2, k2, r2, ⟨ok.fa, hp⟩, fun r v I' H' o e2 rs' => ?_, fun C fs d I' H' he _ _ _ => ?_⟩
    · obtain ⟨I3, e3⟩ := lend_back x.ok s2 e2
      exact q r v I3 H' o.2 (x.trans e3) (scal_any o.1 rs')
    · obtain ⟨_, _, z⟩ := he
      exact z.elim
theorem je_callL (F : FnOk X.prog X.w X.K X.mg X.base (L2.CX X.prog X.w) k f fd ps (spW X.K S.cls S.fa W)) (hr : Room k X.A) (hg : Gl X x) (hm : X.mg x = some (.ref f)) (hk : PySem.W.keepIn X.K (.ref f) = true) (hb : Binds X.K fd ps []) (hx : Passes (L2.CX X.prog X.w) X S.E)
    (ha : JA X S (e :: es) da) (hdb : (x == ("__debug__" : Str)) = false := by decide) (he : starEach (e :: es) X.env = (false, eval e X.env) :: starEach es X.env := by rfl) (hpl : (backTo pos (starEach es X.env)).any (·.1) = false := by rfl) :
    JE X S (.Call (.Name x p) (e :: es) [] pos) (dCallL W da) := by
  obtain ⟨t, a1, a2⟩ := ha
  exact ⟨_, pe_call F hr hg hm hk hb .nil hx a1 hdb he hpl, fun b I0 H0 c δ P nb ok p => ev_lendW ok ((a2 b I0 H0 c δ _ nb ok p).mono fun rs h => h.2)⟩
end
end DW

set_option Elab.async false
set_option linter.all false
set_option maxRecDepth 100000
set_option maxHeartbeats 4000000
namespace DW
open PySem PySem.Spec PyProof.Rows L2 RZ DL
/-! ### told(lambda: ..) -/
/-- what a lambda sees: plain data alone -/
def plO : Option DV → Option DV
  | some (.dat d) => some (.dat d)
  | _ => none
def plE (δ : En) : En := δ.map plO
theorem plE_less : ∀ δ : En, LessP (plE δ) δ
  | [] => .nil
  | x :: t => by
    show LessP (plO x :: plE t) (x :: t)
    cases x with
    | none => exact .no (plE_less t)
    | some r =>
      cases r with
      | dat d => exact .dat (plE_less t)
      | _ => exact .no (plE_less t)
theorem plE_nb {n : Nat} {δ : En} (h : NB n δ) : NB n (plE δ) := by
  refine ⟨by unfold plE; rw [List.length_map]; exact h.len, ?_⟩
  unfold noBor plE
  rw [List.all_map, List.all_eq_true]
  intro x _
  cases x with
  | none => rfl
  | some r => cases r <;> rfl
/-- told: r0 where nothing is raised; what the clauses make of an exception -/
def dTold (r0 : PyData) (aft : Nat → List (Str × V) → Option PyData) (db : DE) : DE := fun c δ P =>
  db ⟨fun s fs => ∃ d, aft s fs = some d ∧ P (.dat d), c.fa⟩ (plE δ) (fun _ => P (.dat r0))
/-- what the clauses of told make of an exception is their aft -/
def AftOk (K : PySem.W.Frag) (cls : Nat → Addr) (After : Addr → List (Str × V) → Hp → VK → Prop) (aft : Nat → List (Str × V) → Option PyData) : Prop :=
  ∀ s fs d, aft s fs = some d → ∀ (b : Bg) (I' H' : Hp) (Q : VK), Ok K b I' H' → (∀ v I'' H'', Ext K b I' H' I'' H'' → Dp K I'' v d → Q v H'') → After (cls s) fs H' Q
theorem je_lam {X : Cx} {S : Sg} {e body : Expr} {sc : Scope} {k : Nat} {Tb : List (Addr × Str)} {r0v : V} {r0 : PyData} {After : Addr → List (Str × V) → Hp → VK → Prop} {aft : Nat → List (Str × V) → Option PyData} {db : DE}
    (hpe : ∀ t : XK → TE, (∀ (A : Around) (outer : List PySem.Env) (s : Shared) (H : Hp) (E : XK) (f c' : Addr), Room k (A.deeper (LamX.lamEnv X sc s.heap.objs.size f c')) → PE (LamX.lamCx X A outer s H E sc f c') body (t E)) → PE X e (LamX.tLam Tb (TTx r0v After) t))
    (h0 : ∀ I, Dp X.K I r0v r0) (htb : ∀ t, S.tb t → t = Tb) (haft : AftOk X.K S.cls After aft)
    (hbody : ∀ (A : Around) (outer : List PySem.Env) (s : Shared) (H : Hp) (E : XK) (f c' : Addr), Room k (A.deeper (LamX.lamEnv X sc s.heap.objs.size f c')) → JE (LamX.lamCx X A outer s H E sc f c') ⟨S.n, E, S.cls, S.fa, S.tb⟩ body db) :
    JE X S e (dTold r0 aft db) := by
  have h1 : ∀ E : XK, ∃ te : TE, (∀ (A : Around) (outer : List PySem.Env) (s : Shared) (H : Hp) (f c' : Addr), Room k (A.deeper (LamX.lamEnv X sc s.heap.objs.size f c')) → PE (LamX.lamCx X A outer s H E sc f c') body te) ∧ DW.CE X.K ⟨S.n, E, S.cls, S.fa, S.tb⟩ te db := fun E => by
    obtain ⟨te, a1, a2⟩ := all_e (ι := { q : Around × List PySem.Env × Shared × Hp × Addr × Addr // Room k (q.1.deeper (LamX.lamEnv X sc q.2.2.1.heap.objs.size q.2.2.2.2.1 q.2.2.2.2.2)) }) (Xi := fun q => LamX.lamCx X q.1.1 q.1.2.1 q.1.2.2.1 q.1.2.2.2.1 E sc q.1.2.2.2.2.1 q.1.2.2.2.2.2) (K := X.K) (S := ⟨S.n, E, S.cls, S.fa, S.tb⟩) (e := body) (de := db) (fun _ => rfl)
      (fun q => hbody q.1.1 q.1.2.1 q.1.2.2.1 q.1.2.2.2.1 E q.1.2.2.2.2.1 q.1.2.2.2.2.2 q.2)
    exact ⟨te, fun A outer s H f c' hr => a1 ⟨(A, outer, s, H, f, c'), hr⟩, a2⟩
  obtain ⟨t, ht⟩ := Classical.axiomOfChoice h1
  refine ⟨_, hpe t (fun A outer s H E f c' hr => (ht E).1 A outer s H f c' hr), fun b I0 H0 c δ P nb ok p => ?_⟩
  refine ev_lamP (P := P) (Pb := fun _ => P (.dat r0)) (X := toXD S.cls fun s fs => ∃ d, aft s fs = some d ∧ P (.dat d)) (d0 := r0) (plE_less δ) (htb _ ok.tb) h0 ?_ (fun I1 H1 E xw => ?_) ?_
  · by_cases h : P (.dat r0)
    · exact .inl h
    · exact .inr fun _ => h
  · exact (ht E).2 b I1 H1 ⟨fun s fs => ∃ d, aft s fs = some d ∧ P (.dat d), c.fa⟩ (plE δ) _ (plE_nb nb) ⟨ok.fa, xw, ok.tb⟩ p
  · rintro C fs ⟨s, rfl, d, h, hp⟩ I' H' Q ok' q
    exact haft s fs d h b I' H' Q ok' fun v I2 H2 x rs => q (.dat d) v I2 H2 hp x rs
theorem passLamJ {X : Cx} {A : Around} {outer : List PySem.Env} {s : Shared} {H : Hp} {E : XK} {scope : Scope} {f c' : Addr} : Passes (L2.CX (LamX.lamCx X A outer s H E scope f c').prog (LamX.lamCx X A outer s H E scope f c').w) (LamX.lamCx X A outer s H E scope f c') E := passLam (X := X) (A := A) (outer := outer) (s := s) (H := H) (E := E) (scope := scope) (f := f) (c' := c')
/-- a scalar as data -/
def vD : V → Option PyData
  | .int i => some (.int i)
  | .str s => some (.str s)
  | .bl c => some (.bool c)
  | .non => some .none
  | _ => none
theorem vD_dp {K : PySem.W.Frag} {I : Hp} {v : V} {d : PyData} (h : vD v = some d) : Dp K I v d := by
  cases v with
  | int i => cases h; exact .int i
  | str s => cases h; exact .str s
  | bl c => cases h; exact .bl c
  | non => cases h; exact .non
  | _ => cases h
/-- a slot that is not known any more -/
def dFgt (i : Nat) (ds : DS) : DS := fun c δ D => ds c (δ.set i none) D
theorem nb_none {n i : Nat} {δ : En} (h : NB n δ) : NB n (δ.set i none) := by
  refine ⟨by rw [List.length_set]; exact h.len, ?_⟩
  have nb := h.nb
  unfold noBor at nb ⊢
  rw [List.all_eq_true] at nb ⊢
  intro x hx
  rcases List.mem_or_eq_of_mem_set hx with z | z
  · exact nb x z
  · subst z; rfl
theorem js_fgt {X : Cx} {S : Sg} {st : Stmt} {d : DS} (i : Nat) (h : JS X S st d) : JS X S st (dFgt i d) := by
  obtain ⟨t, h1, h2⟩ := h
  refine ⟨t, h1, fun b I0 H0 c δ D nb ok p => sv_less (δ' := δ.set i none) (by rw [List.length_set]) (fun j r e => ?_) (h2 b I0 H0 c _ D (nb_none nb) ok p)⟩
  by_cases z : i = j
  · subst z
    by_cases hl : i < δ.length
    · rw [List.getElem?_set_self hl] at e
      cases e
    · rw [List.getElem?_eq_none (by rw [List.length_set]; omega)] at e
      cases e
  · rw [List.getElem?_set_ne z] at e
    exact e
/-- a def that may raise, whose promise was told otherwise -/
theorem fn_toX {P : Program} {w : World} {K : PySem.W.Frag} {mg : Str → Option Value} {base : Heap} {cls fa : Nat → Addr} {k : Nat} {f : Addr} {fd : FuncData} {ps : List Str} {α : Type} {args : α → List DV} {ok : α → Prop} {out : α → DV → Prop} {exc : α → XD} {W : Wt} (F : FnOk P w K mg base (L2.CX P w) k f fd ps (spD K args ok out exc))
    (h : ∀ rs Q c, W rs Q c → ∃ a, rs = args a ∧ ok a ∧ (∀ r, out a r → Q r) ∧ ∀ C fs, exc a C fs → toXD cls c.x C fs) : FnOk P w K mg base (L2.CX P w) k f fd ps (spW K cls fa W) := by
  have to : ∀ vs H Q E, spW K cls fa W vs H Q E → spD K args ok out exc vs H Q E := fun vs H Q E hs => by
    obtain ⟨⟨rs, R, c⟩, b, I, k, r, ⟨_, _, hw⟩, q, qe⟩ := hs
    obtain ⟨a, e, ho, hout, hexc⟩ := h rs R c hw
    have e : rs = args a := e
    subst e
    exact ⟨a, b, I, k, r, ho, fun z v I' H' o => q z v I' H' (hout z o), fun C fs d I' H' z => qe C fs d I' H' (hexc C fs z)⟩
  exact ⟨fun vs H Q E hs => F.len vs H Q E (to vs H Q E hs), fun A outer s H ar us vs Q E hr h0 hb hv hs => F.run A outer s H ar us vs Q E hr h0 hb hv (to vs H Q E hs)⟩
/-- nothing of one's own is among the plain arguments -/
theorem fn_plain {P : Program} {w : World} {K : PySem.W.Frag} {mg : Str → Option Value} {base : Heap} {cls fa : Nat → Addr} {k : Nat} {f : Addr} {fd : FuncData} {ps : List Str} {W : Wt} (F : FnOk P w K mg base (L2.CX P w) k f fd ps (spW K cls fa W)) : FnOk P w K mg base (L2.CX P w) k f fd ps (spW K cls fa (fun rs Q c => rs.all isPl = true ∧ W rs Q c)) := fn_less F fun _ _ _ h => h.2
end DW

set_option Elab.async false
set_option linter.all false
set_option maxRecDepth 100000
set_option maxHeartbeats 4000000
/-! enumerate(zip(tuple, tuple)) with a nested target -/
namespace DZ
open PySem PySem.Spec PyProof.Rows L2 RZ DL
abbrev zObj (v : Value) (f : Bool) (TI TO : Addr) : Obj := { cls := .type "zip", dict := none, data := .fields #[v, .bool f, .bool false, .ref TI, .ref TO], slots := #[] }
/-- a zip whose tuple may be out -/
def ZipAt (h : Heap) (z TI TO : Addr) : Prop := ∃ (v : Value) (f : Bool), (v = .none ∨ ∃ T : Nat, v = rawInt (T : Int)) ∧ h.get? z = some (zObj v f TI TO)
section
variable {prog : Program} {w : World} {A : Around} {E : Value → Shared → Prop} {s : Shared}
theorem alive_or {a : Addr} {Q : Option Obj → Shared → Prop} (h : Q (s.heap.get? a) s) : wpAny (model prog w) A (loadIfAlive a) Q E s := fun _ _ _ => h
theorem free_or {z TI TO : Addr} {v : Value} {f : Bool} {Q : Bool → Shared → Prop} (hv : v = .none ∨ ∃ T : Nat, v = rawInt (T : Int)) (hz : s.heap.get? z = some (zObj v f TI TO)) (yes : Q true s)
    (no : ∀ g, g.get? z = some (zObj v true TI TO) → Heap.SameBut z s.heap g → Q false { s with heap := g }) : wpAny (model prog w) A (Builtin.SmallTypes.ownedTupleIsFree (.ref z)) Q E s := by
  unfold Builtin.SmallTypes.ownedTupleIsFree
  refine wpAny_bind (wpAny_field hz rfl (x := v) rfl ?_)
  rcases hv with rfl | ⟨T, rfl⟩
  · exact wpAny_pure yes
  · show wpAny _ _ (loadIfAlive (((T : Nat) : Int).toNat) >>= _) _ _ s
    rw [Int.toNat_natCast]
    refine wpAny_bind (alive_or ?_)
    cases s.heap.get? T with
    | none =>
      simp only [Option.isNone_none, if_true]
      exact wpAny_pure yes
    | some o =>
      simp only [Option.isNone_some, Bool.false_eq_true, if_false]
      refine wpAny_bind (wpAny_field hz rfl (x := .bool f) rfl ?_)
      cases f with
      | true =>
        rw [if_neg (show ¬ ((Value.bool true != Value.bool true) = true) by decide)]
        exact wpAny_pure (no s.heap hz (Heap.SameBut.refl _ _))
      | false =>
        rw [if_pos (show (Value.bool false != Value.bool true) = true by decide)]
        exact wpAny_bind (wpAny_setField_rec hz (by simp) fun g z1 s1 => wpAny_pure (no g z1 s1))
/-- the zip's next pair -/
theorem zip_item {z TI TO i1 i2 l1 l2 : Addr} {m n : Nat} {xs ys : Array Value} {x y : Value} {Q : Value → Shared → Prop} (D : ZipApart z TI TO i1 i2 l1 l2) (hz : ZipAt s.heap z TI TO) (hI : IsPair s.heap TI (.ref i1) (.ref i2)) (hO : ∃ a b, IsPair s.heap TO a b)
    (r1 : s.heap.IsTupleIter i1 l1 m) (r2 : s.heap.IsTupleIter i2 l2 n) (t1 : s.heap.IsTuple l1 xs) (t2 : s.heap.IsTuple l2 ys) (hx : xs[m]? = some x) (hy : ys[n]? = some y)
    (q : ∀ g, ZipAt g z TI TO → (∃ a b, IsPair g TO a b) → g.IsTupleIter i1 l1 (m + 1) → g.IsTupleIter i2 l2 (n + 1) → IsPair g s.heap.objs.size x y → g.objs.size = s.heap.objs.size + 1 →
      (∀ c o, c ≠ z → c ≠ TO → c ≠ i1 → c ≠ i2 → s.heap.get? c = some o → g.get? c = some o) → Q (.ref s.heap.objs.size) { s with heap := g }) :
    wpAny (model prog w) A (Builtin.«zip.__next__» ⟨[.ref z], []⟩) (fun fin t => ∃ v, fin = .done (.ret v) ∧ Q v t) E s := by
  obtain ⟨v, f, hv, hz⟩ := hz
  obtain ⟨a, b, hO⟩ := hO
  show wpAny _ _ (field (.ref z) 2 >>= _) _ _ s
  refine wpAny_bind (wpAny_field hz rfl (x := .bool false) rfl ?_)
  show wpAny _ _ (field (.ref z) 3 >>= _) _ _ s
  refine wpAny_bind (wpAny_field hz rfl (x := .ref TI) rfl ?_)
  refine wpAny_bind (wpAny_seqItems hI rfl ?_)
  show wpAny _ _ (Builtin.SmallTypes.ownedTupleIsFree (.ref z) >>= _) _ _ s
  refine wpAny_bind (free_or hv hz ?_ fun g z0 s0 => ?_)
  · simp only [if_true]
    refine wpAny_bind (wpAny_rule ?_)
    refine wpAny_bind (wpAny_field hz rfl (x := .ref TO) rfl ?_)
    refine wpAny_bind (wpAny_setField_rec hz (by simp) fun g1 z1 s1 => ?_)
    replace z1 : g1.get? z = some (zObj .ellipsis f TI TO) := z1
    refine wpAny_bind ?_
    simp only [List.zipIdx_cons, List.zipIdx_nil, List.forIn_cons, List.forIn_nil]
    refine wpAny_bind (wpAny_bind (wpAny_onRaise ?_))
    show wpAny _ _ (Builtin.SmallTypes.nextOf (.ref i1) >>= _) _ _ _
    refine wpAny_bind (nextOf_tuple_item (r1.extBut s1.extBut D.i1z) (t1.extBut s1.extBut D.l1z) hx fun g2 p1 s2 => wpAny_pure ?_)
    have o2 : IsPair g2 TO a b := s2.extBut _ _ D.TOi1 (s1.extBut _ _ D.TOz hO)
    refine wpAny_bind (wpAny_seqItems o2 rfl ?_)
    refine wpAny_bind (wpAny_updateSeq_pair o2 fun g3 o3 s3 => ?_)
    replace o3 : IsPair g3 TO x b := o3
    refine wpAny_bind (wpAny_letGo (wpAny_pure ?_))
    refine wpAny_bind (wpAny_bind (wpAny_onRaise ?_))
    show wpAny _ _ (Builtin.SmallTypes.nextOf (.ref i2) >>= _) _ _ _
    refine wpAny_bind (nextOf_tuple_item (((r2.extBut s1.extBut D.i2z).extBut s2.extBut D.i12.symm).extBut s3.extBut D.TOi2.symm)
      (((t2.extBut s1.extBut D.l2z).extBut s2.extBut D.l2i1).extBut s3.extBut D.l2TO) hy fun g4 p2 s4 => wpAny_pure ?_)
    have o4 : IsPair g4 TO x b := s4.extBut _ _ D.TOi2 o3
    refine wpAny_bind (wpAny_seqItems o4 rfl ?_)
    refine wpAny_bind (wpAny_updateSeq_pair o4 fun g5 o5 s5 => ?_)
    replace o5 : IsPair g5 TO x y := o5
    refine wpAny_bind (wpAny_letGo (wpAny_pure (wpAny_pure ?_)))
    refine wpAny_bind (wpAny_seqItems o5 rfl ?_)
    refine wpAny_bind (wpAny_newTuple ?_)
    have sz : g5.objs.size = s.heap.objs.size := by rw [s5.1, s4.1, s3.1, s2.1, s1.1]
    have z5 : g5.get? z = some (zObj .ellipsis f TI TO) := s5.extBut _ _ D.TOz.symm (s4.extBut _ _ D.i2z.symm (s3.extBut _ _ D.TOz.symm (s2.extBut _ _ D.i1z.symm z1)))
    have k5 : ∀ c o, c ≠ z → c ≠ TO → c ≠ i1 → c ≠ i2 → s.heap.get? c = some o → g5.get? c = some o := fun c o c1 c2 c3 c4 e =>
      s5.extBut _ _ c2 (s4.extBut _ _ c4 (s3.extBut _ _ c2 (s2.extBut _ _ c3 (s1.extBut _ _ c1 e))))
    have p15 : g5.IsTupleIter i1 l1 (m + 1) := ((p1.extBut s3.extBut D.TOi1.symm).extBut s4.extBut D.i12).extBut s5.extBut D.TOi1.symm
    have p25 : g5.IsTupleIter i2 l2 (n + 1) := p2.extBut s5.extBut D.TOi2.symm
    have lz : z < g5.objs.size := Heap.lt_size z5
    show wpAny _ _ (Builtin.SmallTypes.ownedTupleHandOut (.ref z) (.ref g5.objs.size) >>= _) _ _ _
    refine wpAny_bind ?_
    unfold Builtin.SmallTypes.ownedTupleHandOut
    have z6 : (g5.push { cls := .type "tuple", data := .seq #[x, y] }).get? z = some (zObj .ellipsis f TI TO) := Heap.get?_push_of_some _ z5
    refine wpAny_bind (wpAny_setField_rec z6 (by simp) fun g7 z7 s7 => ?_)
    replace z7 : g7.get? z = some (zObj (rawInt g5.objs.size) f TI TO) := z7
    refine wpAny_setField_rec z7 (by simp) fun g8 z8 s8 => ?_
    replace z8 : g8.get? z = some (zObj (rawInt g5.objs.size) false TI TO) := z8
    have up : ∀ c o, c ≠ z → g5.get? c = some o → g8.get? c = some o := fun c o c1 e => s8.extBut _ _ c1 (s7.extBut _ _ c1 (Heap.get?_push_of_some _ e))
    have t8 : IsPair g8 g5.objs.size x y := s8.extBut _ _ (Nat.ne_of_gt lz) (s7.extBut _ _ (Nat.ne_of_gt lz) (Heap.get?_push_size _ rfl))
    have sz8 : g8.objs.size = g5.objs.size + 1 := by rw [s8.1, s7.1, Heap.size_push]
    rw [sz] at t8 sz8
    refine wpAny_pure ⟨_, rfl, ?_⟩
    show Q (.ref g5.objs.size) _
    rw [sz]
    exact q g8 ⟨_, _, .inr ⟨_, rfl⟩, z8⟩ ⟨_, _, up _ _ D.TOz o5⟩ (p15.at fun o e => up _ o D.i1z e) (p25.at fun o e => up _ o D.i2z e) t8 sz8 fun c o c1 c2 c3 c4 e => up c o c1 (k5 c o c1 c2 c3 c4 e)
  · simp only [Bool.false_eq_true, if_false]
    refine wpAny_bind ?_
    rw [← Array.forIn_toList]
    simp only [List.forIn_cons, List.forIn_nil]
    refine wpAny_bind (wpAny_bind (wpAny_holding ?_))
    show wpAny _ _ (Builtin.SmallTypes.nextOf (.ref i1) >>= _) _ _ _
    refine wpAny_bind (nextOf_tuple_item (s := { s with heap := g }) (r1.extBut s0.extBut D.i1z) (t1.extBut s0.extBut D.l1z) hx fun g2 p1 s2 => wpAny_pure ?_)
    refine wpAny_pure ?_
    refine wpAny_bind (wpAny_bind (wpAny_holding ?_))
    show wpAny _ _ (Builtin.SmallTypes.nextOf (.ref i2) >>= _) _ _ _
    refine wpAny_bind (nextOf_tuple_item (s := { s with heap := g2 }) ((r2.extBut s0.extBut D.i2z).extBut s2.extBut D.i12.symm) ((t2.extBut s0.extBut D.l2z).extBut s2.extBut D.l2i1) hy fun g3 p2 s3 => wpAny_pure ?_)
    refine wpAny_pure (wpAny_pure ?_)
    show wpAny _ _ (newTuple [x, y] >>= _) _ _ _
    refine wpAny_bind (wpAny_newTuple ?_)
    have sz : g3.objs.size = s.heap.objs.size := by rw [s3.1, s2.1, s0.1]
    have z3 : g3.get? z = some (zObj v true TI TO) := s3.extBut _ _ D.i2z.symm (s2.extBut _ _ D.i1z.symm z0)
    have k3 : ∀ c o, c ≠ z → c ≠ i1 → c ≠ i2 → s.heap.get? c = some o → g3.get? c = some o := fun c o c1 c2 c3 e => s3.extBut _ _ c3 (s2.extBut _ _ c2 (s0.extBut _ _ c1 e))
    have p13 : g3.IsTupleIter i1 l1 (m + 1) := p1.extBut s3.extBut D.i12
    refine wpAny_pure ⟨_, rfl, ?_⟩
    show Q (.ref g3.objs.size) _
    have t4 : IsPair (g3.push { cls := .type "tuple", data := .seq #[x, y] }) g3.objs.size x y := Heap.get?_push_size _ rfl
    have sz4 : (g3.push { cls := .type "tuple", data := .seq #[x, y] }).objs.size = g3.objs.size + 1 := Heap.size_push ..
    rw [sz] at t4 sz4 ⊢
    exact q _ ⟨_, _, hv, Heap.get?_push_of_some _ z3⟩ ⟨_, _, Heap.get?_push_of_some _ (k3 TO _ D.TOz D.TOi1 D.TOi2 hO)⟩ (p13.at fun o e => Heap.get?_push_of_some _ e) (p2.at fun o e => Heap.get?_push_of_some _ e) t4 sz4 fun c o c1 _ c3 c4 e => Heap.get?_push_of_some _ (k3 c o c1 c3 c4 e)
/-- the zip's end -/
theorem zip_end {z TI TO i1 i2 l1 l2 : Addr} {m n : Nat} {xs ys : Array Value} {Q : Fin → Shared → Prop} (hh : A.handled = none) (D : ZipApart z TI TO i1 i2 l1 l2) (hz : ZipAt s.heap z TI TO) (hI : IsPair s.heap TI (.ref i1) (.ref i2)) (hO : ∃ a b, IsPair s.heap TO a b)
    (r1 : s.heap.IsTupleIter i1 l1 m) (r2 : s.heap.IsTupleIter i2 l2 n) (t1 : s.heap.IsTuple l1 xs) (t2 : s.heap.IsTuple l2 ys) (out : xs[m]? = none ∨ ys[n]? = none)
    (q : ∀ g e, (∀ c o, c ≠ z → c ≠ TO → c ≠ i1 → c ≠ i2 → s.heap.get? c = some o → g.get? c = some o) → (∃ o, g.get? e = some o ∧ o.cls = .type "StopIteration") → E (.ref e) { s with heap := g }) :
    wpAny (model prog w) A (Builtin.«zip.__next__» ⟨[.ref z], []⟩) Q E s := by
  obtain ⟨v, f, hv, hz⟩ := hz
  obtain ⟨a, b, hO⟩ := hO
  show wpAny _ _ (field (.ref z) 2 >>= _) _ _ s
  refine wpAny_bind (wpAny_field hz rfl (x := .bool false) rfl ?_)
  show wpAny _ _ (field (.ref z) 3 >>= _) _ _ s
  refine wpAny_bind (wpAny_field hz rfl (x := .ref TI) rfl ?_)
  refine wpAny_bind (wpAny_seqItems hI rfl ?_)
  show wpAny _ _ (Builtin.SmallTypes.ownedTupleIsFree (.ref z) >>= _) _ _ s
  refine wpAny_bind (free_or hv hz ?_ fun g z0 s0 => ?_)
  · simp only [if_true]
    refine wpAny_bind (wpAny_rule ?_)
    refine wpAny_bind (wpAny_field hz rfl (x := .ref TO) rfl ?_)
    refine wpAny_bind (wpAny_setField_rec hz (by simp) fun g1 z1 s1 => ?_)
    replace z1 : g1.get? z = some (zObj .ellipsis f TI TO) := z1
    refine wpAny_bind ?_
    simp only [List.zipIdx_cons, List.zipIdx_nil, List.forIn_cons, List.forIn_nil]
    refine wpAny_bind (wpAny_bind (wpAny_onRaise ?_))
    show wpAny _ _ (Builtin.SmallTypes.nextOf (.ref i1) >>= _) _ _ _
    cases hx : xs[m]? with
    | none =>
      refine wpAny_bind (nextOf_tuple_end hh (r1.extBut s1.extBut D.i1z) (t1.extBut s1.extBut D.l1z) hx fun g2 e s2 he => ?_)
      obtain ⟨oe, hoe, hce⟩ := he
      have z2 : g2.get? z = some (zObj .ellipsis f TI TO) := s2 _ _ D.i1z.symm z1
      have ne : e ≠ z := fun u => by subst u; rw [z2] at hoe; cases hoe; simp at hce
      exact wpAny_setField_rec z2 (by simp) fun g3 _ s3 => q g3 e (fun c o c1 _ c3 _ u => s3.extBut _ _ c1 (s2 _ _ c3 (s1.extBut _ _ c1 u))) ⟨oe, s3.extBut _ _ ne hoe, hce⟩
    | some x =>
      have hy : ys[n]? = none := by
        rcases out with h | h
        · rw [hx] at h; cases h
        · exact h
      refine wpAny_bind (nextOf_tuple_item (r1.extBut s1.extBut D.i1z) (t1.extBut s1.extBut D.l1z) hx fun g2 p1 s2 => wpAny_pure ?_)
      have o2 : IsPair g2 TO a b := s2.extBut _ _ D.TOi1 (s1.extBut _ _ D.TOz hO)
      refine wpAny_bind (wpAny_seqItems o2 rfl ?_)
      refine wpAny_bind (wpAny_updateSeq_pair o2 fun g3 o3 s3 => ?_)
      refine wpAny_bind (wpAny_letGo (wpAny_pure ?_))
      refine wpAny_bind (wpAny_bind (wpAny_onRaise ?_))
      show wpAny _ _ (Builtin.SmallTypes.nextOf (.ref i2) >>= _) _ _ _
      refine wpAny_bind (nextOf_tuple_end hh (((r2.extBut s1.extBut D.i2z).extBut s2.extBut D.i12.symm).extBut s3.extBut D.TOi2.symm)
        (((t2.extBut s1.extBut D.l2z).extBut s2.extBut D.l2i1).extBut s3.extBut D.l2TO) hy fun g4 e s4 he => ?_)
      obtain ⟨oe, hoe, hce⟩ := he
      have z4 : g4.get? z = some (zObj .ellipsis f TI TO) := s4 _ _ D.i2z.symm (s3.extBut _ _ D.TOz.symm (s2.extBut _ _ D.i1z.symm z1))
      have ne : e ≠ z := fun u => by subst u; rw [z4] at hoe; cases hoe; simp at hce
      exact wpAny_setField_rec z4 (by simp) fun g5 _ s5 => q g5 e (fun c o c1 c2 c3 c4 u => s5.extBut _ _ c1 (s4 _ _ c4 (s3.extBut _ _ c2 (s2.extBut _ _ c3 (s1.extBut _ _ c1 u))))) ⟨oe, s5.extBut _ _ ne hoe, hce⟩
  · simp only [Bool.false_eq_true, if_false]
    refine wpAny_bind ?_
    rw [← Array.forIn_toList]
    simp only [List.forIn_cons, List.forIn_nil]
    refine wpAny_bind (wpAny_bind (wpAny_holding ?_))
    show wpAny _ _ (Builtin.SmallTypes.nextOf (.ref i1) >>= _) _ _ _
    cases hx : xs[m]? with
    | none =>
      refine wpAny_bind (nextOf_tuple_end (s := { s with heap := g }) hh (r1.extBut s0.extBut D.i1z) (t1.extBut s0.extBut D.l1z) hx fun g2 e s2 he => ?_)
      exact q g2 e (fun c o c1 _ c3 _ u => s2 _ _ c3 (s0.extBut _ _ c1 u)) he
    | some x =>
      have hy : ys[n]? = none := by
        rcases out with h | h
        · rw [hx] at h; cases h
        · exact h
      refine wpAny_bind (nextOf_tuple_item (s := { s with heap := g }) (r1.extBut s0.extBut D.i1z) (t1.extBut s0.extBut D.l1z) hx fun g2 p1 s2 => wpAny_pure ?_)
      refine wpAny_pure ?_
      refine wpAny_bind (wpAny_bind (wpAny_holding ?_))
      show wpAny _ _ (Builtin.SmallTypes.nextOf (.ref i2) >>= _) _ _ _
      refine wpAny_bind (nextOf_tuple_end (s := { s with heap := g2 }) hh ((r2.extBut s0.extBut D.i2z).extBut s2.extBut D.i12.symm) ((t2.extBut s0.extBut D.l2z).extBut s2.extBut D.l2i1) hy fun g3 e s3 he => ?_)
      exact q g3 e (fun c o c1 _ c3 c4 u => s3 _ _ c4 (s2.extBut _ _ c3 (s0.extBut _ _ c1 u))) he
/-- enumerate over what draws x and leaves the heap g1 -/
theorem enum_item {e it : Addr} {i : Int} {old : Value} {Q : Option Value → Shared → Prop} {R : Value → Heap → Prop} (he : IsEnum s.heap e it i old)
    (draw : ∀ (Q : Value → Shared → Prop) (E : Value → Shared → Prop), (∀ x g1, R x g1 → IsEnum g1 e it i old → Q x { s with heap := g1 }) → wpAny (model prog w) A.in1 (Builtin.SmallTypes.nextOf (.ref it)) Q E s)
    (q : ∀ x g1 g tk, R x g1 → IsEnumOut g e it (i + 1) x g1.objs.size → g.get? g1.objs.size = some { cls := .type "tuple", data := .seq #[.int i tk, x] } → (∀ b o, b ≠ e → g1.get? b = some o → g.get? b = some o) →
      Q (some (.ref g1.objs.size)) { s with heap := g, toks := tk + 1 }) : wpAny (model prog w) A (pyNext (.ref e)) Q E s := by
  have ty : s.TypeIs (.ref e) "enumerate" := ⟨_, he, rfl⟩
  unfold pyNext
  refine wpAny_bind (wpAny_attempt (wpAny_callSpecial?_slot (name := Str.ofString "__next__") ty F.slot_enumerate_next (wpAny_call_entry F.slot_enumerate_next ty F.entry_enumerate_next ?_ (F.args_enumerate_next_1 _))))
  obtain ⟨hp, gg, d, tk, os⟩ := s
  show wpAny _ _ (field (.ref e) 2 >>= _) _ _ _
  refine wpAny_bind (wpAny_field he rfl (x := .ref it) rfl ?_)
  refine wpAny_bind (draw _ _ fun x g1 hr e1 => ?_)
  show wpAny _ _ (field (.ref e) 3 >>= _) _ _ ⟨g1, gg, d, tk, os⟩
  refine wpAny_bind (wpAny_field e1 rfl (x := rawInt i) rfl ?_)
  show wpAny _ _ (field (.ref e) 4 >>= _) _ _ ⟨g1, gg, d, tk, os⟩
  refine wpAny_bind (wpAny_field e1 rfl (x := .none) rfl ?_)
  show wpAny _ _ (mkInt i >>= _) _ _ ⟨g1, gg, d, tk, os⟩
  refine wpAny_bind (wpAny_mkInt ?_)
  show wpAny _ _ (setField (.ref e) 3 (rawInt (i + 1)) >>= _) _ _ ⟨g1, gg, d, tk + 1, os⟩
  refine wpAny_bind (wpAny_setField_rec e1 (by simp) fun g2 e2 s2 => ?_)
  replace s2 : Heap.SameBut e g1 g2 := s2
  replace e2 : IsEnum g2 e it (i + 1) old := e2
  show wpAny _ _ (setField (.ref e) 4 .none >>= _) _ _ ⟨g2, gg, d, tk + 1, os⟩
  refine wpAny_bind (wpAny_setField_rec e2 (by simp) fun g3 e3 s3 => ?_)
  replace s3 : Heap.SameBut e g2 g3 := s3
  replace e3 : IsEnum g3 e it (i + 1) old := e3
  show wpAny _ _ (newTuple [.int i tk, x] >>= _) _ _ ⟨g3, gg, d, tk + 1, os⟩
  refine wpAny_bind (wpAny_newTuple ?_)
  have e4 : IsEnum (g3.push { cls := .type "tuple", data := .seq #[.int i tk, x] }) e it (i + 1) old := Heap.get?_push_of_some _ e3
  generalize hg4 : g3.push { cls := .type "tuple", data := .seq #[.int i tk, x] } = g4 at e4
  have sz : g3.objs.size = g1.objs.size := by rw [s3.1, s2.1]
  have le : e < g1.objs.size := Heap.lt_size e1
  have t4 : g4.get? g1.objs.size = some { cls := .type "tuple", data := .seq #[.int i tk, x] } := by rw [← hg4, ← sz]; exact Heap.get?_push_size _ rfl
  have k4 : ∀ b o, b ≠ e → g1.get? b = some o → g4.get? b = some o := fun b o hb u => by
    rw [← hg4]; exact Heap.get?_push_of_some _ (s3.extBut b o hb (s2.extBut b o hb u))
  show wpAny _ _ (Builtin.SmallTypes.ownedTupleIsFree (.ref e) >>= _) _ _ ⟨g4, gg, d, tk + 1, os⟩
  rw [sz]
  clear hg4 e3 s3 e2 s2 sz
  refine wpAny_bind ?_
  unfold Builtin.SmallTypes.ownedTupleIsFree
  refine wpAny_bind (wpAny_field e4 rfl (x := .none) rfl (wpAny_pure ?_))
  simp only [if_true]
  refine wpAny_bind (wpAny_rule ?_)
  refine wpAny_bind (wpAny_field e4 rfl (x := old) rfl ?_)
  refine wpAny_bind (wpAny_setField_rec e4 (by simp) fun g5 e5 s5 => ?_)
  replace s5 : Heap.SameBut e g4 g5 := s5
  replace e5 : IsEnum g5 e it (i + 1) x := e5
  show wpAny _ _ (Builtin.SmallTypes.ownedTupleHandOut (.ref e) (.ref g1.objs.size) >>= _) _ _ ⟨g5, gg, d, tk + 1, os⟩
  refine wpAny_bind ?_
  unfold Builtin.SmallTypes.ownedTupleHandOut
  refine wpAny_bind (wpAny_setField_rec e5 (by simp) fun g6 e6 s6 => ?_)
  replace s6 : Heap.SameBut e g5 g6 := s6
  replace e6 : IsEnumOut g6 e it (i + 1) x g1.objs.size := e6
  refine wpAny_setField_rec e6 (by simp) fun g7 e7 s7 => ?_
  replace s7 : Heap.SameBut e g6 g7 := s7
  replace e7 : IsEnumOut g7 e it (i + 1) x g1.objs.size := e7
  have k7 : ∀ b o, b ≠ e → g4.get? b = some o → g7.get? b = some o := fun b o hb u => s7.extBut b o hb (s6.extBut b o hb (s5.extBut b o hb u))
  refine wpAny_bind (wpAny_letGo (wpAny_pure ⟨_, rfl, wpAny_pure (q x g1 g7 tk hr e7 (k7 _ _ (Nat.ne_of_gt le) t4) fun b o hb u => k7 b o hb (k4 b o hb u))⟩))
theorem enum_end {e it : Addr} {i : Int} {old : Value} {Q : Option Value → Shared → Prop} {R : Heap → Prop} (he : IsEnum s.heap e it i old)
    (draw : ∀ (Q : Value → Shared → Prop) (E : Value → Shared → Prop), (∀ g x, R g → (∃ o, g.get? x = some o ∧ o.cls = .type "StopIteration") → E (.ref x) { s with heap := g }) → wpAny (model prog w) A.in1 (Builtin.SmallTypes.nextOf (.ref it)) Q E s)
    (q : ∀ g, R g → Q none { s with heap := g }) : wpAny (model prog w) A (pyNext (.ref e)) Q E s := by
  have ty : s.TypeIs (.ref e) "enumerate" := ⟨_, he, rfl⟩
  unfold pyNext
  refine wpAny_bind (wpAny_attempt (wpAny_callSpecial?_slot (name := Str.ofString "__next__") ty F.slot_enumerate_next (wpAny_call_entry F.slot_enumerate_next ty F.entry_enumerate_next ?_ (F.args_enumerate_next_1 _))))
  show wpAny _ _ (field (.ref e) 2 >>= _) _ _ s
  refine wpAny_bind (wpAny_field he rfl (x := .ref it) rfl (wpAny_bind (draw _ _ ?_)))
  rintro g x hr ⟨o, got, cls⟩
  exact wpAny_bind (wpAny_isInstance (T := "StopIteration") (b := true) ⟨o, got, cls⟩ isSubtype_stop (wpAny_pure (q g hr)))
theorem nextOf_zip {z : Addr} {TI TO : Addr} {Q : Value → Shared → Prop} (hz : ZipAt s.heap z TI TO) (h : wpAny (model prog w) A.in1 (Builtin.«zip.__next__» ⟨[.ref z], []⟩) (fun fin t => ∃ v, fin = .done (.ret v) ∧ Q v t) E s) :
    wpAny (model prog w) A (Builtin.SmallTypes.nextOf (.ref z)) Q E s := by
  obtain ⟨v, f, _, hz⟩ := hz
  have ty : s.TypeIs (.ref z) "zip" := ⟨_, hz, rfl⟩
  unfold Builtin.SmallTypes.nextOf
  refine wpAny_bind (wpAny_callSpecial?_slot (name := Str.ofString "__next__") ty F.slot_zip_next (wpAny_call_entry F.slot_zip_next ty F.entry_zip_next ?_ (F.args_zip_next_1 _)))
  refine wpAny_mono h ?_ fun _ _ u => u
  rintro fin t ⟨v, rfl, hq⟩
  exact ⟨v, rfl, wpAny_pure hq⟩
end
/-- enumerate of what is its own iterator -/
theorem meets_enumS {z : Addr} {S : Heap → Prop} (iter : ∀ (prog : Program) (w : World) (A : Around) (E : Value → Shared → Prop) (s : Shared) (Q : Value → Shared → Prop), S s.heap → Q (.ref z) s → wpAny (model prog w) A (pyIter (.ref z)) Q E s) :
    Meets (Builtin.«enumerate.__new__» ⟨[.type "enumerate", .ref z], []⟩) (fun _ R s => S s.heap ∧
    R (.ok (.ret (.ref s.heap.objs.size))) { s with heap := s.heap.push { cls := .type "enumerate", data := .fields #[.none, .bool false, .ref z, rawInt 0, .none, .none] } }) :=
  .of_wp fun prog w A R s h => by
    obtain ⟨hp, g, d, tk, os⟩ := s
    obtain ⟨h1, h⟩ := h
    have sub := sub_enumerate
    have begin_ : ∀ {A' : Around} {E : Value → Shared → Prop} {Q : Value → Shared → Prop}, Q (.ref z) ⟨hp, g, d, tk, os⟩ → wpAny (model prog w) A' (pyIter (.ref z)) Q E ⟨hp, g, d, tk, os⟩ := fun q => iter prog w _ _ ⟨hp, g, d, tk, os⟩ _ h1 q
    wp_walk using begin_
    refine wpAny_stack_any fun st => wpAny_pure ?_
    split
    · rename_i c _ _ _ _ _
      cases (c == Value.type "enumerate") <;> (wp_walk using begin_; exact ⟨_, rfl, h⟩)
    · wp_walk using begin_
      exact ⟨_, rfl, h⟩
section
variable {prog : Program} {w : World} {A : Around} {E : Value → Shared → Prop} {s : Shared}
theorem call_enumS {z : Addr} {S : Heap → Prop} {Q : Value → Shared → Prop} (iter : ∀ (prog : Program) (w : World) (A : Around) (E : Value → Shared → Prop) (s : Shared) (Q : Value → Shared → Prop), S s.heap → Q (.ref z) s → wpAny (model prog w) A (pyIter (.ref z)) Q E s) (h1 : S s.heap)
    (h : ∀ g, IsEnum g s.heap.objs.size z 0 .none → (∀ b u, s.heap.get? b = some u → g.get? b = some u) → Q (.ref s.heap.objs.size) { s with heap := g }) : wpAny (model prog w) A (call (.type "enumerate") [.ref z]) Q E s := by
  have isE : IsEnum (s.heap.push { cls := .type "enumerate", data := .fields #[.none, .bool false, .ref z, rawInt 0, .none, .none] }) s.heap.objs.size z 0 .none := Heap.get?_push_size _ rfl
  refine callType_new F.called_enumerate (by decide) (F.typeCall_enumerate_1 _) (F.newCall_enumerate_1 _) (fun obj => F.args_object_init_2 obj _) F.entry_enumerate_new (meets_enumS iter) ⟨h1, ?_⟩
  exact ⟨⟨_, isE, rfl⟩, h _ isE fun b u x => Heap.get?_push_of_some _ x⟩
end
def ItEZ (K : PySem.W.Frag) (a b : Addr) : It :=
  ⟨fun i H => ∃ (xs ys : List V) (x y : V), SqT K H a xs ∧ SqT K H b ys ∧ xs[i]? = some x ∧ ys[i]? = some y,
    fun i H v H' => ∃ T1 T2 x y, v = .ref T2 ∧ H T1 = none ∧ upd H T1 (.tup [x, y]) T2 = none ∧ H' = upd (upd H T1 (.tup [x, y])) T2 (.tup [.int (i : Nat), .ref T1]) ∧ (∀ xs, SqT K H a xs → xs[i]? = some x) ∧ ∀ ys, SqT K H b ys → ys[i]? = some y,
    fun i H => ∃ xs ys : List V, SqT K H a xs ∧ SqT K H b ys ∧ (xs.length ≤ i ∨ ys.length ≤ i)⟩
/-- all that belongs to the enumerate is below n -/
theorem turn_ez {P : Program} {w : World} {K : PySem.W.Frag} {elts : List Expr} {kk : Nat} {tpos : Pos} {a b e z TI TO i1 i2 : Addr} (D : ZipApart z TI TO i1 i2 a b) (ne : e ≠ z ∧ e ≠ TI ∧ e ≠ TO ∧ e ≠ i1 ∧ e ≠ i2) :
    Turn P w K (.Tuple elts kk tpos) (ItEZ K a b) [e, z, TI, TO, i1, i2] e (fun i h => (∃ old, IsEnum h e z ((i : Nat) : Int) old) ∧ ZipAt h z TI TO ∧ IsPair h TI (.ref i1) (.ref i2) ∧ (∃ x y, IsPair h TO x y) ∧ h.IsTupleIter i1 a i ∧ h.IsTupleIter i2 b i) where
  mem := by simp
  obj := fun i h st c hc => by
    obtain ⟨⟨old, hE⟩, ⟨v, f, _, hz⟩, hI, ⟨x, y, hO⟩, ⟨o1, e1, _, d1⟩, ⟨o2, e2, _, d2⟩⟩ := st
    have e' : c = e ∨ c = z ∨ c = TI ∨ c = TO ∨ c = i1 ∨ c = i2 := by simpa using hc
    rcases e' with q | q | q | q | q | q
    · rw [q]; exact ⟨_, hE, fun v q => nomatch q⟩
    · rw [q]; exact ⟨_, hz, fun v q => nomatch q⟩
    · rw [q]; exact ⟨_, hI, fun v q => nomatch q⟩
    · rw [q]; exact ⟨_, hO, fun v q => nomatch q⟩
    · rw [q]; exact ⟨o1, e1, fun v q => by rw [d1] at q; cases q⟩
    · rw [q]; exact ⟨o2, e2, fun v q => by rw [d2] at q; cases q⟩
  keep := fun i h h' st k => by
    obtain ⟨⟨old, hE⟩, ⟨v, f, hv, hz⟩, hI, ⟨x, y, hO⟩, h1, h2⟩ := st
    exact ⟨⟨old, k e (by simp) _ hE⟩, ⟨v, f, hv, k z (by simp) _ hz⟩, k TI (by simp) _ hI, ⟨x, y, k TO (by simp) _ hO⟩, h1.at fun o q => k i1 (by simp) o q, h2.at fun o q => k i2 (by simp) o q⟩
  item := by
    intro X hP hw hK hc i pins s σ H E I hf st hg
    subst hP hw hK
    obtain ⟨⟨old, hE⟩, hz, hI, hO, h1, h2⟩ := st
    obtain ⟨xs, ys, x, y, hqx, hqy, hx, hy⟩ := hg
    obtain ⟨its, rv, p, _⟩ := I.tuple hqx
    obtain ⟨its2, rv2, p2, _⟩ := I.tuple hqy
    obtain ⟨u, hu, ru⟩ := rv.get hx
    obtain ⟨u2, hu2, ru2⟩ := rv2.get hy
    have lts : ∀ c ∈ [e, z, TI, TO, i1, i2], c < s.heap.objs.size := fun c hcm => by
      have e' : c = e ∨ c = z ∨ c = TI ∨ c = TO ∨ c = i1 ∨ c = i2 := by simpa using hcm
      obtain ⟨v, f, _, hz⟩ := hz
      obtain ⟨_, _, hO⟩ := hO
      rcases e' with q | q | q | q | q | q
      · rw [q]; exact Heap.lt_size hE
      · rw [q]; exact Heap.lt_size hz
      · rw [q]; exact Heap.lt_size hI
      · rw [q]; exact Heap.lt_size hO
      · rw [q]; obtain ⟨_, e1, _⟩ := h1; exact Heap.lt_size e1
      · rw [q]; obtain ⟨_, e1, _⟩ := h2; exact Heap.lt_size e1
    refine enum_item (R := fun v g1 => v = .ref s.heap.objs.size ∧ ZipAt g1 z TI TO ∧ IsPair g1 TI (.ref i1) (.ref i2) ∧ (∃ a b, IsPair g1 TO a b) ∧ g1.IsTupleIter i1 a (i + 1) ∧ g1.IsTupleIter i2 b (i + 1) ∧ IsPair g1 s.heap.objs.size u u2 ∧ g1.objs.size = s.heap.objs.size + 1 ∧
      ∀ c o, c ∉ [e, z, TI, TO, i1, i2] → s.heap.get? c = some o → g1.get? c = some o) hE (fun Q E' q => nextOf_zip hz (zip_item D hz hI hO h1 h2 p p2 (x := u) (y := u2) (by simpa using hu) (by simpa using hu2) fun g a1 a2 a3 a4 a5 a6 a7 => ?_)) fun v g1 g tk hr out t2 keep => ?_
    · exact q _ g ⟨rfl, a1, a7 _ _ D.TIz D.TITO D.TIi1 D.TIi2 hI, a2, a3, a4, a5, a6, fun c o hb q' => a7 c o (fun q2 => hb (by simp [q2])) (fun q2 => hb (by simp [q2])) (fun q2 => hb (by simp [q2])) (fun q2 => hb (by simp [q2])) q'⟩ (a7 _ _ ne.1 ne.2.2.1 ne.2.2.2.1 ne.2.2.2.2 hE)
    · obtain ⟨rfl, a1, a1', a2, a3, a4, a5, a6, a7⟩ := hr
      refine ⟨_, rfl, wpAny_letOwnedTupleGo_enum (s := { s with heap := g, toks := tk + 1 }) out fun g2 isE2 same => ?_⟩
      have up : ∀ c o, c ≠ e → g1.get? c = some o → g2.get? c = some o := fun c o c1 q => (same.2 _ c1).trans (keep c o c1 q)
      have new1 : ObjOk X.prog X.w (upd H s.heap.objs.size (.tup [x, y])) g1 s.heap.objs.size (.tup [x, y]) := ⟨by show 2 ≤ sizeLine; decide, [u, u2], .cons ru (.cons ru2 .nil), ⟨_, a5, rfl, _, rfl⟩⟩
      have I1 : Inv X pins σ (upd H s.heap.objs.size (.tup [x, y])) { s with heap := g1 } := I.turnedNew (t' := s.toks) (ch := [e, z, TI, TO, i1, i2]) a7 hf (Nat.le_refl _) new1
      have le : e < s.heap.objs.size := lts e (by simp)
      have T2 : g2.get? g1.objs.size = some { cls := .type "tuple", data := .seq #[.int i tk, .ref s.heap.objs.size] } := (same.2 _ (Nat.ne_of_gt (Nat.lt_trans le (a6 ▸ Nat.lt_succ_self _)))).trans t2
      have new2 : ObjOk X.prog X.w (upd (upd H s.heap.objs.size (.tup [x, y])) g1.objs.size (.tup [.int (i : Nat), .ref s.heap.objs.size])) g2 g1.objs.size (.tup [.int (i : Nat), .ref s.heap.objs.size]) := ⟨by show 2 ≤ sizeLine; decide, [.int i tk, .ref s.heap.objs.size], .cons ⟨_, rfl⟩ (.cons rfl .nil), ⟨_, T2, rfl, _, rfl⟩⟩
      have hf1 : ∀ c ∈ [e, z, TI, TO, i1, i2], FpOk X pins (upd H s.heap.objs.size (.tup [x, y])) c := fun c hcm => ⟨by rw [upd_ne (Nat.ne_of_lt (lts c hcm))]; exact (hf c hcm).1, (hf c hcm).2⟩
      have I2 : Inv X pins σ (upd (upd H s.heap.objs.size (.tup [x, y])) g1.objs.size (.tup [.int (i : Nat), .ref s.heap.objs.size])) { s with heap := g2, toks := tk + 1 } :=
        I1.turnedNew (t' := tk + 1) (ch := [e, z, TI, TO, i1, i2]) (fun c o hb q => up c o (fun q2 => hb (by simp [q2])) q) hf1 (Nat.le_refl _) new2
      have fr2 : upd H s.heap.objs.size (.tup [x, y]) g1.objs.size = none := I1.hok.fresh (Nat.le_refl _)
      refine ⟨.ref g1.objs.size, _, I2, rfl, ⟨_, _, x, y, rfl, I.hok.fresh (Nat.le_refl _), fr2, rfl, fun l hl => by rw [I.tuple_inj hl hqx]; exact hx, fun l hl => by rw [I.tuple_inj hl hqy]; exact hy⟩, ⟨⟨.ref s.heap.objs.size, ?_⟩, ?_, up _ _ ne.2.1.symm a1', ?_, a3.at fun o q => up _ o ne.2.2.2.1.symm q, a4.at fun o q => up _ o ne.2.2.2.2.symm q⟩, fun c hcm => ?_⟩
      · rw [show ((i + 1 : Nat) : Int) = (i : Int) + 1 by omega]
        exact isE2
      · obtain ⟨v, f, hv, hz⟩ := a1
        exact ⟨v, f, hv, up _ _ ne.1.symm hz⟩
      · obtain ⟨c1, c2, hO⟩ := a2
        exact ⟨c1, c2, up _ _ ne.2.2.1.symm hO⟩
      · have := lts c hcm
        rw [upd_ne (Nat.ne_of_lt (Nat.lt_trans this (a6 ▸ Nat.lt_succ_self _))), upd_ne (Nat.ne_of_lt this)]
        exact (hf c hcm).1
  done := by
    intro X hP hw hK hc i pins s σ H E I hf st hg
    subst hP hw hK
    obtain ⟨⟨old, hE⟩, hz, hI, hO, h1, h2⟩ := st
    obtain ⟨xs, ys, hqx, hqy, hend⟩ := hg
    obtain ⟨its, rv, p, _⟩ := I.tuple hqx
    obtain ⟨its2, rv2, p2, _⟩ := I.tuple hqy
    have l1 := rv.length
    have l2 := rv2.length
    have he : its.toArray[i]? = none ∨ its2.toArray[i]? = none := by
      rcases hend with q | q
      · exact .inl (by simp; omega)
      · exact .inr (by simp; omega)
    refine enum_end (R := fun g => ∀ c o, c ∉ [e, z, TI, TO, i1, i2] → s.heap.get? c = some o → g.get? c = some o) hE (fun Q E' q => nextOf_zip hz (zip_end (I.ok.hd hc) D hz hI hO h1 h2 p p2 he fun g x k so => q g x (fun c o hb q' => k c o (fun q2 => hb (by simp [q2])) (fun q2 => hb (by simp [q2])) (fun q2 => hb (by simp [q2])) (fun q2 => hb (by simp [q2])) q') so)) fun g k => ⟨rfl, I.turnedL (t' := s.toks) (ch := [e, z, TI, TO, i1, i2]) k hf⟩
  self := by
    rintro A i s Q E ⟨⟨_, isE⟩, _⟩ h
    exact wpAny_pyIter_enum isE h
end DZ

set_option Elab.async false
set_option linter.all false
set_option maxRecDepth 100000
set_option maxHeartbeats 1000000
namespace DZ
open PySem PySem.Spec PyProof.Rows L2 RZ DL
def iEZ (K : PySem.W.Frag) (ta : TA) : TI := fun σ H R => ta σ H fun vs H1 => ∃ a b xs ys, vs = [.ref a, .ref b] ∧ SqT K H1 a xs ∧ SqT K H1 b ys ∧ R (ItEZ K a b) H1
theorem pi_ez {X : Cx} {e e2 : Expr} {ta : TA} {p p2 pos pos2 tpos : Pos} {elts : List Expr} {kk : Nat} (hg : Gl X "enumerate") (hm : X.mg "enumerate" = none) (hg2 : Gl X "zip") (hm2 : X.mg "zip" = none) (ha : PA X [e, e2] ta)
    (hs : starEach [e, e2] X.env = (false, eval e X.env) :: starEach [e2] X.env := by rfl) (hpl : (backTo pos2 (starEach [e2] X.env)).any (·.1) = false := by rfl) :
    PI X (.Tuple elts kk tpos) (.Call (.Name "enumerate" p) [.Call (.Name "zip" p2) [e, e2] [] pos2] [] pos) (iEZ X.K ta) := by
  refine ⟨fun pins s σ H R I h => ?_⟩
  refine Call_ (ld_blt I hg hm boot_enumerate ?_)
  refine PyProof.Rows.callWith_type1 (PyProof.Rows.args_cons ?_ rfl) rfl rfl
  refine Call_ (ld_blt I hg2 hm2 PyProof.Rows.boot_zip ?_)
  refine PyProof.Rows.callWith_type1 (thn (ha.run pos2 pins s σ H _ I h) fun us s1 ⟨vs, H1, I1, r1, q1⟩ => ?_) hs hpl
  obtain ⟨a, b, xs, ys, ex, hqx, hqy, q⟩ := q1
  subst ex
  cases r1 with
  | cons r rr =>
    cases rr with
    | cons r' rr =>
      cases rr
      cases r
      cases r'
      obtain ⟨its, rv, p1, _⟩ := I1.tuple hqx
      obtain ⟨its2, rv2, p2, _⟩ := I1.tuple hqy
      obtain ⟨o1, ho1, _⟩ := id p1
      obtain ⟨o2, ho2, _⟩ := id p2
      refine call_zipT (show s1.heap.IsTuple a its.toArray from p1) (show s1.heap.IsTuple b its2.toArray from p2) fun g hz hTI hTO h1 h2 hsz hk => ?_
      refine PyProof.Rows.args_nil ?_
      refine call_enumS (S := fun h => IsZip h (s1.heap.objs.size + 4) (s1.heap.objs.size + 2) (s1.heap.objs.size + 3) .none) (fun prog w A E s Q hz q => wpAny_pyIter_zip hz q) hz fun g2 isE kept => wpAny_pyIter_enum isE ?_
      have I2 : Inv X pins σ H1 { s1 with heap := g2 } := I1.kept (t' := s1.toks) fun b u e => kept b u (hk b u e)
      have isE : IsEnum g2 (s1.heap.objs.size + 5) (s1.heap.objs.size + 4) 0 .none := by
        have : IsEnum g2 g.objs.size (s1.heap.objs.size + 4) 0 .none := isE
        rw [hsz] at this
        exact this
      have fr : ∀ c, c ∈ [s1.heap.objs.size + 5, s1.heap.objs.size + 4, s1.heap.objs.size + 2, s1.heap.objs.size + 3, s1.heap.objs.size, s1.heap.objs.size + 1] → FpOk X pins H1 c := fun c hcm => by
        have hle : s1.heap.objs.size ≤ c := by
          simp only [List.mem_cons, List.not_mem_nil, or_false] at hcm
          rcases hcm with u | u | u | u | u | u <;> rw [u] <;> first | exact Nat.le_add_right _ _ | exact Nat.le_refl _
        exact I1.fpOk hle (I1.hok.fresh hle)
      refine ⟨s1.heap.objs.size + 5, [s1.heap.objs.size + 5, s1.heap.objs.size + 4, s1.heap.objs.size + 2, s1.heap.objs.size + 3, s1.heap.objs.size, s1.heap.objs.size + 1], _, _, H1, ?_, I2, turn_ez (PySem.W.ktu_apart s1.heap.objs.size a b (Heap.lt_size ho1) (Heap.lt_size ho2)) ?_, ⟨⟨_, isE⟩, ⟨_, _, .inl rfl, kept _ _ hz⟩, kept _ _ hTI, ⟨_, _, kept _ _ hTO⟩, h1.at fun o u => kept _ o u, h2.at fun o u => kept _ o u⟩, fr, q⟩
      · show Value.ref g.objs.size = _
        rw [hsz]
      · refine ⟨?_, ?_, ?_, ?_, ?_⟩ <;> simp
end DZ
namespace DW
open PySem PySem.Spec PyProof.Rows L2 RZ DL DZ
def YNest (xs ys : List V) : Nat → Hp → V → Hp → Prop := fun i H v H' => ∃ T1 T2 x y, v = .ref T2 ∧ H T1 = none ∧ upd H T1 (.tup [x, y]) T2 = none ∧ H' = upd (upd H T1 (.tup [x, y])) T2 (.tup [.int (i : Nat), .ref T1]) ∧ xs[i]? = some x ∧ ys[i]? = some y
theorem walk_ez {K : PySem.W.Frag} {a c : Addr} {xs ys : List V} {n : Nat} (hn : n = min xs.length ys.length) : Walk (ItEZ K a c) n (fun H => SqT K H a xs ∧ SqT K H c ys) (YNest xs ys) := by
  refine ⟨fun i _ hi q => ?_, fun _ q => ⟨xs, ys, q.1, q.2, by omega⟩, fun i H v H' _ q y => ?_⟩
  · have h1 : i < xs.length := by omega
    have h2 : i < ys.length := by omega
    exact ⟨xs, ys, xs[i], ys[i], q.1, q.2, by simp [h1], by simp [h2]⟩
  · obtain ⟨T1, T2, x, z, h1, h2, h3, h4, h5, h6⟩ := y
    exact ⟨T1, T2, x, z, h1, h2, h3, h4, h5 xs q.1, h6 ys q.2⟩
def NestR (K : PySem.W.Frag) : Rel := fun I H v d => ∃ T2 T1 x y k d1 d2, v = .ref T2 ∧ H T2 = some (.tup [.int k, .ref T1]) ∧ H T1 = some (.tup [x, y]) ∧ d = .tuple [.int k, .tuple [d1, d2]] ∧ Dp K I x d1 ∧ Dp K I y d2
def dIEnZip (da : DA) : DI := fun c δ A => da c δ fun rs => match rs with
  | [.dat (.tuple ds), .dat (.tuple es)] => A (enumD (zipD ds es))
  | _ => False
theorem io_ez {K : PySem.W.Frag} {b : Bg} {I : Hp} {a c : Addr} {xs ys : List V} {ds es : List PyData} (hs : SqT K I a xs) (ht : SqT K I c ys) (hd : DpAll K I xs ds) (he : DpAll K I ys es) : IterOk K b (NestR K) (ItEZ K a c) I (enumD (zipD ds es)) := by
  refine ⟨fun H => SqT K H a xs ∧ SqT K H c ys, YNest xs ys, walk_ez ?_, fun H e => ⟨st_mono e hs, st_mono e ht⟩, fun i I2 H x H' d e k2 y hz => ?_⟩
  · unfold enumD zipD
    rw [List.length_map, List.length_zipIdx, List.length_zipWith, dpa_len hd, dpa_len he]
  · obtain ⟨T1, T2, x1, x2, rfl, n1, n2, rfl, g1, g2⟩ := y
    unfold enumD zipD at hz
    rw [List.getElem?_map, List.getElem?_zipIdx, List.getElem?_zipWith] at hz
    cases q1 : ds[i]? with
    | none => rw [q1] at hz; cases hz
    | some d1 =>
      cases q2 : es[i]? with
      | none => rw [q1, q2] at hz; cases hz
      | some d2 =>
        rw [q1, q2] at hz
        have hz := (Option.some.inj hz).symm
        subst hz
        obtain ⟨u1, e1, f1⟩ := dpa_get hd q1
        obtain ⟨u2, e2, f2⟩ := dpa_get he q2
        rw [g1] at e1
        rw [g2] at e2
        cases e1
        cases e2
        have x1' := k2.newH (o := .tup [x1, x2]) n1
        have nt : T1 ≠ T2 := fun z => by
          rw [z, upd_same] at n2
          cases n2
        refine ⟨I2, x1'.trans (x1'.ok.newH n2), T2, T1, x1, x2, (i : Int), d1, d2, rfl, upd_same, ?_, ?_, dp_mono e f1, dp_mono e f2⟩
        · rw [upd_ne nt, upd_same]
        · simp
theorem ji_enzip {X : Cx} {S : Sg} {a a' : Expr} {da : DA} {p p2 pos pos2 tpos : Pos} {elts : List Expr} {kk : Nat} (hg : Gl X "enumerate") (hm : X.mg "enumerate" = none) (hg2 : Gl X "zip") (hm2 : X.mg "zip" = none) (ha : JA X S [a, a'] da) (hs : starEach [a, a'] X.env = (false, eval a X.env) :: starEach [a'] X.env := by rfl) (hpl : (backTo pos2 (starEach [a'] X.env)).any (·.1) = false := by rfl) :
    JI X S (NestR X.K) (.Tuple elts kk tpos) (.Call (.Name "enumerate" p) [.Call (.Name "zip" p2) [a, a'] [] pos2] [] pos) (dIEnZip da) := by
  obtain ⟨t, a1, a2⟩ := ha
  refine ⟨_, pi_ez hg hm hg2 hm2 a1 hs hpl, fun b I0 H0 c δ A nb ok p σ I H k n R q => ?_⟩
  refine a2 b I0 H0 c δ _ nb ok p σ I H k n _ fun rs vs I1 H1 pr x r => ?_
  obtain ⟨_, pr⟩ := pr
  split at pr
  · rename_i ds es _
    cases r with
    | cons r1 rr =>
      cases rr with
      | cons r2 rr =>
        cases rr
        have r1 : Dp X.K I1 _ (.tuple ds) := r1
        have r2 : Dp X.K I1 _ (.tuple es) := r2
        cases r1 with
        | @tup a xs _ hs hd =>
          cases r2 with
          | @tup c ys _ ht he => exact ⟨a, c, xs, ys, rfl, st_mono x.s hs, st_mono x.s ht, q _ _ I1 H1 pr x (io_ez hs ht hd he)⟩
  · exact pr.elim
def tfNest (i j k : Nat) : Tf := fun d δ => match d with
  | .tuple [a, .tuple [b, c]] => some (((δ.set i (some (.dat a))).set j (some (.dat b))).set k (some (.dat c)))
  | _ => none
theorem jg_nest {X : Cx} {S : Sg} {i j k : Nat} {tg : Expr} (h : PG X tg (gTup X.K 2 (gCons (gName i) (gCons (gTup X.K 2 (gCons (gName j) (gCons (gName k) gNil))) gNil)))) (hi : i < S.n) (hj : j < S.n) (hk : k < S.n) : JG X S (NestR X.K) [i, j, k] tg (tfNest i j k) := ⟨_, h, fun b d δ δ' nb e => by
  unfold tfNest at e
  split at e
  · rename_i a b' c
    cases e
    have li : i < δ.length := by rw [nb.len]; exact hi
    have lj : j < δ.length := by rw [nb.len]; exact hj
    have lk : k < δ.length := by rw [nb.len]; exact hk
    intro H0 I H σ v kk n hd Q q
    obtain ⟨T2, T1, x, y, m, d1, d2, rfl, hT2, hT1, ed, h1, h2⟩ := hd
    cases ed
    refine ⟨T2, [.int m, .ref T1], rfl, .inl (.inl hT2), rfl, .int m, [.ref T1], rfl, .ref T1, [], rfl, T1, [x, y], rfl, .inl (.inl hT1), rfl, x, [y], rfl, y, [], rfl, rfl, rfl, q _ ?_ (fun z hz => ?_) ?_⟩
    · exact ((n.setD li (r := .dat (.int m)) (Dp.int m) (fun _ z => by cases z)).setD (by rw [List.length_set]; exact lj) (r := .dat b') h1 (fun _ z => by cases z)).setD (by rw [List.length_set, List.length_set]; exact lk) (r := .dat c) h2 (fun _ z => by cases z)
    · have n1 : z ≠ i := fun u => hz (by simp [u])
      have n2 : z ≠ j := fun u => hz (by simp [u])
      have n3 : z ≠ k := fun u => hz (by simp [u])
      rw [List.getElem?_set_ne (fun u => n3 u.symm), List.getElem?_set_ne (fun u => n2 u.symm), List.getElem?_set_ne (fun u => n1 u.symm)]
    · rw [List.length_set, List.length_set, List.length_set]
  · cases e⟩
theorem to_nest {n i j k : Nat} : TfOk n (tfNest i j k) := fun d δ δ' nb e => by
  unfold tfNest at e
  split at e
  · cases e
    exact nb_dat (nb_dat (nb_dat nb))
  · cases e
end DW

set_option Elab.async false
set_option linter.all false
set_option maxRecDepth 100000
set_option maxHeartbeats 1000000
namespace DW
open PySem PySem.Spec PyProof.Rows L2 RZ DL
/-! ### a call that leaves a keyword-only parameter to its default -/
def pkD (is : List Nat) {α : Type} (ms vs ws : List α) : List α := pk is vs (ws ++ ms)
theorem pkD_rel (is : List Nat) {vs mz zs : List V} {us mv ws : List Value} (h : Vals vs us) (hm : Vals mz mv) (h' : Vals zs ws) : Vals (pkD is mz vs zs) (pkD is mv us ws) := pk_rel is h (vals_app h' hm)
def dCallKD (W : Wt) (is : List Nat) (i : Int) (dk : DA) : DE := fun c δ P => dk c δ fun zs => (pkD is [dint i] [] zs).all isPl = true ∧ W (pkD is [dint i] [] zs) P c
section
variable {X : Cx} {S : Sg} {pos p : Pos} {x : Str} {k : Nat} {f : Addr} {fd : FuncData} {ps : List Str} {W : Wt}
theorem je_callKD {is : List Nat} {i : Int} {ks : List Str} {kws : List Keyword} {dk : DA} {mv : List Value} (F : FnOk X.prog X.w X.K X.mg X.base (L2.CX X.prog X.w) k f fd ps (spW X.K S.cls S.fa W)) (hr : Room k X.A) (hg : Gl X x) (hm : X.mg x = some (.ref f)) (hk : PySem.W.keepIn X.K (.ref f) = true)
    (hb : KBn X.K fd ps 0 ks (fun us ws => pkD is mv us ws) (fun vs zs => pkD is [.int i] vs zs)) (hx : Passes (L2.CX X.prog X.w) X S.E) (hkw : JK X S kws dk)
    (hl : kws.length = ks.length := by rfl) (hall : (backToKw pos (keywordEach kws X.env)).all (·.1.isSome) = true := by rfl) (hks : (backToKw pos (keywordEach kws X.env)).filterMap (·.1) = ks := by rfl) (hdb : (x == ("__debug__" : Str)) = false := by decide)
    (hpl : ((backTo pos (starEach [] X.env)).any (·.1) || (backToKw pos (keywordEach kws X.env)).any (·.1.isNone)) = false := by rfl) : JE X S (.Call (.Name x p) [] kws pos) (dCallKD W is i dk) := by
  obtain ⟨t, k1, k2⟩ := hkw
  refine ⟨_, pe_callK0 F hr hg hm hk hb hx k1 hall hks hdb hpl, ?_⟩
  rw [hl] at k2
  refine fun b I0 H0 c δ P nb ok p σ I H k e Q q => ?_
  refine k2 b I0 H0 c δ _ nb ok p σ I H k e _ fun zs ws I2 H2 ⟨l2, p2⟩ x2 r2 => ?_
  have rm : ResA X.K b H I2 H2 [V.int i] [dint i] := .cons (Dp.int i) .nil
  have rn : ResA X.K b H I2 H2 [] [] := .nil
  exact ⟨rfl, by rw [resA_len r2]; exact l2, (pkD is [dint i] [] zs, P, c), b, I2, x2.ok, resA_now (pk_res is rn (resA_app r2 rm)) (isPl_own p2.1), ⟨ok.fa, p2⟩, fun r v I' H' o x3 rs' => q r v I' H' o (x2.trans x3) (rs'.since (free_of x2)), fun C fs d I' H' he x3 h1 h2 => ok.xw C fs d I' H' he ((k.trans x2).trans x3) h1 h2⟩
end
theorem kb_dfl {K : PySem.W.Frag} {x qual : Str} {st : Stmt} {f : Addr} {fd : FuncData} {ps ks : List Str} {y : Str} {i : Int} (is : List Nat) (F : FunD K x qual (defArgs st) (defBody st) (defScope st) [] [(y, .int i)] f fd)
    (h : ∀ (D : Addr) (doc pm : Value) (an : Option Addr) (cdv ct : Value) (us mv ws : List Value), us.length = 0 → mv.length = 1 → ws.length = ks.length →
      KwChain D ([y].zip mv) (bindArgs (PySem.W.fnOf x qual (defArgs st) (defBody st) (defScope st) .none (.ref D) doc pm an cdv ct) ⟨us, ks.zip ws⟩) (ps.zip (pkD is mv us ws))) :
    ∃ mv : List Value, KBn K fd ps 0 ks (fun us ws => pkD is mv us ws) (fun vs zs => pkD is [.int i] vs zs) :=
  F.kbinds0 0 ks [(y, .int i)] (fun us mv ws => pkD is mv us ws) (by simp) (fun q hq => hq) (fun h1 h2 h3 => pkD_rel is h1 h2 h3) h
theorem funD_mk {K : PySem.W.Frag} {x qual : Str} {st : Stmt} {f D : Addr} {oc : Value} {od : Option Addr} {doc pm : Value} {an : Option Addr} {cdv ct : Value} {osl : Array (Option Value)} {y : Str} {i : Int} {tk : Tok} (l : K.lookup f = some ⟨oc, od, .func (PySem.W.fnOf x qual (defArgs st) (defBody st) (defScope st) .none (.ref D) doc pm an cdv ct), osl⟩) (c : PySem.W.codeIn K cdv qual = true) (kp : PySem.W.keepIn K (.ref f) = true) (hn : PySem.W.nsIn K D y = some (some (.int i tk))) :
    FunD K x qual (defArgs st) (defBody st) (defScope st) [] [(y, .int i)] f (PySem.W.fnOf x qual (defArgs st) (defBody st) (defScope st) .none (.ref D) doc pm an cdv ct) :=
  ⟨⟨oc, od, .none, .ref D, doc, pm, an, cdv, ct, osl, rfl, l, c, .inl ⟨rfl, rfl⟩, .inr ⟨D, rfl, fun q hq => by
    rcases List.mem_cons.mp hq with e | e
    · rw [e]; exact ⟨_, hn, tk, rfl⟩
    · cases e⟩⟩, kp⟩
/-! ### xs[::-1] -/
def dRev (de : DE) : DE := fun c δ P => de c δ fun r => match lstD r with
  | some ds => P (.own ds.reverse)
  | none => False
theorem dpa_rev {K : PySem.W.Frag} {I : Hp} : ∀ {xs : List V} {ds : List PyData}, DpAll K I xs ds → DpAll K I xs.reverse ds.reverse
  | _, _, .nil => .nil
  | _, _, .cons h t => by
    rw [List.reverse_cons, List.reverse_cons]
    exact dpa_app (dpa_rev t) (.cons h .nil)
theorem lstD_seq {r : DV} {ds : List PyData} (h : lstD r = some ds) : seqD r = some ds := by
  unfold lstD at h
  split at h <;> first | (cases h; rfl) | cases h
theorem je_rev {X : Cx} {S : Sg} {e : Expr} {de : DE} {k : Nat} {p1 p2 p3 pos : Pos} (he : JE X S e de) : JE X S (.Subscript e (.Slice none none (some (.UnaryOp .USub (.Constant (.int 1) k p1) p2)) p3) pos) (dRev de) := by
  obtain ⟨t, h1, h2⟩ := he
  refine ⟨_, pe_revL h1, fun b I0 H0 c δ P nb ok p σ I H k e Q q => ?_⟩
  refine h2 b I0 H0 c δ _ nb ok p σ I H k e _ fun r v I1 H1 pr x rs => ?_
  split at pr
  · rename_i ds el
    obtain ⟨a, xs, rfl, hs, hd⟩ := (lstD_ok el).read x.s rs
    exact ⟨a, xs, rfl, hs, fun p' hp => q _ _ I1 _ pr (x.trans (x.ok.newH hp)) ⟨p', xs.reverse, rfl, x.free (fr_none hp), x.ok.inone hp, x.ok.nb hp, upd_same, dpa_rev hd⟩⟩
  · exact pr.elim
end DW

set_option Elab.async false
set_option linter.all false
set_option maxRecDepth 100000
set_option maxHeartbeats 1000000
namespace DW
open PySem PySem.Spec PyProof.Rows L2 RZ DL DZ
/-- a, (b, c) out of a pair that enumerate makes, the second one plain -/
theorem jg_nestP {X : Cx} {S : Sg} {i j k : Nat} {tg : Expr} (h : PG X tg (gTup X.K 2 (gCons (gName i) (gCons (gTup X.K 2 (gCons (gName j) (gCons (gName k) gNil))) gNil)))) (hi : i < S.n) (hj : j < S.n) (hk : k < S.n) : JG X S (PairR X.K) [i, j, k] tg (tfNest i j k) := ⟨_, h, fun b d δ δ' nb e => by
  unfold tfNest at e
  split at e
  · rename_i a b' c
    cases e
    have li : i < δ.length := by rw [nb.len]; exact hi
    have lj : j < δ.length := by rw [nb.len]; exact hj
    have lk : k < δ.length := by rw [nb.len]; exact hk
    intro H0 I H σ v kk n hd Q q
    obtain ⟨T, x1, x2, d1, d2, rfl, hT, ed, h1, h2⟩ := hd
    cases ed
    cases h2 with
    | @tup T1 xs _ hs ha =>
      cases ha with
      | @cons v1 _ _ _ g1 ha =>
        cases ha with
        | @cons v2 _ _ _ g2 ha =>
          cases ha
          refine ⟨T, [x1, .ref T1], rfl, .inl (.inl hT), rfl, x1, [.ref T1], rfl, .ref T1, [], rfl, T1, [v1, v2], rfl, st_mono kk.s hs, rfl, v1, [v2], rfl, v2, [], rfl, rfl, rfl, q _ ?_ (fun z hz => ?_) ?_⟩
          · exact ((n.setD li (r := .dat a) h1 (fun _ z => by cases z)).setD (by rw [List.length_set]; exact lj) (r := .dat b') g1 (fun _ z => by cases z)).setD (by rw [List.length_set, List.length_set]; exact lk) (r := .dat c) g2 (fun _ z => by cases z)
          · have n1 : z ≠ i := fun u => hz (by simp [u])
            have n2 : z ≠ j := fun u => hz (by simp [u])
            have n3 : z ≠ k := fun u => hz (by simp [u])
            rw [List.getElem?_set_ne (fun u => n3 u.symm), List.getElem?_set_ne (fun u => n2 u.symm), List.getElem?_set_ne (fun u => n1 u.symm)]
          · rw [List.length_set, List.length_set, List.length_set]
  · cases e⟩
end DW

set_option Elab.async false
set_option linter.all false
set_option maxRecDepth 100000
set_option maxHeartbeats 4000000
/-! t[::-1] of lists and tuples -/
namespace RVT
open PySem PySem.Spec PyProof.Rows L2 HT
section
variable {prog : Program} {w : World} {A : Around} {E : Value → Shared → Prop} {s : Shared}
theorem places_back (n : Nat) : Builtin.Slice.slicePlaces ((n : Int) - 1) (-1) (-1) = n := by
  unfold Builtin.Slice.slicePlaces
  have h1 : ¬ ((-1 : Int) > 0) := by omega
  simp only [h1, if_false]
  by_cases h : (n : Int) - 1 > -1
  · rw [if_pos h, show (-(-1) : Int) = 1 by decide, Int.ediv_one]
    omega
  · rw [if_neg h]
    omega
theorem pick_back (xs : Array Value) : ((List.range xs.size).filterMap fun (m : Nat) => xs[(((xs.size : Int) - 1) + (m : Int) * (-1)).toNat]?).toArray = xs.toList.reverse.toArray := by
  have e : (List.range xs.size).filterMap (fun (m : Nat) => xs[(((xs.size : Int) - 1) + (m : Int) * (-1)).toNat]?) = ((List.range xs.size).map fun k => xs.size - 1 - k).filterMap (xs[·]?) := by
    rw [List.filterMap_map]
    have key : ∀ (l : List Nat), (∀ m ∈ l, m < xs.size) → l.filterMap (fun (m : Nat) => xs[(((xs.size : Int) - 1) + (m : Int) * (-1)).toNat]?) = l.filterMap ((fun x => xs[x]?) ∘ fun k => xs.size - 1 - k) := by
      intro l
      induction l with
      | nil => intro _; rfl
      | cons m l ih =>
        intro h
        have hm := h m (List.mem_cons_self ..)
        have e : xs[(((xs.size : Int) - 1) + (m : Int) * (-1)).toNat]? = ((fun x => xs[x]?) ∘ fun k => xs.size - 1 - k) m := by
          show _ = xs[xs.size - 1 - m]?
          rw [show (((xs.size : Int) - 1) + (m : Int) * (-1)).toNat = xs.size - 1 - m by omega]
        rw [List.filterMap_cons, List.filterMap_cons, e, ih fun x hx => h x (List.mem_cons_of_mem _ hx)]
    exact key _ fun m hm => List.mem_range.mp hm
  rw [e, PySem.W.krv_range, List.filterMap_reverse, PySem.W.krv_all]
theorem getItem_tuple_rev {t sl : Addr} {items : Array Value} {vl vu vs : Value} {Q : Value → Shared → Prop} (ht : IsTup s.heap t items) (hs : s.heap.IsSliceOf sl vl vu vs) (pl : IsPart vl none) (pu : IsPart vu none) (ps : IsPart vs (some (-1)))
    (h : Q (.ref s.heap.objs.size) { s with heap := s.heap.push { cls := .type "tuple", data := .seq items.toList.reverse.toArray } })
    (hsz : items.size ≤ sizeLine) : wpAny (model prog w) A (getItem (.ref t) (.ref sl)) Q E s := by
  have htake : sizeOk (.seq items.toList.reverse.toArray) := by
    show items.toList.reverse.toArray.size ≤ sizeLine
    rw [List.size_toArray, List.length_reverse, Array.length_toList]
    exact hsz
  obtain ⟨os, hos, hcs, hds⟩ := id hs
  have hTs : s.TypeIs (.ref sl) "slice" := ⟨os, hos, hcs⟩
  unfold getItem
  try with_reducible refine wpAny_holding ?_
  first | refine wpAny_bind (wpAny_pure ?_) | skip
  refine wpAny_bind (wpAny_sequenceKey ht.typeIs (by decide) ?_)
  refine wpAny_bind (wpAny_callSpecial?_slot (name := Str.ofString "__getitem__") ht.typeIs PyProof.Rows.slot_tuple_getitem
    (wpAny_call_entry PyProof.Rows.slot_tuple_getitem ht.typeIs entry_tuple_getitem ?_ (args_tuple_getitem _ _)))
  show wpAny _ _ (Builtin.Tuple.tupleItemsOf (.ref t) >>= _) _ _ s
  refine wpAny_bind (tupleItemsOf_ ht ?_)
  refine wpAny_bind (wpAny_typeOf hTs ?_)
  rw [if_pos (by decide)]
  refine wpAny_bind ?_
  · unfold Builtin.Slice.sliceApplied Builtin.Slice.sliceFields
    refine wpAny_bind (wpAny_bind (wpAny_field hos hds (x := vl) rfl (wpAny_bind (wpAny_field hos hds (x := vu) rfl (wpAny_bind (wpAny_field hos hds (x := vs) rfl (wpAny_pure ?_)))))))
    refine wpAny_bind (slicePart_ ps ?_)
    show wpAny _ _ (if ((-1 : Int) == 0) = true then _ else _) _ _ s
    rw [if_neg (by decide)]
    refine wpAny_bind (slicePart_ pl (wpAny_bind (slicePart_ pu (wpAny_bind (wpAny_pure ?_)))))
    show wpAny _ _ (pure (((items.size : Int) - 1), (-1 : Int), Builtin.Slice.slicePlaces ((items.size : Int) - 1) (-1) (-1))) _ _ s
    rw [places_back]
    refine wpAny_pure ?_
    have hno : ¬ ((((items.size : Int) - 1) == 0 && (-1 : Int) == 1 && items.size == items.size) = true) := by
      intro q
      rw [Bool.and_eq_true, Bool.and_eq_true] at q
      exact absurd q.1.2 (by decide)
    show wpAny _ _ (if (((items.size : Int) - 1) == 0 && (-1 : Int) == 1 && items.size == items.size) = true then _ else _) _ _ s
    rw [if_neg hno, pick_back]
    first
      | exact wpAny_bind (m := Builtin.Tuple.tupleExact _) (wpAny_newObj_type (wpAny_pure ⟨_, rfl, wpAny_pure h⟩) htake)
      | exact wpAny_bind (m := Builtin.Tuple.tupleExact _) (wpAny_newObj_type (wpAny_bind (wpAny_pure (wpAny_pure ⟨_, rfl, wpAny_pure h⟩))) htake)
      | exact wpAny_bind (wpAny_bind (m := Builtin.Tuple.tupleExact _) (wpAny_newObj_type (wpAny_pure (wpAny_pure ⟨_, rfl, wpAny_pure h⟩)) htake))
      | exact wpAny_bind (wpAny_bind (m := Builtin.Tuple.tupleExact _) (wpAny_newObj_type (wpAny_pure ⟨_, rfl, wpAny_pure h⟩) htake))
end
section
variable {X : Cx}
def tRev2 (K : PySem.W.Frag) (te : TE) : TE := fun σ H Q => te σ H fun x H1 => ∃ a xs, x = .ref a ∧ ((SqL K H1 a xs ∧ ∀ p, H1 p = none → Q (.ref p) (upd H1 p (.lst xs.reverse))) ∨ (SqT K H1 a xs ∧ TF.NewT xs.reverse H1 Q))
theorem pe_rev2 {e : Expr} {te : TE} {k : Nat} {p1 p2 p3 pos : Pos} (he : PE X e te) : PE X (.Subscript e (.Slice none none (some (.UnaryOp .USub (.Constant (.int 1) k p1) p2)) p3) pos) (tRev2 X.K te) := by
  refine ⟨fun pins s σ H Q I h => ?_⟩
  refine Subscript_ (thn (he.run pins s σ H _ I h) fun v s1 ⟨x, H1, I1, r1, q1⟩ => ?_)
  obtain ⟨a, xs, ex, hx⟩ := q1
  subst ex
  cases r1
  have hst : PO X (some (.UnaryOp .USub (.Constant (.int 1) k p1) p2)) (tPart (tUn (rU fun i => .int (-i)) (tC (.int 1)))) := po_some (pe_un un_neg pe_int)
  refine wpAny_Slice (thn (po_none.run pins s1 σ H1 (fun o H2 => o = none ∧ H2 = H1) I1 ⟨rfl, rfl⟩) fun vl s2 ⟨l, H2, I2, pl, el, e2⟩ => ?_)
  subst el e2
  refine thn (po_none.run pins s2 σ H2 (fun o H3 => o = none ∧ H3 = H2) I2 ⟨rfl, rfl⟩) fun vu s3 ⟨u, H3, I3, pu, eu, e3⟩ => ?_
  subst eu e3
  refine thn (hst.run pins s3 σ H3 (fun o H4 => o = some (-1) ∧ H4 = H3) I3 ⟨1, rfl, -1, rfl, rfl, rfl⟩) fun vs s4 ⟨o, H4, I4, ps, eo, e4⟩ => ?_
  subst eo e4
  have I5 : Inv X pins σ H4 { s4 with heap := s4.heap.push { cls := .type "slice", data := .fields #[vl, vu, vs] } } := I4.kept (t' := s4.toks) fun b ob q => Heap.get?_push_of_some _ q
  rcases hx with ⟨hx, q⟩ | ⟨hx, q⟩
  · obtain ⟨its, r, ht, hz⟩ := I5.list hx
    have hlen := r.length
    show wpAny (model X.prog X.w) X.A (subscriptTail e (.Slice none none (some (.UnaryOp .USub (.Constant (.int 1) k p1) p2)) p3) (.ref a) (.ref s4.heap.objs.size)) (EP X pins σ Q) X.xe { s4 with heap := s4.heap.push { cls := .type "slice", data := .fields #[vl, vu, vs] } }
    refine tail_any (ops := [.ref a, .ref s4.heap.objs.size]) ht.isList.typeIs (PySem.slot_list_getitem.lookup) ?_ (by with_unfolding_all rfl)
    refine wpAny_getItem_list_slice ht.isList (Heap.IsSliceOf.new _ vl vu vs) pl pu ps (by decide) ?_ (by rw [List.size_toArray]; omega)
    rw [PySem.W.krv_pick]
    refine ⟨.ref _, _, I5.laid (t' := s4.toks) (o := .lst xs.reverse) (fun b ob q => Heap.get?_push_of_some _ q) (Nat.le_refl _) ?_, rfl, q _ (I5.hok.fresh (Nat.le_refl _))⟩
    exact ⟨by rw [List.length_reverse]; exact hz, _, 0, r.reverse, Heap.get?_push_size _ rfl⟩
  · obtain ⟨its, r, ht, hz⟩ := I5.tuple hx
    have hlen := r.length
    show wpAny (model X.prog X.w) X.A (subscriptTail e (.Slice none none (some (.UnaryOp .USub (.Constant (.int 1) k p1) p2)) p3) (.ref a) (.ref s4.heap.objs.size)) (EP X pins σ Q) X.xe { s4 with heap := s4.heap.push { cls := .type "slice", data := .fields #[vl, vu, vs] } }
    refine tail_any (ops := [.ref a, .ref s4.heap.objs.size]) ht.typeIs (PyProof.Rows.slot_tuple_getitem.lookup) ?_ (by with_unfolding_all rfl)
    refine getItem_tuple_rev ht (Heap.IsSliceOf.new _ vl vu vs) pl pu ps ?_ (by rw [List.size_toArray]; omega)
    exact TF.laidT (tk := s4.toks) I5 r.reverse (by rw [List.length_reverse]; exact hz) q
end
end RVT
namespace DW
open PySem PySem.Spec PyProof.Rows L2 RZ DL
def dRev2 (de : DE) : DE := fun c δ P => de c δ fun r => match fz r with
  | .dat (.tuple ds) => P (.dat (.tuple ds.reverse))
  | r => match lstD r with
    | some ds => P (.own ds.reverse)
    | none => False
theorem je_rev2 {X : Cx} {S : Sg} {e : Expr} {de : DE} {k : Nat} {p1 p2 p3 pos : Pos} (he : JE X S e de) : JE X S (.Subscript e (.Slice none none (some (.UnaryOp .USub (.Constant (.int 1) k p1) p2)) p3) pos) (dRev2 de) := by
  obtain ⟨t, h1, h2⟩ := he
  refine ⟨_, RVT.pe_rev2 h1, fun b I0 H0 c δ P nb ok p σ I H k e Q q => ?_⟩
  refine ev_fz (Q := fun r => match r with
    | .dat (.tuple ds) => P (.dat (.tuple ds.reverse))
    | r => match lstD r with
      | some ds => P (.own ds.reverse)
      | none => False) (h2 b I0 H0 c δ _ nb ok p) σ I H k e _ fun r v I1 H1 pr x rs => ?_
  dsimp only at pr
  split at pr
  · rename_i ds
    obtain ⟨a, xs, ev, hs, hd⟩ := tup_read x.s rs
    subst ev
    exact ⟨a, xs, rfl, .inr ⟨hs, newT_res x.ok (dpa_rev hd) fun v I' H' x4 d => q _ v I' H' pr (x.trans x4) d⟩⟩
  · split at pr
    · rename_i ds el
      obtain ⟨a, xs, rfl, hs, hd⟩ := (lstD_ok el).read x.s rs
      exact ⟨a, xs, rfl, .inl ⟨hs, fun p' hp => q _ _ I1 _ pr (x.trans (x.ok.newH hp)) ⟨p', xs.reverse, rfl, x.free (fr_none hp), x.ok.inone hp, x.ok.nb hp, upd_same, dpa_rev hd⟩⟩⟩
    · exact pr.elim
end DW

set_option Elab.async false
set_option linter.all false
set_option maxRecDepth 100000
set_option maxHeartbeats 4000000
/-! d.get(k, x) of a dict of a def's own whose keys are tuples -/
namespace DK
open PySem PySem.Spec PyProof.Rows L2 RZ DL
def tDGetN (K : PySem.W.Frag) (td ty tx : TE) : TE := fun σ H Q => td σ H fun x H1 => ∃ a es1, x = .ref a ∧ H1 a = some (dctO a es1) ∧ KeysOk K H1 es1 ∧ ty σ H1 fun y H2 => tx σ H2 fun z H3 => ∃ b k es, KeyV K H3 y b k ∧ H3 a = some (dctO a es) ∧ KeysOk K H3 es ∧ Q ((atE es k).getD z) H3
section
variable {X : Cx} {o e f : Expr} {apos cpos : Pos} {td ty tx : TE}
theorem pe_dgetN (hu : X.A.units + 64 < cLine) (ho : PE X o td) (he : PE X e ty) (hf : PE X f tx) (m : M2 X o "get" apos e f cpos) : PE X (.Call (.Attribute o "get" apos) [e, f] [] cpos) (tDGetN X.K td ty tx) := by
  refine ⟨fun pins s σ H Q I h => ?_⟩
  refine wpAny_Call_method m.base m.few m.line PySem.F.plainAttrs_dict PySem.F.slot_dict_get PySem.F.type_dict_get (thn (ho.run pins s σ H _ I h) fun u s1 ⟨x, H1, I1, rx, a, es1, ex, d, ko, q1⟩ => ?_)
  subst ex
  obtain rfl : u = Value.ref a := rx
  obtain ⟨xs, r, dd⟩ := dct_dd I1 d ko
  refine ⟨dd.typeIs, fun b q => ?_, ?_⟩
  · cases q
    obtain ⟨ob, _, _, h1, h2, _⟩ := dd
    exact ⟨ob, h1, h2.2.1⟩
  rw [m.trees]
  refine Calls.callWith_builtin rfl (Calls.evalArgs_plain (Calls.spliced_cons (thn (he.run pins s1 σ H1 _ I1 q1) fun iv s2 ⟨y, H2, I2, ry, q2⟩ =>
    Calls.spliced_cons (thn (hf.run pins s2 σ H2 _ I2 q2) fun fv s3 ⟨z, H3, I3, rz, b, k, es, hk, d3, ko3, q3⟩ => Calls.spliced_nil ?_))))
  obtain ⟨rfl, is⟩ := keyV_is I3 hk ry
  obtain ⟨ys, r3, dd3⟩ := dct_dd I3 d3 ko3
  have hs := (dct_of I3.hok d3).1.2.1
  refine call_meetsIn PySem.F.slot_dict_get dd3.typeIs PySem.F.entry_dict_get (PySem.F.args_dict_get_3 _ _ _) (meetsH_dict_get_default (nestedKind X.prog X.w) a b hs fv) ⟨room8 hu, k, ys, is, dd3, ?_⟩
  have rel := atE_rel r3 k
  refine ⟨(atE es k).getD z, H3, I3.tok _, ?_, q3⟩
  cases h1 : atE es k with
  | none =>
    rw [h1] at rel
    cases h2 : atKey ys k with
    | none => exact rz
    | some p => rw [h2] at rel; exact rel.elim
  | some v =>
    rw [h1] at rel
    cases h2 : atKey ys k with
    | none => rw [h2] at rel; exact rel.elim
    | some p => rw [h2] at rel; exact rel
end
end DK
namespace DW
open PySem PySem.Spec PyProof.Rows L2 RZ DL
def getP (kvs : List (PyData × PyData)) (P : DP) : DV → DV → Prop
  | .dat kd, .dat zd => match keyT kd with
    | some k => P (.dat ((lkD kvs k).getD zd))
    | none => False
  | _, _ => False
def dGetD (do_ dk dz : DE) : DE := fun c δ P => do_ c δ fun x => match x with
  | .dct _ kvs => dk c δ fun k => dz c δ fun z => getP kvs P (fz k) (fz z)
  | _ => False
theorem je_getD {X : Cx} {S : Sg} {o e f : Expr} {do_ dk dz : DE} {apos cpos : Pos} (hu : X.A.units + 65 < cLine) (ho : JE X S o do_) (he : JE X S e dk) (hf : JE X S f dz) (m : M2 X o "get" apos e f cpos := by exact ⟨by rfl, by rfl, by rfl, by rfl⟩) : JE X S (.Call (.Attribute o "get" apos) [e, f] [] cpos) (dGetD do_ dk dz) := by
  obtain ⟨to, o1, o2⟩ := ho
  obtain ⟨tk, k1, k2⟩ := he
  obtain ⟨tz, z1, z2⟩ := hf
  refine ⟨_, DK.pe_dgetN (by omega) o1 k1 z1 m, fun b I0 H0 c δ P nb ok p σ I H k n Q q => ?_⟩
  refine o2 b I0 H0 c δ _ nb ok p σ I H k n _ fun r v I1 H1 pr x rs => ?_
  split at pr
  · rename_i ow kvs
    have rs' := rs
    obtain ⟨a, es, rfl, fr, ia, hab, ha, hr⟩ := rs
    refine ⟨a, es, rfl, ha, keys_ok x.s hr, ?_⟩
    refine ev_fz (Q := fun k => dz c δ fun z => getP kvs P k (fz z)) (k2 b I0 H0 c δ _ nb ok pr) σ I1 H1 (k.trans x) (n.ext x) _ fun r2 v2 I2 H2 p2 x2 rs2 => ?_
    refine ev_fz (Q := fun z => getP kvs P r2 z) (z2 b I0 H0 c δ _ nb ok p2) σ I2 H2 (k.trans (x.trans x2)) (n.ext (x.trans x2)) _ fun r3 v3 I3 H3 p3 x3 rs3 => ?_
    have x13 := (x.trans x2).trans x3
    have p3 : getP kvs P r2 r3 := p3
    unfold getP at p3
    split at p3
    · rename_i kd zd _
      split at p3
      · rename_i kk ek
        obtain ⟨a', es', e1, _, _, _, ha', hr'⟩ := (rs'.ext x2).ext x3
        cases e1
        have rs2' : Dp X.K I3 v2 kd := dp_mono x3.i rs2
        have rs3' : Dp X.K I3 v3 zd := rs3
        obtain ⟨bb, hkv⟩ := keyV_of x3.s ek rs2'
        refine ⟨bb, kk, es', hkv, ha', keys_ok x3.s hr', ?_⟩
        refine q _ _ I3 H3 p3 x13 ?_
        rcases lk_rel kk hr' with ⟨h1, h2⟩ | ⟨x, y, h1, h2, h3⟩
        · rw [h1, h2]
          exact rs3'
        · rw [h1, h2]
          exact h3
      · exact p3.elim
    · exact p3.elim
  · exact pr.elim
end DW

set_option Elab.async false
set_option linter.all false
set_option maxRecDepth 100000
set_option maxHeartbeats 4000000
/-! Own exception classes with an __init__ of their own over other bases than ValueError (LookupError, IndexError). -/
namespace OEL
open PySem PySem.Spec PySem.W PySem.Calls PyProof.Rows L2
/-- a base whose rules the library tells -/
structure Base (B nid iid : String) (tl : List Value) : Prop where
  fb : ExcBaseFacts B nid iid tl
  sf : StoreFacts B tl "object.__setattr__" "object"
abbrev tlL : List Value := [.type "LookupError", .type "Exception", .type "BaseException", .type "object"]
abbrev tlI : List Value := [.type "IndexError", .type "LookupError", .type "Exception", .type "BaseException", .type "object"]
theorem base_L : Base "LookupError" "LookupError.__new__" "LookupError.__init__" tlL := ⟨PySem.F.excBase_LookupError, PySem.F.store_LookupError⟩
theorem base_I : Base "IndexError" "IndexError.__new__" "IndexError.__init__" tlI := ⟨PySem.F.excBase_IndexError, PySem.F.store_IndexError⟩
/-- what the written part says of such a class -/
structure Of (K : Frag) (C : Addr) (nid : String) (tl : List Value) : Prop where
  cls : ∃ nm q N bs bm sn sub ab col dd k0 k1 k2 k3 k5, K.lookup C = some (excClassObj nm q C N bs bm true sn sub ab col dd k0 k1 k2 k3 k5 nid)
  over : excOver K C tl = true
  sa : findIn K (.ref C) "__setattr__" = some (some (.builtin "object.__setattr__"))
  exC : subIn K (.ref C) (.type "BaseException") = some true
  tyC : typeIn K (.ref C) = some (.type "type")
  kC : keepIn K (.ref C) = true
section
variable {K : Frag} {C : Addr} {B nid iid : String} {tl : List Value}
/-- the class as it lies there, its data, its mro's end -/
theorem Of.told (T : Of K C nid tl) : ∃ nm q N bs bm sn sub ab col dd k0 k1 k2 k3 k5, K.lookup C = some (excClassObj nm q C N bs bm true sn sub ab col dd k0 k1 k2 k3 k5 nid) ∧
    clsIn K C = some { name := nm, bases := bs, mro := .ref C :: bm, ns := N, qualname := q, hasDict := true, slotNames := sn, subclasses := sub, abstract := ab, collection := col, hasDel := false } ∧ excTail tl bm = true := by
  obtain ⟨nm, q, N, bs, bm, sn, sub, ab, col, dd, k0, k1, k2, k3, k5, hC⟩ := T.cls
  have hd : clsIn K C = some { name := nm, bases := bs, mro := .ref C :: bm, ns := N, qualname := q, hasDict := true, slotNames := sn, subclasses := sub, abstract := ab, collection := col, hasDel := false } := by
    unfold clsIn
    rw [hC] <;> rfl
  refine ⟨nm, q, N, bs, bm, sn, sub, ab, col, dd, k0, k1, k2, k3, k5, hC, hd, ?_⟩
  have ov := T.over
  unfold excOver at ov
  rw [hd] at ov
  exact (Bool.and_eq_true_iff.mp ov).2
end
section
variable {P : Program} {w : World} {A : Around} {E : Value → Shared → Prop} {R : Result → Shared → Prop} {K : Frag} {C x : Addr} {B nid iid : String} {tl : List Value} {f : Str} {tk : Tok} {v : Value} {fv : Array Value}
/-- object.__setattr__ at such an object, past the classes -/
theorem at_own {s : Shared} {od : Option Obj} {dx : Option Addr} (b : Base B nid iid tl) (T : Of K C nid tl) (X : K.In s.heap) (I : InstAt s.heap x { cls := .ref C, dict := dx, data := .fields fv } C od) (hf : findIn K (.ref C) f = some none)
    (h : ∀ z, wpAny (model P w) A.in1 (Builtin.ObjectAttr.storeInOwnDict (.ref x) (.ref C) (.str f tk) f v z) (fun fin s' => match fin with | .done r => R (.ok r) s' | .again c' => c'.quiet = true ∧ codeAny (model P w) A c' R s') (fun e s' => R (.error e) s') s) :
    codeAny (model P w) A (.call (.builtin "object.__setattr__") ⟨[.ref x, .str f tk, v], []⟩) R s :=
  osa_openX (r := none) b.sf X I T.over (by unfold takerIn; rw [hf] <;> rfl) h
open Builtin Builtin.ObjectAttr in
/-- the first field: the dict is made -/
theorem put_first {hp : Heap} {g : Array GenState} {d : Drawn} {t : Nat} {os : OsState} (b : Base B nid iid tl) (T : Of K C nid tl) (X : K.In hp) (hx : hp.get? x = some { cls := .ref C, dict := none, data := .fields fv }) (hf : findIn K (.ref C) f = some none)
    (q : ∀ h' tk' dx, (∀ a o, a ≠ x → hp.get? a = some o → h'.get? a = some o) → hp.objs.size ≤ dx → dx ≠ x → h'.get? x = some { cls := .ref C, dict := some dx, data := .fields fv } → h'.Ns1 dx (fun y => if y = f then some v else none) → R (.ok (.ret .none)) ⟨h', g, d, tk', os⟩) :
    codeAny (model P w) A (.call (.builtin "object.__setattr__") ⟨[.ref x, .str f tk, v], []⟩) R ⟨hp, g, d, t, os⟩ := by
  obtain ⟨nm, qn, N, bs, bm, sn, sub, ab, col, dd, k0, k1, k2, k3, k5, hC, hd, _⟩ := T.told
  have lx := Heap.lt_size hx
  refine at_own (od := none) b T X ⟨hx, rfl, rfl, trivial⟩ hf fun z => ?_
  have L : Looks (model P w) hp (classData C) _ := looks_clsIn X hd
  unfold storeInOwnDict ownDictForStores
  repeat (first | with_reducible refine PySem.HandSPX.store_in_new ?_ ?_ | with_reducible refine wpAny_loadPart_at hx ?_ | with_reducible refine L.at ?_ | wp_step)
  · exact ⟨_, #[], _, (Heap.get?_update_ne _ _ _ _ (Nat.ne_of_gt lx)).trans (Heap.get?_push_at rfl rfl), rfl, (fun e he => absurd he (by simp)), fun _ => rfl⟩
  · intro h' tk' hn hs
    have hx1 : (hp.push { cls := .type "dict", data := .dict #[] }).get? x = some { cls := .ref C, dict := none, data := .fields fv } := Heap.get?_push_of_some _ hx
    refine q h' tk' hp.objs.size (fun a o ha ho => ?_) (Nat.le_refl _) (Nat.ne_of_gt lx) ((hs.2 x (Nat.ne_of_lt lx)).trans (Heap.get?_update_self _ hx1 rfl)) hn
    exact (hs.2 a (Nat.ne_of_lt (Heap.lt_size ho))).trans ((Heap.get?_update_ne _ _ _ _ ha).trans (Heap.get?_push_of_some _ ho))
open Builtin Builtin.ObjectAttr in
/-- a further field -/
theorem put_more {hp : Heap} {g : Array GenState} {d : Drawn} {t : Nat} {os : OsState} {dx : Addr} {m0 : Str → Option Value} {ns : List Str} (b : Base B nid iid tl) (T : Of K C nid tl) (X : K.In hp) (hx : hp.get? x = some { cls := .ref C, dict := some dx, data := .fields fv }) (hn : hp.Ns1 dx m0) (hw : Within m0 ns) (hz : ns.length ≤ 1000) (hf : findIn K (.ref C) f = some none)
    (q : ∀ h' tk', (∀ a o, a ≠ dx → hp.get? a = some o → h'.get? a = some o) → h'.Ns1 dx (fun y => if y = f then some v else m0 y) → R (.ok (.ret .none)) ⟨h', g, d, tk', os⟩) :
    codeAny (model P w) A (.call (.builtin "object.__setattr__") ⟨[.ref x, .str f tk, v], []⟩) R ⟨hp, g, d, t, os⟩ := by
  obtain ⟨nm, qn, N, bs, bm, sn, sub, ab, col, dd, k0, k1, k2, k3, k5, hC, hd, _⟩ := T.told
  obtain ⟨oD, _, _, hoD, _, _⟩ := hn.count hw
  refine at_own (od := some oD) b T X ⟨hx, rfl, rfl, hoD⟩ hf fun z => ?_
  have L : Looks (model P w) hp (classData C) _ := looks_clsIn X hd
  unfold storeInOwnDict ownDictForStores
  repeat (first | with_reducible refine PySem.OEX.store_in_old hn hw hz ?_ | with_reducible refine wpAny_loadPart_at hx ?_ | with_reducible refine L.at ?_ | wp_step)
  intro h' tk' hn' hs
  exact q h' tk' (fun a o ha ho => (hs.2 a ha).trans ho) hn'
end
section
variable {X : Cx} {pins : List (Addr × Obj)} {σ : L2.St} {H : Hp} {s : Shared} {a C dx : Addr} {f : Str} {y : V} {u : Value} {fs : List (Str × V)} {Q : Unit → Shared → Prop} {E : Value → Shared → Prop} {A : Around} {B nid iid : String} {tl : List Value}
/-- self.f = y, the first one -/
theorem at_first (b : Base B nid iid tl) (T : Of X.K C nid tl) (I : Inv X pins σ H s) (e : H a = some (exo a C none)) (hno : findIn X.K (.ref C) f = some none) (ry : RelV y u)
    (h : ∀ dx s', H dx = none → dx ≠ a → Inv X pins σ (upd (upd H dx (exd dx [(f, y)])) a (exo a C (some dx))) s' → Q () s') : wpAny (model X.prog X.w) A (setAttr (.ref a) f u) Q E s := by
  obtain ⟨t1, ho⟩ := exo_at I.hok e
  obtain ⟨hp, g, d, t, os⟩ := s
  refine PySem.W.set_plain I.kIn (od := none) ⟨ho, rfl, rfl, trivial⟩ T.sa (put_first b T I.kIn ho hno fun h' tk' dx k dn dne hx hn => ?_)
  have hnd : H dx = none := I.hok.fresh dn
  have far : ∀ {c : Addr} {o : Obj}, hp.get? c = some o → c ≠ dx := fun {c o} z => Nat.ne_of_lt (Nat.lt_of_lt_of_le (Heap.lt_size z) dn)
  have off : ∀ {c : Addr}, H c = none → c ≠ a := fun {c} n z => by rw [z, e] at n; cases n
  have two : ∀ {c : Addr}, c ≠ a → c ≠ dx → upd (upd H dx (exd dx [(f, y)])) a (exo a C (some dx)) c = H c := fun {c} h1 h2 => by rw [upd_ne h1, upd_ne h2]
  have U : Un X.fs [] H (upd (upd H dx (exd dx [(f, y)])) a (exo a C (some dx))) hp h' :=
    ⟨fun c o z n _ _ => k c o (off n) z, fun c o z n _ _ => ⟨o.slots, k c o (off n) z⟩, fun c o z n _ => (two (off n) (far z)).trans n,
      fun c o z _ => by
        by_cases hc : c = a
        · exact ⟨_, by rw [hc]; exact hx⟩
        · exact ⟨o, k c o hc z⟩,
      fun c xs z => (two (at_ne e z exo_tup) (ne_of_none z hnd)).trans z, fun c o v z => (two (at_ne e z exo_frz) (ne_of_none z hnd)).trans z,
      fun c ps z => ⟨#[], (two (at_ne e z exo_tbl) (ne_of_none z hnd)).trans (by rw [z]; simp)⟩⟩
  refine h dx _ hnd dne (I.un (t' := tk') U fun c o z => ?_)
  by_cases hc : c = a
  · subst hc
    rw [upd_same] at z
    cases z
    exact exo_ok hx
  · by_cases hd : c = dx
    · subst hd
      rw [upd_ne hc, upd_same] at z
      cases z
      exact exd_ok hn (relO_put (fs := []) ry fun g => True.intro)
    · rw [two hc hd] at z
      refine (I.hok c o z).stay (fun c2 v hc2 z2 => k c2 v ?_ z2) (fun c2 hc2 => (two (at_ne e hc2 exo_own) (ne_of_none hc2 hnd)).trans hc2) fun c2 xs hc2 => (two (at_ne e hc2 exo_tup) (ne_of_none hc2 hnd)).trans hc2
      rcases hc2 with hc2 | hc2
      · rw [hc2]; exact hc
      · exact at_ne e hc2 exo_own
/-- self.f = y, a further one -/
theorem at_more (b : Base B nid iid tl) (T : Of X.K C nid tl) (I : Inv X pins σ H s) (e : H a = some (exo a C (some dx))) (ed : H dx = some (exd dx fs)) (hl : fs.length ≤ 900) (hno : findIn X.K (.ref C) f = some none) (ry : RelV y u)
    (h : ∀ s', Inv X pins σ (upd H dx (exd dx ((f, y) :: fs))) s' → Q () s') : wpAny (model X.prog X.w) A (setAttr (.ref a) f u) Q E s := by
  obtain ⟨t1, ho⟩ := exo_at I.hok e
  obtain ⟨mA, hns, rel⟩ := exd_at I.hok ed
  have hw := within_of rel
  obtain ⟨hp, g, d, t, os⟩ := s
  obtain ⟨oD, _, _, hoD, _, _⟩ := hns.count hw
  refine PySem.W.set_plain I.kIn (od := some oD) ⟨ho, rfl, rfl, hoD⟩ T.sa (put_more b T I.kIn ho hns hw (by rw [List.length_map]; omega) hno fun h' tk' k hn => ?_)
  have there : ∃ o, h'.get? dx = some o := by
    obtain ⟨o, _, _, z, _⟩ := hn
    exact ⟨o, z⟩
  exact h _ (I.write (t' := tk') (x := dx) (e := dx) (o := exd dx ((f, y) :: fs)) (by rw [ed]; exact True.intro) (.inl rfl) k there (exd_ok hn (relO_put ry rel)))
end
section
variable {X : Cx} {o e : Expr} {es : List Expr} {to te : TE} {ta : TA} {f : Str} {p p' pos : Pos} {B nid iid : String} {tl : List Value}
/-- self.f = e -/
def tPut (K : Frag) (nid : String) (tl : List Value) (f : Str) (to te : TE) : TS := fun D σ H => te σ H fun y H1 => to σ H1 fun x H2 => ∃ a C : Addr, x = .ref a ∧ Of K C nid tl ∧ findIn K (.ref C) f = some none ∧
  ((H2 a = some (exo a C none) ∧ ∀ dx, H2 dx = none → dx ≠ a → D.nx σ (upd (upd H2 dx (exd dx [(f, y)])) a (exo a C (some dx)))) ∨
    ∃ (dx : Addr) (fs : List (Str × V)), H2 a = some (exo a C (some dx)) ∧ H2 dx = some (exd dx fs) ∧ fs.length ≤ 900 ∧ D.nx σ (upd H2 dx (exd dx ((f, y) :: fs))))
theorem ps_put (b : Base B nid iid tl) (ho : PE X o to) (he : PE X e te) (hs : swapsWith e (some (.Attribute o f p')) pos.line X.env = pure false := by rfl) : PS X (.Assign [.Attribute o f p'] e pos) (tPut X.K nid tl f to te) := by
  refine ⟨fun pins s σ H D I h => plainObj_wpAny_Assign_Attribute (thn (he.run pins s σ H _ I h) fun v s1 ⟨y, H1, I1, r1, q1⟩ => thn (ho.run pins s1 σ H1 _ I1 q1) fun u s2 ⟨x, H2, I2, r2, a, C, ex, T, hno, q⟩ => ?_) hs⟩
  subst ex
  obtain rfl : u = Value.ref a := r2
  rcases q with ⟨ea, q⟩ | ⟨dx, fs, ea, ed, hl, q⟩
  · exact at_first b T I2 ea hno r1 fun dx s' n ne J => ⟨σ, _, J, q dx n ne⟩
  · exact at_more b T I2 ea ed hl hno r1 fun s' J => ⟨σ, _, J, q⟩
end
section
variable {X : Cx} {e : Expr} {es : List Expr} {ta : TA} {p pos : Pos} {B nid iid : String} {tl : List Value}
/-- C(e, ..) of such a class: its own __init__ keeps sp -/
theorem pmk_of {CX : CXT} {x : Str} {C fI : Addr} {k : Nat} {fd : FuncData} {ps : List Str} {sp : Sp} {zs : List Value} {ys : List V} (b : Base B nid iid tl) (T : Of X.K C nid tl) (iC : findIn X.K (.ref C) "__init__" = some (some (.ref fI))) (tI : typeIn X.K (.ref fI) = some (.type "function"))
    (F1 : FnOk X.prog X.w X.K X.mg X.base CX k fI fd ps sp) (hr : Room (k + 1) X.A) (hb : Binds X.K fd ps zs) (hd : Vals ys zs) (hx : Passes CX X (fun _ _ _ => False)) (hg : Gl X x) (hm : X.mg x = some (.ref C)) (ha : PA X (e :: es) ta)
    (hdb : (x == ("__debug__" : Str)) = false := by decide) (he : starEach (e :: es) X.env = (false, eval e X.env) :: starEach es X.env := by rfl) (hpl : (backTo pos (starEach es X.env)).any (·.1) = false := by rfl) :
    PMk X (.Call (.Name x p) (e :: es) [] pos) (tMkO C sp ys ta) := by
  obtain ⟨nm, q, N, bs, bm, sn, sub, ab, col, dd, k0, k1, k2, k3, k5, hC, _, hbm⟩ := T.told
  intro pins s σ H Q I h
  refine wpAny_Call_Name_kw (ld_glob I hg hm ?_ hdb)
  refine callWith_K (h₀ := X.base) I.ok.mod.kin T.kC (thn (ha.run pos pins s σ H _ I h) ?_) he hpl
  rintro us ⟨hp, g, dr, tk, os⟩ ⟨vs, H1, I1, r1, hz, q1⟩
  refine ⟨I1.kIn, ?_⟩
  show wpAny _ _ (call (.ref C) us) _ _ _
  -- the exception lies one place behind its arguments
  have fresh : hp.objs.size ≤ hp.objs.size + 1 := Nat.le_succ _
  have free := I1.hok.fresh fresh
  have wish := q1 (hp.objs.size + 1) free
  have kept : ∀ c o, hp.get? c = some o → ((hp.push (kdv_tup us)).push (PySem.HandSPX.excO C hp.objs.size)).get? c = some o := fun c o z => Heap.get?_push_of_some _ (Heap.get?_push_of_some _ z)
  have lies : ((hp.push (kdv_tup us)).push (PySem.HandSPX.excO C hp.objs.size)).get? (hp.objs.size + 1) = some (PySem.HandSPX.excO C hp.objs.size) := by heap_get
  have J : Inv X pins σ (upd H1 (hp.objs.size + 1) (exo (hp.objs.size + 1) C none)) ⟨(hp.push (kdv_tup us)).push (PySem.HandSPX.excO C hp.objs.size), g, dr, tk, os⟩ := I1.laid (t' := tk) kept fresh (exo_ok lies)
  have args : Vals (V.ref (hp.objs.size + 1) :: (vs ++ ys)) (Value.ref (hp.objs.size + 1) :: (us ++ zs)) := .cons rfl (r1.append hd)
  have count : (Value.ref (hp.objs.size + 1) :: us ++ zs).length = ps.length := (args.length.symm.trans (F1.len _ _ _ _ wish))
  have short : us.length ≤ sizeLine := by
    rw [← Paired.length r1, sizeLine_eq]
    omega
  have went := F1.run _ X.stack _ _ ⟨Value.ref (hp.objs.size + 1) :: us, []⟩ (Value.ref (hp.objs.size + 1) :: (us ++ zs)) _ _ (fun _ _ _ => False) (hr.make C us []) (J.env0.make C us []) (hb _ (Value.ref (hp.objs.size + 1) :: us) J.kIn count) args wish
  refine wpAny_call (PySem.HandSPX.call_own b.fb (fun Y => excTail_contains Y bm hbm) (I1.kIn _ _ hC) (looks_findIn I1.kIn iC) (fun self => bind_fn I1.kIn self tI) short (codeAny_mono went ?_))
  intro r s' z
  cases r with
  | error er => exact hx pins σ _ _ er s' J z
  | ok fl =>
    cases fl with
    | next => exact False.elim z
    | brk => exact False.elim z
    | cont => exact False.elim z
    | ret u =>
      obtain ⟨v, H2, os2, bare, un, hok, rv, ev, d, fs, ea, ed, hd1, q2⟩ := z
      subst ev
      obtain ⟨h2, g2, d2, t2, os'⟩ := s'
      exact ⟨rv, mk_end (raises_own T.exC T.tyC) I1 fresh kept un hok os2 bare ea ed hd1 q2⟩
end
end OEL
namespace DL
open PySem PySem.Spec PyProof.Rows L2
section
variable {P : Program} {w : World} {K : PySem.W.Frag} {mg : Str → Option Value} {base : Heap}
/-- def __init__(self, x): self.word = '..'; self.x = x -/
theorem ok_initB {B nid iid : String} {tl : List Value} {qual x : Str} {st : Stmt} {f C : Addr} {fd : FuncData} {wd : Str} {j : Nat} {p1 p2 p3 p4 p5 p6 p7 p8 : Pos} (b : OEL.Base B nid iid tl) (F : Fun K "__init__" qual st f fd) (sc : FnScope ["self", x] ["self", x] (defScope st)) (T : OEL.Of K C nid tl) (n1 : PySem.W.findIn K (.ref C) "word" = some none) (n2 : PySem.W.findIn K (.ref C) x = some none)
    (hb : defBody st = [.Assign [.Attribute (.Name "self" p1) "word" p2] (.Constant (.str wd) j p3) p4, .Assign [.Attribute (.Name "self" p5) x p6] (.Name x p7) p8]) (v0 : Vis (defScope st) "self") (v1 : Vis (defScope st) x)
    (d1 : (x == ("__debug__" : Str)) = false) (d2 : (x == ("__classdict__" : Str)) = false) : FnOk P w K mg base CX0 1 f fd ["self", x] (spInit C 1 fun vs => [(x, vs.getD 0 .non), ("word", .str wd)]) := by
  refine F.ok sc (fun vs H Q E h => ?_) (fun cdv A outer s H vs Q E hr h => ?_)
  · obtain ⟨a, ws, rfl, hl, _⟩ := h
    show ws.length + 1 = 2
    omega
  · obtain ⟨a, ws, rfl, hl, ha, q⟩ := h
    obtain ⟨v, rfl⟩ : ∃ v, ws = [v] := by
      match ws, hl with
      | [v], _ => exact ⟨v, rfl⟩
    rw [hb]
    refine ⟨_, pss_cons (OEL.ps_put b (pv 0 (hv := v0)) pe_str) (pss_one (OEL.ps_put b (pv 0 (hv := v0)) (pv 1 (hv := v1) (hd := d1) (hcd := d2)))), ?_⟩
    refine ⟨.ref a, rfl, a, C, rfl, T, n1, .inl ⟨ha, fun dx nd ne => ?_⟩⟩
    refine ⟨v, rfl, .ref a, rfl, a, C, rfl, T, n2, .inr ⟨dx, [("word", .str wd)], upd_same, ?_, (by simp), ?_⟩⟩
    · rw [upd_ne ne, upd_same]
    · refine q dx _ nd ne ?_ upd_same fun c h1 h2 => ?_
      · rw [upd_ne ne.symm, upd_same]
      · rw [upd_ne h2, upd_ne h1, upd_ne h2]
/-- def __init__(self): self.word = '..' -/
theorem ok_initB0 {B nid iid : String} {tl : List Value} {qual : Str} {st : Stmt} {f C : Addr} {fd : FuncData} {wd : Str} {j : Nat} {p1 p2 p3 p4 : Pos} (b : OEL.Base B nid iid tl) (F : Fun K "__init__" qual st f fd) (sc : FnScope ["self"] ["self"] (defScope st)) (T : OEL.Of K C nid tl) (n1 : PySem.W.findIn K (.ref C) "word" = some none)
    (hb : defBody st = [.Assign [.Attribute (.Name "self" p1) "word" p2] (.Constant (.str wd) j p3) p4]) (v0 : Vis (defScope st) "self") : FnOk P w K mg base CX0 1 f fd ["self"] (spInit C 0 fun _ => [("word", .str wd)]) := by
  refine F.ok sc (fun vs H Q E h => ?_) (fun cdv A outer s H vs Q E hr h => ?_)
  · obtain ⟨a, ws, rfl, hl, _⟩ := h
    show ws.length + 1 = 1
    omega
  · obtain ⟨a, ws, rfl, hl, ha, q⟩ := h
    obtain rfl : ws = [] := List.length_eq_zero_iff.mp hl
    rw [hb]
    refine ⟨_, pss_one (OEL.ps_put b (pv 0 (hv := v0)) pe_str), ?_⟩
    refine ⟨.ref a, rfl, a, C, rfl, T, n1, .inl ⟨ha, fun dx nd ne => ?_⟩⟩
    refine q dx _ nd ne upd_same ?_ fun c h1 h2 => ?_
    · rw [upd_ne ne, upd_same]
    · rw [upd_ne h1, upd_ne h2]
end
/-- all of it at once -/
def clsO (K : PySem.W.Frag) (tl : List Value) (C fI : Addr) (q : Str) (cd : Value) (fs : List Str) : Bool :=
  PySem.W.excOver K C tl && (decide (PySem.W.findIn K (.ref C) "__setattr__" = some (some (.builtin "object.__setattr__"))) && (decide (PySem.W.subIn K (.ref C) (.type "BaseException") = some true) && (decide (PySem.W.typeIn K (.ref C) = some (.type "type")) && (PySem.W.keepIn K (.ref C) && (xfB K C &&
    (decide (PySem.W.typeIn K (.ref fI) = some (.type "function")) && (PySem.W.keepIn K (.ref fI) && (PySem.W.codeIn K cd q && fs.all fun f => decide (PySem.W.findIn K (.ref C) f = some none)))))))))
structure ClsO (K : PySem.W.Frag) (nid : String) (tl : List Value) (C fI : Addr) (q : Str) (cd : Value) (fs : List Str) : Prop where
  o : OEL.Of K C nid tl
  f : XfC K C
  ti : PySem.W.typeIn K (.ref fI) = some (.type "function")
  kI : PySem.W.keepIn K (.ref fI) = true
  cI : PySem.W.codeIn K cd q = true
  nf : ∀ f ∈ fs, PySem.W.findIn K (.ref C) f = some none
theorem clsO_ok {K : PySem.W.Frag} {nid : String} {tl : List Value} {C fI : Addr} {q : Str} {cd : Value} {fs : List Str} (h : clsO K tl C fI q cd fs = true)
    (hc : ∃ nm q N bs bm sn sub ab col dd k0 k1 k2 k3 k5, K.lookup C = some (excClassObj nm q C N bs bm true sn sub ab col dd k0 k1 k2 k3 k5 nid)) : ClsO K nid tl C fI q cd fs := by
  simp only [clsO, Bool.and_eq_true] at h
  obtain ⟨h1, h2, h3, h4, h5, h6, h7, h8, h9, h10⟩ := h
  exact ⟨⟨hc, h1, of_decide_eq_true h2, of_decide_eq_true h3, of_decide_eq_true h4, h5⟩, xfB_ok h6, of_decide_eq_true h7, h8, h9, fun f hf => of_decide_eq_true (List.all_eq_true.mp h10 f hf)⟩
end DL

set_option Elab.async false
set_option linter.all false
set_option maxRecDepth 100000
set_option maxHeartbeats 4000000
/-! len(set(t)) of a tuple of ints; sorted(xs, reverse=True) of ints -/
namespace RLS
open PySem PySem.Spec PyProof.Rows L2
def tLenSetT (K : PySem.W.Frag) (ta : TE) : TE := fun σ H Q => ta σ H fun x H1 => ∃ (l : Addr) (ns : List Int), x = .ref l ∧ SqT K H1 l (ns.map V.int) ∧ ns.length ≤ 4000 ∧ ∀ c : Nat, (c = 1 → ∀ x ∈ ns, ∀ y ∈ ns, x = y) → Q (.int (c : Nat)) H1
theorem pe_lenSetT {X : Cx} {a : Expr} {ta : TE} {p p2 q pos : Pos} (hg : Gl X "len") (hm : X.mg "len" = none) (hg2 : Gl X "set") (hm2 : X.mg "set" = none) (ha : PE X a ta) (hc : X.calm = true := by rfl)
    (na : starEach [a] X.env = (false, eval a X.env) :: starEach [] X.env := by rfl) : PE X (.Call (.Name "len" p) [.Call (.Name "set" p2) [a] [] q] [] pos) (tLenSetT X.K ta) := by
  refine ⟨fun pins s σ H Q I h => ?_⟩
  refine Call_ (ld_blt I hg hm boot_len ?_)
  refine PyProof.Rows.callWith_builtin1 (PyProof.Rows.args_cons ?_ rfl) rfl rfl
  refine Call_ (ld_blt I hg2 hm2 boot_set ?_)
  refine PyProof.Rows.callWith_type1 (PyProof.Rows.args_cons (thn (ha.run pins s σ H _ I h) fun v s1 ⟨x, H1, I1, r1, q1⟩ => PyProof.Rows.args_nil ?_) na) na rfl
  obtain ⟨l, ns, rfl, hq, hl, q1⟩ := q1
  cases r1
  obtain ⟨its, rv, pt, hz⟩ := I1.tuple hq
  have hi : IntsAre its.toArray.toList ns := ints_of_vals rv
  refine call_set_tupI ns (I1.ok.hd hc) (show s1.heap.IsTuple l its.toArray from pt) hi (by unfold scanBound; omega) fun h' tk c R1 hcn k => ?_
  obtain ⟨o, es, ep, t, ho, hex, hdt, g, nd, hm2, hb, hf, hn, hr, hl2⟩ := R1
  refine PyProof.Rows.args_nil ?_
  have I2 : Inv X pins σ H1 { s1 with heap := h', toks := tk } := I1.kept fun b o e => k b o e
  refine call_len_set ho hex hdt hf (by rw [hn]; omega) ⟨.int c, H1, I2.tok _, ⟨_, by rw [hn]⟩, q1 c fun e1 x hx y hy => ?_⟩
  have h1 := (hm2 x).mp (decide_eq_true hx)
  have h2 := (hm2 y).mp (decide_eq_true hy)
  have hlen : (es.toList.map keyOf).length = 1 := by rw [List.length_map, Array.length_toList, hn, e1]
  match hh : es.toList.map keyOf, hlen with
  | [z], _ =>
    rw [hh] at h1 h2
    rw [List.mem_singleton.mp h1, List.mem_singleton.mp h2]
end RLS
namespace DW
open PySem PySem.Spec PyProof.Rows L2 RZ DL
def dLenSet (de : DE) : DE := fun c δ P => de c δ fun r => match r with
  | .dat (.tuple ds) => match intsD ds with
    | some ns => ns.length ≤ 4000 ∧ ∀ k : Nat, (k = 1 → ∀ x ∈ ns, ∀ y ∈ ns, x = y) → P (dint (k : Int))
    | none => False
  | _ => False
theorem je_lenSet {X : Cx} {S : Sg} {e : Expr} {de : DE} {p p2 p3 pos : Pos} (hc : X.calm = true) (hg : Gl X "len") (hm : X.mg "len" = none) (hg2 : Gl X "set") (hm2 : X.mg "set" = none) (he : JE X S e de)
    (na : starEach [e] X.env = (false, eval e X.env) :: starEach [] X.env := by rfl) : JE X S (.Call (.Name "len" p) [.Call (.Name "set" p2) [e] [] p3] [] pos) (dLenSet de) := by
  obtain ⟨t, h1, h2⟩ := he
  refine ⟨_, RLS.pe_lenSetT hg hm hg2 hm2 h1 hc na, fun b I0 H0 c δ P nb ok p σ I H k e Q q => ?_⟩
  refine h2 b I0 H0 c δ _ nb ok p σ I H k e _ fun r v I1 H1 pr x rs => ?_
  split at pr
  · split at pr
    · rename_i ds ns en
      obtain ⟨hl, pr⟩ := pr
      obtain ⟨a, xs, rfl, hs, hd⟩ := tup_read x.s rs
      rw [ints_ok en] at hd
      rw [dpa_ints hd] at hs
      exact ⟨a, ns, rfl, hs, hl, fun k hk => q _ _ I1 H1 (pr k hk) x (Dp.int _)⟩
    · exact pr.elim
  · exact pr.elim
def dSortRev (de : DE) : DE := fun c δ P => de c δ fun r => match lstD r with
  | some ds => match intsD ds with
    | some ns => ∀ ms : List Int, ms.Perm ns → ms.Pairwise (· ≥ ·) → P (.own (ms.map .int))
    | none => False
  | none => False
theorem je_sortRev {X : Cx} {S : Sg} {e : Expr} {de : DE} {j : Nat} {p p2 kpos pos : Pos} (hg : Gl X "sorted") (hm : X.mg "sorted" = none) (he : JE X S e de)
    (na : starEach [e] X.env = (false, eval e X.env) :: starEach [] X.env := by rfl) (hs : backTo pos (starEach [e] X.env) = (false, eval e X.env) :: backTo pos (starEach [] X.env) := by rfl) (hpl : (backTo pos (starEach [e] X.env)).any (·.1) = false := by rfl) :
    JE X S (.Call (.Name "sorted" p) [e] [⟨some "reverse", .Constant (.bool true) j p2, kpos⟩] pos) (dSortRev de) := by
  obtain ⟨t, h1, h2⟩ := he
  refine ⟨_, pe_callBK (cr_sortedRev (b := true)) hg hm (by decide +kernel) (pa_cons h1 pa_nil (hs := na)) (pk_cons pe_bl pk_nil) (he := hs) (hpl := hpl), fun b I0 H0 c δ P nb ok p σ I H k e Q q => ?_⟩
  refine h2 b I0 H0 c δ _ nb ok p σ I H k e _ fun r v I1 H1 pr x rs => ?_
  split at pr
  · rename_i ds ex
    split at pr
    · rename_i ns en
      obtain ⟨a, xs, rfl, hs, hd⟩ := (lstD_ok ex).read x.s rs
      rw [ints_ok en] at hd
      rw [dpa_ints hd] at hs
      exact ⟨a, ns, rfl, rfl, hs, fun ms p' h1 h2 hc => q _ _ I1 _ (pr ms h1 (by simpa [OrdB] using h2)) (x.trans (x.ok.newH hc)) ⟨p', _, rfl, x.free (fr_none hc), x.ok.inone hc, x.ok.nb hc, upd_same, dpa_ofInts _⟩⟩
    · exact pr.elim
  · exact pr.elim
end DW

set_option Elab.async false
set_option linter.all false
set_option maxRecDepth 100000
set_option maxHeartbeats 4000000
/-! shuffled of a list or a tuple -/
namespace DL
open PySem PySem.Spec PyProof.Rows L2 RZ
section
variable {K : PySem.W.Frag} {b : Bg} {I0 H0 : Hp} {δ : Env} {ta te tb ti : TE} {P : DV → Prop} {N Bk Ct : Env → Prop} {R : DV → Prop}
theorem sv_shufT {E : XK} {ns : List Int} (hl : ns.length ≤ 1000) (hR : ∀ ms : List Int, ms.Perm ns → R (.own (ms.map .int))) :
    SvD K b I0 H0 (tRet (tLc (fun σ H R => iList K (tVar 1) σ H R ∨ iTup K (tVar 1) σ H R) (gName 3) tYes (tBM K "list" rPopAt (tVar 2) (tCons (tCall (spD K aTake okTake outTake noX) [] E (tCons (tVar 0) (tCons (tCB (fun xs H Q => ∃ p ys, xs = [.ref p] ∧ (SqL K H p ys ∨ SqT K H p ys) ∧ Q (.int ys.length) H) (tCons (tVar 2) tNil)) tNil))) tNil)) [3]))
      [some .bag, some (.dat (.tuple (ns.map .int))), some (.own (ns.map .int)), none] N R Bk Ct := fun σ I H e n D a1 a2 a3 a4 => by
  obtain ⟨v1, g1, r1⟩ := n.at_ 1 _ rfl
  obtain ⟨v2, g2, r2⟩ := n.at_ 2 _ rfl
  have r1 : Dp K I v1 (.tuple (ns.map .int)) := r1
  cases r1 with
  | @tup a1' xs _ hs hd =>
    obtain ⟨L, ys, rfl, h0, hn, hb, hL, hdL⟩ := r2
    have ey := dpa_ints hdL
    subst ey
    refine Or.inr ⟨_, g1, a1', rfl, ⟨xs, st_mono e.s hs⟩, fun Dl hD => ?_⟩
    have nDb : Dl ≠ b.a := e.ok.nb hD
    have nLD : L ≠ Dl := ne_of_none hL hD
    have w : Walk (Itt K a1') ns.length (fun H => SqT K H a1' xs) (YAt xs) := by
      have := dpa_len hd
      rw [List.length_map] at this
      rw [← this]
      exact walk_tup
    refine lc_it w (fun i Hk => ∃ (Ik : Hp) (outs rest : List Int), Ext K b I0 H0 Ik Hk ∧ Same I Ik ∧ EnvR K b H0 Ik Hk σ [some .bag, some (.dat (.tuple (ns.map .int))), some (.own (rest.map .int)), none] ∧ Ik Dl = none ∧ Hk Dl = some (.lst (outs.map V.int)) ∧ (outs ++ rest).Perm ns ∧ outs.length = i) ?_ (fun i Hk _ ⟨Ik, outs, rest, ek, sm, _⟩ => st_mono (sm.trans ek.s) hs) ?_ ?_
    · exact ⟨I, [], ns, e.trans (e.ok.newH hD), Same.refl I, n.ext (e.ok.newH hD), e.ok.inone hD, upd_same, List.Perm.refl _, rfl⟩
    · rintro i x Hk Hk' hi ⟨Ik, outs, rest, ek, sm, nk, iD, aD, pm, ol⟩ ⟨eH, hx⟩
      subst eH
      have xi : ∃ d, (ns.map PyData.int)[i]? = some (.int d) := by
        refine ⟨ns[i], ?_⟩
        rw [List.getElem?_map, List.getElem?_eq_getElem hi]
        rfl
      obtain ⟨d, hdi⟩ := xi
      obtain ⟨u, e1, e2⟩ := dpa_get hd hdi
      rw [hx] at e1
      cases e1
      have rl : rest.length + i = ns.length := by
        have := pm.length_eq
        rw [List.length_append] at this
        omega
      have sl : σ.length = 4 := n.len
      have nw : EnvR K b H0 Ik Hk' (wipe σ [3]) [some .bag, some (.dat (.tuple (ns.map .int))), some (.own (rest.map .int)), none] := nk.wipe (hv1 rfl)
      have n2 : EnvR K b H0 Ik Hk' ((wipe σ [3]).set 3 (some x)) [some .bag, some (.dat (.tuple (ns.map .int))), some (.own (rest.map .int)), some (dint d)] :=
        nw.setD (i := 3) (r := dint d) (ltr rfl) (dp_mono sm e2) (fun _ z => by cases z)
      refine ⟨?_, ?_⟩
      · refine (wipe_eq (by rw [List.length_set]) fun j hj => ?_).trans (wipe_eq (wipe_length _ _) fun j hj => wipe_out hj)
        exact List.getElem?_set_ne (fun z => hj (by rw [← z]; exact List.mem_cons_self ..))
      · dsimp only [tYes]
        rw [if_pos rfl]
        obtain ⟨v2', g2', r2'⟩ := n2.at_ 2 _ rfl
        obtain ⟨L', ys', rfl, h0', hn', hb', hL', hdL'⟩ := r2'
        have ey' := dpa_ints hdL'
        subst ey'
        refine ⟨_, g2', .inl ⟨rfl, _, .inl (.inl hL')⟩, ?_⟩
        have take := ev_take (K := K) (b := b) (I0 := I0) (H0 := H0) (E := E) (i := 0) (n := (rest.length : Int)) (δ := [some .bag, some (.dat (.tuple (ns.map .int))), some (.own (rest.map .int)), some (dint d)]) rfl ((ev_len (ds := rest.map .int) (ev_varB (i := 2) rfl) (.inl (.inr (.inl rfl)))).to (s := dint (rest.length : Int)) (by rw [List.length_map])) ⟨by omega, by omega⟩
        refine take _ Ik Hk' ek n2 _ fun r v I3 H3 ⟨k, er, hk0, hk1⟩ x3 rs => ?_
        subst er
        have ev := int_read rs
        subst ev
        have aD3 : H3 Dl = some (.lst (outs.map V.int)) := x3.h Dl _ nDb lst_tbl aD
        have iD3 : I3 Dl = none := x3.n Dl _ iD aD lst_tbl
        have hL3 : H3 L' = some (.lst (rest.map V.int)) := x3.h L' _ hb' lst_tbl hL'
        have iL3 : I3 L' = none := x3.n L' _ hn' hL' lst_tbl
        have g3 : ((wipe σ [3]).set 3 (some x))[2]? = σ[2]? := by
          rw [List.getElem?_set_ne (by decide), wipe_out (by decide)]
        have eL : L' = L := by
          rw [g3, g2] at g2'
          cases g2'
          rfl
        have nL : L' ≠ Dl := eL ▸ nLD
        have hk : k.toNat < rest.length := by omega
        refine ⟨L', rest.map V.int, k, k.toNat, .int rest[k.toNat], rfl, rfl, hL3, by omega, by omega, ?_, ?_, ?_⟩
        · rw [List.length_map]
          exact seqIx hk0 hk1
        · rw [List.getElem?_map, List.getElem?_eq_getElem hk]
          rfl
        · have e4 : Ext K b I0 H0 I3 (upd H3 L' (.lst ((rest.map V.int).eraseIdx k.toNat))) := (ek.trans x3).mut h0' iL3 hb' hL3
          have aD4 : upd H3 L' (.lst ((rest.map V.int).eraseIdx k.toNat)) Dl = some (.lst (outs.map V.int)) := by rw [upd_ne nL.symm]; exact aD3
          have hsL : σ[2]? = some (some (.ref L')) := by rw [g2, eL]
          have n4 := (nk.ext x3).own (i := 2) (a := L') (ys := (rest.map V.int).eraseIdx k.toNat) (es := (rest.eraseIdx k.toNat).map .int) rfl rfl hsL h0' iL3 hb' (by rw [erase_map]; exact dpa_ofInts _)
          refine ⟨outs.map V.int, aD4, Nat.lt_of_lt_of_le (by rw [List.length_map]; omega : _ < 100000) (by decide : 100000 ≤ sizeLine), I3, outs ++ [rest[k.toNat]], rest.eraseIdx k.toNat, e4.mut (e.free (fr_none hD)) iD3 nDb aD4, sm.trans x3.i, n4.other rfl (fun j ds hj => ?_), iD3, ?_, perm_erase pm hk, by rw [List.length_append, ol]; rfl⟩
          · match j, hj with
            | 0, h => cases h
            | 1, h => cases h
            | 2, _ => rw [hsL]; exact fun z => nL (V.ref.inj (Option.some.inj (Option.some.inj z)))
            | 3, h => cases h
            | j + 4, h => cases h
          · rw [upd_same, List.map_append]
            rfl
    · rintro Hk ⟨Ik, outs, rest, ek, sm, nk, iD, aD, pm, ol⟩
      have hr : rest = [] := by
        have := pm.length_eq
        rw [List.length_append] at this
        exact List.eq_nil_of_length_eq_zero (by omega)
      subst hr
      rw [List.append_nil] at pm
      exact a2 _ _ Ik Hk (hR outs pm) ek ⟨Dl, _, rfl, e.free (fr_none hD), iD, nDb, aD, dpa_ofInts _⟩
theorem sv_shufL {E : XK} {ns : List Int} (hl : ns.length ≤ 1000) (hR : ∀ ms : List Int, ms.Perm ns → R (.own (ms.map .int))) :
    SvD K b I0 H0 (tRet (tLc (fun σ H R => iList K (tVar 1) σ H R ∨ iTup K (tVar 1) σ H R) (gName 3) tYes (tBM K "list" rPopAt (tVar 2) (tCons (tCall (spD K aTake okTake outTake noX) [] E (tCons (tVar 0) (tCons (tCB (fun xs H Q => ∃ p ys, xs = [.ref p] ∧ (SqL K H p ys ∨ SqT K H p ys) ∧ Q (.int ys.length) H) (tCons (tVar 2) tNil)) tNil))) tNil)) [3]))
      [some .bag, some (.dat (.list (ns.map .int))), some (.own (ns.map .int)), none] N R Bk Ct := fun σ I H e n D a1 a2 a3 a4 => Or.inl (sv_shuf hl hR σ I H e n D a1 a2 a3 a4)
end
abbrev aShuS (p : Bool × List Int) : List DV := [.bag, .dat (if p.1 then .tuple (p.2.map .int) else .list (p.2.map .int))]
end DL
namespace DW
open PySem PySem.Spec PyProof.Rows L2 RZ DL
def W_shuffledS : Wt := fun rs P _ => match rs with
  | [.bag, .dat (.list ds)] => match intsD ds with
    | some ns => ns.length ≤ 1000 ∧ ∀ ms : List Int, ms.Perm ns → P (.own (ms.map .int))
    | none => False
  | [.bag, .dat (.tuple ds)] => match intsD ds with
    | some ns => ns.length ≤ 1000 ∧ ∀ ms : List Int, ms.Perm ns → P (.own (ms.map .int))
    | none => False
  | _ => False
theorem shuffledS_to : ∀ rs Q c, W_shuffledS rs Q c → ∃ p : Bool × List Int, rs = aShuS p ∧ p.2.length ≤ 1000 ∧ ∀ r, (∃ ms : List Int, r = .own (ms.map .int) ∧ ms.Perm p.2) → Q r := fun rs Q c h => by
  unfold W_shuffledS at h
  split at h
  · split at h
    · rename_i ns en
      exact ⟨(false, ns), by rw [ints_ok en]; rfl, h.1, fun r ⟨ms, e, hp⟩ => e ▸ h.2 ms hp⟩
    · exact h.elim
  · split at h
    · rename_i ns en
      exact ⟨(true, ns), by rw [ints_ok en]; rfl, h.1, fun r ⟨ms, e, hp⟩ => e ▸ h.2 ms hp⟩
    · exact h.elim
  · exact h.elim
end DW
namespace DW
open PySem PySem.Spec PyProof.Rows L2 RZ DL
/-- what was made becomes plain at once -/
def dFz (de : DE) : DE := fun c δ P => de c δ fun r => P (fz r)
theorem je_fz {X : Cx} {S : Sg} {e : Expr} {de : DE} (he : JE X S e de) : JE X S e (dFz de) := by
  obtain ⟨t, h1, h2⟩ := he
  exact ⟨t, h1, fun b I0 H0 c δ P nb ok p => ev_fz (h2 b I0 H0 c δ _ nb ok p)⟩
/-- a, b, c = x, y, z where the last is a list of its own -/
def dPar3 (i j l : Nat) (da : DA) : DS := fun c δ D => da c δ fun rs => match rs with
  | [.dat a, .dat b, .own ds] => D.nx (((δ.set i (some (.dat a))).set j (some (.dat b))).set l (some (.own ds)))
  | _ => False
theorem cs_par3 {K : PySem.W.Frag} {S : Sg} {i j l m : Nat} {ta : TA} {da : DA} (hi : i < S.n) (hj : j < S.n) (hl : l < S.n) (h : CA K S m ta da) : CS K S (tPar3 i j l ta) (dPar3 i j l da) := fun b I0 H0 c δ D nb ok p σ I H e n Dd a1 a2 a3 a4 =>
  h b I0 H0 c δ _ nb ok p σ I H e n _ fun rs vs I' H' pr x ra => by
    obtain ⟨_, pr⟩ := pr
    split at pr
    · rename_i da' db' ds
      cases ra with
      | cons q1 ra =>
        cases ra with
        | cons q2 ra =>
          cases ra with
          | cons q3 ra =>
            cases ra
            refine ⟨_, _, _, rfl, a1 _ _ I' H' ⟨nb_own (nb_dat (nb_dat nb)), pr⟩ (e.trans x) x.i ?_⟩
            refine (((n.ext x).setD (by rw [nb.len]; exact hi) (q1.since (free_of e)) (fun _ z => by cases z)).setD (by rw [List.length_set, nb.len]; exact hj) (q2.since (free_of e)) (fun _ z => by cases z)).set (by rw [List.length_set, List.length_set, nb.len]; exact hl) (q3.since (free_of e)) fun a ds' er ev jj es hne hd => ?_
            subst ev
            obtain ⟨a', xs, ea, h0, hi', hb, ha, hdd⟩ := q3
            cases ea
            by_cases z1 : j = jj
            · subst z1
              rw [List.getElem?_set_self (by rw [List.length_set, nb.len]; exact hj)] at hd
              cases hd
            · rw [List.getElem?_set_ne z1] at hd ⊢
              by_cases z2 : i = jj
              · subst z2
                rw [List.getElem?_set_self (by rw [nb.len]; exact hi)] at hd
                cases hd
              · rw [List.getElem?_set_ne z2] at hd ⊢
                intro z
                obtain ⟨w, e1, e2⟩ := n.at_ jj _ hd
                rw [z] at e1
                cases e1
                obtain ⟨a'', xs', ea, h0', hi'', hb', ha', hdd'⟩ := e2
                cases ea
                exact fr_lst h0 ha'
    · exact pr.elim
theorem js_par3 {X : Cx} {S : Sg} {st : Stmt} {i j l : Nat} {da : DA} (hi : i < S.n) (hj : j < S.n) (hl : l < S.n) {es : List Expr} (h : JA X S es da) (hp : ∀ ta, PA X es ta → PS X st (tPar3 i j l ta)) : JS X S st (dPar3 i j l da) := by
  obtain ⟨t, h1, h2⟩ := h
  exact ⟨_, hp t h1, cs_par3 hi hj hl h2⟩
end DW
namespace DW
open PySem PySem.Spec PyProof.Rows L2 RZ DL
/-- one expression, what it makes left as it is -/
def dOneA (de : DE) : DA := fun c δ P => de c δ fun r => P [r]
theorem ja_one {X : Cx} {S : Sg} {e : Expr} {de : DE} (he : JE X S e de) (hs : starEach [e] X.env = (false, eval e X.env) :: starEach [] X.env := by rfl) : JA X S [e] (dOneA de) := by
  obtain ⟨t, h1, h2⟩ := he
  exact ⟨_, pa_cons h1 pa_nil hs, fun b I0 H0 c δ P nb ok p σ I H e n Q q => h2 b I0 H0 c δ _ nb ok p σ I H e n _ fun r v I' H' pr x rs => q [r] [v] I' H' ⟨rfl, pr⟩ x (.cons rs .nil)⟩
end DW

set_option Elab.async false
set_option linter.all false
set_option maxRecDepth 100000
set_option maxHeartbeats 4000000
/-! texts: str(x), int(t), sep.join(xs), t.split(sep); D.get(t, x) of a table with text keys -/
namespace KGT
open PySem PySem.Spec PyProof.Rows L2
/-- a dict at the top, text keys -/
def KD0 (K : PySem.W.Frag) (w : World) (a : Addr) : Prop := ∃ es n, K.lookup a = some ⟨.type "dict", none, .dict es n, #[]⟩ ∧ PySem.W.KeysLit w.params es.toList ∧ (a == sysModules) = false
def tKGet2 (K : PySem.W.Frag) (w : World) (td ty tx : TE) : TE := fun σ H Q => td σ H fun x H1 => ∃ a, x = .ref a ∧ KD0 K w a ∧ ty σ H1 fun y H2 => ∃ z, y = .str z ∧ tx σ H2 fun _ H3 => ∃ v, KDct K w a z v ∧ Q v H3
theorem pe_kget2 {X : Cx} {o e f : Expr} {apos cpos : Pos} {td ty tx : TE} (ho : PE X o td) (he : PE X e ty) (hf : PE X f tx) (m : M2 X o "get" apos e f cpos) : PE X (.Call (.Attribute o "get" apos) [e, f] [] cpos) (tKGet2 X.K X.w td ty tx) := by
  refine ⟨fun pins s σ H Q I h => ?_⟩
  refine wpAny_Call_method m.base m.few m.line PySem.F.plainAttrs_dict PySem.F.slot_dict_get PySem.F.type_dict_get (thn (ho.run pins s σ H _ I h) fun u s1 ⟨x, H1, I1, rx, a, ex, d, q1⟩ => ?_)
  subst ex
  obtain rfl : u = Value.ref a := rx
  obtain ⟨es, n, hl, hk, hd⟩ := d
  have hm := PySem.W.mapOf_K (prog := X.prog) (w := X.w) I1.kIn hl hk
  refine ⟨hm.typeIs, fun b q => ?_, ?_⟩
  · cases q
    exact ⟨_, I1.kIn _ _ hl, rfl⟩
  rw [m.trees]
  refine Calls.callWith_builtin rfl (Calls.evalArgs_plain (Calls.spliced_cons (thn (he.run pins s1 σ H1 _ I1 q1) fun iv s2 ⟨y, H2, I2, ry, z, ey, q2⟩ =>
    Calls.spliced_cons (thn (hf.run pins s2 σ H2 _ I2 q2) fun fv s3 ⟨dd, H3, I3, rz, v, g, q3⟩ => Calls.spliced_nil ?_))))
  subst ey
  obtain ⟨t, rfl⟩ := ry
  obtain ⟨es', n', u0, hl', hk', e0, ru⟩ := g
  have hm3 := PySem.W.mapOf_K (prog := X.prog) (w := X.w) I3.kIn hl' hk'
  refine call_meetsIn PySem.F.slot_dict_get hm3.typeIs PySem.F.entry_dict_get (PySem.F.args_dict_get_3 _ _ _) (meets_dict_get_default (knd := strKind X.prog X.w) (d := a) (strKind_is X.prog X.w z t) hd fv) ⟨_, hm3, ?_⟩
  rw [PySem.W.find_K hl' e0]
  exact ⟨v, H3, I3.tok _, ru, q3⟩
end KGT
namespace DW
open PySem PySem.Spec PyProof.Rows L2 RZ DL
def bStr : List DV → DP → Prop
  | [.dat (.int i)], P => i.natAbs.log2 < 1920 ∧ P (dstr (Str.ofString (toString i)))
  | [.dat (.str z)], P => P (dstr z)
  | _, _ => False
theorem jb_str {X : Cx} : JCb X (.type "str") bStr := ⟨_, cbr_or call_str_int SkE.call_str_str, fun b rs P p => by
  unfold bStr at p
  split at p
  · rename_i i
    intro H0 I H vs k r Q q
    cases r with
    | cons r1 rr =>
      cases rr
      have e := int_read r1
      subst e
      exact .inl ⟨i, rfl, p.1, q _ _ _ _ p.2 k.re (Dp.str _)⟩
  · rename_i z
    intro H0 I H vs k r Q q
    cases r with
    | cons r1 rr =>
      cases rr
      have e := str_read r1
      subst e
      exact .inr ⟨z, rfl, q _ _ _ _ p k.re (Dp.str _)⟩
  · exact p.elim⟩
def bInt : List DV → DP → Prop
  | [.dat (.str z)], P => ∃ n, PySem.intText? z = some n ∧ z.length ≤ 640 ∧ P (dint n)
  | _, _ => False
theorem jb_int {X : Cx} : JCb X (.type "int") bInt := ⟨_, call_int_str, fun b rs P p => by
  unfold bInt at p
  split at p
  · rename_i z
    obtain ⟨n, h1, h2, p⟩ := p
    intro H0 I H vs k r Q q
    cases r with
    | cons r1 rr =>
      cases rr
      have e := str_read r1
      subst e
      exact ⟨z, n, rfl, h1, h2, q _ _ _ _ p k.re (Dp.int _)⟩
  · exact p.elim⟩
end DW
namespace DW
open PySem PySem.Spec PyProof.Rows L2 RZ DL
theorem dpa_strs {K : PySem.W.Frag} {I : Hp} : ∀ {ss : List Str} {vs : List V}, DpAll K I vs (ss.map .str) → vs = ss.map V.str
  | [], _, .nil => rfl
  | s :: ss, _, .cons q r => by
    cases q
    rw [dpa_strs r]
    rfl
/-- sep.join(xs) -/
def dJoin (do_ de : DE) : DE := fun c δ P => do_ c δ fun x => match x with
  | .dat (.str a) => de c δ fun y => ∃ ys : List Str, lstD y = some (ys.map .str) ∧ (ys.map (·.length)).sum + ys.length * a.length ≤ 16777216 ∧ P (dstr (Txt.join a ys))
  | _ => False
theorem je_join {X : Cx} {S : Sg} {o e : Expr} {do_ de : DE} {apos cpos : Pos} (ho : JE X S o do_) (he : JE X S e de)
    (hbase : attributeBase o "join" X.env (eval o X.env) = eval o X.env := by rfl)
    (hfew : ((backTo cpos (starEach [e] X.env)).all (fun x => !x.1) && (backToKw cpos (keywordEach [] X.env)).all (fun x => x.1.isSome) && decide ([e].length + ([] : List Keyword).length + (if ([] : List Keyword).isEmpty then 0 else 1) < 30)) = true := by rfl)
    (hline : (apos.endLine == cpos.line) = true := by rfl) (hs : starEach [e] X.env = (false, eval e X.env) :: starEach [] X.env := by rfl) (hplain : (backTo cpos (starEach [] X.env)).any (·.1) = false := by rfl) :
    JE X S (.Call (.Attribute o "join" apos) [e] [] cpos) (dJoin do_ de) := by
  obtain ⟨t, o1, o2⟩ := ho
  obtain ⟨u, e1, e2⟩ := he
  refine ⟨_, pe_bm PySem.F.plainAttrs_str PySem.F.slot_str_join PySem.F.type_str_join mt_join o1 (pa_cons e1 pa_nil (hs := hs)) hbase hfew hline hs hplain, fun b I0 H0 c δ P nb ok p σ I H k n Q q => ?_⟩
  refine o2 b I0 H0 c δ _ nb ok p σ I H k n _ fun r v I1 H1 hr x rs => ?_
  split at hr
  · rename_i a
    rw [str_read rs]
    refine ⟨rfl, ?_⟩
    refine e2 b I0 H0 c δ _ nb ok hr σ I1 H1 (k.trans x) (n.ext x) _ fun r2 v2 I2 H2 p2 x2 rs2 => ?_
    obtain ⟨ys, h1, h2, h3⟩ := p2
    obtain ⟨p, xs, rfl, hs2, hd⟩ := (lstD_ok h1).read x2.s rs2
    have ex := dpa_strs hd
    subst ex
    exact ⟨a, p, ys, rfl, rfl, .inl hs2, h2, q _ _ I2 H2 h3 (x.trans x2) (Dp.str _)⟩
  · exact hr.elim
/-- t.split(sep) -/
def dSplit (do_ de : DE) : DE := fun c δ P => do_ c δ fun x => match x with
  | .dat (.str a) => de c δ fun y => match y with
    | .dat (.str b) => (b.length == 0) = false ∧ a.length + 2 ≤ 100000 ∧ P (.own ((Txt.split a b).map .str))
    | _ => False
  | _ => False
theorem je_split {X : Cx} {S : Sg} {o e : Expr} {do_ de : DE} {apos cpos : Pos} (ho : JE X S o do_) (he : JE X S e de)
    (hbase : attributeBase o "split" X.env (eval o X.env) = eval o X.env := by rfl)
    (hfew : ((backTo cpos (starEach [e] X.env)).all (fun x => !x.1) && (backToKw cpos (keywordEach [] X.env)).all (fun x => x.1.isSome) && decide ([e].length + ([] : List Keyword).length + (if ([] : List Keyword).isEmpty then 0 else 1) < 30)) = true := by rfl)
    (hline : (apos.endLine == cpos.line) = true := by rfl) (hs : starEach [e] X.env = (false, eval e X.env) :: starEach [] X.env := by rfl) (hplain : (backTo cpos (starEach [] X.env)).any (·.1) = false := by rfl) :
    JE X S (.Call (.Attribute o "split" apos) [e] [] cpos) (dSplit do_ de) := by
  obtain ⟨t, o1, o2⟩ := ho
  obtain ⟨u, e1, e2⟩ := he
  refine ⟨_, pe_bm PySem.F.plainAttrs_str PySem.F.slot_str_split PySem.F.type_str_split mt_split o1 (pa_cons e1 pa_nil (hs := hs)) hbase hfew hline hs hplain, fun b I0 H0 c δ P nb ok p σ I H k n Q q => ?_⟩
  refine o2 b I0 H0 c δ _ nb ok p σ I H k n _ fun r v I1 H1 hr x rs => ?_
  split at hr
  · rename_i a
    rw [str_read rs]
    refine ⟨rfl, ?_⟩
    refine e2 b I0 H0 c δ _ nb ok hr σ I1 H1 (k.trans x) (n.ext x) _ fun r2 v2 I2 H2 p2 x2 rs2 => ?_
    split at p2
    · rename_i z
      obtain ⟨h1, h2, h3⟩ := p2
      rw [str_read rs2]
      refine ⟨a, z, rfl, rfl, h1, Nat.le_trans h2 (by decide : 100000 ≤ sizeLine), fun p' hp => ?_⟩
      have xx := x.trans x2
      exact q _ _ I2 _ h3 (xx.trans (x2.ok.newH hp)) ⟨p', _, rfl, xx.free (fr_none hp), x2.ok.inone hp, x2.ok.nb hp, upd_same, dpa_ofStrs _⟩
    · exact p2.elim
  · exact hr.elim
/-- a table with text keys, whose items are tuples of ints -/
def KTabN (K : PySem.W.Frag) (w : World) (a : Addr) (tab : List (Str × List Int)) : Prop := KGT.KD0 K w a ∧ ∀ s ns, tab.lookup s = some ns → ∃ v, KDct K w a s v ∧ ∀ I, Dp K I v (nums ns)
/-- D.get(t, x), t is there -/
def dGetN (tab : List (Str × List Int)) (de dx : DE) : DE := fun c δ P => de c δ fun r => match r with
  | .dat (.str s) => match tab.lookup s with
    | some ns => dx c δ fun _ => P (.dat (nums ns))
    | none => False
  | _ => False
theorem je_getN {X : Cx} {S : Sg} {o e f : Expr} {de dx : DE} {apos cpos : Pos} {tab : List (Str × List Int)} {a : Addr} (hd : PE X o (tC (.ref a))) (ht : KTabN X.K X.w a tab) (he : JE X S e de) (hf : JE X S f dx)
    (m : M2 X o "get" apos e f cpos) : JE X S (.Call (.Attribute o "get" apos) [e, f] [] cpos) (dGetN tab de dx) := by
  obtain ⟨t, e1, e2⟩ := he
  obtain ⟨u, f1, f2⟩ := hf
  refine ⟨_, KGT.pe_kget2 hd e1 f1 m, fun b I0 H0 c δ P nb ok p σ I H k n Q q => ?_⟩
  refine ⟨a, rfl, ht.1, ?_⟩
  refine e2 b I0 H0 c δ _ nb ok p σ I H k n _ fun r v I1 H1 hr x rs => ?_
  split at hr
  · rename_i s
    split at hr
    · rename_i ns en
      refine ⟨s, str_read rs, ?_⟩
      refine f2 b I0 H0 c δ _ nb ok hr σ I1 H1 (k.trans x) (n.ext x) _ fun r2 v2 I2 H2 p2 x2 rs2 => ?_
      obtain ⟨v3, g1, g2⟩ := ht.2 s ns en
      exact ⟨v3, g1, q _ _ I2 H2 p2 (x.trans x2) (g2 I2)⟩
    · exact hr.elim
  · exact hr.elim
end DW
namespace DW
open PySem PySem.Spec PyProof.Rows L2 RZ DL
def intsB : List Value → List Int → Bool
  | [], [] => true
  | .int x _ :: vs, y :: ys => decide (x = y) && intsB vs ys
  | _, _ => false
theorem intsB_ok : ∀ {vs : List Value} {ys : List Int}, intsB vs ys = true → Vals (ys.map V.int) vs
  | [], [], _ => .nil
  | .int x t :: vs, y :: ys, h => by
    unfold intsB at h
    obtain ⟨h1, h2⟩ := Bool.and_eq_true_iff.mp h
    have e := of_decide_eq_true h1
    subst e
    exact .cons ⟨t, rfl⟩ (intsB_ok h2)
  | [], _ :: _, h => by unfold intsB at h; cases h
  | .int _ _ :: _, [], h => by unfold intsB at h; cases h
  | .none :: _, _, h => by unfold intsB at h; cases h
  | .bool _ :: _, _, h => by unfold intsB at h; cases h
  | .str _ _ :: _, _, h => by unfold intsB at h; cases h
  | .bytes _ _ :: _, _, h => by unfold intsB at h; cases h
  | .ref _ :: _, _, h => by unfold intsB at h; cases h
  | .type _ :: _, _, h => by unfold intsB at h; cases h
  | .builtin _ :: _, _, h => by unfold intsB at h; cases h
def numTupB (K : PySem.W.Frag) (a : Addr) (ns : List Int) : Bool := match K.lookup a with
  | some ⟨.type "tuple", _, .seq vs _, _⟩ => decide (vs.size ≤ 1000) && intsB vs.toList ns
  | _ => false
theorem numTup_ok {K : PySem.W.Frag} {a : Addr} {ns : List Int} (h : numTupB K a ns = true) : ∀ I, Dp K I (.ref a) (nums ns) := fun I => by
  unfold numTupB at h
  split at h
  · rename_i dd vs n sl e
    obtain ⟨h1, h2⟩ := Bool.and_eq_true_iff.mp h
    exact .tup (.inr ⟨_, vs, n, e, rfl, rfl, Nat.le_trans (of_decide_eq_true h1) (by decide : 1000 ≤ sizeLine), intsB_ok h2⟩) (dpa_ofInts ns)
  · cases h
end DW
namespace DW
open PySem PySem.Spec PyProof.Rows L2 RZ DL
theorem ktabN_mk {K : PySem.W.Frag} {w : World} {a : Addr} {tab : List (Str × List Int)} (h1 : ∃ es n, K.lookup a = some ⟨.type "dict", none, .dict es n, #[]⟩ ∧ PySem.W.KeysLit w.params es.toList) (h2 : (a == sysModules) = false)
    (h : ∀ s ns, tab.lookup s = some ns → ∃ t, PySem.W.nsIn K a s = some (some (.ref t)) ∧ numTupB K t ns = true) : KTabN K w a tab := by
  obtain ⟨es, n, e1, e2⟩ := h1
  refine ⟨⟨es, n, e1, e2, h2⟩, fun s ns e => ?_⟩
  obtain ⟨t, g1, g2⟩ := h s ns e
  exact ⟨.ref t, ⟨es, n, .ref t, e1, e2, g1, rfl⟩, numTup_ok g2⟩
end DW
namespace DL
open PySem PySem.Spec PyProof.Rows L2
theorem gc_str {mg : Str → Option Value} {x z : Str} (h : ∃ tk, mg x = some (.str z tk)) : ∃ u, mg x = some u ∧ RelV (.str z) u := by
  obtain ⟨tk, e⟩ := h
  exact ⟨_, e, tk, rfl⟩
end DL

set_option Elab.async false
set_option linter.all false
set_option maxRecDepth 100000
set_option maxHeartbeats 1000000
namespace DL
open PySem PySem.Spec PyProof.Rows L2 RZ
/-! ### x = {a: b, b: a}; return tuple([x.get(p, p) for p in row]) -/
theorem dk_tbl {kvs : List (Key × V)} : ∀ ps, HO.dK kvs ≠ .tbl ps := fun _ z => by cases z
theorem tabs_updK {T : List (Addr × Str)} {H : Hp} {a : Addr} {kvs : List (Key × V)} {o : HO} (t : LamX.Tabs T H) (h : H a = some (.dK kvs)) : LamX.Tabs T (upd H a o) := fun p hp => by
  obtain ⟨ps, h1, h2, h3⟩ := t p hp
  refine ⟨ps, by rw [upd_ne (ne_of h1 h (fun z => by cases z))]; exact h1, h2, fun pos cv hc => ?_⟩
  obtain ⟨c, e1, e2⟩ := h3 pos cv hc
  exact ⟨c, e1, by rw [upd_ne (ne_of e2 h (fun z => by unfold LamX.CodeO at z; cases z))]; exact e2⟩
theorem Ext.mutK {K : PySem.W.Frag} {b : Bg} {I H I' H' : Hp} {D : Addr} {kvs : List (Key × V)} {o : HO} (e : Ext K b I H I' H') (h0 : Fr H D) (hi : I' D = none) (hb : D ≠ b.a) (hD : H' D = some (.dK kvs)) : Ext K b I H I' (upd H' D o) := by
  obtain ⟨n, pl, tb, l, ns, x, q, m, c, e1, sl, r⟩ := e.b
  refine ⟨e.i, fun a u n t h => ?_, e.n, fun l xs h => (let ⟨ys, h1⟩ := e.k l xs h; ⟨ys, by rw [upd_ne (fun z => hb z.symm)]; exact h1⟩), fun a u h => ?_, n, pl, tabs_updK tb hD, l, ns, x, q, m, c, ?_, sl, r⟩
  · rw [upd_ne (fun (z : a = D) => fr_not h0 (z ▸ h) t)]; exact e.h a u n t h
  · rw [upd_ne (ne_of_none h hi)]; exact e.s a u h
  · rw [upd_ne (fun z => hb z.symm)]; exact e1
/-- one of two goes to the other -/
def exch (a b p : Int) : Int := if p = a then b else if p = b then a else p
section
variable {K : PySem.W.Frag} {b : Bg} {I H : Hp}
theorem ev_dget {i j : Nat} {q : Addr} {x y v : Int} {δ : Env} (hxy : x ≠ y) (hq : q ≠ b.a) (hd : H q = some (.dK [(.inl x, .int y), (.inl y, .int x)])) (hi : δ[i]? = some (some (.raw (.ref q)))) (hj : δ[j]? = some (some (dint v))) :
    EvI K b I H (tDGet2 (tVar i) (tVar j) (tVar j)) δ (fun k => k = exch x y v) := fun σ I1 H1 e n Q qq => by
  obtain ⟨u, e1, e2⟩ := n.at_ i _ hi
  have e2 : u = .ref q := e2
  subst e2
  obtain ⟨w, f1, f2⟩ := n.at_ j _ hj
  have f2 := int_read f2
  subst f2
  have hd1 : H1 q = some (.dK [(.inl x, .int y), (.inl y, .int x)]) := e.h q _ hq dk_tbl hd
  refine ⟨.ref q, e1, q, rfl, .inl ⟨_, .inl hd1⟩, .int v, f1, .int v, f1, _, DGet.k (k := .inl v) hd1, ?_⟩
  have z : (valV [(Sum.inl x, V.int y), (Sum.inl y, V.int x)] (Sum.inl v : Key)).getD (.int v) = .int (exch x y v) := by
    unfold exch
    by_cases h1 : v = x
    · subst h1
      rw [valV_pos rfl, if_pos rfl]
      rfl
    · rw [valV_neg (fun z => h1 (Sum.inl.inj z).symm), if_neg h1]
      by_cases h2 : v = y
      · subst h2
        rw [valV_pos rfl, if_pos rfl]
        rfl
      · rw [valV_neg (fun z => h2 (Sum.inl.inj z).symm), if_neg h2]
        rfl
  rw [z]
  exact qq _ _ I1 H1 ⟨_, rfl, rfl⟩ (Ext.refl e.s e.b) (Dp.int _)
end
section
variable {K : PySem.W.Frag} {b : Bg} {I H : Hp}
abbrev tSwap (K : PySem.W.Frag) (tk1 tv1 tk2 tv2 : TE) : TS := tSeq (tAsg (tDisp [(tk1, tv1), (tk2, tv2)]) (gName 3)) (tRet (tCB (TF.rTupleF K) (tCons (tLc (iTup K (tVar 1)) (gName 4) tYes (tDGet2 (tVar 3) (tVar 4) (tVar 4)) [4]) tNil)))
theorem sv_swap {tk1 tv1 tk2 tv2 : TE} {d0 dd : PyData} {st : List Int} {x y : Int} {N Bk Ct : Env → Prop} {R : DV → Prop} (hxy : x ≠ y) (hl : st.length ≤ 1000)
    (k1 : EvD K b I H tk1 [some (.dat d0), some (.dat (nums st)), some (.dat dd), none, none] (fun r => r = dint x)) (v1 : EvD K b I H tv1 [some (.dat d0), some (.dat (nums st)), some (.dat dd), none, none] (fun r => r = dint y))
    (k2 : EvD K b I H tk2 [some (.dat d0), some (.dat (nums st)), some (.dat dd), none, none] (fun r => r = dint y)) (v2 : EvD K b I H tv2 [some (.dat d0), some (.dat (nums st)), some (.dat dd), none, none] (fun r => r = dint x))
    (hR : R (.dat (nums (st.map (exch x y))))) : SvD K b I H (tSwap K tk1 tv1 tk2 tv2) [some (.dat d0), some (.dat (nums st)), some (.dat dd), none, none] N R Bk Ct := by
  intro σ I1 H1 e n D a1 a2 a3 a4 q hq
  have ex : Ext K b I1 H1 I1 (upd H1 q (.dK [])) := e.ok.newH hq
  refine k1 σ I1 _ (e.trans ex) (n.ext ex) _ fun r1 u1 I2 H2 p1 x1 s1 => ?_
  subst p1
  refine v1 σ I2 H2 ((e.trans ex).trans x1) ((n.ext ex).ext x1) _ fun r2 u2 I3 H3 p2 x2 s2 => ?_
  subst p2
  refine k2 σ I3 H3 (((e.trans ex).trans x1).trans x2) (((n.ext ex).ext x1).ext x2) _ fun r3 u3 I4 H4 p3 x3 s3 => ?_
  subst p3
  refine v2 σ I4 H4 ((((e.trans ex).trans x1).trans x2).trans x3) ((((n.ext ex).ext x1).ext x2).ext x3) _ fun r4 u4 I5 H5 p4 x4 s4 => ?_
  subst p4
  rw [int_read s1, int_read s2, int_read s3, int_read s4]
  have xx := ((x1.trans x2).trans x3).trans x4
  have hqb : q ≠ b.a := e.ok.nb hq
  have h5 : H5 q = some (.dK []) := xx.h q _ hqb dk_tbl upd_same
  have i5 : I5 q = none := xx.n q _ (e.ok.inone hq) upd_same dk_tbl
  refine ⟨h5, [(.inl x, .int y), (.inl y, .int x)], rfl, (by decide : 2 ≤ 15), ?_⟩
  have em : mergeK [] [((.inl x : Key), V.int y), (.inl y, .int x)] = [(.inl x, .int y), (.inl y, .int x)] := by
    have hne : ¬ ((Sum.inl x : Key) = .inl y) := fun z => hxy (Sum.inl.inj z)
    simp [mergeK, putK, hne]
  rw [em]
  have e6 : Ext K b I1 H1 I5 (upd H5 q (.dK [(.inl x, .int y), (.inl y, .int x)])) := Ext.mutK (ex.trans xx) (fr_none hq) i5 hqb h5
  generalize hH6 : upd H5 q (.dK [(.inl x, .int y), (.inl y, .int x)]) = H6 at e6
  have h6 : H6 q = some (.dK [(.inl x, .int y), (.inl y, .int x)]) := by rw [← hH6]; exact upd_same
  have n6 : EnvR K b H I5 H6 σ [some (.dat d0), some (.dat (nums st)), some (.dat dd), none, none] := n.ext e6
  have n7 : EnvR K b H6 I5 H6 (σ.set 3 (some (.ref q))) [some (.dat d0), some (.dat (nums st)), some (.dat dd), some (.raw (.ref q)), none] := by
    refine ⟨by rw [List.length_set]; exact n6.len, fun i r hi => ?_, fun i j a ds es h1 => ?_⟩
    · match i, hi with
      | 0, hi => cases hi; obtain ⟨v, f1, f2⟩ := n6.at_ 0 _ rfl; exact ⟨v, by rw [List.getElem?_set_ne (by decide)]; exact f1, f2⟩
      | 1, hi => cases hi; obtain ⟨v, f1, f2⟩ := n6.at_ 1 _ rfl; exact ⟨v, by rw [List.getElem?_set_ne (by decide)]; exact f1, f2⟩
      | 2, hi => cases hi; obtain ⟨v, f1, f2⟩ := n6.at_ 2 _ rfl; exact ⟨v, by rw [List.getElem?_set_ne (by decide)]; exact f1, f2⟩
      | 3, hi => cases hi; exact ⟨.ref q, List.getElem?_set_self (by rw [n6.len]; show 3 < 5; decide), rfl⟩
      | 4, hi => cases hi
      | i + 5, hi => cases hi
    · match i, h1 with
      | 0, h1 => cases h1
      | 1, h1 => cases h1
      | 2, h1 => cases h1
      | 3, h1 => cases h1
      | 4, h1 => cases h1
      | i + 5, h1 => cases h1
  refine ev_tlcI (K := K) (b := b) (I0 := I5) (H0 := H6) (δ := [some (.dat d0), some (.dat (nums st)), some (.dat dd), some (.raw (.ref q)), none]) (is := [4]) (A := fun l => l = st) (gI := PyData.int) (δf := fun v => [some (.dat d0), some (.dat (nums st)), some (.dat dd), some (.raw (.ref q)), some (dint v)]) (C := fun v k => k = exch x y v)
    (itd_nums1 (ev_var rfl)) (fun v hv => by simp at hv; subst hv; rfl) (by simp) (fun l hl' => by rw [hl']; omega) (fun v => tg_name (by show 4 < 5; decide)) (fun l _ v _ => ev_dget hxy hqb h6 rfl rfl) (σ.set 3 (some (.ref q))) I5 H6 e6.re n7 _ fun r v I8 H8 p8 x8 s8 => ?_
  obtain ⟨ns, rfl, l, rfl, hp⟩ := p8
  have ens : ns = l.map (exch x y) := by rw [paired_fun hp]
  subst ens
  exact a2 _ _ I8 H8 hR ((e.trans e6).trans x8) s8
end
end DL

set_option Elab.async false
set_option linter.all false
set_option maxRecDepth 100000
set_option maxHeartbeats 1000000
namespace DW
open PySem PySem.Spec PyProof.Rows L2 RZ DL
/-! ### lists of a def's own, lent to a def that tells a new list of ints -/
def isI : PyData → Bool
  | .int _ => true
  | _ => false
def plM : DV → Bool
  | .own ds => ds.all isI
  | r => scal r
def dCallM (W : Wt) (da : DA) : DE := fun c δ P => da c δ fun rs => (rs.map lend).all isPl = true ∧ W (rs.map lend) (fun r => plM r = true ∧ P r) c.no
theorem dpa_ints {K : PySem.W.Frag} {I I' : Hp} : ∀ {xs : List V} {ds : List PyData}, ds.all isI = true → DpAll K I xs ds → DpAll K I' xs ds
  | _, _, _, .nil => .nil
  | _, d :: ds, h, .cons q t => by
    rw [List.all_cons] at h
    obtain ⟨h1, h2⟩ := Bool.and_eq_true_iff.mp h
    refine .cons ?_ (dpa_ints h2 t)
    cases d with
    | int i =>
      cases q
      exact .int i
    | _ => cases h1
theorem lend_back2 {K : PySem.W.Frag} {b : Bg} {I1 I2 H1 I' H' : Hp} (k : Ok K b I1 H1) (s2 : Same I1 I2) (e : Ext K b I2 H1 I' H') : ∃ I3, Ext K b I1 H1 I3 H' ∧ ∀ a, I' a = none → I3 a = none := by
  have hIf : ∀ x u, (if I1 x = none ∧ (H1 x).isSome = true then none else I' x) = some u → I' x = some u := fun x u h => by
    split at h
    · cases h
    · exact h
  have sm : Same I1 (fun x => if I1 x = none ∧ (H1 x).isSome = true then none else I' x) := fun x u h => by
    show (if _ then _ else _) = _
    rw [if_neg (fun z => by rw [h] at z; cases z.1)]
    exact e.i x u (s2 x u h)
  obtain ⟨n0, pl0, tb0, l0, ns0, x0, q0, m0, c0, e0, sl0, rr0⟩ := k.b
  obtain ⟨n, pl, tb, l, ns, x, q, m, c, e1, sl, rr⟩ := e.b
  obtain ⟨ys, hy⟩ := e.k l0 _ e0
  have el : l = l0 := by
    rw [e1] at hy
    injection hy with hy
    injection hy with hy
    injection hy with hy _
    injection hy
  subst el
  refine ⟨fun x => if I1 x = none ∧ (H1 x).isSome = true then none else I' x, ⟨sm, e.h, fun a o hn ha ht => ?_, e.k, fun a o h => e.s a o (hIf a o h), ?_, fun a o h => pl a o (hIf a o h), tb, l, ns0, x, q, m, c, e1, sl_mono sm sl0, rr⟩, fun a ha => ?_⟩
  · show (if _ then _ else _) = _
    rw [if_pos ⟨hn, by rw [ha]; rfl⟩]
  · show (if _ then _ else _) = _
    rw [if_pos ⟨n0, by rw [e0]; rfl⟩]
  · show (if _ then _ else _) = _
    rw [ha]
    split <;> rfl
theorem plM_any {K : PySem.W.Frag} {b : Bg} {H I1 H1 I' I3 H' : Hp} {v : V} {r : DV} (h : plM r = true) (f : ∀ a, Fr H1 a → Fr H a) (hn : ∀ a, I' a = none → I3 a = none) (hr : Res K b H1 I' H' v r) : Res K b H I3 H' v r := by
  cases r with
  | own ds =>
    obtain ⟨a, xs, rfl, h0, hi, hb, ha, hd⟩ := hr
    exact ⟨a, xs, rfl, f a h0, hn a hi, hb, ha, dpa_ints h hd⟩
  | dat d => exact scal_any (r := .dat d) h hr
  | _ => cases h
section
variable {X : Cx} {S : Sg} {e : Expr} {es : List Expr} {pos p : Pos} {x : Str} {k : Nat} {f : Addr} {fd : FuncData} {ps : List Str} {W : Wt} {da : DA}
theorem ev_lendM {K : PySem.W.Frag} {bg : Bg} {I0 H0 : Hp} {c : Cn} {δ : En} {P : DP} {ta : TA} (ok : Cok K S bg I0 H0 c) (ha : EvA K bg I0 H0 ta δ (fun rs => (rs.map lend).all isPl = true ∧ W (rs.map lend) (fun r => plM r = true ∧ P r) c.no)) : EvD K bg I0 H0 (tCall (spW K S.cls S.fa W) [] S.E ta) δ P := fun σ I H kk n Q q =>
  ha σ I H kk n _ fun rs vs I1 H1 hp x r => by
    rw [List.append_nil]
    obtain ⟨I2, k2, s2, r2⟩ := lend_res x.ok r hp.1
    refine ⟨(rs.map lend, fun r => plM r = true ∧ P r, c.no), bg, I2, k2, r2, ⟨ok.fa, hp⟩, fun r v I' H' o e2 rs' => ?_, fun C fs d I' H' he _ _ _ => ?_⟩
    · obtain ⟨I3, e3, hn⟩ := lend_back2 x.ok s2 e2
      exact q r v I3 H' o.2 (x.trans e3) (plM_any (I1 := I1) o.1 (free_of x) hn rs')
    · obtain ⟨_, _, z⟩ := he
      exact z.elim
theorem je_callM (F : FnOk X.prog X.w X.K X.mg X.base (L2.CX X.prog X.w) k f fd ps (spW X.K S.cls S.fa W)) (hr : Room k X.A) (hg : Gl X x) (hm : X.mg x = some (.ref f)) (hk : PySem.W.keepIn X.K (.ref f) = true) (hb : Binds X.K fd ps []) (hx : Passes (L2.CX X.prog X.w) X S.E)
    (ha : JA X S (e :: es) da) (hdb : (x == ("__debug__" : Str)) = false := by decide) (he : starEach (e :: es) X.env = (false, eval e X.env) :: starEach es X.env := by rfl) (hpl : (backTo pos (starEach es X.env)).any (·.1) = false := by rfl) :
    JE X S (.Call (.Name x p) (e :: es) [] pos) (dCallM W da) := by
  obtain ⟨t, a1, a2⟩ := ha
  exact ⟨_, pe_call F hr hg hm hk hb .nil hx a1 hdb he hpl, fun b I0 H0 c δ P nb ok p => ev_lendM ok ((a2 b I0 H0 c δ _ nb ok p).mono fun rs h => h.2)⟩
end
end DW

set_option Elab.async false
set_option linter.all false
set_option maxRecDepth 100000
set_option maxHeartbeats 1000000
namespace DW
open PySem PySem.Spec PyProof.Rows L2 RZ DL
/-! ### statements that keep what the j-th name stands for -/
section
variable (K : PySem.W.Frag) (b : Bg) (I0 H0 : Hp)
def SvK (j : Nat) (ts : TS) (δ : En) (N : En → Prop) (R : DV → Prop) (Bk Ct : En → Prop) : Prop := ∀ (σ : L2.St) (I H : Hp), Ext K b I0 H0 I H → EnvR K b H0 I H σ δ → ∀ D : Ends,
  (∀ δ' σ' I' H', N δ' → Ext K b I0 H0 I' H' → Same I I' → EnvR K b H0 I' H' σ' δ' → σ'[j]? = σ[j]? → D.nx σ' H') →
  (∀ r v I' H', R r → Ext K b I0 H0 I' H' → Res K b H0 I' H' v r → D.rt v H') →
  (∀ δ' σ' I' H', Bk δ' → Ext K b I0 H0 I' H' → Same I I' → EnvR K b H0 I' H' σ' δ' → σ'[j]? = σ[j]? → D.bk σ' H') →
  (∀ δ' σ' I' H', Ct δ' → Ext K b I0 H0 I' H' → Same I I' → EnvR K b H0 I' H' σ' δ' → σ'[j]? = σ[j]? → D.ct σ' H') → ts D σ H
end
def CSk (K : PySem.W.Frag) (S : Sg) (j : Nat) (ts : TS) (ds : DS) : Prop := ∀ b I0 H0 c δ D, NB S.n δ → Cok K S b I0 H0 c → ds c δ D → SvK K b I0 H0 j ts δ (fun d => NB S.n d ∧ D.nx d) D.rt (fun d => NB S.n d ∧ D.bk d) (fun d => NB S.n d ∧ D.ct d)
def JSk (X : Cx) (S : Sg) (j : Nat) (st : Stmt) (ds : DS) : Prop := ∃ t, PS X st t ∧ CSk X.K S j t ds
def JSsk (X : Cx) (S : Sg) (j : Nat) (sts : List Stmt) (ds : DS) : Prop := ∃ t, PSs X sts t ∧ CSk X.K S j t ds
section
variable {K : PySem.W.Frag} {S : Sg} {j : Nat}
theorem csk_asg {i : Nat} {te : TE} {de : DE} (hi : i < S.n) (hj : i ≠ j) (h : DW.CE K S te de) : CSk K S j (tAsg te (gName i)) (dAsg i de) := fun b I0 H0 c δ D nb ok p σ I H e n Dd a1 a2 a3 a4 => by
  have this : te σ H fun x H1 => (σ.set i (some x))[j]? = σ[j]? → Dd.nx (σ.set i (some x)) H1 := cs_asg hi h b I0 H0 c δ ⟨D.nx, D.rt, fun _ => False, fun _ => False⟩ nb ok p σ I H e n { nx := fun σ' H' => σ'[j]? = σ[j]? → Dd.nx σ' H', rt := Dd.rt } (fun δ' σ' I' H' p' e' s' n' z => a1 δ' σ' I' H' p' e' s' n' z) a2 (fun _ _ _ _ z => z.2.elim) (fun _ _ _ _ z => z.2.elim)
  have ef : (fun (x : V) (H1 : Hp) => (σ.set i (some x))[j]? = σ[j]? → Dd.nx (σ.set i (some x)) H1) = fun x H1 => Dd.nx (σ.set i (some x)) H1 := by
    funext x H1
    exact propext ⟨fun h => h (List.getElem?_set_ne hj), fun h _ => h⟩
  rw [ef] at this
  exact this
theorem csk_asgS {i : Nat} {te ti : TE} {de di : DE} (h : DW.CE K S te de) (hi : DW.CE K S ti di) : CSk K S j (tAsg te (gSub (tVar i) ti (rSetX K))) (dAsgG de (dGSub i di)) := fun b I0 H0 c δ D nb ok p σ I H e n Dd a1 a2 a3 a4 => by
  have this := cs_asgG h (cg_sub (i := i) hi) b I0 H0 c δ ⟨D.nx, D.rt, fun _ => False, fun _ => False⟩ nb ok p σ I H e n { nx := fun σ' H' => σ'[j]? = σ[j]? → Dd.nx σ' H', rt := Dd.rt } (fun δ' σ' I' H' p' e' s' n' z => a1 δ' σ' I' H' p' e' s' n' z) a2 (fun _ _ _ _ z => z.2.elim) (fun _ _ _ _ z => z.2.elim)
  have ef : (fun (H1 : Hp) => (σ[j]? = σ[j]? → Dd.nx σ H1)) = fun H1 => Dd.nx σ H1 := by
    funext H1
    exact propext ⟨fun h => h rfl, fun h _ => h⟩
  have this : te σ H fun x H1 => tVar i σ H1 fun o H2 => ti σ H2 fun k H3 => rSetX K o k x H3 fun H4 => σ[j]? = σ[j]? → Dd.nx σ H4 := this
  rw [ef] at this
  exact this
theorem csk_seq {t u : TS} {a d : DS} (h : CSk K S j t a) (h' : CSk K S j u d) : CSk K S j (tSeq t u) (dSeq a d) := fun b I0 H0 c δ D nb ok p σ I H e n Dd a1 a2 a3 a4 =>
  h b I0 H0 c δ _ nb ok p σ I H e n { Dd with nx := u Dd } (fun δ' σ' I' H' p' e' s' n' z => h' b I0 H0 c δ' D p'.1 ok p'.2 σ' I' H' e' n' Dd
    (fun δ2 σ2 I2 H2 p2 e2 s2 n2 z2 => a1 δ2 σ2 I2 H2 p2 e2 (s'.trans s2) n2 (z2.trans z)) a2
    (fun δ2 σ2 I2 H2 p2 e2 s2 n2 z2 => a3 δ2 σ2 I2 H2 p2 e2 (s'.trans s2) n2 (z2.trans z)) (fun δ2 σ2 I2 H2 p2 e2 s2 n2 z2 => a4 δ2 σ2 I2 H2 p2 e2 (s'.trans s2) n2 (z2.trans z))) a2 a3 a4
theorem csk_for {Rl : Rel} {wi : TI} {g : TG} {tb : TS} {is : List Nat} {di : DI} {tf : Tf} {db : DS} (hj : j ∉ is) (hi : CI K S Rl wi di) (ho : TfOk S.n tf) (hg : ∀ b d δ δ', NB S.n δ → tf d δ = some δ' → TgD K b Rl g is d δ δ') (hb : CSk K S j tb db) : CSk K S j (tFor wi g tb) (dFor di tf db) := fun b I0 H0 c δ D nb ok p σ I H e n Dd a1 a2 a3 a4 =>
  hi b I0 H0 c δ _ nb ok p σ I H e n _ fun ds Jt I1 H1 go x okI => by
    obtain ⟨G, Y, w, hG, hY⟩ := okI
    refine for_it w (fun k σ' H' => ∃ I' δk, (NB S.n δk ∧ forGo c tf db D (ds.drop k) δk) ∧ Ext K b I0 H0 I' H' ∧ Same I1 I' ∧ EnvR K b H0 I' H' σ' δk ∧ σ'[j]? = σ[j]?) ⟨I1, δ, ⟨nb, go⟩, e.trans x, Same.refl _, n.ext x, rfl⟩ (fun k σ' H' _ ⟨I', δk, _, e', s', _⟩ => hG H' (s'.trans e'.s)) ?_ ?_
    · rintro k v σ' H' H'' hk ⟨I', δk, ⟨nbk, jk⟩, e', s', n', z'⟩ y
      rw [List.drop_eq_getElem_cons hk] at jk
      have hd1 : ds[k]? = some ds[k] := List.getElem?_eq_getElem hk
      generalize ds[k] = d at hd1 jk
      obtain ⟨I3, e3, d3⟩ := hY k I' H' v H'' d s' e'.ok y hd1
      unfold forGo at jk
      split at jk
      · rename_i δ' et
        have nb' := ho d δk δ' nbk et
        refine hg b d δk δ' nbk et H0 I3 H'' σ' v e3.ok (n'.ext e3) d3 _ fun σ2 n2 out _ => ?_
        have s3 : Same I1 I3 := s'.trans e3.i
        have z2 : σ2[j]? = σ[j]? := (out j hj).trans z'
        exact hb b I0 H0 c δ' _ nb' ok jk σ2 I3 H'' (e'.trans e3) n2 _ (fun d σ4 I4 H4 p4 e4 s4 n4 z4 => ⟨I4, d, p4, e4, s3.trans s4, n4, z4.trans z2⟩) a2 (fun d σ4 I4 H4 p4 e4 s4 n4 z4 => a1 d σ4 I4 H4 p4 e4 ((x.i.trans s3).trans s4) n4 (z4.trans z2)) (fun d σ4 I4 H4 p4 e4 s4 n4 z4 => ⟨I4, d, p4, e4, s3.trans s4, n4, z4.trans z2⟩)
      · exact jk.elim
    · rintro σ' H' ⟨I', δn, ⟨nbn, jk⟩, e', s', n', z'⟩
      rw [List.drop_length] at jk
      exact a1 δn σ' I' H' ⟨nbn, jk⟩ e' (x.i.trans s') n' z'
end
section
variable {X : Cx} {S : Sg} {j : Nat} {e : Expr} {de : DE} {st : Stmt} {sts : List Stmt} {d d' : DS} {pos : Pos}
theorem jssk_one (h : JSk X S j st d) : JSsk X S j [st] d := by
  obtain ⟨t, h1, h2⟩ := h
  exact ⟨_, pss_one h1, h2⟩
theorem jssk_cons (h : JSk X S j st d) (h' : JSsk X S j sts d') : JSsk X S j (st :: sts) (dSeq d d') := by
  obtain ⟨t, h1, h2⟩ := h
  obtain ⟨u, h3, h4⟩ := h'
  exact ⟨_, pss_cons h1 h3, csk_seq h2 h4⟩
theorem jsk_set {i : Nat} {x : Str} {pos' : Pos} (hN : X.N.Nodup) (hx : X.N[i]? = some x) (hi : i < S.n) (hj : i ≠ j) (h : JE X S e de) (hp : ∀ te, PE X e te → PS X (.Assign [.Name x pos'] e pos) (tAsg te (gName i))) : JSk X S j (.Assign [.Name x pos'] e pos) (dAsg i de) := by
  obtain ⟨t, h1, h2⟩ := h
  exact ⟨_, hp t h1, csk_asg hi hj h2⟩
theorem jsk_asgS {i : Nat} {o k : Expr} {dk : DE} {gp : Pos} (h : JE X S e de) (ho : PE X o (tVar i)) (hk : JE X S k dk) (hps : ∀ ti, PE X k ti → PG X (.Subscript o k gp) (gSub (tVar i) ti (rSetX X.K))) (hs : swapsWithSole [.Subscript o k gp] e pos.line X.env = pure false := by rfl) (hw : swappedStores [.Subscript o k gp] e X.env = pure none := by rfl) (h1 : (assignEach [.Subscript o k gp] X.env).map (·.2) = [assign (.Subscript o k gp) X.env] := by rfl) : JSk X S j (.Assign [.Subscript o k gp] e pos) (dAsgG de (dGSub i dk)) := by
  obtain ⟨t, g1, g2⟩ := h
  obtain ⟨ti, k1, k2⟩ := hk
  exact ⟨_, ps_asg g1 (hps ti k1) hs hw h1, csk_asgS g2 k2⟩
theorem jsk_for {Rl : Rel} {is : List Nat} {tg iter : Expr} {di : DI} {tf : Tf} {body : List Stmt} {db : DS} (hj : j ∉ is) (hi : JI X S Rl tg iter di) (ho : TfOk S.n tf) (hg : JG X S Rl is tg tf) (hb : JSsk X S j body db)
    (hp : ∀ wi g tb, PI X tg iter wi → PG X tg g → PSs X body tb → PS X st (tFor wi g tb)) : JSk X S j st (dFor di tf db) := by
  obtain ⟨wi, i1, i2⟩ := hi
  obtain ⟨g, g1, g2⟩ := hg
  obtain ⟨tb, b1, b2⟩ := hb
  exact ⟨_, hp wi g tb i1 g1 b1, csk_for hj i2 ho g2 b2⟩
end
/-! ### a def that changes the list handed in at its second place -/
abbrev WtM := List DV → (List PyData → Prop) → Cn → Prop
def wM (m : Nat) (D : DS) : WtM := fun rs P c => D c (rs.map some ++ List.replicate (m - 4) none) ⟨fun δ => ∃ ds, δ[1]? = some (some (.own ds)) ∧ P ds, fun _ => False, fun _ => False, fun _ => False⟩
def spM (K : PySem.W.Frag) (fa : Nat → Addr) (W : WtM) : Sp := fun vs H Q _ => ∃ (b : Bg) (I : Hp) (v0 v2 v3 : V) (a : Addr) (d0 d2 d3 : PyData) (xs : List V) (ds : List PyData) (P : List PyData → Prop),
  vs = [v0, .ref a, v2, v3] ∧ Ok K b I H ∧ I a = none ∧ a ≠ b.a ∧ H a = some (.lst xs) ∧ DpAll K I xs ds ∧ Dp K I v0 d0 ∧ Dp K I v2 d2 ∧ Dp K I v3 d3 ∧ W [.dat d0, .own ds, .dat d2, .dat d3] P ⟨fun _ _ => False, fa⟩ ∧
  ∀ I' H' ys es, P es → Ext K b I (del H a) I' H' → I' a = none → H' a = some (.lst ys) → DpAll K I' ys es → Q .non H'
theorem ext_del {K : PySem.W.Frag} {b : Bg} {I H : Hp} {a : Addr} {xs : List V} (k : Ok K b I H) (hb : a ≠ b.a) (ha : I a = none) : Ext K b I (del H a) I H := by
  refine ⟨Same.refl I, fun x o _ _ h => ?_, fun x o n _ _ => n, fun l xs h => ⟨xs, ?_⟩, k.s, k.b⟩
  · by_cases z : x = a
    · subst z
      rw [del_same] at h
      cases h
    · rw [del_ne z] at h
      exact h
  · rw [del_ne (fun z => hb z.symm)] at h
    exact h
theorem start4 {N : List Str} {v0 v1 v2 v3 : V} (hl : 4 ≤ N.length) : start N [v0, v1, v2, v3] = some v0 :: some v1 :: some v2 :: some v3 :: List.replicate (N.length - 4) none := by
  rfl
theorem env4 {K : PySem.W.Frag} {b : Bg} {I H : Hp} {a : Addr} {v0 v2 v3 : V} {d0 d2 d3 : PyData} {xs : List V} {ds : List PyData} {m : Nat} (hi : I a = none) (hb : a ≠ b.a) (ha : H a = some (.lst xs)) (hd : DpAll K I xs ds) (h0 : Dp K I v0 d0) (h2 : Dp K I v2 d2) (h3 : Dp K I v3 d3) :
    EnvR K b (del H a) I H (some v0 :: some (.ref a) :: some v2 :: some v3 :: List.replicate m none) (some (.dat d0) :: some (.own ds) :: some (.dat d2) :: some (.dat d3) :: List.replicate m none) := by
  have rep : ∀ {α : Type} (i : Nat) (r : α), (List.replicate m (none : Option α))[i]? = some (some r) → False := fun i r h => by
    have := List.mem_of_getElem? h
    have := (List.mem_replicate.mp this).2
    cases this
  refine ⟨by simp, fun i r h => ?_, fun i j c es fs h1 _ h3' _ => ?_⟩
  · match i, h with
    | 0, h => cases h; exact ⟨v0, rfl, h0⟩
    | 1, h => cases h; exact ⟨.ref a, rfl, a, xs, rfl, fr_none del_same, hi, hb, ha, hd⟩
    | 2, h => cases h; exact ⟨v2, rfl, h2⟩
    | 3, h => cases h; exact ⟨v3, rfl, h3⟩
    | i + 4, h => exact (rep i r h).elim
  · have only : ∀ (i : Nat) (es : List PyData), (some (DV.dat d0) :: some (.own ds) :: some (.dat d2) :: some (.dat d3) :: List.replicate m none)[i]? = some (some (.own es)) → i = 1 := fun i es h => by
      match i, h with
      | 0, h => cases h
      | 1, _ => rfl
      | 2, h => cases h
      | 3, h => cases h
      | i + 4, h => exact (rep i _ h).elim
    rw [only i es h1, only j fs h3']
theorem nb4 {m : Nat} {d0 d2 d3 : PyData} {ds : List PyData} (hm : 4 ≤ m) : NB m (some (.dat d0) :: some (.own ds) :: some (.dat d2) :: some (.dat d3) :: List.replicate (m - 4) none) := by
  refine ⟨by simp; omega, ?_⟩
  unfold noBor
  simp
theorem fn_m {P : Program} {w : World} {K : PySem.W.Frag} {mg : Str → Option Value} {base : Heap} {cls fa : Nat → Addr} {x qual : Str} {st : Stmt} {f : Addr} {fd : FuncData} {N ps : List Str} {k : Nat} {D : DS} (m : Nat) (F : Fun K x qual st f fd) (Sc : FnScope N ps (defScope st)) (hn : ps.length = 4) (hm : N.length = m) (hnm : 4 ≤ m)
    (hbody : ∀ (cdv : Value) (A : Around) (outer : List PySem.Env) (s : Shared) (H : Hp) (E : XK), Room k (A.deeper (envOfC qual (defScope st) s.heap.objs.size f cdv)) →
      JSsk (cxOf CX0 P w K mg base N qual (defScope st) f cdv A outer s H E).nox ⟨m, fun _ _ _ => False, cls, fa, fun _ => True⟩ 1 (defBody st) D) :
    FnOk P w K mg base CX0 (k + 1) f fd ps (spM K fa (wM m D)) := by
  subst hm
  refine F.ok Sc (fun vs H Q E h => ?_) (fun cdv A outer s H vs Q E hr h => ?_)
  · obtain ⟨b, I, v0, v2, v3, a, d0, d2, d3, xs, ds, R, rfl, _⟩ := h
    rw [hn]
    rfl
  · obtain ⟨b, I, v0, v2, v3, a, d0, d2, d3, xs, ds, R, rfl, k, hi, hb, ha, hd, h0, h2, h3, hw, q⟩ := h
    obtain ⟨t, h1, hc⟩ := hbody cdv A outer s H E hr
    refine ⟨t, h1, ?_⟩
    have sv := hc b I (del H a) ⟨fun _ _ => False, fa⟩ _ _ (nb4 hnm) ⟨rfl, (fun C fs d I' H' hx => by
      obtain ⟨_, _, z⟩ := hx
      exact z.elim), True.intro⟩ hw
    rw [start4 hnm]
    refine sv _ I H (ext_del (xs := xs) k hb hi) (env4 hi hb ha hd h0 h2 h3) _ (fun δ' σ' I' H' p e s n z => ?_) (fun _ _ _ _ z => z.elim) (fun _ _ _ _ z => z.2.elim) (fun _ _ _ _ z => z.2.elim)
    obtain ⟨_, es, e1, hp⟩ := p
    obtain ⟨v, e2, e3⟩ := n.at_ 1 _ e1
    rw [z] at e2
    cases e2
    obtain ⟨a', ys, e4, _, hi', _, ha', hd'⟩ := e3
    cases e4
    exact q I' H' ys es hp e hi' ha' hd'
/-! ### a call of it -/
theorem Ext.del {K : PySem.W.Frag} {b : Bg} {I0 H0 I H I2 H2 : Hp} {a : Addr} (e : Ext K b I0 H0 I H) (h0 : DL.Fr H0 a) (hb : a ≠ b.a) (e2 : Ext K b I (del H a) I2 H2) : Ext K b I0 H0 I2 H2 := by
  refine ⟨e.i.trans e2.i, fun x o n t h => ?_, fun x o n h t => ?_, fun l xs h => ?_, e2.s, e2.b⟩
  · have nx : x ≠ a := fun z => fr_not h0 (z ▸ h) t
    exact e2.h x o n t (by rw [del_ne nx]; exact e.h x o n t h)
  · have nx : x ≠ a := fun z => fr_not h0 (z ▸ h) t
    by_cases z : x = b.a
    · subst z
      obtain ⟨xs, q⟩ := e.b.lst
      exact e2.n _ _ (e.n _ o n h t) (by rw [del_ne nx]; exact q) lst_tbl
    · exact e2.n x o (e.n x o n h t) (by rw [del_ne nx]; exact e.h x o z t h) t
  · obtain ⟨ys, h1⟩ := e.k l xs h
    exact e2.k l ys (by rw [del_ne (fun z => hb z.symm)]; exact h1)
theorem EnvR.del {K : PySem.W.Frag} {b : Bg} {H0 I H I2 H2 : Hp} {σ : L2.St} {δ : En} {i : Nat} {a : Addr} {xs ys : List V} {ds es : List PyData} (n : EnvR K b H0 I H σ δ) (hbor : noBor δ = true) (hi : δ[i]? = some (some (.own ds))) (hs : σ[i]? = some (some (.ref a))) (h0 : DL.Fr H0 a) (hb : a ≠ b.a) (ha : H a = some (.lst xs)) (e2 : Ext K b I (L2.del H a) I2 H2)
    (hn2 : I2 a = none) (ha2 : H2 a = some (.lst ys)) (hd2 : DpAll K I2 ys es) : EnvR K b H0 I2 H2 σ (δ.set i (some (.own es))) := by
  have hlt : i < δ.length := (List.getElem?_eq_some_iff.mp hi).1
  refine ⟨by rw [List.length_set]; exact n.len, fun j r hj => ?_, fun j k c ds' es' h1 h2 h3 h4 => ?_⟩
  · by_cases z : i = j
    · subst z
      rw [List.getElem?_set_self hlt] at hj
      cases hj
      exact ⟨_, hs, a, ys, rfl, h0, hn2, hb, ha2, hd2⟩
    · rw [List.getElem?_set_ne z] at hj
      obtain ⟨w, g1, g2⟩ := n.at_ j r hj
      refine ⟨w, g1, ?_⟩
      cases r with
      | dat d => exact dp_mono e2.i g2
      | raw u => exact g2
      | bag => exact g2
      | dct own kvs =>
        obtain ⟨c, zs, rfl, q0, qn, qb, qa, qd⟩ := g2
        have nc : c ≠ a := fun zz => by
          subst zz
          rw [ha] at qa
          cases qa
        have qa' : (L2.del H a) c = some (DK.dctO c zs) := by rw [del_ne nc]; exact qa
        exact ⟨c, zs, rfl, q0, e2.n c _ qn qa' dct_tbl, qb, e2.h c _ qb dct_tbl qa', dctR_mono e2.i qd⟩
      | own es' =>
        obtain ⟨c, zs, rfl, q0, qn, qb, qa, qd⟩ := g2
        have nc : c ≠ a := fun zz => by
          subst zz
          exact z (n.nd i j c ds es' hi hs hj g1)
        have qa' : (L2.del H a) c = some (.lst zs) := by rw [del_ne nc]; exact qa
        exact ⟨c, zs, rfl, q0, e2.n c _ qn qa' lst_tbl, qb, e2.h c _ qb lst_tbl qa', dpa_mono e2.i qd⟩
      | bor es' => exact absurd hj (noBor_at hbor j es')
  · have fix : ∀ (m : Nat) xs, (δ.set i (some (.own es)))[m]? = some (some (.own xs)) → ∃ xs', δ[m]? = some (some (.own xs')) := fun m xs e => by
      by_cases z : i = m
      · subst z
        exact ⟨ds, hi⟩
      · rw [List.getElem?_set_ne z] at e
        exact ⟨xs, e⟩
    obtain ⟨x1, e1⟩ := fix j ds' h1
    obtain ⟨x2, e2⟩ := fix k es' h3
    exact n.nd j k c x1 x2 e1 h2 e2 h4
/-- f(x, held, e, y): held, a list of this def's own, is changed -/
def dLead (i0 i1 i3 : Nat) (W : WtM) (de : DE) : DS := fun c δ D => match δ[i0]?, δ[i1]?, δ[i3]? with
  | some (some (.dat d0)), some (some (.own ds)), some (some (.dat d3)) => de c δ fun r => match fz r with
    | .dat d2 => W [.dat d0, .own ds, .dat d2, .dat d3] (fun es => D.nx (δ.set i1 (some (.own es)))) ⟨fun _ _ => False, c.fa⟩
    | _ => False
  | _, _, _ => False
theorem cs_lead {K : PySem.W.Frag} {S : Sg} {i0 i1 i3 : Nat} {W : WtM} {E : XK} {t2 : TE} {de : DE} (h2 : DW.CE K S t2 de) : CS K S (tDrop (tCall (spM K S.fa W) [] E (tCons (tVar i0) (tCons (tVar i1) (tCons t2 (tCons (tVar i3) tNil)))))) (dLead i0 i1 i3 W de) := fun b I0 H0 c δ D nb ok p σ I H e n Dd a1 a2 a3 a4 => by
  unfold dLead at p
  split at p
  · rename_i d0 ds d3 g0 g1 g3
    obtain ⟨v0, s0, r0⟩ := n.at_ i0 _ g0
    obtain ⟨v1, s1, r1⟩ := n.at_ i1 _ g1
    obtain ⟨v3, s3, r3⟩ := n.at_ i3 _ g3
    obtain ⟨a, xs, rfl, hf, hi, hb, ha, hd⟩ := r1
    have r0 : Dp K I v0 d0 := r0
    have r3 : Dp K I v3 d3 := r3
    refine ⟨v0, s0, .ref a, s1, ev_fz (Q := fun r => match r with
      | .dat d2 => W [.dat d0, .own ds, .dat d2, .dat d3] (fun es => D.nx (δ.set i1 (some (.own es)))) ⟨fun _ _ => False, c.fa⟩
      | _ => False) (h2 b I0 H0 c δ _ nb ok p) σ I H e n _ fun r v I' H' hr x rs => ⟨v3, s3, ?_⟩⟩
    dsimp only at hr
    split at hr
    · rename_i d2
      have hn' : I' a = none := x.n a _ hi ha lst_tbl
      have ha' : H' a = some (.lst xs) := x.h a _ hb lst_tbl ha
      refine ⟨b, I', v0, v, v3, a, d0, d2, d3, xs, ds, _, rfl, x.ok, hn', hb, ha', dpa_mono x.i hd, dp_mono x.i r0, rs, dp_mono x.i r3, by rw [← ok.fa]; exact hr, fun I2 H2 ys es hp e2 hi2 ha2 hd2 => ?_⟩
      exact a1 _ σ I2 H2 ⟨nb_own nb, hp⟩ (Ext.del (e.trans x) hf hb e2) (x.i.trans e2.i) (EnvR.del (n.ext x) nb.nb g1 s1 hf hb ha' e2 hi2 ha2 hd2)
    · exact hr.elim
  · exact p.elim
section
variable {X : Cx} {S : Sg} {e0 e1 e2 e3 : Expr} {de : DE} {p pos pos' : Pos} {x : Str} {k : Nat} {f : Addr} {fd : FuncData} {ps : List Str} {W : WtM}
theorem js_lead {i0 i1 i3 : Nat} (F : FnOk X.prog X.w X.K X.mg X.base CX0 k f fd ps (spM X.K S.fa W)) (hr : Room k X.A) (hg : Gl X x) (hm : X.mg x = some (.ref f)) (hk : PySem.W.keepIn X.K (.ref f) = true) (hb : Binds X.K fd ps [])
    (h0 : PE X e0 (tVar i0)) (h1 : PE X e1 (tVar i1)) (h2 : JE X S e2 de) (h3 : PE X e3 (tVar i3)) (hp : ∀ {sp : Sp} {t : TA}, FnOk X.prog X.w X.K X.mg X.base CX0 k f fd ps sp → PA X [e0, e1, e2, e3] t → PS X (.Expr (.Call (.Name x p) [e0, e1, e2, e3] [] pos) pos') (tDrop (tCall sp [] (fun _ _ _ => False) t)))
    (hpa : ∀ {t2 : TE}, PE X e2 t2 → PA X [e0, e1, e2, e3] (tCons (tVar i0) (tCons (tVar i1) (tCons t2 (tCons (tVar i3) tNil))))) : JS X S (.Expr (.Call (.Name x p) [e0, e1, e2, e3] [] pos) pos') (dLead i0 i1 i3 W de) := by
  obtain ⟨t2, g1, g2⟩ := h2
  exact ⟨_, hp F (hpa g1), cs_lead g2⟩
end
end DW

set_option Elab.async false
set_option linter.all false
set_option maxRecDepth 100000
set_option maxHeartbeats 1000000
namespace DW
open PySem PySem.Spec PyProof.Rows L2 RZ DL
/-! ### C(e, ..) of a class of the program whose __init__ raises -/
def dMk (W : Wt) (da : DA) : DE := fun c δ _ => da c δ fun rs => rs.all isPl = true ∧ ∀ x : Addr, W (.raw (.ref x) :: rs) (fun _ => False) c
def dMkK (W : Wt) (is : List Nat) (da dk : DA) : DE := fun c δ _ => da c δ fun rs => dk c δ fun zs => rs.all isPl = true ∧ ∀ x : Addr, (pk is (.raw (.ref x) :: rs) zs).all isPl = true ∧ W (pk is (.raw (.ref x) :: rs) zs) (fun _ => False) c
section
variable {X : Cx} {S : Sg} {pos p : Pos} {x : Str} {k n : Nat} {f C : Addr} {fd : FuncData} {ps ks : List Str} {W : Wt} {e : Expr} {es : List Expr} {da dk : DA} {kws : List Keyword}
theorem je_make (M : Mk X.K C f) (F : FnOk X.prog X.w X.K X.mg X.base (L2.CX X.prog X.w) k f fd ps (spW X.K S.cls S.fa W)) (hr : Room (k + 1) X.A) (hg : Gl X x) (hm : X.mg x = some (.ref C)) (hb : Binds X.K fd ps []) (hx : Passes (L2.CX X.prog X.w) X S.E)
    (ha : JA X S (e :: es) da) (hdb : (x == ("__debug__" : Str)) = false := by decide) (he : starEach (e :: es) X.env = (false, eval e X.env) :: starEach es X.env := by rfl) (hpl : (backTo pos (starEach es X.env)).any (·.1) = false := by rfl) :
    JE X S (.Call (.Name x p) (e :: es) [] pos) (dMk W da) := by
  obtain ⟨t, a1, a2⟩ := ha
  refine ⟨_, pe_make M F hr hg hm hb .nil hx a1 hdb he hpl, fun b I0 H0 c δ P nb ok p σ I H k e Q q => ?_⟩
  refine a2 b I0 H0 c δ _ nb ok p σ I H k e _ fun rs vs I1 H1 ⟨_, pl, hw⟩ x1 r1 y dy hy hdy ne => ?_
  have x2 := x1.ok.newH (o := .own y) hdy
  have hy2 : upd H1 dy (.own y) y = none := by
    rw [upd_ne (fun z => ne z.symm)]
    exact hy
  have x3 := x2.ok.newH (o := .ins C dy []) hy2
  have r3 : ResA X.K b _ I1 _ vs rs := resA_now (r1.ext (x2.trans x3)) (isPl_own pl)
  rw [List.append_nil]
  exact ⟨(.raw (.ref y) :: rs, (fun _ => False), c), b, I1, x3.ok, .cons rfl r3, ⟨ok.fa, by rw [List.all_cons, pl]; rfl, hw y⟩, fun r v I' H' o => o.elim, fun C fs d I' H' he x4 h1 h2 => ok.xw C fs d I' H' he ((k.trans (x1.trans (x2.trans x3))).trans x4) h1 h2⟩
theorem je_makeK {is : List Nat} (M : Mk X.K C f) (F : FnOk X.prog X.w X.K X.mg X.base (L2.CX X.prog X.w) k f fd ps (spW X.K S.cls S.fa W)) (hr : Room (k + 1) X.A) (hg : Gl X x) (hm : X.mg x = some (.ref C)) (hb : KBn X.K fd ps (n + 1) ks (pk is) (pk is)) (hx : Passes (L2.CX X.prog X.w) X S.E)
    (ha : JA X S (e :: es) da) (hkw : JK X S kws dk) (hl : kws.length = ks.length := by rfl) (hn : (e :: es).length = n := by rfl) (hall : (backToKw pos (keywordEach kws X.env)).all (·.1.isSome) = true := by rfl) (hks : (backToKw pos (keywordEach kws X.env)).filterMap (·.1) = ks := by rfl) (hdb : (x == ("__debug__" : Str)) = false := by decide)
    (he : starEach (e :: es) X.env = (false, eval e X.env) :: starEach es X.env := by rfl) (hpl : ((backTo pos (starEach (e :: es) X.env)).any (·.1) || (backToKw pos (keywordEach kws X.env)).any (·.1.isNone)) = false := by rfl) :
    JE X S (.Call (.Name x p) (e :: es) kws pos) (dMkK W is da dk) := by
  obtain ⟨u, k1, k2⟩ := hkw
  obtain ⟨t, a1, a2⟩ := ha
  refine ⟨_, pe_makeK M F hr hg hm hb hx a1 k1 hall hks hdb he hpl, ?_⟩
  rw [hl] at k2
  rw [hn] at a2
  refine fun b I0 H0 c δ P nb ok p σ I H k e Q q => ?_
  refine a2 b I0 H0 c δ _ nb ok p σ I H k e _ fun rs vs I1 H1 ⟨l1, p1⟩ x1 r1 => ?_
  refine k2 b I0 H0 c δ _ nb ok p1 σ I1 H1 (k.trans x1) (e.ext x1) _ fun zs ws I2 H2 ⟨l2, pl, hw⟩ x2 r2 => ?_
  refine ⟨by rw [resA_len r1]; exact l1, by rw [resA_len r2]; exact l2, fun y dy hy hdy ne => ?_⟩
  have x3 := x2.ok.newH (o := .own y) hdy
  have hy2 : upd H2 dy (.own y) y = none := by
    rw [upd_ne (fun z => ne z.symm)]
    exact hy
  have x4 := x3.ok.newH (o := .ins C dy []) hy2
  have x34 := x3.trans x4
  have rr : ResA X.K b _ I2 _ (V.ref y :: vs) (.raw (.ref y) :: rs) := .cons (H0 := H1) rfl (resA_now (r1.ext (x2.trans x34)) (isPl_own pl) |>.since (fun _ h => (x2.trans x34).free h))
  have rz : ResA X.K b H1 I2 _ ws zs := r2.ext x34
  exact ⟨(pk is (.raw (.ref y) :: rs) zs, (fun _ => False), c), b, I2, x4.ok, resA_now (pk_res is rr rz) (isPl_own (hw y).1), ⟨ok.fa, hw y⟩, fun r v I' H' o => o.elim, fun C fs d I' H' he x5 h1 h2 => ok.xw C fs d I' H' he ((k.trans (x1.trans (x2.trans x34))).trans x5) h1 h2⟩
end
end DW

set_option Elab.async false
set_option linter.all false
set_option maxRecDepth 100000
set_option maxHeartbeats 1000000
/-! the head by one run, its facts by names -/
namespace HX
open PySem PySem.Spec PyProof.Rows L2 DL DW
/-- a def as the head tells it; an __init__ -/
abbrev dd (a x : Str) (st : Stmt) : He.DefD := ⟨(a, none), x, x, defArgs st, defBody st, defScope st, [], []⟩
abbrev dk (a x : Str) (st : Stmt) (y : Str) (i : Int) : He.DefD := ⟨(a, none), x, x, defArgs st, defBody st, defScope st, [], [(y, .int i)]⟩
abbrev di (c q : Str) (st : Stmt) : He.DefD := ⟨(c, some "__init__"), "__init__", q, defArgs st, defBody st, defScope st, [], []⟩
theorem fun_of {K : PySem.W.Frag} {x q : Str} {st : Stmt} {kws : List (Str × V)} {f : Addr} {fd : FuncData} (F : FunD K x q (defArgs st) (defBody st) (defScope st) [] kws f fd) : Fun K x q st f fd := by
  obtain ⟨oc, od, dV, kV, doc, pm, an, cdv, ct, osl, e, lk, cd, d, _⟩ := F.ex
  have e2 : dV = .none := by
    rcases d with ⟨_, h⟩ | ⟨h, _⟩
    · exact h
    · exact absurd rfl h
  subst e2
  exact ⟨⟨oc, od, kV, doc, pm, an, cdv, ct, osl, e, lk, cd⟩, F.kp⟩
/-- a class of errors under ValueError -/
def exB (K : PySem.W.Frag) (C : Addr) : Bool := match K.lookup C with
  | some ⟨.type c, _, .cls cd, sl⟩ => (match cd.mro, sl.toList with
    | .ref C' :: bm, [_, _, _, _, some (.builtin n), _] => decide (c = "type") && (decide (C' = C) && (decide (n = "ValueError.__new__") && (!cd.hasDel && (cd.hasDict && PySem.HandSPX.refsVE bm))))
    | _, _ => false)
  | _ => false
theorem exB_ok {K : PySem.W.Frag} {C : Addr} (h : exB K C = true) : ∃ nm q N bs bm sn sub ab col dd k0 k1 k2 k3 k5, K.lookup C = some (excClassObj nm q C N bs bm true sn sub ab col dd k0 k1 k2 k3 k5 "ValueError.__new__") ∧ PySem.HandSPX.refsVE bm = true := by
  unfold exB at h
  split at h
  · rename_i c dd cd sl ho
    split at h
    · rename_i C' bm k0 k1 k2 k3 n k5 hm hs
      obtain ⟨h1, h⟩ := He.ba h
      obtain ⟨h2, h⟩ := He.ba h
      obtain ⟨h3, h⟩ := He.ba h
      obtain ⟨h4, h⟩ := He.ba h
      obtain ⟨h5, h6⟩ := He.ba h
      have e1 := of_decide_eq_true h1
      have e2 := of_decide_eq_true h2
      have e3 := of_decide_eq_true h3
      subst e1 e2 e3
      obtain ⟨nm, bs, mro, ns, qn, hd, sn, sub, ab, col, del⟩ := cd
      dsimp only at hm h4 h5
      have h4' : del = false := by simpa using h4
      subst hm h4' h5
      have hsl : sl = #[k0, k1, k2, k3, some (.builtin "ValueError.__new__"), k5] := by
        obtain ⟨l⟩ := sl
        simp only at hs
        rw [hs]
      subst hsl
      exact ⟨_, _, _, _, bm, _, _, _, _, _, _, _, _, _, _, ho, h6⟩
    · cases h
  · cases h
/-- all that is asked of it -/
def clsX (K : PySem.W.Frag) (x : Str) (fs : List Str) : Bool :=
  exB K (He.ga K x) && (He.eqO (PySem.W.findIn K (.ref (He.ga K x)) "__setattr__") (some (some (.builtin "object.__setattr__"))) && (decide (PySem.W.subIn K (.ref (He.ga K x)) (.type "BaseException") = some true) && (decide (PySem.W.typeIn K (.ref (He.ga K x)) = some (.type "type")) && (PySem.W.keepIn K (.ref (He.ga K x)) && (xfB K (He.ga K x) &&
    (decide (PySem.W.typeIn K (.ref (He.ma K (He.ga K x) "__init__")) = some (.type "function")) && (He.eqO (PySem.W.findIn K (.ref (He.ga K x)) "__init__") (some (some (.ref (He.ma K (He.ga K x) "__init__")))) && fs.all fun f => He.eqO (PySem.W.findIn K (.ref (He.ga K x)) f) (some none))))))))
structure ClsG (K : PySem.W.Frag) (C fI : Addr) (fs : List Str) : Prop where
  o : OexC K C
  f : XfC K C
  ti : PySem.W.typeIn K (.ref fI) = some (.type "function")
  ii : PySem.W.findIn K (.ref C) "__init__" = some (some (.ref fI))
  nf : ∀ f ∈ fs, PySem.W.findIn K (.ref C) f = some none
theorem clsX_ok {K : PySem.W.Frag} {x : Str} {fs : List Str} (h : clsX K x fs = true) : ClsG K (He.ga K x) (He.ma K (He.ga K x) "__init__") fs := by
  obtain ⟨h1, h⟩ := He.ba h
  obtain ⟨h2, h⟩ := He.ba h
  obtain ⟨h3, h⟩ := He.ba h
  obtain ⟨h4, h⟩ := He.ba h
  obtain ⟨h5, h⟩ := He.ba h
  obtain ⟨h6, h⟩ := He.ba h
  obtain ⟨h7, h⟩ := He.ba h
  obtain ⟨h8, h⟩ := He.ba h
  exact ⟨⟨exB_ok h1, He.eqO_ok h2, of_decide_eq_true h3, of_decide_eq_true h4, h5⟩, xfB_ok h6, of_decide_eq_true h7, He.eqO_ok h8, fun f hf => He.eqO_ok (List.all_eq_true.mp h f hf)⟩
/-- a key of a table, a def -/
def keyB (K : PySem.W.Frag) (x k f : Str) : Bool := He.eqO (PySem.W.nsIn K (He.ga K x) k) (some (some (.ref (He.ga K f))))
theorem keyB_ok {K : PySem.W.Frag} {x k f : Str} (h : keyB K x k f = true) : PySem.W.nsIn K (He.ga K x) k = some (some (.ref (He.ga K f))) := He.eqO_ok h
theorem tab_ok {K : PySem.W.Frag} {w : World} {a : Addr} (h : ∃ es n, KDict K w a es n) : ∃ es n, K.lookup a = some ⟨.type "dict", none, .dict es n, #[]⟩ ∧ PySem.W.KeysLit w.params es.toList := by
  obtain ⟨es, n, h1, h2, _⟩ := h
  exact ⟨es, n, h1, h2⟩
def strX (K : PySem.W.Frag) (x : Str) (ss : List Str) : Bool := strTupB K (He.ga K x) ss
end HX

set_option Elab.async false
set_option linter.all false
set_option maxRecDepth 100000
set_option maxHeartbeats 1000000
/-! a hook that looks at what some names reach, not all -/
namespace HX
open PySem PySem.Spec PyProof.Rows L2 DL DW
def topAs (g : Addr → Option Obj) (names : List Str) : List Addr := match g mainGlobals with
  | some o => (match o.data with
    | .dict es _ => es.toList.flatMap fun e => match names.any (fun x => e.key.isStr x) with
      | true => He.refV e.val
      | false => []
    | _ => [])
  | none => []
def upAs (g : Addr → Option Obj) (as : List Addr) : List Addr := as.flatMap fun a => match g a with
  | some o => He.refsD o
  | none => []
def accL (g : Addr → Option Obj) : Nat → List Addr → List Addr
  | 0, f => f
  | n + 1, f => f ++ accL g n (upAs g f)
def asL (g : Addr → Option Obj) (names : List Str) (n : Nat) : List Addr := mainGlobals :: accL g n (topAs g names)
def obsL (names : List Str) (n : Nat) (fa : List He.Fa) (fn : List He.DefD) (ts : List He.Tab) (tf : List He.Defn) (ex : PySem.W.Frag → Bool) (g : Addr → Option Obj) : He.AlX := (He.obsT fa fn ts (He.frT g (asL g names n)), ex (He.frT g (asL g names n)) && He.tabsB g tf (He.frT g (asL g names n)))
theorem saysL_of {names : List Str} {n : Nat} {fa : List He.Fa} {fn : List He.DefD} {ts : List He.Tab} {tf : List He.Defn} {ex : PySem.W.Frag → Bool} {w : World} {h : Heap} (e : obsL names n fa fn ts tf ex h.get? = He.valX fn ts w) : He.SaysX fa fn ts tf ex w h (He.frT h.get? (asL h.get? names n)) := by
  have e1 := congrArg Prod.fst e
  have e2 := congrArg Prod.snd e
  obtain ⟨m1, m2⟩ := Bool.and_eq_true_iff.mp e2
  have all := List.all_eq_true.mp m2
  have tab : ∀ p ∈ tf, ∃ o, h.get? (He.cT (He.frT h.get? (asL h.get? names n)) p).2 = some o ∧ He.emptyTab o = true := fun p hp => by
    obtain ⟨_, v⟩ := Bool.and_eq_true_iff.mp (all p hp)
    cases q : h.get? (He.cT (He.frT h.get? (asL h.get? names n)) p).2 with
    | none => rw [q] at v; cases v
    | some o => rw [q] at v; exact ⟨o, rfl, v⟩
  refine ⟨e1, m1, fun p hp => (Bool.and_eq_true_iff.mp (all p hp)).1, fun p hp => ?_, fun p hp => ?_⟩
  · obtain ⟨o, q, z⟩ := tab p hp
    exact He.frT_none q z
  · obtain ⟨o, q, z⟩ := tab p hp
    rw [q, He.emptyTab_eq z]
def hookL (names : List Str) (n : Nat) (fa : List He.Fa) (fn : List He.DefD) (ts : List He.Tab) (tf : List He.Defn) (ex : PySem.W.Frag → Bool) : PySem.W.Hook where
  α := He.AlX
  obs := fun s => obsL names n fa fn ts tf ex s.heap.get?
  val := fun w => He.valX fn ts w
  says := fun w h => ∃ K : PySem.W.Frag, K.In h ∧ He.SaysX fa fn ts tf ex w h K
  of := fun _ _ e => ⟨_, He.frT_in, saysL_of e⟩
  keeps := fun _ _ _ ⟨K, hK, c⟩ k => ⟨K, PySem.W.Frag.In.keeps hK k, ⟨c.t, c.more, c.hd, c.out, fun p hp => k _ _ (c.empty p hp)⟩⟩
theorem obsL_eq {names : List Str} {n : Nat} {fa : List He.Fa} {fn : List He.DefD} {ts : List He.Tab} {tf : List He.Defn} {ex : PySem.W.Frag → Bool} {g : Addr → Option Obj} {s : Shared} (h : ∀ a, g a = s.heap.get? a) : obsL names n fa fn ts tf ex g = (hookL names n fa fn ts tf ex).obs s := by
  have e : g = s.heap.get? := funext h
  rw [e] <;> rfl
end HX

set_option Elab.async false
set_option linter.all false
set_option maxRecDepth 100000
set_option maxHeartbeats 4000000
namespace DW
open PySem PySem.Spec PyProof.Rows L2 RZ DL
theorem isPl_dat {d : PyData} : isPl (.dat d) = true := rfl
theorem isPl_raw {v : V} : isPl (.raw v) = true := rfl
theorem isPl_bag : isPl .bag = true := rfl

/-! ### walks by an invariant -/
theorem forGo_inv {c : Cn} {tf : Tf} {db : DS} {D : Ed} {δ : En} {items : List PyData} (J : Nat → En → Prop) (h0 : J 0 δ)
    (hs : ∀ (k : Nat) d δk, items[k]? = some d → J k δk → ∀ N : En → Prop, (∀ δ', J (k + 1) δ' → N δ') → ∃ δ', tf d δk = some δ' ∧ db c δ' ⟨N, D.rt, D.nx, N⟩) (hn : ∀ δn, J items.length δn → D.nx δn) : forGo c tf db D items δ := by
  have go : ∀ (l : List PyData) (k : Nat) (δk : En), items.drop k = l → J k δk → k + l.length = items.length → forGo c tf db D l δk := by
    intro l
    induction l with
    | nil =>
      intro k δk _ hj hl
      have e : k = items.length := by simpa using hl
      subst e
      exact hn δk hj
    | cons d l ih =>
      intro k δk hd hj hl
      have hk : k < items.length := by
        rw [List.length_cons] at hl
        omega
      have e := List.drop_eq_getElem_cons hk
      rw [e] at hd
      injection hd with h1 h2
      have hg : items[k]? = some d := by rw [List.getElem?_eq_getElem hk, h1]
      obtain ⟨δ', e1, e2⟩ := hs k d δk hg hj (forGo c tf db D l) fun δ'' hj' => ih (k + 1) δ'' h2 hj' (by
        rw [List.length_cons] at hl
        omega)
      unfold forGo
      rw [e1]
      exact e2
  exact go items 0 δ rfl h0 (by simp)
theorem forGo_nil {c : Cn} {tf : Tf} {db : DS} {D : Ed} {δ : En} : forGo c tf db D [] δ = D.nx δ := rfl
theorem forGo_cons {c : Cn} {tf : Tf} {db : DS} {D : Ed} {δ δ' : En} {d : PyData} {ds : List PyData} (h : tf d δ = some δ') : forGo c tf db D (d :: ds) δ = db c δ' ⟨forGo c tf db D ds, D.rt, D.nx, forGo c tf db D ds⟩ := by
  show (match tf d δ with
    | some δ' => db c δ' ⟨forGo c tf db D ds, D.rt, D.nx, forGo c tf db D ds⟩
    | none => False) = _
  rw [h]
/-! ### comprehensions -/
theorem lc_rel {β : Type} {step : PyData → (Option DV → Prop) → Prop} {P : List PyData → Prop} {l : List β} {gI : β → PyData} {f : β → Bool} {R : β → PyData → Prop}
    (h : ∀ x ∈ l, ∀ k : Option DV → Prop, (f x = true → ∀ y, R x y → k (some (.dat y))) → (f x = false → k none) → step (gI x) k) (hP : ∀ ys, Paired R (l.filter f) ys → P ys) : lcGo step (l.map gI) P := by
  induction l generalizing P with
  | nil => exact hP [] .nil
  | cons x l ih =>
    show step (gI x) _
    refine h x (List.mem_cons_self ..) _ (fun hf y hy => ?_) fun hf => ?_
    · refine ih (fun z hz => h z (List.mem_cons_of_mem _ hz)) fun ys hp => hP (y :: ys) ?_
      rw [List.filter_cons, if_pos hf]
      exact .cons hy hp
    · refine ih (fun z hz => h z (List.mem_cons_of_mem _ hz)) fun ys hp => hP ys ?_
      rw [List.filter_cons, if_neg (by rw [hf]; decide)]
      exact hp
/-- no test -/
theorem lc_all {β : Type} {step : PyData → (Option DV → Prop) → Prop} {P : List PyData → Prop} {l : List β} {gI : β → PyData} {R : β → PyData → Prop}
    (h : ∀ x ∈ l, ∀ k : Option DV → Prop, (∀ y, R x y → k (some (.dat y))) → step (gI x) k) (hP : ∀ ys, Paired R l ys → P ys) : lcGo step (l.map gI) P :=
  lc_rel (f := fun _ => true) (R := R) (fun x hx k h1 _ => h x hx k fun y hy => h1 rfl y hy) fun ys hp => hP ys (by
    have e : l.filter (fun _ => true) = l := by simp
    rw [e] at hp
    exact hp)
/-- ints -/
theorem lc_ints {β : Type} {step : PyData → (Option DV → Prop) → Prop} {P : List PyData → Prop} {l : List β} {gI : β → PyData} {R : β → Int → Prop}
    (h : ∀ x ∈ l, ∀ k : Option DV → Prop, (∀ i, R x i → k (some (dint i))) → step (gI x) k) (hP : ∀ ns : List Int, Paired R l ns → P (ns.map .int)) : lcGo step (l.map gI) P :=
  lc_all (R := fun x y => ∃ i : Int, y = .int i ∧ R x i) (fun x hx k h1 => h x hx k fun i hi => h1 _ ⟨i, rfl, hi⟩) fun ys hp => by
    obtain ⟨ns, e, hq⟩ := paired_ints hp
    rw [e]
    exact hP ns hq
/-- told one by one -/
theorem lc_map {β : Type} {step : PyData → (Option DV → Prop) → Prop} {P : List PyData → Prop} {l : List β} {gI : β → PyData} (g : β → PyData)
    (h : ∀ x ∈ l, ∀ k : Option DV → Prop, k (some (.dat (g x))) → step (gI x) k) (hP : P (l.map g)) : lcGo step (l.map gI) P :=
  lc_all (R := fun x y => y = g x) (fun x hx k h1 => h x hx k (h1 _ rfl)) fun ys hp => by
    rw [paired_fun hp]
    exact hP
theorem lc_filt {β : Type} {step : PyData → (Option DV → Prop) → Prop} {P : List PyData → Prop} {l : List β} {gI : β → PyData} (f : β → Bool) (g : β → PyData)
    (h : ∀ x ∈ l, ∀ k : Option DV → Prop, (f x = true → k (some (.dat (g x)))) → (f x = false → k none) → step (gI x) k) (hP : P ((l.filter f).map g)) : lcGo step (l.map gI) P :=
  lc_rel (f := f) (R := fun x y => y = g x) (fun x hx k h1 h2 => h x hx k (fun hf => h1 hf _ rfl) h2) fun ys hp => by
    rw [paired_fun hp]
    exact hP
theorem paired_mem {α β : Type} {F : α → β → Prop} : ∀ {l : List α} {m : List β}, Paired F l m → ∀ y ∈ m, ∃ x ∈ l, F x y
  | _, _, .nil, _, h => by cases h
  | _, _, .cons r t, y, h => by
    rcases List.mem_cons.mp h with e | e
    · exact ⟨_, List.mem_cons_self .., e ▸ r⟩
    · obtain ⟨x, hx, hf⟩ := paired_mem t y e
      exact ⟨x, List.mem_cons_of_mem _ hx, hf⟩
/-! ### items -/
/-- the i-th number -/
def at_ (ns : List Int) (i : Int) : Int := ns.getD i.toNat 0
theorem atD_at {ns : List Int} {i : Int} (h0 : 0 ≤ i) (h1 : i < ns.length) : atD (ns.map .int) i = some (.int (at_ ns i)) := by
  rw [atD_nat h0, List.getElem?_map]
  have h : i.toNat < ns.length := by omega
  rw [List.getElem?_eq_getElem h]
  unfold at_
  rw [List.getD_eq_getElem?_getD, List.getElem?_eq_getElem h]
  rfl
theorem ix_at {ns : List Int} {i : Int} (h0 : 0 ≤ i) (h1 : i < ns.length) : (ns.map PyData.int)[i.toNat]? = some (.int (at_ ns i)) := by
  rw [← atD_nat h0]
  exact atD_at h0 h1
theorem ixN_at {n : Nat} {i : Int} (h0 : 0 ≤ i) (h1 : i < n) : ixN n i = some i.toNat := by
  unfold ixN
  rw [if_pos h0, if_pos (by omega)]
theorem set_at {ns : List Int} {j : Nat} {x : Int} : (ns.map PyData.int).set j (.int x) = (ns.set j x).map .int := by
  rw [List.map_set]
theorem map_cons_int {i : Int} {ns : List Int} : PyData.int i :: ns.map .int = (i :: ns).map .int := rfl
end DW
namespace DW
open PySem PySem.Spec PyProof.Rows L2 RZ DL
theorem enumD_get {ds : List PyData} {k : Nat} {d : PyData} (h : (enumD ds)[k]? = some d) : ∃ x, ds[k]? = some x ∧ d = .tuple [.int (k : Int), x] := by
  unfold enumD at h
  rw [List.getElem?_map, List.getElem?_zipIdx] at h
  cases q1 : ds[k]? with
  | none => rw [q1] at h; cases h
  | some x =>
    rw [q1] at h
    refine ⟨x, rfl, ?_⟩
    have := (Option.some.inj h).symm
    simpa using this
theorem enumD_ints {ns : List Int} {k : Nat} {d : PyData} (h : (enumD (ns.map .int))[k]? = some d) : k < ns.length ∧ d = .tuple [.int (k : Int), .int (at_ ns k)] := by
  obtain ⟨x, h1, h2⟩ := enumD_get h
  rw [List.getElem?_map] at h1
  cases q : ns[k]? with
  | none => rw [q] at h1; cases h1
  | some n =>
    rw [q] at h1
    have hk := (List.getElem?_eq_some_iff.mp q).1
    refine ⟨hk, ?_⟩
    rw [h2, ← Option.some.inj h1]
    have : at_ ns (k : Int) = n := by
      unfold at_
      rw [List.getD_eq_getElem?_getD]
      simp [q]
    rw [this]
theorem at_mem {ns : List Int} {i : Int} (h0 : 0 ≤ i) (h1 : i < ns.length) : at_ ns i ∈ ns := by
  unfold at_
  have h : i.toNat < ns.length := by omega
  rw [List.getD_eq_getElem?_getD, List.getElem?_eq_getElem h]
  exact List.getElem_mem h
end DW
namespace DW
open PySem PySem.Spec PyProof.Rows L2 RZ DL
theorem sh_int {i : Int} : SeqAt.shaped (.int i) = true := rfl
/-- a text that can be laid -/
abbrev OkS (i : Str) : Prop := PyData.canLay0 (.str i) = true
theorem sh_str {i : Str} (h : OkS i) : SeqAt.shaped (.str i) = true := by
  unfold SeqAt.shaped
  rw [h]
  rfl
theorem sh_bl {i : Bool} : SeqAt.shaped (.bool i) = true := rfl
theorem sh_non : SeqAt.shaped .none = true := rfl
theorem eqv_ii {i j : Int} : PyData.eqv (.int i) (.int j) = decide (i = j) := by
  rw [PyData.eqv]
  by_cases h : i = j
  · subst h; simp
  · simp [h]
theorem eqv_ss {i j : Str} : PyData.eqv (.str i) (.str j) = decide (i = j) := by
  rw [PyData.eqv]
  by_cases h : i = j
  · subst h; simp
  · simp [h]
theorem anyS (k : Str) (ss : List Str) : ((ss.map PyData.str).any fun z => PyData.eqv z (.str k)) = decide (k ∈ ss) := by
  induction ss with
  | nil => simp
  | cons s ss ih =>
    rw [List.map_cons, List.any_cons, ih, eqv_ss]
    by_cases h : s = k
    · subst h; simp
    · have h' : ¬ k = s := fun z => h z.symm
      simp [h, h']
theorem anyI (k : Int) (ns : List Int) : ((ns.map PyData.int).any fun z => PyData.eqv z (.int k)) = decide (k ∈ ns) := by
  induction ns with
  | nil => simp
  | cons s ss ih =>
    rw [List.map_cons, List.any_cons, ih, eqv_ii]
    by_cases h : s = k
    · subst h; simp
    · have h' : ¬ k = s := fun z => h z.symm
      simp [h, h']
theorem fl_strs (ss : List Str) : (ss.map PyData.str).all flD = true := by
  induction ss with
  | nil => rfl
  | cons s ss ih => rw [List.map_cons, List.all_cons, ih]; rfl
theorem fl_ints (ss : List Int) : (ss.map PyData.int).all flD = true := by
  induction ss with
  | nil => rfl
  | cons s ss ih => rw [List.map_cons, List.all_cons, ih]; rfl
theorem cut_mid {ds : List PyData} {a b : Nat} (h : a ≤ ds.length) (hb : b ≤ ds.length) : cutD ds (some (a : Int)) (some (b : Int)) = (ds.drop a).take (b - a) := by
  unfold DL.cutD
  rw [HT.sIx_nat, HT.sIx_nat, Nat.min_eq_left h, Nat.min_eq_left hb]
theorem cut_from {ds : List PyData} {a : Nat} (h : a ≤ ds.length) : cutD ds (some (a : Int)) none = ds.drop a := by
  unfold DL.cutD
  rw [HT.sIx_nat, HT.sIx_none, Nat.min_eq_left h]
  exact List.take_of_length_le (by rw [List.length_drop]; exact Nat.le_refl _)
theorem cut_to {ds : List PyData} {b : Nat} : cutD ds none (some (b : Int)) = ds.take b := by
  unfold DL.cutD
  rw [HT.sIx_none, HT.sIx_nat, List.drop_zero, Nat.sub_zero, Nat.min_def]
  split
  · rfl
  · rw [List.take_length, List.take_of_length_le (by omega)]
theorem w_eq {a b : Str} (h : decide (a = b) = true) : (a = b) = True := eq_true (of_decide_eq_true h)
theorem w_ne {a b : Str} (h : decide (a = b) = false) : (a = b) = False := eq_false (of_decide_eq_false h)
theorem oks_over : SeqAt.shaped (.str "over") = true := by decide +kernel
theorem oks_down : SeqAt.shaped (.str "down") = true := by decide +kernel
theorem oks_swap : SeqAt.shaped (.str "swap") = true := by decide +kernel
theorem oks_tap : SeqAt.shaped (.str "tap") = true := by decide +kernel
theorem oks_drain : SeqAt.shaped (.str "drain") = true := by decide +kernel
end DW
namespace DW
open PySem PySem.Spec PyProof.Rows L2 RZ DL
theorem atD_0 {d : PyData} {ds : List PyData} : atD (d :: ds) 0 = some d := by rw [atD_nat (by omega)]; rfl
theorem atD_1 {d e : PyData} {ds : List PyData} : atD (d :: e :: ds) 1 = some e := by rw [atD_nat (by omega)]; rfl
theorem atD_2 {d e f : PyData} {ds : List PyData} : atD (d :: e :: f :: ds) 2 = some f := by rw [atD_nat (by omega)]; rfl
end DW
namespace DW
open PySem PySem.Spec PyProof.Rows L2 RZ DL
/-- data that can be laid, not too deep -/
def Lay (n : Nat) (d : PyData) : Prop := PyData.canLay0 d = true ∧ PyData.depth d ≤ n
theorem lay_all {n : Nat} {ds : List PyData} (h : ∀ d ∈ ds, Lay n d) : PyData.canLayAll0 ds = true ∧ PyData.depthAll ds ≤ n := by
  induction ds with
  | nil => exact ⟨rfl, Nat.zero_le _⟩
  | cons d ds ih =>
    obtain ⟨h1, h2⟩ := ih fun x hx => h x (List.mem_cons_of_mem _ hx)
    obtain ⟨h3, h4⟩ := h d (List.mem_cons_self ..)
    refine ⟨?_, ?_⟩
    · rw [PyData.canLayAll0, h1, h3]
      rfl
    · rw [PyData.depthAll]
      omega
theorem lay_list {n : Nat} {ds : List PyData} (h : ∀ d ∈ ds, Lay n d) : Lay (n + 1) (.list ds) := by
  obtain ⟨h1, h2⟩ := lay_all h
  refine ⟨by rw [PyData.canLay0]; exact h1, ?_⟩
  rw [PyData.depth]
  omega
theorem lay_tup {n : Nat} {ds : List PyData} (h : ∀ d ∈ ds, Lay n d) : Lay (n + 1) (.tuple ds) := by
  obtain ⟨h1, h2⟩ := lay_all h
  refine ⟨by rw [PyData.canLay0]; exact h1, ?_⟩
  rw [PyData.depth]
  omega
theorem lay_int {n : Nat} {i : Int} : Lay n (.int i) := ⟨rfl, Nat.zero_le _⟩
theorem lay_str {n : Nat} {i : Str} (h : PyData.canLay0 (.str i) = true) : Lay n (.str i) := ⟨h, Nat.zero_le _⟩
theorem lay_bl {n : Nat} {i : Bool} : Lay n (.bool i) := ⟨rfl, Nat.zero_le _⟩
theorem lay_non {n : Nat} : Lay n .none := ⟨rfl, Nat.zero_le _⟩
theorem Lay.sh {n : Nat} {d : PyData} (h : Lay n d) (hn : n ≤ 64) : SeqAt.shaped d = true := by
  unfold SeqAt.shaped
  rw [h.1, decide_eq_true (by have := h.2; omega)]
  rfl
theorem lay_nums {n : Nat} {ns : List Int} : Lay (n + 1) (nums ns) := lay_tup fun d hd => by
  obtain ⟨i, _, rfl⟩ := List.mem_map.mp hd
  exact lay_int
theorem cl_over : PyData.canLay0 (.str "over") = true := by decide +kernel
theorem cl_down : PyData.canLay0 (.str "down") = true := by decide +kernel
theorem cl_swap : PyData.canLay0 (.str "swap") = true := by decide +kernel
theorem cl_tap : PyData.canLay0 (.str "tap") = true := by decide +kernel
theorem cl_drain : PyData.canLay0 (.str "drain") = true := by decide +kernel
mutual
theorem eqv_self : ∀ {n : Nat} {d : PyData}, PyData.canLay0 d = true → PyData.eqv d d = true
  | _, .none, _ => rfl
  | _, .bool b, _ => by simp [PyData.eqv]
  | _, .int i, _ => by simp [PyData.eqv]
  | _, .str s, _ => by simp [PyData.eqv]
  | n, .list ds, h => by
    rw [PyData.eqv]
    exact eqvAll_self (n := n) (by rw [PyData.canLay0] at h; exact h)
  | n, .tuple ds, h => by
    rw [PyData.eqv]
    exact eqvAll_self (n := n) (by rw [PyData.canLay0] at h; exact h)
  | _, .dict _, h => by simp [PyData.canLay0] at h
theorem eqvAll_self : ∀ {n : Nat} {ds : List PyData}, PyData.canLayAll0 ds = true → PyData.eqvAll ds ds = true
  | _, [], _ => rfl
  | n, d :: ds, h => by
    rw [PyData.canLayAll0] at h
    obtain ⟨h1, h2⟩ := Bool.and_eq_true_iff.mp h
    rw [PyData.eqvAll, eqv_self (n := n) h1, eqvAll_self (n := n) h2]
    rfl
end
theorem deed_1 {w : Str} {n : Int} {l : List Int} : atD (.str w :: (n :: l).map PyData.int) 1 = some (.int n) := atD_1
theorem deed_cut {w : Str} {n : Int} {l : List Int} : cutD (.str w :: (n :: l).map PyData.int) (some 2) none = l.map .int := cut_from (a := 2) (by simp)
theorem ks_0 {k : Int} {l : List Int} : atD ((k :: l).map PyData.int) 0 = some (.int k) := atD_0
theorem ks_cut {k : Int} {l : List Int} : cutD ((k :: l).map PyData.int) (some 1) none = l.map .int := cut_from (a := 1) (by simp)
end DW

set_option Elab.async false
set_option linter.all false
set_option maxRecDepth 100000
set_option maxHeartbeats 4000000
namespace DW
open PySem PySem.Spec PyProof.Rows L2 RZ DL
theorem sq_in {a b : DS} {c : Cn} {δ : En} {D : Ed} (h : a c δ ⟨later b c D, D.rt, D.bk, D.ct⟩) : dSeq a b c δ D := h
theorem lt_in {b : DS} {c : Cn} {δ : En} {D : Ed} (h : b c δ D) : later b c D δ := h
theorem nx_in {b : DS} {c : Cn} {δ : En} {D : Ed} {r : DP} {bk ct : En → Prop} (h : b c δ D) : (⟨later b c D, r, bk, ct⟩ : Ed).nx δ := h
end DW

set_option Elab.async false
set_option linter.all false
set_option maxRecDepth 100000
set_option maxHeartbeats 4000000
namespace DW
open PySem PySem.Spec PyProof.Rows L2 RZ DL
/-- an if whose test is known, up to computation -/
theorem ifT {b : Bool} {A B : Prop} (h : b = true) (p : A) : if b = true then A else B := by rw [if_pos h]; exact p
theorem ifF {b : Bool} {A B : Prop} (h : b = false) (p : B) : if b = true then A else B := by rw [if_neg (by rw [h]; decide)]; exact p
end DW

set_option Elab.async false
set_option linter.all false
set_option maxRecDepth 100000
set_option maxHeartbeats 4000000
namespace DW
open PySem PySem.Spec PyProof.Rows L2 RZ DL
end DW

set_option Elab.async false
set_option linter.all false
set_option maxRecDepth 100000
set_option maxHeartbeats 4000000
namespace Lw
open PySem PySem.Spec PyProof.Rows L2 DL DW
abbrev told0 : PyData := .str "none"
def aft : Nat → List (Str × V) → Option PyData := fun s fs => if s = 0 then (fs.lookup ("cask" : Str)).bind vD else none
abbrev mk_BadSizes (vs : List V) : List (Str × V) := [("cask", vs.getD 0 .non), ("word", .str "bad sizes")]
def D_look_sizes : DS := (dSeq (dIfS (dNot (dTst (dChain oLe oLe (dC (dint 1)) (dCb bLen (dCons (dVar 0) dNil)) (dC (dint (6)))))) (dRaise 0 mk_BadSizes (dCons (dUn oNeg (dC (dint 1))) dNil)) dNext)
    (dFor (dIEnum (dCons (dVar 0) dNil)) (tfPair 1 2) (dIfS (dNot (dTst (dChain oLe oLe (dC (dint 1)) (dVar 2) (dC (dint (40)))))) (dRaise 0 mk_BadSizes (dCons (dVar 1) dNil)) dNext)))
def W_look_sizes : Wt := wFn 1 3 D_look_sizes

def D_look_stand : DS := (dSeq (dExpr (dCall W_look_sizes (dCons (dVar 0) dNil)))
    (dSeq (dIfS (dTst (dBin oGt (dCb bLen (dCons (dVar 1) dNil)) (dC (dint (60))))) dNever dNext)
    (dSeq (dAsg 2 (dCb bList (dCons (dVar 0) dNil)))
    (dFor (dIEnum (dCons (dVar 1) dNil)) (tfPair 3 4) (dSeq (dIfS (dTst (dBin (oEq false) (dVar 4) (dC (dint (-1))))) dCnt dNext)
    (dSeq (dIfS (dOr (dNot (dTst (dChain oLe oLt (dC (dint 0)) (dVar 4) (dCb bLen (dCons (dVar 0) dNil))))) (dTst (dBin (oEq false) (dBin oIx (dVar 2) (dVar 4)) (dC (dint 0))))) dNever dNext)
    (dAugI 2 (fun i j => i - j) (dVar 4) (dC (dint 1)))))))))
def W_look_stand : Wt := wFn 2 5 D_look_stand

def D_counts_of : DS := (dSeq (dExpr (dCall W_look_stand (dCons (dVar 0) (dCons (dVar 1) dNil))))
    (dRet (dCb bTuple (dCons (dLc (dIRg1 (dCons (dCb bLen (dCons (dVar 0) dNil)) dNil)) (tfName 2) dYes (dCount (dVar 1) (dVar 2)) [2]) dNil))))
def W_counts_of : Wt := wFn 2 3 D_counts_of

def D_Book : DS := (dSeq (dExpr (dCall W_look_sizes (dCons (dVar 1) dNil)))
    (dSeq dNever
    (dSeq dNever
    dNever)))
def W_Book : Wt := wFn 2 2 D_Book

def D_Loft : DS := (dSeq (dExpr (dCall W_look_stand (dCons (dVar 1) (dCons (dVar 2) dNil))))
    (dSeq dNever
    (dSeq dNever
    (dSeq dNever
    dNever))))
def W_Loft : Wt := wFn 3 3 D_Loft

def D_law_pick : DS := (dRet (dBin oIx (dVar 1) (dCall W_take (dCons (dVar 0) (dCons (dCb bLen (dCons (dVar 1) dNil)) dNil)))))
def W_law_pick : Wt := wFn 2 2 D_law_pick

def D_law_same (W : Wt) : DS := (dSeq (dIfS (dTst (dBin (oIsN false) (dVar 1) (dC (.dat .none)))) (dRet (dBin (oIsN false) (dVar 0) (dC (.dat .none)))) dNext)
    (dSeq (dIfS (dTst (dCb bIsi (dCons (dVar 1) (dCons (dC (.raw (.ty "bool"))) dNil)))) (dRet (dAndV (dCb bIsi (dCons (dVar 0) (dCons (dC (.raw (.ty "bool"))) dNil))) (dBin (oEq false) (dVar 0) (dVar 1)))) dNext)
    (dSeq (dIfS (dTst (dCb bIsi (dCons (dVar 1) (dCons (dC (.raw (.ty "int"))) dNil)))) (dRet (dAndV (dCb bIsi (dCons (dVar 0) (dCons (dC (.raw (.ty "int"))) dNil))) (dAndV (dNotV (dCb bIsi (dCons (dVar 0) (dCons (dC (.raw (.ty "bool"))) dNil)))) (dBin (oEq false) (dVar 0) (dVar 1))))) dNext)
    (dSeq (dIfS (dTst (dCb bIsi (dCons (dVar 1) (dCons (dC (.raw (.ty "str"))) dNil)))) (dRet (dAndV (dCb bIsi (dCons (dVar 0) (dCons (dC (.raw (.ty "str"))) dNil))) (dBin (oEq false) (dVar 0) (dVar 1)))) dNext)
    (dSeq (dIfS (dOr (dTst (dBin (oEq true) (dCb bIsi (dCons (dVar 1) (dCons (dC (.raw (.ty "tuple"))) dNil))) (dCb bIsi (dCons (dVar 0) (dCons (dC (.raw (.ty "tuple"))) dNil))))) (dTst (dBin (oEq true) (dCb bIsi (dCons (dVar 1) (dCons (dC (.raw (.ty "list"))) dNil))) (dCb bIsi (dCons (dVar 0) (dCons (dC (.raw (.ty "list"))) dNil)))))) (dRet (dC (dbl false))) dNext)
    (dSeq (dIfS (dTst (dBin (oEq true) (dCb bLen (dCons (dVar 0) dNil)) (dCb bLen (dCons (dVar 1) dNil)))) (dRet (dC (dbl false))) dNext)
    (dRet (dCb bAll (dCons (dLc (dIRg1 (dCons (dCb bLen (dCons (dVar 1) dNil)) dNil)) (tfName 2) dYes (dCall W (dCons (dBin oIx (dVar 0) (dVar 2)) (dCons (dBin oIx (dVar 1) (dVar 2)) dNil))) [2]) dNil)))))))))
def W_law_same : Nat → Wt
  | 0 => fun _ _ _ => False
  | k + 1 => wFn 2 3 (D_law_same (W_law_same k))

def D_law_sizes : DS := (dRet (dCb bTuple (dCons (dLc (dIRg1 (dCons (dBin oAdd (dC (dint 1)) (dCall W_take (dCons (dVar 0) (dCons (dVar 1) dNil)))) dNil)) (tfName 3) dYes (dBin oAdd (dC (dint 1)) (dCall W_take (dCons (dVar 0) (dCons (dVar 2) dNil)))) [3]) dNil)))
def W_law_sizes : Wt := wFn 3 4 D_law_sizes

def D_law_any_sizes : DS := (dRet (dCall W_law_sizes (dCons (dVar 0) (dCons (dC (dint 6)) (dCons (dCall W_law_pick (dCons (dVar 0) (dCons (dLst (dCons (dC (dint 40)) (dCons (dC (dint 9)) (dCons (dC (dint 4)) (dCons (dC (dint 2)) dNil))))) dNil))) dNil)))))
def W_law_any_sizes : Wt := wFn 1 1 D_law_any_sizes

def D_law_flaw : DS := (dSeq (dIfS (dNot (dTst (dChain oLe oLe (dC (dint 1)) (dCb bLen (dCons (dVar 0) dNil)) (dC (dint 6))))) (dRet (dUn oNeg (dC (dint 1)))) dNext)
    (dSeq (dAsg 1 (dLc (dIRg1 (dCons (dCb bLen (dCons (dVar 0) dNil)) dNil)) (tfName 2) (dNot (dTst (dChain oLe oLe (dC (dint 1)) (dBin oIx (dVar 0) (dVar 2)) (dC (dint 40))))) (dVar 2) [2]))
    (dRet (dIfE (dTst (dBin (oEq false) (dVar 1) (dLst dNil))) (dC (dstr "none")) (dBin oIx (dVar 1) (dC (dint 0)))))))
def W_law_flaw : Wt := wFn 1 3 D_law_flaw
def Td_0 : DE := dTold told0 aft (dCall W_look_sizes (dCons (dVar 3) dNil))
def Td_1 : DE := dTold told0 aft (dCall W_counts_of (dCons (dVar 3) (dCons (dTup (dCons (dC (dint 9)) dNil)) dNil)))
def Td_2 : DE := dTold told0 aft (dMk W_Book (dCons (dVar 3) dNil))
def Td_3 : DE := dTold told0 aft (dMkK W_Loft [0, 1, 2] (dCons (dVar 3) dNil) (dCons (dTup (dCons (dC (dint 9)) dNil)) dNil))
def B_law_0 : DS := (dSeq (dFrz 3 (dApp 8 Td_3))
    (dFrz 7 (dFrz 8 (dIfS (dNot (dTst (dCall (W_law_same 6) (dCons (dVar 8) (dCons (dLst (dCons (dVar 7) (dCons (dVar 7) (dCons (dVar 7) dNil)))) dNil))))) (dRet (dC (dbl false))) dNext))))
def B_law_1 : DS := (dSeq (dFrz 3 (dApp 8 Td_2))
    B_law_0)
def B_law_2 : DS := (dSeq (dFrz 3 (dAsg 8 (dLst (dCons Td_1 dNil))))
    B_law_1)
def B_law_3 : DS := (dSeq (dFrz 7 (dFrz 3 (dIfS (dNot (dTst (dCall (W_law_same 6) (dCons Td_0 (dCons (dVar 7) dNil))))) (dRet (dC (dbl false))) dNext)))
    (dIfS (dTst (dBin (oEq false) (dVar 7) (dC (dstr "none")))) (dFrz 3 (dIfS (dOr (dTst (dBin (oIsN true) (dCallK W_look_sizes [0] dNil (dCons (dVar 3) dNil)) (dC (.dat .none)))) (dTst (dBin (oEq true) (dCall W_counts_of (dCons (dVar 3) (dCons (dTup dNil) dNil))) (dBin oMul (dTup (dCons (dC (dint 0)) dNil)) (dCb bLen (dCons (dVar 3) dNil)))))) (dRet (dC (dbl false))) dNext)) B_law_2))
def B_law_4 : DS := (dSeq (dFrz 3 (dAsg 7 (dCall W_law_flaw (dCons (dVar 3) dNil))))
    B_law_3)
def B_law_5 : DS := (dSeq (dIfS (dTst (dBin (oEq false) (dVar 4) (dC (dint 3)))) (dFrz 1 (dAsg 3 (dSl (dBin oMul (dVar 3) (dC (dint 7))) dNone (dSome (dCall W_law_pick (dCons (dVar 1) (dCons (dLst (dCons (dC (dint 7)) (dCons (dC (dint 0)) (dCons (dC (dint 6)) dNil)))) dNil))))))) dNext)
    B_law_4)
def B_law_6 : DS := (dSeq (dIfS (dTst (dBin (oEq false) (dVar 4) (dC (dint 1)))) (dFrz 1 (dAsg 3 (dBin oAdd (dVar 3) (dTup (dCons (dCall W_law_pick (dCons (dVar 1) (dCons (dLst (dCons (dC (dint 0)) (dCons (dC (dint 41)) (dCons (dC (dint 40)) (dCons (dC (dint 1)) dNil))))) dNil))) dNil))))) dNext)
    B_law_5)
def B_law_7 : DS := (dSeq (dIfS (dTst (dBin oLt (dVar 4) (dC (dint 3)))) (dFrz 6 (dAsg 3 (dBin oAdd (dBin oAdd (dSl (dVar 3) dNone (dSome (dVar 5))) (dTup (dCons (dVar 6) dNil))) (dSl (dVar 3) (dSome (dBin oAdd (dVar 5) (dC (dint 1)))) dNone)))) dNext)
    B_law_6)
def B_law_8 : DS := (dSeq (dFrz 1 (dAsg 6 (dCall W_law_pick (dCons (dVar 1) (dCons (dLst (dCons (dC (dint 0)) (dCons (dC (dint 41)) (dCons (dUn oNeg (dC (dint 1))) (dCons (dBin oPow (dC (dint 10)) (dC (dint 20))) (dCons (dUn oNeg (dBin oPow (dC (dint 10)) (dC (dint 20)))) dNil)))))) dNil)))))
    B_law_7)
def B_law_9 : DS := (dSeq (dFrz 1 (dAsg 5 (dCall W_take (dCons (dVar 1) (dCons (dCb bLen (dCons (dVar 3) dNil)) dNil)))))
    B_law_8)
def B_law_10 : DS := (dSeq (dFrz 1 (dAsg 4 (dCall W_take (dCons (dVar 1) (dCons (dC (dint 6)) dNil)))))
    B_law_9)
def B_law_11 : DS := (dSeq (dFrz 1 (dAsg 3 (dCall W_law_any_sizes (dCons (dVar 1) dNil))))
    B_law_10)
def B_law_12 : DS := (dSeq (dFor (dIRg1 (dCons (dC (dint 6)) dNil)) (tfName 2) B_law_11)
    (dRet (dCall (W_law_same 6) (dCons (dLst (dCons (dC (dint (6))) (dCons (dC (dint (40))) (dCons (dC (dint (60))) (dCons (dC (dint (-1))) dNil))))) (dCons (dLst (dCons (dC (dint 6)) (dCons (dC (dint 40)) (dCons (dC (dint 60)) (dCons (dUn oNeg (dC (dint 1))) dNil))))) dNil)))))
def D_law : DS := B_law_12

end Lw

set_option Elab.async false
set_option linter.all false
set_option maxRecDepth 100000
set_option maxHeartbeats 4000000
namespace Lw
open PySem PySem.Spec PyProof.Rows L2 DL DW
def topS (i : Nat) : Stmt := PySem.Challenge.pw_hidelater_k01_sizes_judged.main.body.getD i (.Pass ⟨0, 0, 0, 0⟩)
abbrev s_look_sizes : Stmt := topS 21
abbrev N_look_sizes : List Str := ["sizes", "cask", "size"]
theorem sc_look_sizes : FnScope N_look_sizes ["sizes"] (defScope s_look_sizes) := ⟨rfl, rfl, rfl, by decide +kernel, rfl, by decide +kernel, by decide +kernel⟩
abbrev s_look_stand : Stmt := topS 22
abbrev N_look_stand : List Str := ["sizes", "stand", "free", "rank", "cask"]
theorem sc_look_stand : FnScope N_look_stand ["sizes", "stand"] (defScope s_look_stand) := ⟨rfl, rfl, rfl, by decide +kernel, rfl, by decide +kernel, by decide +kernel⟩
abbrev s_counts_of : Stmt := topS 24
abbrev N_counts_of : List Str := ["sizes", "stand", "cask"]
theorem sc_counts_of : FnScope N_counts_of ["sizes", "stand"] (defScope s_counts_of) := ⟨rfl, rfl, rfl, by decide +kernel, rfl, by decide +kernel, by decide +kernel⟩
abbrev s_Book : Stmt := inClass (topS 82) 0
abbrev N_Book : List Str := ["self", "sizes"]
theorem sc_Book : FnScope N_Book ["self", "sizes"] (defScope s_Book) := ⟨rfl, rfl, rfl, by decide +kernel, rfl, by decide +kernel, by decide +kernel⟩
abbrev s_Loft : Stmt := inClass (topS 94) 0
abbrev N_Loft : List Str := ["self", "sizes", "stand"]
theorem sc_Loft : FnScope N_Loft ["self", "sizes", "stand"] (defScope s_Loft) := ⟨rfl, rfl, rfl, by decide +kernel, rfl, by decide +kernel, by decide +kernel⟩
abbrev s_law_open : Stmt := topS 97
abbrev N_law_open : List Str := ["_law_script"]
theorem sc_law_open : FnScope N_law_open ["_law_script"] (defScope s_law_open) := ⟨rfl, rfl, rfl, by decide +kernel, rfl, by decide +kernel, by decide +kernel⟩
abbrev s_law_take : Stmt := topS 98
abbrev N_law_take : List Str := ["_law_bag", "_law_sides", "_law_cell", "_law_side", "_law_mix"]
theorem sc_law_take : FnScope N_law_take ["_law_bag", "_law_sides"] (defScope s_law_take) := ⟨rfl, rfl, rfl, by decide +kernel, rfl, by decide +kernel, by decide +kernel⟩
abbrev s_law_pick : Stmt := topS 99
abbrev N_law_pick : List Str := ["_law_bag", "_law_row"]
theorem sc_law_pick : FnScope N_law_pick ["_law_bag", "_law_row"] (defScope s_law_pick) := ⟨rfl, rfl, rfl, by decide +kernel, rfl, by decide +kernel, by decide +kernel⟩
abbrev s_law_same : Stmt := topS 100
abbrev N_law_same : List Str := ["_law_found", "_law_due", "_law_at"]
theorem sc_law_same : FnScope N_law_same ["_law_found", "_law_due"] (defScope s_law_same) := ⟨rfl, rfl, rfl, by decide +kernel, rfl, by decide +kernel, by decide +kernel⟩
abbrev s_law_sizes : Stmt := topS 101
abbrev N_law_sizes : List Str := ["_law_bag", "_law_mcasks", "_law_most", "_law_mcask"]
theorem sc_law_sizes : FnScope N_law_sizes ["_law_bag", "_law_mcasks", "_law_most"] (defScope s_law_sizes) := ⟨rfl, rfl, rfl, by decide +kernel, rfl, by decide +kernel, by decide +kernel⟩
abbrev s_law_any_sizes : Stmt := topS 102
abbrev N_law_any_sizes : List Str := ["_law_bag"]
theorem sc_law_any_sizes : FnScope N_law_any_sizes ["_law_bag"] (defScope s_law_any_sizes) := ⟨rfl, rfl, rfl, by decide +kernel, rfl, by decide +kernel, by decide +kernel⟩
abbrev s_law_flaw : Stmt := topS 103
abbrev N_law_flaw : List Str := ["_law_row", "_law_some", "_law_at"]
theorem sc_law_flaw : FnScope N_law_flaw ["_law_row"] (defScope s_law_flaw) := ⟨rfl, rfl, rfl, by decide +kernel, rfl, by decide +kernel, by decide +kernel⟩
abbrev s_law_told : Stmt := topS 104
abbrev N_law_told : List Str := ["_law_ask", "_law_mcask", "e"]
theorem sc_law_told : FnScope N_law_told ["_law_ask"] (defScope s_law_told) := ⟨rfl, rfl, rfl, by decide +kernel, rfl, by decide +kernel, by decide +kernel⟩
abbrev s_law : Stmt := topS 105
abbrev N_law : List Str := ["_law_script", "_law_bag", "_law_turn", "_law_msizes", "_law_how", "_law_at", "_law_odd", "_law_due", "_law_found"]
theorem sc_law : FnScope N_law ["_law_script"] (defScope s_law) := ⟨rfl, rfl, rfl, by decide +kernel, rfl, by decide +kernel, by decide +kernel⟩
abbrev s_BadSizes : Stmt := topS 3
abbrev si_BadSizes : Stmt := inClass s_BadSizes 0
theorem sc_BadSizes : FnScope ["self", "cask"] ["self", "cask"] (defScope si_BadSizes) := ⟨rfl, rfl, rfl, by decide +kernel, rfl, by decide +kernel, by decide +kernel⟩
structure Top (K : PySem.W.Frag) (mg : Str → Option Value) (w : World) : Type where
  a_look_sizes : Addr
  fd_look_sizes : FuncData
  F_look_sizes : Fun K "look_sizes" "look_sizes" s_look_sizes a_look_sizes fd_look_sizes
  g_look_sizes : mg "look_sizes" = some (.ref a_look_sizes)
  b_look_sizes : Binds K fd_look_sizes ["sizes"] []
  a_look_stand : Addr
  fd_look_stand : FuncData
  F_look_stand : Fun K "look_stand" "look_stand" s_look_stand a_look_stand fd_look_stand
  g_look_stand : mg "look_stand" = some (.ref a_look_stand)
  b_look_stand : Binds K fd_look_stand ["sizes", "stand"] []
  a_counts_of : Addr
  fd_counts_of : FuncData
  F_counts_of : Fun K "counts_of" "counts_of" s_counts_of a_counts_of fd_counts_of
  g_counts_of : mg "counts_of" = some (.ref a_counts_of)
  b_counts_of : Binds K fd_counts_of ["sizes", "stand"] []
  a_Book : Addr
  fd_Book : FuncData
  F_Book : Fun K "__init__" "Book.__init__" s_Book a_Book fd_Book
  C_Book : Addr
  g_Book : mg "Book" = some (.ref C_Book)
  M_Book : Mk K C_Book a_Book
  b_Book : Binds K fd_Book ["self", "sizes"] []
  a_Loft : Addr
  fd_Loft : FuncData
  F_Loft : Fun K "__init__" "Loft.__init__" s_Loft a_Loft fd_Loft
  C_Loft : Addr
  g_Loft : mg "Loft" = some (.ref C_Loft)
  M_Loft : Mk K C_Loft a_Loft
  a_law_open : Addr
  fd_law_open : FuncData
  F_law_open : Fun K "_law_open" "_law_open" s_law_open a_law_open fd_law_open
  g_law_open : mg "_law_open" = some (.ref a_law_open)
  b_law_open : Binds K fd_law_open ["_law_script"] []
  a_law_take : Addr
  fd_law_take : FuncData
  F_law_take : Fun K "_law_take" "_law_take" s_law_take a_law_take fd_law_take
  g_law_take : mg "_law_take" = some (.ref a_law_take)
  b_law_take : Binds K fd_law_take ["_law_bag", "_law_sides"] []
  a_law_pick : Addr
  fd_law_pick : FuncData
  F_law_pick : Fun K "_law_pick" "_law_pick" s_law_pick a_law_pick fd_law_pick
  g_law_pick : mg "_law_pick" = some (.ref a_law_pick)
  b_law_pick : Binds K fd_law_pick ["_law_bag", "_law_row"] []
  a_law_same : Addr
  fd_law_same : FuncData
  F_law_same : Fun K "_law_same" "_law_same" s_law_same a_law_same fd_law_same
  g_law_same : mg "_law_same" = some (.ref a_law_same)
  b_law_same : Binds K fd_law_same ["_law_found", "_law_due"] []
  a_law_sizes : Addr
  fd_law_sizes : FuncData
  F_law_sizes : Fun K "_law_sizes" "_law_sizes" s_law_sizes a_law_sizes fd_law_sizes
  g_law_sizes : mg "_law_sizes" = some (.ref a_law_sizes)
  b_law_sizes : Binds K fd_law_sizes ["_law_bag", "_law_mcasks", "_law_most"] []
  a_law_any_sizes : Addr
  fd_law_any_sizes : FuncData
  F_law_any_sizes : Fun K "_law_any_sizes" "_law_any_sizes" s_law_any_sizes a_law_any_sizes fd_law_any_sizes
  g_law_any_sizes : mg "_law_any_sizes" = some (.ref a_law_any_sizes)
  b_law_any_sizes : Binds K fd_law_any_sizes ["_law_bag"] []
  a_law_flaw : Addr
  fd_law_flaw : FuncData
  F_law_flaw : Fun K "_law_flaw" "_law_flaw" s_law_flaw a_law_flaw fd_law_flaw
  g_law_flaw : mg "_law_flaw" = some (.ref a_law_flaw)
  b_law_flaw : Binds K fd_law_flaw ["_law_row"] []
  a_law_told : Addr
  fd_law_told : FuncData
  F_law_told : Fun K "_law_told" "_law_told" s_law_told a_law_told fd_law_told
  g_law_told : mg "_law_told" = some (.ref a_law_told)
  b_law_told : Binds K fd_law_told ["_law_ask"] []
  a_law : Addr
  fd_law : FuncData
  F_law : Fun K "law" "law" s_law a_law fd_law
  g_law : mg "law" = some (.ref a_law)
  b_law : Binds K fd_law ["_law_script"] []
  kt : KT K
  kl : KL K
  m_enumerate : mg "enumerate" = none
  m_len : mg "len" = none
  m_list : mg "list" = none
  m_tuple : mg "tuple" = none
  m_range : mg "range" = none
  m_isinstance : mg "isinstance" = none
  m_bool : mg "bool" = none
  m_int : mg "int" = none
  m_str : mg "str" = none
  m_all : mg "all" = none
  c_MOST_CASKS : ∃ tk, mg "MOST_CASKS" = some (.int (6) tk)
  c_MOST_SIZE : ∃ tk, mg "MOST_SIZE" = some (.int (40) tk)
  c_MOST_DROPS : ∃ tk, mg "MOST_DROPS" = some (.int (60) tk)
  c_GONE : ∃ tk, mg "GONE" = some (.int (-1) tk)
  C_BadSizes : Addr
  g_BadSizes : mg "BadSizes" = some (.ref C_BadSizes)
  o_BadSizes : OexC K C_BadSizes
  f_BadSizes : XfC K C_BadSizes
  fi_BadSizes : Addr
  fdi_BadSizes : FuncData
  Fi_BadSizes : Fun K "__init__" "BadSizes.__init__" si_BadSizes fi_BadSizes fdi_BadSizes
  ii_BadSizes : PySem.W.findIn K (.ref C_BadSizes) "__init__" = some (some (.ref fi_BadSizes))
  ti_BadSizes : PySem.W.typeIn K (.ref fi_BadSizes) = some (.type "function")
  bi_BadSizes : Binds K fdi_BadSizes ["self", "cask"] []
  n_BadSizes_word : PySem.W.findIn K (.ref C_BadSizes) "word" = some none
  n_BadSizes_cask : PySem.W.findIn K (.ref C_BadSizes) "cask" = some none
  e_BadSizes_BadSizes : PySem.W.exmOne K (.ref C_BadSizes) (.ref C_BadSizes) = some true
  k_law : Addr
  P_law : Addr
  L_law : ∃ (oc : Value) (od : Option Addr) (kV doc pm : Value) (an : Option Addr) (ct : Value) (osl : Array (Option Value)), fd_law = PySem.W.fnOf "law" "law" (defArgs s_law) (defBody s_law) (defScope s_law) .none kV doc pm an (.ref k_law) ct ∧ K.lookup a_law = some ⟨oc, od, .func fd_law, osl⟩ ∧ PySem.W.codeIn K (.ref k_law) "law" = true

section
variable {K : PySem.W.Frag} {mg : Str → Option Value} {w : World}
def Top.cls (T : Top K mg w) : Nat → Addr := fun n => [T.C_BadSizes, 0, 0, 0, 0, 0, 0, 0, 0, 0, 0, 0, 0, 0, 0, 0, 0, 0].getD n 0
def Top.fa (T : Top K mg w) : Nat → Addr := fun n => [].getD n 0
end
section
variable {P : Program} {w : World} {K : PySem.W.Frag} {mg : Str → Option Value} {base : Heap}
theorem init_BadSizes (T : Top K mg w) : FnOk P w K mg base CX0 1 T.fi_BadSizes T.fdi_BadSizes ["self", "cask"] (spInit T.C_BadSizes 1 mk_BadSizes) := ok_init1 T.Fi_BadSizes sc_BadSizes T.o_BadSizes T.n_BadSizes_word T.n_BadSizes_cask rfl (Or.inl rfl) (Or.inl rfl) (by decide) (by decide)
/-! ### the law's draws -/
theorem okd_law_take (T : Top K mg w) : FnOk P w K mg base CX0 1 T.a_law_take T.fd_law_take ["_law_bag", "_law_sides"] (spD K aTake okTake outTake noX) := by
  refine T.F_law_take.ok sc_law_take (fun vs H Q E h => ?_) (fun cdv A outer s H vs Q E hr h => ?_)
  · obtain ⟨n, b, I, _, r, _⟩ := h
    rw [resA_len r]
    rfl
  · obtain ⟨n, ⟨b, bT⟩, I, k, r, hn, qq, _⟩ := h
    cases r with
    | cons r1 r =>
      cases r with
      | cons r2 r =>
        cases r
        have e2 := int_read r2
        subst e2
        have e1 : _ = V.ref b := r1
        subst e1
        obtain ⟨ib, ipl, itb, l, ns, p, q, m, c, hb, hl, hp, hq, hm, hm2⟩ := k.b
        have sl : SqL K H l (ns.map V.int) := sl_mono k.s hl
        have fin : ∀ i H', 0 ≤ i → i < n → Ext K ⟨b, bT⟩ I H I H' → Q (.int i) H' := fun i H' h0 h1 e => qq _ _ I H' ⟨i, rfl, h0, h1⟩ e (Dp.int i)
        have n0 := hn.1
        have nd : ∀ i : Int, CDivW i n := fun i => wide_div (b := 1040) n0 (by
          have h1 : n.natAbs < 10000000000000000000000000000000000000000000000000000000000000000000000000000000000000000000000000000000000000000000000000000000000000000000000000000000000000000000000000000000000000000000000000000000000000000000000000000000000000000000000000000000000000000000000000000000000000000000000000000000000000000000000 := by
            have := hn.2
            omega
          exact Nat.lt_trans h1 (by decide +kernel)) (by decide) (by decide)
        refine ⟨_, (C8.pss_cut (ps_if (PW.pt (pw_and (pt_cmpR op_lt (pe_ix (k_ix_list K) (pv 0) pe_int (fun _ _ => rfl)) (pv 1) (nomark _)) (pw_and1 (pt_cmpR op_lt (pe_ix (k_ix_list K) (pv 0) pe_int (fun _ _ => rfl)) (pe_callB (k_len K) (by rfl) T.m_len PySem.boot_len (pa_cons (pe_ix (k_ix_list K) (pv 0) pe_int (fun _ _ => rfl)) pa_nil)) (nomark _))))) (pss_cons (ps_set (i := 2) sc_law_take.nd rfl (by first | exact Or.inl rfl | exact Or.inr rfl) (pe_ix (k_ix_seq K) (pe_ix (k_ix_list K) (pv 0) pe_int (fun _ _ => rfl)) (pe_ix (k_ix_list K) (pv 0) pe_int (fun _ _ => rfl)) (fun _ _ => rfl)))
      (pss_cons (ps_asg (pe_op op_add (pe_ix (k_ix_list K) (pv 0) pe_int (fun _ _ => rfl)) pe_int) (pg_sub (pv 0) pe_int set_list))
      (pss_cons (ps_asg pe_int (pg_sub (pv 0) pe_int set_list))
      (pss_one (ps_if (pt_cmpR op_ge (pv 2) (pe_op op_pow pe_int pe_int) (nomark _)) (pss_one (ps_asg (pv 2) (pg_sub (pv 0) pe_int set_list))) (pss_one (ps_asg (pe_op op_mod (pe_op op_add (pe_op op_add (pe_op op_mul (pe_ix (k_ix_list K) (pv 0) pe_int (fun _ _ => rfl)) pe_int) (pe_op op_mul (pe_op op_mod (pv 2) pe_int) pe_int)) pe_int) pe_int) (pg_sub (pv 0) pe_int set_list)))))))) pss_nil)
      (pss_cons (ps_if (pt_cmpR op_ge (pe_ix (k_ix_list K) (pv 0) pe_int (fun _ _ => rfl)) (pv 1) (nomark _)) (pss_cons (ps_set (i := 3) sc_law_take.nd rfl (by first | exact Or.inl rfl | exact Or.inr rfl) (pe_op op_mod (pe_ix (k_ix_list K) (pv 0) pe_int (fun _ _ => rfl)) (pv 1)))
      (pss_cons (ps_asg (pe_op op_fdivW (pe_ix (k_ix_list K) (pv 0) pe_int (fun _ _ => rfl)) (pv 1)) (pg_sub (pv 0) pe_int set_list))
      (pss_one (ps_ret (pv 3))))) pss_nil)
      (pss_cons (ps_asg (pe_op op_add (pe_ix (k_ix_list K) (pv 0) pe_int (fun _ _ => rfl)) pe_int) (pg_sub (pv 0) pe_int set_list))
      (pss_cons (ps_set (i := 4) sc_law_take.nd rfl (by first | exact Or.inl rfl | exact Or.inr rfl) (pe_ix (k_ix_list K) (pv 0) pe_int (fun _ _ => rfl)))
      (pss_cons (ps_asg (pe_op op_mod (pe_op op_add (pe_op op_add (pe_op op_add (pe_op op_mul (pe_op op_mod (pe_op op_mul (pv 4) (pv 4)) pe_int) pe_int) (pe_op op_mul (pv 4) pe_int)) (pe_op op_mul pe_int (pe_ix (k_ix_list K) (pv 0) pe_int (fun _ _ => rfl)))) pe_int) pe_int) (pg_sub (pv 0) pe_int set_list))
      (pss_one (ps_ret (pe_op op_mod (pe_op op_add (pe_op op_fdivW (pe_ix (k_ix_list K) (pv 0) pe_int (fun _ _ => rfl)) pe_int) (pe_op op_mul (pe_op op_mod (pe_ix (k_ix_list K) (pv 0) pe_int (fun _ _ => rfl)) pe_int) pe_int)) (pv 1))))))))), ?_⟩
        refine ⟨fun σ' H' => ∃ x2 p q m, σ' = [some (.ref b), some (.int n), x2, none, none] ∧ Ext K ⟨b, bT⟩ I H I H' ∧ H' b = some (.lst [.ref l, .int p, .int q, .int m, .int c]) ∧ 0 ≤ p ∧ 0 ≤ q ∧ 0 ≤ m ∧ m < 2147483647, ?_, ?_⟩
        · refine ⟨.ref b, rfl, b, _, 2, .int q, rfl, rfl, .inl (.inl hb), rfl, .int n, rfl, q, n, rfl, rfl, _, rfl, ite2 (fun h1 => ?_) (fun h1 => ?_)⟩
          · refine ⟨.ref b, rfl, b, _, 1, .int p, rfl, rfl, .inl (.inl hb), rfl, .ref b, rfl, b, _, 0, .ref l, rfl, rfl, .inl (.inl hb), rfl, l, _, rfl, .inl sl, p, _, rfl, rfl, _, rfl, ite2 (fun h2 => ?_) (fun h2 => ?_)⟩
            · have h2' : p < (ns.map V.int).length := of_decide_eq_true h2
              rw [List.length_map] at h2'
              have hpn : p.toNat < ns.length := by omega
              have gz : (ns.map V.int)[p.toNat]? = some (.int ns[p.toNat]) := by
                rw [List.getElem?_map, List.getElem?_eq_getElem hpn]
                rfl
              generalize ns[p.toNat] = z at gz
              have hb1 : upd H b (.lst [.ref l, .int (p + 1), .int q, .int m, .int c]) b = some (.lst [.ref l, .int (p + 1), .int q, .int m, .int c]) := upd_same
              have hb2 : upd (upd H b (.lst [.ref l, .int (p + 1), .int q, .int m, .int c])) b (.lst [.ref l, .int (p + 1), .int 0, .int m, .int c]) b = some (.lst [.ref l, .int (p + 1), .int 0, .int m, .int c]) := upd_same
              refine ⟨.ref b, rfl, b, _, 0, .ref l, rfl, rfl, .inl (.inl hb), rfl, .ref b, rfl, b, _, 1, .int p, rfl, rfl, .inl (.inl hb), rfl, .inl ⟨l, _, p, .int z, rfl, rfl, sl, at_of (j := p.toNat) (by omega) gz, ?_⟩⟩
              refine ⟨.ref b, rfl, b, _, 1, .int p, rfl, rfl, .inl (.inl hb), rfl, p, 1, rfl, rfl, .ref b, rfl, b, _, 1, 1, rfl, rfl, hb, rfl, ?_⟩
              refine ⟨.ref b, rfl, b, _, 2, 2, rfl, rfl, hb1, rfl, ?_⟩
              refine ⟨.int z, rfl, 10, 18, rfl, rfl, ⟨by decide, by decide, by decide⟩, z, _, rfl, rfl, _, rfl, ite2 (fun h3 => ?_) (fun h3 => ?_)⟩
              · have hz : (10 : Int) ^ (18 : Int).toNat ≤ z := of_decide_eq_true h3
                have hz0 : 0 ≤ z := Int.le_trans (by decide) hz
                refine ⟨.int z, rfl, .ref b, rfl, b, _, 2, 2, rfl, rfl, hb2, rfl, ?_⟩
                refine ⟨some (.int z), p + 1, z, m, rfl, ?_, upd_same, by omega, hz0, hm, hm2⟩
                rw [upd_upd, upd_upd]
                exact Ext.bag k ⟨_, hb⟩ hl (by omega) hz0 hm hm2
              · refine ⟨.ref b, rfl, b, _, 3, .int m, rfl, rfl, .inl (.inl hb2), rfl, m, 48271, rfl, rfl, .inl ⟨by omega, by omega⟩, .int z, rfl, z, 2147483629, rfl, rfl, (show (0 : Int) < 2147483629 by decide), _, 69621, rfl, rfl, .inl ⟨by omega, by omega⟩, _, _, rfl, rfl, _, 12345, rfl, rfl, _, 2147483647, rfl, rfl, (show (0 : Int) < 2147483647 by decide), .ref b, rfl, b, _, 3, 3, rfl, rfl, hb2, rfl, ?_⟩
                refine ⟨some (.int z), p + 1, 0, _, rfl, ?_, upd_same, by omega, by omega, Int.emod_nonneg _ (by decide), Int.emod_lt_of_pos _ (by decide)⟩
                rw [upd_upd, upd_upd]
                exact Ext.bag k ⟨_, hb⟩ hl (by omega) (by omega) (Int.emod_nonneg _ (by decide)) (Int.emod_lt_of_pos _ (by decide))
            · exact ⟨none, p, q, m, rfl, k.re, hb, hp, hq, hm, hm2⟩
          · exact iteF ⟨none, p, q, m, rfl, k.re, hb, hp, hq, hm, hm2⟩
        · rintro σ' H' ⟨x2, p, q, m, rfl, e, hb, hp, hq, hm, hm2⟩
          refine ⟨.ref b, rfl, b, _, 2, .int q, rfl, rfl, .inl (.inl hb), rfl, .int n, rfl, q, n, rfl, rfl, _, rfl, ite2 (fun h1 => ?_) (fun h1 => ?_)⟩
          · refine ⟨.ref b, rfl, b, _, 2, .int q, rfl, rfl, .inl (.inl hb), rfl, .int n, rfl, q, n, rfl, rfl, n0, ?_⟩
            refine ⟨.ref b, rfl, b, _, 2, .int q, rfl, rfl, .inl (.inl hb), rfl, .int n, rfl, q, n, rfl, rfl, nd q, .ref b, rfl, b, _, 2, 2, rfl, rfl, hb, rfl, ?_⟩
            exact ⟨_, rfl, fin _ _ (Int.emod_nonneg _ (by omega)) (Int.emod_lt_of_pos _ n0) (e.trans (Ext.bag e.ok ⟨_, hb⟩ hl hp (Int.ediv_nonneg hq (by omega)) hm hm2))⟩
          · have hb1 : upd H' b (.lst [.ref l, .int p, .int q, .int m, .int (c + 1)]) b = some (.lst [.ref l, .int p, .int q, .int m, .int (c + 1)]) := upd_same
            refine ⟨.ref b, rfl, b, _, 4, .int c, rfl, rfl, .inl (.inl hb), rfl, c, 1, rfl, rfl, .ref b, rfl, b, _, 4, 4, rfl, rfl, hb, rfl, ?_⟩
            refine ⟨.ref b, rfl, b, _, 3, .int m, rfl, rfl, .inl (.inl hb1), rfl, ?_⟩
            refine ⟨.int m, rfl, .int m, rfl, m, m, rfl, rfl, .inl ⟨by omega, by omega⟩, _, 2147483629, rfl, rfl, (show (0 : Int) < 2147483629 by decide), _, 5, rfl, rfl, .inl ⟨by omega, by omega⟩, .int m, rfl, m, 16811, rfl, rfl, .inl ⟨by omega, by omega⟩, _, _, rfl, rfl, .ref b, rfl, b, _, 4, .int (c + 1), rfl, rfl, .inl (.inl hb1), rfl, 7919, c + 1, rfl, rfl, .inl ⟨by decide, by decide⟩, _, _, rfl, rfl, _, 2531011, rfl, rfl, _, 2147483647, rfl, rfl, (show (0 : Int) < 2147483647 by decide), .ref b, rfl, b, _, 3, 3, rfl, rfl, hb1, rfl, ?_⟩
            have m0 : 0 ≤ ((m * m % 2147483629 * 5 + m * 16811 + 7919 * (c + 1) + 2531011) % 2147483647) := Int.emod_nonneg _ (by decide)
            have m1 : ((m * m % 2147483629 * 5 + m * 16811 + 7919 * (c + 1) + 2531011) % 2147483647) < 2147483647 := Int.emod_lt_of_pos _ (by decide)
            have hb3 : upd (upd H' b (.lst [.ref l, .int p, .int q, .int m, .int (c + 1)])) b (.lst [.ref l, .int p, .int q, .int ((m * m % 2147483629 * 5 + m * 16811 + 7919 * (c + 1) + 2531011) % 2147483647), .int (c + 1)]) b = some (.lst [.ref l, .int p, .int q, .int ((m * m % 2147483629 * 5 + m * 16811 + 7919 * (c + 1) + 2531011) % 2147483647), .int (c + 1)]) := upd_same
            have ee : Ext K ⟨b, bT⟩ I H I (upd (upd H' b (.lst [.ref l, .int p, .int q, .int m, .int (c + 1)])) b (.lst [.ref l, .int p, .int q, .int ((m * m % 2147483629 * 5 + m * 16811 + 7919 * (c + 1) + 2531011) % 2147483647), .int (c + 1)])) := by
              rw [upd_upd]
              exact e.trans (Ext.bag e.ok ⟨_, hb⟩ hl hp hq m0 m1)
            refine ⟨.ref b, rfl, b, _, 3, .int ((m * m % 2147483629 * 5 + m * 16811 + 7919 * (c + 1) + 2531011) % 2147483647), rfl, rfl, .inl (.inl hb3), rfl, _, 61, rfl, rfl, wide_div (b := 10) (by decide) (by decide) (by decide) (by decide), .ref b, rfl, b, _, 3, .int ((m * m % 2147483629 * 5 + m * 16811 + 7919 * (c + 1) + 2531011) % 2147483647), rfl, rfl, .inl (.inl hb3), rfl, _, 8191, rfl, rfl, (show (0 : Int) < 8191 by decide), _, 31, rfl, rfl, .inl ⟨by omega, by omega⟩, _, _, rfl, rfl, .int n, rfl, _, n, rfl, rfl, n0, ?_⟩
            exact fin _ _ (Int.emod_nonneg _ (by omega)) (Int.emod_lt_of_pos _ n0) ee
theorem ok_law_take (T : Top K mg w) : FnOk P w K mg base (L2.CX P w) 1 T.a_law_take T.fd_law_take ["_law_bag", "_law_sides"] (spW K T.cls T.fa W_take) := fn_to (okd_law_take T) take_to
/-! ### the law -/
def spOpen (K : PySem.W.Frag) : Sp := fun vs H Q _ => ∃ (a : Addr) (ns : List Int), vs = [.ref a] ∧ SqL K H a (ns.map V.int) ∧
  ∀ (b l : Addr) (ms : List Int) (H' : Hp), (∀ c o, H c = some o → H' c = some o) → b ≠ l → H' b = some (.lst [.ref l, .int 0, .int 0, .int 9465, .int 0]) → H' l = some (.lst (ms.map V.int)) → Q (.ref b) H'
theorem ok_law_open (T : Top K mg w) : FnOk P w K mg base CX0 1 T.a_law_open T.fd_law_open ["_law_script"] (spOpen K) := by
  refine T.F_law_open.ok sc_law_open (fun vs H Q E h => ?_) (fun cdv A outer s H vs Q E hr h => ?_)
  · obtain ⟨a, ns, rfl, _⟩ := h
    rfl
  · obtain ⟨a, ns, rfl, hS, q⟩ := h
    refine ⟨_, (pss_one (ps_ret (pe_lst (pa_cons (pe_callTy (k_list K) (by rfl) T.m_list (by decide +kernel) (pa_cons (pe_slice (k_sl_list K) (pv 0) po_none (po_some pe_int)) pa_nil)) (pa_cons pe_int (pa_cons pe_int (pa_cons pe_int (pa_cons pe_int pa_nil)))))))), ?_⟩
    obtain ⟨ms, hm⟩ := cut_ints ns none (some 63)
    refine ⟨.ref a, rfl, 63, rfl, a, _, rfl, hS, fun p hp => ⟨p, _, rfl, .inl (.inl (.inl upd_same)), fun l hl => ⟨(by show 5 ≤ sizeLine; decide), fun b hb => ?_⟩⟩⟩
    have nb : l ≠ b := fun z => by
      rw [← z, upd_same] at hb
      cases hb
    refine q b l ms _ (fun c o e => ?_) nb.symm upd_same ?_
    · have keep : ∀ {G : Hp} {d : Addr} {u : HO}, G d = none → G c = some o → upd G d u c = some o := fun n h => by rw [upd_ne (ne_of_none h n)]; exact h
      exact keep hb (keep hl (keep hp e))
    rw [upd_ne nb, upd_same, hm]
def spLaw (K : PySem.W.Frag) : Sp := fun vs H Q _ => ∃ (a : Addr) (ns : List Int), vs = [.ref a] ∧ SqL K H a (ns.map V.int) ∧ ns.length ≤ 63 ∧ ∀ H', Q (.bl true) H'
theorem bag_start {H : Hp} {b l : Addr} {T : List (Addr × Str)} {ms : List Int} {σ : L2.St} {n : Nat} (hn : b ≠ l) (hb : H b = some (.lst [.ref l, .int 0, .int 0, .int 9465, .int 0])) (hl : H l = some (.lst (ms.map V.int))) (ht : LamX.Tabs T H) (hs : σ[1]? = some (some (.ref b))) (hσ : σ.length = n + 2) :
    ∃ I, Ok K ⟨b, T⟩ I H ∧ EnvR K ⟨b, T⟩ H I H σ (none :: some .bag :: List.replicate n none) := by
  refine ⟨upd (fun _ => none) l (.lst (ms.map V.int)), ⟨fun a o h => ?_, ?_, fun a o h => ?_, ht, l, ms, 0, 0, 9465, 0, hb, .inl (.inl upd_same), by decide, by decide, by decide, by decide⟩, ⟨by rw [hσ]; simp, fun i r e => ?_, fun i j a ds es e => ?_⟩⟩
  · by_cases z : a = l
    · subst z
      rw [upd_same] at h
      rw [hl]
      exact h
    · rw [upd_ne z] at h
      cases h
  · rw [upd_ne hn]
  · by_cases z : a = l
    · subst z
      rw [upd_same] at h
      cases h
      exact True.intro
    · rw [upd_ne z] at h
      cases h
  · match i with
    | 0 => cases e
    | 1 => cases e; exact ⟨_, hs, rfl⟩
    | i + 2 =>
      have e : (List.replicate n (none : Option DV))[i]? = some (some r) := e
      rw [List.getElem?_replicate] at e
      split at e <;> cases e
  · match i with
    | 0 => cases e
    | 1 => cases e
    | i + 2 =>
      have e : (List.replicate n (none : Option DV))[i]? = some (some (.own ds)) := e
      rw [List.getElem?_replicate] at e
      split at e <;> cases e
end
end Lw

set_option Elab.async false
set_option linter.all false
set_option maxRecDepth 100000
set_option maxHeartbeats 4000000
namespace Lw
open PySem PySem.Spec PyProof.Rows L2 DL DW
section
variable {P : Program} {w : World} {K : PySem.W.Frag} {mg : Str → Option Value} {base : Heap}
theorem B_look_sizes_0_sizes (T : Top K mg w) : KBn K T.fd_look_sizes ["sizes"] 0 ["sizes"] (pk [0]) (pk [0]) := kb_mk [0] T.F_look_sizes (fun _ _ _ _ _ _ us ws h1 h2 => match us, ws, h1, h2 with | [], [_], _, _ => rfl)
theorem B_Loft_2_stand (T : Top K mg w) : KBn K T.fd_Loft ["self", "sizes", "stand"] 2 ["stand"] (pk [0, 1, 2]) (pk [0, 1, 2]) := kb_mk [0, 1, 2] T.F_Loft (fun _ _ _ _ _ _ us ws h1 h2 => match us, ws, h1, h2 with | [_, _], [_], _, _ => rfl)
theorem ok_look_sizes (T : Top K mg w) : FnOk P w K mg base (L2.CX P w) 3 T.a_look_sizes T.fd_look_sizes ["sizes"] (spW K T.cls T.fa W_look_sizes) := by
  exact fn_w 1 3 T.F_look_sizes sc_look_sizes rfl rfl (by decide) fun cdv A outer s H E hr => (jss_cons (js_if (jt_not (jt_chain jo_le jo_le je_int (je_callB jb_len (by rfl) T.m_len PySem.boot_len (ja_cons (je_var (pv 0)) ja_nil)) (je_c (C8.pe_gc (by rfl) (gc_int T.c_MOST_CASKS)) (fun _ => Dp.int _)))) (jss_one (js_raise (x := 0) (mk := mk_BadSizes) (ja_cons (je_un ju_neg je_int) ja_nil) (by decide) (fun _ h => ps_raise rfl (takes_of rfl rfl rfl rfl) (pmk_oex T.o_BadSizes T.ii_BadSizes T.ti_BadSizes (init_BadSizes T) (hr.mono (by omega)) T.bi_BadSizes .nil pass0 (by rfl) T.g_BadSizes h)))) jss_nil)
      (jss_one (js_for (passes_of rfl) rfl (ji_enum (by rfl) T.m_enumerate (ja_cons (je_var (pv 0)) ja_nil)) to_pair (jg_pair (i := 1) (j := 2) (pg_tup rfl (pgs_cons (pg_name (i := 1) sc_look_sizes.nd rfl (by first | exact Or.inl rfl | exact Or.inr rfl)) (pgs_cons (pg_name (i := 2) sc_look_sizes.nd rfl (by first | exact Or.inl rfl | exact Or.inr rfl)) pgs_nil))) (ltr rfl) (ltr rfl)) (jss_one (js_if (jt_not (jt_chain jo_le jo_le je_int (je_var (pv 2)) (je_c (C8.pe_gc (by rfl) (gc_int T.c_MOST_SIZE)) (fun _ => Dp.int _)))) (jss_one (js_raise (x := 0) (mk := mk_BadSizes) (ja_cons (je_var (pv 1)) ja_nil) (by decide) (fun _ h => ps_raise rfl (takes_of rfl rfl rfl rfl) (pmk_oex T.o_BadSizes T.ii_BadSizes T.ti_BadSizes (init_BadSizes T) (hr.mono (by omega)) T.bi_BadSizes .nil pass0 (by rfl) T.g_BadSizes h)))) jss_nil)) (fun _ _ _ h1 h2 h3 => ps_for (passes_of rfl) rfl h1 h2 h3))))
theorem ok_look_stand (T : Top K mg w) : FnOk P w K mg base (L2.CX P w) 4 T.a_look_stand T.fd_look_stand ["sizes", "stand"] (spW K T.cls T.fa W_look_stand) := by
  have G_look_sizes := ok_look_sizes (P := P) (w := w) (base := base) T
  exact fn_w 2 5 T.F_look_stand sc_look_stand rfl rfl (by decide) fun cdv A outer s H E hr => (jss_cons (js_expr (je_call G_look_sizes (hr.mono (by omega)) (by rfl) T.g_look_sizes T.F_look_sizes.kp T.b_look_sizes passX (ja_cons (je_var (pv 0)) ja_nil)))
      (jss_cons (js_if (jt_cmp jo_gt (je_callB jb_len (by rfl) T.m_len PySem.boot_len (ja_cons (je_var (pv 1)) ja_nil)) (je_c (C8.pe_gc (by rfl) (gc_int T.c_MOST_DROPS)) (fun _ => Dp.int _)) (nomark _)) (jss_one js_never) jss_nil)
      (jss_cons (js_set sc_look_stand.nd rfl (ltr rfl) (je_callT (jb_list rfl) (by rfl) T.m_list (by decide +kernel) (ja_cons (je_var (pv 0)) ja_nil)) (fun _ h => ps_set (i := 2) sc_look_stand.nd rfl (by first | exact Or.inl rfl | exact Or.inr rfl) h))
      (jss_one (js_for (passes_of rfl) rfl (ji_enum (by rfl) T.m_enumerate (ja_cons (je_var (pv 1)) ja_nil)) to_pair (jg_pair (i := 3) (j := 4) (pg_tup rfl (pgs_cons (pg_name (i := 3) sc_look_stand.nd rfl (by first | exact Or.inl rfl | exact Or.inr rfl)) (pgs_cons (pg_name (i := 4) sc_look_stand.nd rfl (by first | exact Or.inl rfl | exact Or.inr rfl)) pgs_nil))) (ltr rfl) (ltr rfl)) (jss_cons (js_if (jt_cmp (jo_eq hr.units) (je_var (pv 4)) (je_c (C8.pe_gc (by rfl) (gc_int T.c_GONE)) (fun _ => Dp.int _)) (nomark _)) (jss_one js_cnt) jss_nil)
      (jss_cons (js_if (jt_w (jw_or (jt_not (jt_chain jo_le jo_lt je_int (je_var (pv 4)) (je_callB jb_len (by rfl) T.m_len PySem.boot_len (ja_cons (je_var (pv 0)) ja_nil)))) (jw_or1 (jt_cmp (jo_eq hr.units) (je_ix (jx_seq (units65 hr)) (je_var (pv 2)) (je_var (pv 4)) (fun _ _ => rfl)) je_int (nomark _))))) (jss_one js_never) jss_nil)
      (jss_one (js_augI (i := 2) (je_var (pv 4)) je_int (fun _ _ hk h => ps_augS (pv 2) hk TF.get_list h ip_sub set_list))))) (fun _ _ _ h1 h2 h3 => ps_for (passes_of rfl) rfl h1 h2 h3))))))
theorem ok_counts_of (T : Top K mg w) : FnOk P w K mg base (L2.CX P w) 5 T.a_counts_of T.fd_counts_of ["sizes", "stand"] (spW K T.cls T.fa W_counts_of) := by
  have G_look_stand := ok_look_stand (P := P) (w := w) (base := base) T
  exact fn_w 2 3 T.F_counts_of sc_counts_of rfl rfl (by decide) fun cdv A outer s H E hr => (jss_cons (js_expr (je_call G_look_stand (hr.mono (by omega)) (by rfl) T.g_look_stand T.F_look_stand.kp T.b_look_stand passX (ja_cons (je_var (pv 0)) (ja_cons (je_var (pv 1)) ja_nil))))
      (jss_one (js_ret (je_callT jb_tuple (by rfl) T.m_tuple (by decide +kernel) (ja_cons (je_lc (own := [("cask", 2)]) rfl sc_counts_of.nd (ji_rg1 (by rfl) T.m_range (ja_cons (je_callB jb_len (by rfl) T.m_len PySem.boot_len (ja_cons (je_var (pv 0)) ja_nil)) ja_nil)) (blkOk_by (own := [("cask", 2)]) (N := N_counts_of) (sc := defScope s_counts_of) (by decide +kernel)) to_name (fun _ => (jg_name (i := 2) (pg_name (i := 2) sc_counts_of.nd rfl (by first | exact Or.inl rfl | exact Or.inr rfl)) (ltr rfl))) (by decide) (fun _ => jts_nil) (fun _ => (je_count T.kt (je_var (pv 1)) (je_var (pv 2))))) ja_nil)))))
theorem ok_Book (T : Top K mg w) : FnOk P w K mg base (L2.CX P w) 4 T.a_Book T.fd_Book ["self", "sizes"] (spW K T.cls T.fa W_Book) := by
  have G_look_sizes := ok_look_sizes (P := P) (w := w) (base := base) T
  exact fn_w 2 2 T.F_Book sc_Book rfl rfl (by decide) fun cdv A outer s H E hr => (jss_cons (js_expr (je_call G_look_sizes (hr.mono (by omega)) (by rfl) T.g_look_sizes T.F_look_sizes.kp T.b_look_sizes passX (ja_cons (je_var (pv 1)) ja_nil)))
      (jss_cons js_never
      (jss_cons js_never
      (jss_one js_never))))
theorem ok_Loft (T : Top K mg w) : FnOk P w K mg base (L2.CX P w) 5 T.a_Loft T.fd_Loft ["self", "sizes", "stand"] (spW K T.cls T.fa W_Loft) := by
  have G_look_stand := ok_look_stand (P := P) (w := w) (base := base) T
  exact fn_w 3 3 T.F_Loft sc_Loft rfl rfl (by decide) fun cdv A outer s H E hr => (jss_cons (js_expr (je_call G_look_stand (hr.mono (by omega)) (by rfl) T.g_look_stand T.F_look_stand.kp T.b_look_stand passX (ja_cons (je_var (pv 1)) (ja_cons (je_var (pv 2)) ja_nil))))
      (jss_cons js_never
      (jss_cons js_never
      (jss_cons js_never
      (jss_one js_never)))))
theorem ok_law_pick (T : Top K mg w) : FnOk P w K mg base (L2.CX P w) 2 T.a_law_pick T.fd_law_pick ["_law_bag", "_law_row"] (spW K T.cls T.fa W_law_pick) := by
  have G_law_take := ok_law_take (P := P) (w := w) (base := base) T
  exact fn_w 2 2 T.F_law_pick sc_law_pick rfl rfl (by decide) fun cdv A outer s H E hr => (jss_one (js_ret (je_ix (jx_seq (units65 hr)) (je_var (pv 1)) (je_call G_law_take (hr.mono (by omega)) (by rfl) T.g_law_take T.F_law_take.kp T.b_law_take passX (ja_cons (je_var (pv 0)) (ja_cons (je_callB jb_len (by rfl) T.m_len PySem.boot_len (ja_cons (je_var (pv 1)) ja_nil)) ja_nil))) (fun _ _ => rfl))))
theorem ok_law_same (T : Top K mg w) : ∀ k, FnOk P w K mg base (L2.CX P w) (1 + k) T.a_law_same T.fd_law_same ["_law_found", "_law_due"] (spW K T.cls T.fa (W_law_same k))
  | 0 => fn_none
  | k + 1 => by
    have G_law_same := ok_law_same T k
    exact fn_w (k := 1 + k) 2 3 T.F_law_same sc_law_same rfl rfl (by decide) fun cdv A outer s H E hr => (jss_cons (js_if (jt_cmp jo_isN (je_var (pv 1)) je_non (nomark _)) (jss_one (js_ret (je_cmp jo_isN (je_var (pv 0)) je_non (nomark _)))) jss_nil)
      (jss_cons (js_if (jt_val (je_callB jb_isi (by rfl) T.m_isinstance (by decide +kernel) (ja_cons (je_var (pv 1)) (ja_cons (je_raw (pe_bltn (v := .ty "bool") (u := .type "bool") (by rfl) T.m_bool (by decide +kernel) rfl)) ja_nil)))) (jss_one (js_ret (je_and (je_callB jb_isi (by rfl) T.m_isinstance (by decide +kernel) (ja_cons (je_var (pv 0)) (ja_cons (je_raw (pe_bltn (v := .ty "bool") (u := .type "bool") (by rfl) T.m_bool (by decide +kernel) rfl)) ja_nil))) (je_one (je_cmp (jo_eq hr.units) (je_var (pv 0)) (je_var (pv 1)) (nomark _)))))) jss_nil)
      (jss_cons (js_if (jt_val (je_callB jb_isi (by rfl) T.m_isinstance (by decide +kernel) (ja_cons (je_var (pv 1)) (ja_cons (je_raw (pe_bltn (v := .ty "int") (u := .type "int") (by rfl) T.m_int (by decide +kernel) rfl)) ja_nil)))) (jss_one (js_ret (je_and (je_callB jb_isi (by rfl) T.m_isinstance (by decide +kernel) (ja_cons (je_var (pv 0)) (ja_cons (je_raw (pe_bltn (v := .ty "int") (u := .type "int") (by rfl) T.m_int (by decide +kernel) rfl)) ja_nil))) (je_and (je_not (je_callB jb_isi (by rfl) T.m_isinstance (by decide +kernel) (ja_cons (je_var (pv 0)) (ja_cons (je_raw (pe_bltn (v := .ty "bool") (u := .type "bool") (by rfl) T.m_bool (by decide +kernel) rfl)) ja_nil)))) (je_one (je_cmp (jo_eq hr.units) (je_var (pv 0)) (je_var (pv 1)) (nomark _))))))) jss_nil)
      (jss_cons (js_if (jt_val (je_callB jb_isi (by rfl) T.m_isinstance (by decide +kernel) (ja_cons (je_var (pv 1)) (ja_cons (je_raw (pe_bltn (v := .ty "str") (u := .type "str") (by rfl) T.m_str (by decide +kernel) rfl)) ja_nil)))) (jss_one (js_ret (je_and (je_callB jb_isi (by rfl) T.m_isinstance (by decide +kernel) (ja_cons (je_var (pv 0)) (ja_cons (je_raw (pe_bltn (v := .ty "str") (u := .type "str") (by rfl) T.m_str (by decide +kernel) rfl)) ja_nil))) (je_one (je_cmp (jo_eq hr.units) (je_var (pv 0)) (je_var (pv 1)) (nomark _)))))) jss_nil)
      (jss_cons (js_if (jt_w (jw_or (jt_cmp (jo_ne hr.units) (je_callB jb_isi (by rfl) T.m_isinstance (by decide +kernel) (ja_cons (je_var (pv 1)) (ja_cons (je_raw (pe_bltn (v := .ty "tuple") (u := .type "tuple") (by rfl) T.m_tuple (by decide +kernel) rfl)) ja_nil))) (je_callB jb_isi (by rfl) T.m_isinstance (by decide +kernel) (ja_cons (je_var (pv 0)) (ja_cons (je_raw (pe_bltn (v := .ty "tuple") (u := .type "tuple") (by rfl) T.m_tuple (by decide +kernel) rfl)) ja_nil))) (nomark _)) (jw_or1 (jt_cmp (jo_ne hr.units) (je_callB jb_isi (by rfl) T.m_isinstance (by decide +kernel) (ja_cons (je_var (pv 1)) (ja_cons (je_raw (pe_bltn (v := .ty "list") (u := .type "list") (by rfl) T.m_list (by decide +kernel) rfl)) ja_nil))) (je_callB jb_isi (by rfl) T.m_isinstance (by decide +kernel) (ja_cons (je_var (pv 0)) (ja_cons (je_raw (pe_bltn (v := .ty "list") (u := .type "list") (by rfl) T.m_list (by decide +kernel) rfl)) ja_nil))) (nomark _))))) (jss_one (js_ret je_bl)) jss_nil)
      (jss_cons (js_if (jt_cmp (jo_ne hr.units) (je_callB jb_len (by rfl) T.m_len PySem.boot_len (ja_cons (je_var (pv 0)) ja_nil)) (je_callB jb_len (by rfl) T.m_len PySem.boot_len (ja_cons (je_var (pv 1)) ja_nil)) (nomark _)) (jss_one (js_ret je_bl)) jss_nil)
      (jss_one (js_ret (je_callB (jb_all rfl) (by rfl) T.m_all (by decide +kernel) (ja_cons (je_lc (own := [("_law_at", 2)]) rfl sc_law_same.nd (ji_rg1 (by rfl) T.m_range (ja_cons (je_callB jb_len (by rfl) T.m_len PySem.boot_len (ja_cons (je_var (pv 1)) ja_nil)) ja_nil)) (blkOk_by (own := [("_law_at", 2)]) (N := N_law_same) (sc := defScope s_law_same) (by decide +kernel)) to_name (fun _ => (jg_name (i := 2) (pg_name (i := 2) sc_law_same.nd rfl (by first | exact Or.inl rfl | exact Or.inr rfl)) (ltr rfl))) (by decide) (fun _ => jts_nil) (fun _ => (je_call G_law_same (hr.mono (by omega)) (by rfl) T.g_law_same T.F_law_same.kp T.b_law_same passE0 (ja_cons (je_ix (jx_seq (units65 hr)) (je_var (pv 0)) (je_var (pv 2)) (fun _ _ => rfl)) (ja_cons (je_ix (jx_seq (units65 hr)) (je_var (pv 1)) (je_var (pv 2)) (fun _ _ => rfl)) ja_nil))))) ja_nil))))))))))
theorem ok_law_sizes (T : Top K mg w) : FnOk P w K mg base (L2.CX P w) 2 T.a_law_sizes T.fd_law_sizes ["_law_bag", "_law_mcasks", "_law_most"] (spW K T.cls T.fa W_law_sizes) := by
  have G_law_take := ok_law_take (P := P) (w := w) (base := base) T
  exact fn_w 3 4 T.F_law_sizes sc_law_sizes rfl rfl (by decide) fun cdv A outer s H E hr => (jss_one (js_ret (je_callT jb_tuple (by rfl) T.m_tuple (by decide +kernel) (ja_cons (je_lc (own := [("_law_mcask", 3)]) rfl sc_law_sizes.nd (ji_rg1 (by rfl) T.m_range (ja_cons (je_op (jo_add T.kl) je_int (je_call G_law_take (hr.mono (by omega)) (by rfl) T.g_law_take T.F_law_take.kp T.b_law_take passX (ja_cons (je_var (pv 0)) (ja_cons (je_var (pv 1)) ja_nil)))) ja_nil)) (blkOk_by (own := [("_law_mcask", 3)]) (N := N_law_sizes) (sc := defScope s_law_sizes) (by decide +kernel)) to_name (fun _ => (jg_name (i := 3) (pg_name (i := 3) sc_law_sizes.nd rfl (by first | exact Or.inl rfl | exact Or.inr rfl)) (ltr rfl))) (by decide) (fun _ => jts_nil) (fun _ => (je_op (jo_add T.kl) je_int (je_call G_law_take (hr.mono (by omega)) (by rfl) T.g_law_take T.F_law_take.kp T.b_law_take passE0 (ja_cons (je_var (pv 0)) (ja_cons (je_var (pv 2)) ja_nil)))))) ja_nil))))
theorem ok_law_any_sizes (T : Top K mg w) : FnOk P w K mg base (L2.CX P w) 3 T.a_law_any_sizes T.fd_law_any_sizes ["_law_bag"] (spW K T.cls T.fa W_law_any_sizes) := by
  have G_law_sizes := ok_law_sizes (P := P) (w := w) (base := base) T
  have G_law_pick := ok_law_pick (P := P) (w := w) (base := base) T
  exact fn_w 1 1 T.F_law_any_sizes sc_law_any_sizes rfl rfl (by decide) fun cdv A outer s H E hr => (jss_one (js_ret (je_call G_law_sizes (hr.mono (by omega)) (by rfl) T.g_law_sizes T.F_law_sizes.kp T.b_law_sizes passX (ja_cons (je_var (pv 0)) (ja_cons je_int (ja_cons (je_call G_law_pick (hr.mono (by omega)) (by rfl) T.g_law_pick T.F_law_pick.kp T.b_law_pick passX (ja_cons (je_var (pv 0)) (ja_cons (je_lst (ja_cons je_int (ja_cons je_int (ja_cons je_int (ja_cons je_int ja_nil))))) ja_nil))) ja_nil))))))
theorem ok_law_flaw (T : Top K mg w) : FnOk P w K mg base (L2.CX P w) 1 T.a_law_flaw T.fd_law_flaw ["_law_row"] (spW K T.cls T.fa W_law_flaw) := by
  exact fn_w 1 3 T.F_law_flaw sc_law_flaw rfl rfl (by decide) fun cdv A outer s H E hr => (jss_cons (js_if (jt_not (jt_chain jo_le jo_le je_int (je_callB jb_len (by rfl) T.m_len PySem.boot_len (ja_cons (je_var (pv 0)) ja_nil)) je_int)) (jss_one (js_ret (je_un ju_neg je_int))) jss_nil)
      (jss_cons (js_setLc (i := 1) (own := [("_law_at", 2)]) rfl sc_law_flaw.nd rfl rfl (sw_true rfl rfl rfl (by decide +kernel)) (ltr rfl) (ji_rg1 (by rfl) T.m_range (ja_cons (je_callB jb_len (by rfl) T.m_len PySem.boot_len (ja_cons (je_var (pv 0)) ja_nil)) ja_nil)) (blkOk_by (own := [("_law_at", 2)]) (N := N_law_flaw) (sc := defScope s_law_flaw) (by decide +kernel)) to_name (fun _ => (jg_name (i := 2) (pg_name (i := 2) sc_law_flaw.nd rfl (by first | exact Or.inl rfl | exact Or.inr rfl)) (ltr rfl))) (by decide) (fun _ => (jts_one (jt_not (jt_chain jo_le jo_le je_int (je_ix (jx_seq (units65 hr)) (je_var (pv 0)) (je_var (pv 2)) (fun _ _ => rfl)) je_int)))) (fun _ => (je_var (pv 2))))
      (jss_one (js_ret (je_ifE (jt_cmp (jo_eq hr.units) (je_var (pv 1)) (je_lst ja_nil) (nomark _)) je_str (je_ix (jx_seq (units65 hr)) (je_var (pv 1)) je_int (fun _ _ => rfl)))))))
abbrev AfterT (T : Top K mg w) : Addr → List (Str × V) → Hp → VK → Prop := fun C fs H Q => (C = T.C_BadSizes ∧ ∃ v, fs.lookup ("cask" : Str) = some v ∧ Q v H)
theorem gives_law_told {X : Cx} (T : Top X.K X.mg w) {cd : Value} {q : Str} : LamX.GivesTo X N_law_told "_law_told" (defScope s_law_told) T.a_law_told cd (defBody s_law_told) "_law_ask" q (TTx (.str "none") (AfterT T)) := by
  intro f c' s H Q tl act hc h
  refine ⟨_, pss_cons (ps_set (i := 1) sc_law_told.nd rfl (by first | exact Or.inl rfl | exact Or.inr rfl) pe_str) (pss_cons (ps_tryN (i := 2) (n := "e")
      (cs := [(.ref T.C_BadSizes, fun x k dd => tAsg (tXf x k dd T.C_BadSizes "cask" (tVar 2)) (gName 1))])
      (tb := fun W D σ H => ∃ Ech : XK, (∀ cls d σ' H', σ'.length = 3 → Ech cls d H' → W cls d σ' H') ∧ ∃ QQ : VK, (∀ v H1, QQ v H1 → D.nx σ H1) ∧ σ[0]? = some (some (.ref f)) ∧ H c' = some (LamX.CodeO c' q) ∧ tl Ech H QQ)
      sc_law_told.nd rfl rfl (.cons ⟨rfl, by decide, .inl T.g_BadSizes⟩ (fun x o k dd ps hz hf => pss_one (ps_set (i := 1) sc_law_told.nd rfl (by first | exact Or.inl rfl | exact Or.inr rfl) (pe_xf T.f_BadSizes T.n_BadSizes_cask hz hf (pv 2)))) .nil) (fun W ps xe tk po => ?_)) (pss_one (ps_ret (pv 1)))), ?_⟩
  · refine ⟨fun pins s' σ H' D I h' => ?_⟩
    obtain ⟨Ech, hW, QQ, m, h1, h2, h3⟩ := h'
    exact (pss_one (ps_expr (pe_weak (act _ ps xe Ech _ _ (takes_len tk) fun cls d σ' H' hE hl => hW cls d σ' H' hl hE)))).run pins s' σ H' D I ⟨QQ, fun v H1 z => m v H1 z, h1, h2, h3⟩
  · refine ⟨fun cls d H' => ∃ C dd fs, cls = .ref C ∧ d = some dd ∧ H' dd = some (.xd fs) ∧ AfterT T C fs H' Q, ?_, fun _ H' => Q (.str "none") H', fun v H1 z => ⟨_, rfl, z⟩, rfl, hc, h⟩
    rintro cls d σ' H' hl ⟨C, dd, fs, rfl, rfl, hd, af⟩
    obtain ⟨x0, x1, x2, rfl⟩ : ∃ x0 x1 x2, σ' = [x0, x1, x2] := by
      match σ', hl with
      | [a, b, c], _ => exact ⟨a, b, c, rfl⟩
    rcases af with ⟨rfl, v, hv, hq⟩
    · exact ⟨true, T.e_BadSizes_BadSizes, fun _ x hx => ⟨_, rfl, rfl, rfl, dd, fs, v, rfl, hd, hv, _, rfl, hq⟩, fun z => by cases z⟩
abbrev tabs_law (T : Top K mg w) : List (Addr × Str) := [(T.P_law, (("law" : Str) ++ ".<locals>.") ++ "<lambda>")]
theorem tabs_one (T : Top K mg w) : ∀ p ∈ tabs_law T, p.1 = T.P_law → p.2 = (("law" : Str) ++ ".<locals>.") ++ "<lambda>" := fun p hp _ => by
  rcases List.mem_cons.mp hp with e | e
  · rw [e]
  · cases e
theorem pe_law_told {X : Cx} {base : Heap} (T : Top K mg w) {k : Nat} {params : Arguments} {body : Expr} {scope : Scope} {t : XK → TE} {p lpos pos : Pos} (TB : LamX.TabB base mg T.k_law T.P_law) (hK : X.K = K) (hmg : X.mg = mg) (hbs : X.base = base) (hq : X.env.qual = ("law" : Str) ++ ".<locals>.") (hcode : X.env.code = .ref T.k_law) (hg : Gl X "_law_told") (hr : Room (k + 2) X.A) (L : LamX.LamS X.env.scope scope) (hdef : defaultsOf params X.env = ([], []))
    (hbind : ∀ (q : Str) (cl : List (Str × Addr)) (pm cv ctv : Value), bindArgs (PySem.W.kla_fn "<lambda>" q params body scope cl pm cv ctv) ⟨[], []⟩ = pure [])
    (hbody : ∀ (A : Around) (outer : List PySem.Env) (s : Shared) (H : Hp) (E : XK) (f c' : Addr), Room k (A.deeper (LamX.lamEnv X scope s.heap.objs.size f c')) → PE (LamX.lamCx X A outer s H E scope f c') body (t E)) :
    PE X (.Call (.Name "_law_told" p) [.Lambda params body scope lpos] [] pos) (LamX.tLam (tabs_law T) (TTx (.str "none") (AfterT T)) t) := by
  subst hK hmg hbs
  obtain ⟨oc2, od2, kV2, dc2, pm2, an2, cdv2, ct2, osl2, efd2, lk2, cd2⟩ := T.F_law_told.ex
  have bt := T.b_law_told
  rw [efd2] at lk2 bt
  exact LamX.pe_lamcall (T := tabs_law T) hg T.g_law_told T.F_law_told.kp lk2 cd2 bt sc_law_told rfl (Or.inl rfl) (gives_law_told T) TB hcode (by rw [hq]; exact List.mem_cons_self ..) (by rw [hq]; exact tabs_one T) hr L hdef hbind hbody
theorem aft_ok (T : Top K mg w) : AftOk K T.cls (AfterT T) aft := by
  intro s fs d h b I' H' Q ok q
  unfold aft at h
  by_cases z0 : s = 0
  · rw [if_pos z0] at h
    subst z0
    cases h0 : fs.lookup ("cask" : Str) with
    | none => simp [h0] at h
    | some v0 =>
    rw [h0] at h
    exact ⟨rfl, v0, h0, q v0 I' H' ok.re (vD_dp h)⟩
  rw [if_neg z0] at h
  cases h
end
end Lw

set_option Elab.async false
set_option linter.all false
set_option maxRecDepth 100000
set_option maxHeartbeats 4000000
namespace Lw
open PySem PySem.Spec PyProof.Rows L2 DL DW
/-- sizes -/
structure Sz (ms : List Int) : Prop where
  lo : 1 ≤ ms.length
  hi : ms.length ≤ 6
  at_ : ∀ i : Int, 0 ≤ i → i < ms.length → 1 ≤ DW.at_ ms i ∧ DW.at_ ms i ≤ 40
/-- counts -/
structure Ld (ms cs : List Int) : Prop where
  len : cs.length = ms.length
  at_ : ∀ i : Int, 0 ≤ i → i < ms.length → 0 ≤ DW.at_ cs i ∧ DW.at_ cs i ≤ DW.at_ ms i
theorem w_look_sizes {ms : List Int} {P : DP} {c : Cn} (h : Sz ms) (p : P (.dat .none)) : W_look_sizes [.dat (nums ms)] P c := by
  have h1 : (1 : Int) ≤ (ms.length : Int) := by have := h.lo; omega
  have h2 : (ms.length : Int) ≤ 6 := by have := h.hi; omega
  unfold W_look_sizes D_look_sizes
  ((try simp only [wFn, List.length_cons, List.length_nil, Nat.reduceAdd, true_and, Nat.reduceSub, List.replicate_succ, List.replicate_zero, List.append_nil, List.cons_append, List.nil_append, List.map_cons, List.map_nil]) <;> try simp only [wFn, dSeq, later, dIfS, dNext, dAsg, dPar, dRet, dRetV, dRetN, dExpr, dBrk, dCnt, dFor, dFrz, frzAt, dAsgG, dGName, dGSub, dGNil, dGCons, dGTup, dAugI, dAug, dApp, dExt, dRaise, dVar, dC, dBin, dUn, dChain, dTst, dAnd, dOr, dNot, dYes, dAndV, dOrV, dNotV, dIfE, dNil, dCons, dTup, dLst, dats, dNone, dSome, dSl, oCut, dCall, dCb, dLrg, pk, dCallK, dTab, dCallV, dISeq, dIRg1, dIRg2, dIZip, dIEnum, tfName, tfPair, dLc, lcStep, Cn.no, dCount, scVs, scV, oAdd, oSub, oMul, oMod, oDiv, oCmp, oNeg, oEq, toD, oIsN, oIx, seqD, lstD, bLen, bTuple, bList, bAbs, bMin, bMax, bSum, bAll, bAny, bSorted, bIsi, fz, isPl_dat, isPl_raw, isPl_bag, oIn, flD, List.map_cons, List.map_nil, List.cons_append, List.nil_append, List.append_nil, List.getElem?_cons_zero, List.getElem?_cons_succ, List.getElem?_nil, List.set_cons_zero, List.set_cons_succ, List.length_cons, List.length_nil, List.all_cons, List.all_nil, List.replicate_succ, List.replicate_zero, Bool.and_true, Bool.and_self, Bool.true_and, List.filterMap_cons, List.filterMap_nil, Nat.reduceAdd, Nat.reduceSub, Nat.zero_add, true_and, and_true, if_true, ite_true, Bool.not_true, Bool.not_false, Bool.false_eq_true, if_false, ite_false])
  (try simp only [h1, h2, decide_true, decide_false, sh_int, sh_bl, sh_non, eqv_ii, eqv_ss, List.any_cons, List.any_nil, true_or, or_true, Bool.or_false, Bool.false_or, Bool.not_true, Bool.not_false, if_true, if_false, ite_true, ite_false, Bool.false_eq_true, List.length_map, not_false_eq_true, not_true_eq_false, reduceCtorEq, and_self, true_and, and_true, Bool.and_true, Bool.true_and])
  refine forGo_inv (fun _ δ => ∃ x y, δ = [some (.dat (nums ms)), x, y]) ⟨_, _, rfl⟩ (fun k d δk hd hj N hN => ?_) fun _ _ => p
  obtain ⟨x, y, rfl⟩ := hj
  obtain ⟨hk, rfl⟩ := enumD_ints hd
  have h3 := h.at_ k (by omega) (by omega)
  refine ⟨_, rfl, ?_⟩
  ((try simp only [wFn, List.length_cons, List.length_nil, Nat.reduceAdd, true_and, Nat.reduceSub, List.replicate_succ, List.replicate_zero, List.append_nil, List.cons_append, List.nil_append, List.map_cons, List.map_nil]) <;> try simp only [wFn, dSeq, later, dIfS, dNext, dAsg, dPar, dRet, dRetV, dRetN, dExpr, dBrk, dCnt, dFor, dFrz, frzAt, dAsgG, dGName, dGSub, dGNil, dGCons, dGTup, dAugI, dAug, dApp, dExt, dRaise, dVar, dC, dBin, dUn, dChain, dTst, dAnd, dOr, dNot, dYes, dAndV, dOrV, dNotV, dIfE, dNil, dCons, dTup, dLst, dats, dNone, dSome, dSl, oCut, dCall, dCb, dLrg, pk, dCallK, dTab, dCallV, dISeq, dIRg1, dIRg2, dIZip, dIEnum, tfName, tfPair, dLc, lcStep, Cn.no, dCount, scVs, scV, oAdd, oSub, oMul, oMod, oDiv, oCmp, oNeg, oEq, toD, oIsN, oIx, seqD, lstD, bLen, bTuple, bList, bAbs, bMin, bMax, bSum, bAll, bAny, bSorted, bIsi, fz, isPl_dat, isPl_raw, isPl_bag, oIn, flD, List.map_cons, List.map_nil, List.cons_append, List.nil_append, List.append_nil, List.getElem?_cons_zero, List.getElem?_cons_succ, List.getElem?_nil, List.set_cons_zero, List.set_cons_succ, List.length_cons, List.length_nil, List.all_cons, List.all_nil, List.replicate_succ, List.replicate_zero, Bool.and_true, Bool.and_self, Bool.true_and, List.filterMap_cons, List.filterMap_nil, Nat.reduceAdd, Nat.reduceSub, Nat.zero_add, true_and, and_true, if_true, ite_true, Bool.not_true, Bool.not_false, Bool.false_eq_true, if_false, ite_false])
  (try simp only [h3.1, h3.2, decide_true, decide_false, sh_int, sh_bl, sh_non, eqv_ii, eqv_ss, List.any_cons, List.any_nil, true_or, or_true, Bool.or_false, Bool.false_or, Bool.not_true, Bool.not_false, if_true, if_false, ite_true, ite_false, Bool.false_eq_true, List.length_map, not_false_eq_true, not_true_eq_false, reduceCtorEq, and_self, true_and, and_true, Bool.and_true, Bool.true_and])
  exact hN _ ⟨_, _, rfl⟩
/-- a deed as data -/
abbrev deedD (w : Str) (ns : List Int) : PyData := .tuple (.str w :: ns.map .int)
def Ck (ms : List Int) (c : Int) : Prop := 0 ≤ c ∧ c < (ms.length : Int)
def Nm (n : Int) : Prop := 0 ≤ n ∧ n < 1000000000000000000000000000000
inductive GoodD (ms : List Int) : Str → List Int → Prop
  | swap {a c : Int} : Ck ms a → Ck ms c → a ≠ c → at_ ms a = at_ ms c → GoodD ms "swap" [a, c]
  | tap {n c : Int} : Nm n → Ck ms c → GoodD ms "tap" [n, c]
  | drain {n c : Int} : Nm n → Ck ms c → GoodD ms "drain" [n, c]
  | over {n : Int} {cs : List Int} : Nm n → 2 ≤ cs.length → cs.length ≤ ms.length → (∀ c ∈ cs, Ck ms c) → cs.Nodup → GoodD ms "over" (n :: cs)
  | down {n : Int} {cs : List Int} : Nm n → 2 ≤ cs.length → cs.length ≤ ms.length → (∀ c ∈ cs, Ck ms c) → cs.Nodup → GoodD ms "down" (n :: cs)
theorem rangeD_at {lo : Int} {n k : Nat} {d : PyData} (h : (rangeD lo n)[k]? = some d) : k < n ∧ d = .int (lo + k) := rangeD_get h
theorem deed_at {w : Str} {ns : List Int} {k : Nat} (h1 : 1 ≤ k) (h2 : k ≤ ns.length) : atD (.str w :: ns.map .int) (k : Int) = some (.int (at_ ns ((k : Int) - 1))) := by
  rw [atD_nat (by omega)]
  obtain ⟨j, rfl⟩ : ∃ j, k = j + 1 := ⟨k - 1, by omega⟩
  have e : ((j + 1 : Nat) : Int).toNat = j + 1 := by omega
  rw [e, List.getElem?_cons_succ]
  have := ix_at (ns := ns) (i := (j : Int)) (by omega) (by omega)
  simp only [Int.toNat_natCast] at this
  rw [this]
  congr 2
  congr 1
  omega
inductive Deed where
  | over (n : Int) (ks : List Int)
  | down (n : Int) (ks : List Int)
  | swap (a b : Int)
  | tap (n k : Int)
  | drain (n k : Int)
def Deed.w : Deed → Str
  | .over _ _ => "over"
  | .down _ _ => "down"
  | .swap _ _ => "swap"
  | .tap _ _ => "tap"
  | .drain _ _ => "drain"
def Deed.ns : Deed → List Int
  | .over n ks => n :: ks
  | .down n ks => n :: ks
  | .swap a b => [a, b]
  | .tap n k => [n, k]
  | .drain n k => [n, k]
structure Way (ms : List Int) (ks : List Int) : Prop where
  lo : 2 ≤ ks.length
  hi : ks.length ≤ ms.length
  ck : ∀ c ∈ ks, Ck ms c
  nd : ks.Nodup
def Deed.Ok (ms : List Int) : Deed → Prop
  | .over n ks => Nm n ∧ Way ms ks
  | .down n ks => Nm n ∧ Way ms ks
  | .swap a b => Ck ms a ∧ Ck ms b ∧ a ≠ b ∧ at_ ms a = at_ ms b
  | .tap n k => Nm n ∧ Ck ms k
  | .drain n k => Nm n ∧ Ck ms k
abbrev Deed.D (d : Deed) : PyData := deedD d.w d.ns
theorem Deed.Ok.good {ms : List Int} {d : Deed} (h : d.Ok ms) : GoodD ms d.w d.ns := by
  cases d with
  | over n ks => exact .over h.1 h.2.lo h.2.hi h.2.ck h.2.nd
  | down n ks => exact .down h.1 h.2.lo h.2.hi h.2.ck h.2.nd
  | swap a b => exact .swap h.1 h.2.1 h.2.2.1 h.2.2.2
  | tap n k => exact .tap h.1 h.2
  | drain n k => exact .drain h.1 h.2
/-- a row of good deeds -/
def Rows (ms : List Int) (ds : List Deed) : Prop := ∀ d ∈ ds, d.Ok ms
abbrev rowD (ds : List Deed) : List PyData := ds.map fun d => d.D
/-! ### deeds by counts -/
theorem mn_eq {i j : Int} : (if j < i then j else i) = min i j := by omega
theorem mx_eq {i j : Int} : (if j > i then j else i) = max i j := by omega
/-- what goes on from cask to cask -/
def fill (ms : List Int) : List Int → List Int → Int → List Int × Int
  | [], held, g => (held, g)
  | k :: ks, held, g => fill ms ks (held.set k.toNat (at_ held k + min g (at_ ms k - at_ held k))) (g - min g (at_ ms k - at_ held k))
def lead (ms cs : List Int) (g : Int) : List Int → List Int
  | [] => cs
  | k :: ks => let r := fill ms ks (cs.set k.toNat (at_ cs k - g)) g
    r.1.set k.toNat (at_ r.1 k + r.2)
def pour (ms cs : List Int) : Deed → List Int
  | .over n ks => lead ms cs (min n (at_ cs (ks.headD 0))) ks
  | .down n ks => lead ms cs (max (at_ cs (ks.headD 0) - n) 0) ks
  | .swap a b => (cs.set a.toNat (at_ cs b)).set b.toNat (at_ cs a)
  | .tap n k => cs.set k.toNat (min (at_ cs k + n) (at_ ms k))
  | .drain n k => cs.set k.toNat (max (at_ cs k - n) 0)
theorem fill_len {ms : List Int} : ∀ {ks held : List Int} {g : Int}, (fill ms ks held g).1.length = held.length
  | [], _, _ => rfl
  | k :: ks, held, g => by
    unfold fill
    rw [fill_len, List.length_set]
theorem fill_at {ms : List Int} : True := trivial
theorem way_cut {w : Str} {n : Int} {ks : List Int} : cutD (.str w :: .int n :: ks.map PyData.int) (some 2) none = ks.map .int := cut_from (a := 2) (by simp)
theorem Way.head {ms ks : List Int} (h : Way ms ks) : ∃ k l, ks = k :: l ∧ Ck ms k := by
  cases ks with
  | nil => exact absurd h.lo (by simp)
  | cons k l => exact ⟨k, l, rfl, h.ck k (List.mem_cons_self ..)⟩
theorem lead_len {ms cs : List Int} {g : Int} {ks : List Int} : (lead ms cs g ks).length = cs.length := by
  cases ks with
  | nil => rfl
  | cons k l => simp only [lead, List.length_set, fill_len]
theorem pour_len {ms cs : List Int} {d : Deed} : (pour ms cs d).length = cs.length := by
  cases d with
  | over n ks => exact lead_len
  | down n ks => exact lead_len
  | swap a b => simp [pour]
  | tap n k => simp [pour]
  | drain n k => simp [pour]
def pours (ms cs : List Int) (ds : List Deed) : List Int := ds.foldl (pour ms) cs
theorem pours_len {ms : List Int} : ∀ {ds : List Deed} {cs : List Int}, (pours ms cs ds).length = cs.length
  | [], _ => rfl
  | d :: ds, cs => by
    show (pours ms (pour ms cs d) ds).length = _
    rw [pours_len, pour_len]
/-! ### what is drawn -/
theorem w_take {n : Int} {P : DP} {c : Cn} (h : okTake n) (p : ∀ i, 0 ≤ i → i < n → P (dint i)) : W_take [.bag, dint n] P c := ⟨h, p⟩
theorem w_pick {ds : List PyData} {P : DP} {c : Cn} (h0 : 0 < ds.length) (h1 : ds.length ≤ 100000) (p : ∀ d ∈ ds, P (.dat d)) : W_law_pick [.bag, .dat (.list ds)] P c := by
  unfold W_law_pick D_law_pick
  ((try simp only [wFn, List.length_cons, List.length_nil, Nat.reduceAdd, true_and, Nat.reduceSub, List.replicate_succ, List.replicate_zero, List.append_nil, List.cons_append, List.nil_append, List.map_cons, List.map_nil]) <;> try simp only [wFn, dSeq, later, dIfS, dNext, dAsg, dPar, dRet, dRetV, dRetN, dExpr, dBrk, dCnt, dFor, dFrz, frzAt, dAsgG, dGName, dGSub, dGNil, dGCons, dGTup, dAugI, dAug, dApp, dExt, dRaise, dVar, dC, dBin, dUn, dChain, dTst, dAnd, dOr, dNot, dYes, dAndV, dOrV, dNotV, dIfE, dNil, dCons, dTup, dLst, dats, dNone, dSome, dSl, oCut, dCall, dCb, dLrg, pk, dCallK, dTab, dCallV, dISeq, dIRg1, dIRg2, dIZip, dIEnum, tfName, tfPair, dLc, lcStep, Cn.no, dCount, scVs, scV, oAdd, oSub, oMul, oMod, oDiv, oCmp, oNeg, oEq, toD, oIsN, oIx, seqD, lstD, bLen, bTuple, bList, bAbs, bMin, bMax, bSum, bAll, bAny, bSorted, bIsi, fz, isPl_dat, isPl_raw, isPl_bag, oIn, flD, List.map_cons, List.map_nil, List.cons_append, List.nil_append, List.append_nil, List.getElem?_cons_zero, List.getElem?_cons_succ, List.getElem?_nil, List.set_cons_zero, List.set_cons_succ, List.length_cons, List.length_nil, List.all_cons, List.all_nil, List.replicate_succ, List.replicate_zero, Bool.and_true, Bool.and_self, Bool.true_and, List.filterMap_cons, List.filterMap_nil, Nat.reduceAdd, Nat.reduceSub, Nat.zero_add, true_and, and_true, if_true, ite_true, Bool.not_true, Bool.not_false, Bool.false_eq_true, if_false, ite_false])
  refine w_take ⟨by omega, by omega⟩ fun i i0 i1 => ?_
  ((try simp only [wFn, List.length_cons, List.length_nil, Nat.reduceAdd, true_and, Nat.reduceSub, List.replicate_succ, List.replicate_zero, List.append_nil, List.cons_append, List.nil_append, List.map_cons, List.map_nil]) <;> try simp only [wFn, dSeq, later, dIfS, dNext, dAsg, dPar, dRet, dRetV, dRetN, dExpr, dBrk, dCnt, dFor, dFrz, frzAt, dAsgG, dGName, dGSub, dGNil, dGCons, dGTup, dAugI, dAug, dApp, dExt, dRaise, dVar, dC, dBin, dUn, dChain, dTst, dAnd, dOr, dNot, dYes, dAndV, dOrV, dNotV, dIfE, dNil, dCons, dTup, dLst, dats, dNone, dSome, dSl, oCut, dCall, dCb, dLrg, pk, dCallK, dTab, dCallV, dISeq, dIRg1, dIRg2, dIZip, dIEnum, tfName, tfPair, dLc, lcStep, Cn.no, dCount, scVs, scV, oAdd, oSub, oMul, oMod, oDiv, oCmp, oNeg, oEq, toD, oIsN, oIx, seqD, lstD, bLen, bTuple, bList, bAbs, bMin, bMax, bSum, bAll, bAny, bSorted, bIsi, fz, isPl_dat, isPl_raw, isPl_bag, oIn, flD, List.map_cons, List.map_nil, List.cons_append, List.nil_append, List.append_nil, List.getElem?_cons_zero, List.getElem?_cons_succ, List.getElem?_nil, List.set_cons_zero, List.set_cons_succ, List.length_cons, List.length_nil, List.all_cons, List.all_nil, List.replicate_succ, List.replicate_zero, Bool.and_true, Bool.and_self, Bool.true_and, List.filterMap_cons, List.filterMap_nil, Nat.reduceAdd, Nat.reduceSub, Nat.zero_add, true_and, and_true, if_true, ite_true, Bool.not_true, Bool.not_false, Bool.false_eq_true, if_false, ite_false])
  rw [atD_nat i0, List.getElem?_eq_getElem (by omega)]
  exact p _ (List.getElem_mem _)
theorem rangeM (n : Nat) : rangeD 0 n = (List.range n).map fun (k : Nat) => PyData.int ((0 : Int) + (k : Int)) := rfl
theorem at_get {ns : List Int} {i : Int} (h0 : 0 ≤ i) (h1 : i < ns.length) : ∃ h : i.toNat < ns.length, at_ ns i = ns[i.toNat] := by
  have h : i.toNat < ns.length := by omega
  refine ⟨h, ?_⟩
  unfold at_
  rw [List.getD_eq_getElem?_getD, List.getElem?_eq_getElem h]
  rfl
theorem sz_of {ms : List Int} (h1 : 1 ≤ ms.length) (h2 : ms.length ≤ 6) (h : ∀ m ∈ ms, 1 ≤ m ∧ m ≤ 40) : Sz ms := ⟨h1, h2, fun i h0 h1 => h _ (at_mem h0 h1)⟩
theorem w_sizes {a m : Int} {P : DP} {c : Cn} (ha : 1 ≤ a ∧ a ≤ 6) (hm : 1 ≤ m ∧ m ≤ 40) (p : ∀ ms, Sz ms → P (.dat (nums ms))) : W_law_sizes [.bag, dint a, dint m] P c := by
  unfold W_law_sizes D_law_sizes
  ((try simp only [wFn, List.length_cons, List.length_nil, Nat.reduceAdd, true_and, Nat.reduceSub, List.replicate_succ, List.replicate_zero, List.append_nil, List.cons_append, List.nil_append, List.map_cons, List.map_nil]) <;> try simp only [wFn, dSeq, later, dIfS, dNext, dAsg, dPar, dRet, dRetV, dRetN, dExpr, dBrk, dCnt, dFor, dFrz, frzAt, dAsgG, dGName, dGSub, dGNil, dGCons, dGTup, dAugI, dAug, dApp, dExt, dRaise, dVar, dC, dBin, dUn, dChain, dTst, dAnd, dOr, dNot, dYes, dAndV, dOrV, dNotV, dIfE, dNil, dCons, dTup, dLst, dats, dNone, dSome, dSl, oCut, dCall, dCb, dLrg, pk, dCallK, dTab, dCallV, dISeq, dIRg1, dIRg2, dIZip, dIEnum, tfName, tfPair, dLc, lcStep, Cn.no, dCount, scVs, scV, oAdd, oSub, oMul, oMod, oDiv, oCmp, oNeg, oEq, toD, oIsN, oIx, seqD, lstD, bLen, bTuple, bList, bAbs, bMin, bMax, bSum, bAll, bAny, bSorted, bIsi, fz, isPl_dat, isPl_raw, isPl_bag, oIn, flD, List.map_cons, List.map_nil, List.cons_append, List.nil_append, List.append_nil, List.getElem?_cons_zero, List.getElem?_cons_succ, List.getElem?_nil, List.set_cons_zero, List.set_cons_succ, List.length_cons, List.length_nil, List.all_cons, List.all_nil, List.replicate_succ, List.replicate_zero, Bool.and_true, Bool.and_self, Bool.true_and, List.filterMap_cons, List.filterMap_nil, Nat.reduceAdd, Nat.reduceSub, Nat.zero_add, true_and, and_true, if_true, ite_true, Bool.not_true, Bool.not_false, Bool.false_eq_true, if_false, ite_false])
  refine ⟨by simp, ?_⟩
  refine w_take ⟨by omega, by omega⟩ fun i i0 i1 => ?_
  ((try simp only [wFn, List.length_cons, List.length_nil, Nat.reduceAdd, true_and, Nat.reduceSub, List.replicate_succ, List.replicate_zero, List.append_nil, List.cons_append, List.nil_append, List.map_cons, List.map_nil]) <;> try simp only [wFn, dSeq, later, dIfS, dNext, dAsg, dPar, dRet, dRetV, dRetN, dExpr, dBrk, dCnt, dFor, dFrz, frzAt, dAsgG, dGName, dGSub, dGNil, dGCons, dGTup, dAugI, dAug, dApp, dExt, dRaise, dVar, dC, dBin, dUn, dChain, dTst, dAnd, dOr, dNot, dYes, dAndV, dOrV, dNotV, dIfE, dNil, dCons, dTup, dLst, dats, dNone, dSome, dSl, oCut, dCall, dCb, dLrg, pk, dCallK, dTab, dCallV, dISeq, dIRg1, dIRg2, dIZip, dIEnum, tfName, tfPair, dLc, lcStep, Cn.no, dCount, scVs, scV, oAdd, oSub, oMul, oMod, oDiv, oCmp, oNeg, oEq, toD, oIsN, oIx, seqD, lstD, bLen, bTuple, bList, bAbs, bMin, bMax, bSum, bAll, bAny, bSorted, bIsi, fz, isPl_dat, isPl_raw, isPl_bag, oIn, flD, List.map_cons, List.map_nil, List.cons_append, List.nil_append, List.append_nil, List.getElem?_cons_zero, List.getElem?_cons_succ, List.getElem?_nil, List.set_cons_zero, List.set_cons_succ, List.length_cons, List.length_nil, List.all_cons, List.all_nil, List.replicate_succ, List.replicate_zero, Bool.and_true, Bool.and_self, Bool.true_and, List.filterMap_cons, List.filterMap_nil, Nat.reduceAdd, Nat.reduceSub, Nat.zero_add, true_and, and_true, if_true, ite_true, Bool.not_true, Bool.not_false, Bool.false_eq_true, if_false, ite_false])
  refine ⟨by omega, by rw [rangeD_len]; omega, ?_⟩
  rw [rangeM]
  refine lc_ints (R := fun _ j => 1 ≤ j ∧ j ≤ 40) (fun x hx k hk => ?_) fun ns hp => ?_
  · ((try simp only [wFn, List.length_cons, List.length_nil, Nat.reduceAdd, true_and, Nat.reduceSub, List.replicate_succ, List.replicate_zero, List.append_nil, List.cons_append, List.nil_append, List.map_cons, List.map_nil]) <;> try simp only [wFn, dSeq, later, dIfS, dNext, dAsg, dPar, dRet, dRetV, dRetN, dExpr, dBrk, dCnt, dFor, dFrz, frzAt, dAsgG, dGName, dGSub, dGNil, dGCons, dGTup, dAugI, dAug, dApp, dExt, dRaise, dVar, dC, dBin, dUn, dChain, dTst, dAnd, dOr, dNot, dYes, dAndV, dOrV, dNotV, dIfE, dNil, dCons, dTup, dLst, dats, dNone, dSome, dSl, oCut, dCall, dCb, dLrg, pk, dCallK, dTab, dCallV, dISeq, dIRg1, dIRg2, dIZip, dIEnum, tfName, tfPair, dLc, lcStep, Cn.no, dCount, scVs, scV, oAdd, oSub, oMul, oMod, oDiv, oCmp, oNeg, oEq, toD, oIsN, oIx, seqD, lstD, bLen, bTuple, bList, bAbs, bMin, bMax, bSum, bAll, bAny, bSorted, bIsi, fz, isPl_dat, isPl_raw, isPl_bag, oIn, flD, List.map_cons, List.map_nil, List.cons_append, List.nil_append, List.append_nil, List.getElem?_cons_zero, List.getElem?_cons_succ, List.getElem?_nil, List.set_cons_zero, List.set_cons_succ, List.length_cons, List.length_nil, List.all_cons, List.all_nil, List.replicate_succ, List.replicate_zero, Bool.and_true, Bool.and_self, Bool.true_and, List.filterMap_cons, List.filterMap_nil, Nat.reduceAdd, Nat.reduceSub, Nat.zero_add, true_and, and_true, if_true, ite_true, Bool.not_true, Bool.not_false, Bool.false_eq_true, if_false, ite_false])
    refine w_take ⟨by omega, by omega⟩ fun j j0 j1 => ?_
    ((try simp only [wFn, List.length_cons, List.length_nil, Nat.reduceAdd, true_and, Nat.reduceSub, List.replicate_succ, List.replicate_zero, List.append_nil, List.cons_append, List.nil_append, List.map_cons, List.map_nil]) <;> try simp only [wFn, dSeq, later, dIfS, dNext, dAsg, dPar, dRet, dRetV, dRetN, dExpr, dBrk, dCnt, dFor, dFrz, frzAt, dAsgG, dGName, dGSub, dGNil, dGCons, dGTup, dAugI, dAug, dApp, dExt, dRaise, dVar, dC, dBin, dUn, dChain, dTst, dAnd, dOr, dNot, dYes, dAndV, dOrV, dNotV, dIfE, dNil, dCons, dTup, dLst, dats, dNone, dSome, dSl, oCut, dCall, dCb, dLrg, pk, dCallK, dTab, dCallV, dISeq, dIRg1, dIRg2, dIZip, dIEnum, tfName, tfPair, dLc, lcStep, Cn.no, dCount, scVs, scV, oAdd, oSub, oMul, oMod, oDiv, oCmp, oNeg, oEq, toD, oIsN, oIx, seqD, lstD, bLen, bTuple, bList, bAbs, bMin, bMax, bSum, bAll, bAny, bSorted, bIsi, fz, isPl_dat, isPl_raw, isPl_bag, oIn, flD, List.map_cons, List.map_nil, List.cons_append, List.nil_append, List.append_nil, List.getElem?_cons_zero, List.getElem?_cons_succ, List.getElem?_nil, List.set_cons_zero, List.set_cons_succ, List.length_cons, List.length_nil, List.all_cons, List.all_nil, List.replicate_succ, List.replicate_zero, Bool.and_true, Bool.and_self, Bool.true_and, List.filterMap_cons, List.filterMap_nil, Nat.reduceAdd, Nat.reduceSub, Nat.zero_add, true_and, and_true, if_true, ite_true, Bool.not_true, Bool.not_false, Bool.false_eq_true, if_false, ite_false])
    exact hk _ ⟨by omega, by omega⟩
  · have hl := hp.length
    rw [List.length_range] at hl
    ((try simp only [wFn, List.length_cons, List.length_nil, Nat.reduceAdd, true_and, Nat.reduceSub, List.replicate_succ, List.replicate_zero, List.append_nil, List.cons_append, List.nil_append, List.map_cons, List.map_nil]) <;> try simp only [wFn, dSeq, later, dIfS, dNext, dAsg, dPar, dRet, dRetV, dRetN, dExpr, dBrk, dCnt, dFor, dFrz, frzAt, dAsgG, dGName, dGSub, dGNil, dGCons, dGTup, dAugI, dAug, dApp, dExt, dRaise, dVar, dC, dBin, dUn, dChain, dTst, dAnd, dOr, dNot, dYes, dAndV, dOrV, dNotV, dIfE, dNil, dCons, dTup, dLst, dats, dNone, dSome, dSl, oCut, dCall, dCb, dLrg, pk, dCallK, dTab, dCallV, dISeq, dIRg1, dIRg2, dIZip, dIEnum, tfName, tfPair, dLc, lcStep, Cn.no, dCount, scVs, scV, oAdd, oSub, oMul, oMod, oDiv, oCmp, oNeg, oEq, toD, oIsN, oIx, seqD, lstD, bLen, bTuple, bList, bAbs, bMin, bMax, bSum, bAll, bAny, bSorted, bIsi, fz, isPl_dat, isPl_raw, isPl_bag, oIn, flD, List.map_cons, List.map_nil, List.cons_append, List.nil_append, List.append_nil, List.getElem?_cons_zero, List.getElem?_cons_succ, List.getElem?_nil, List.set_cons_zero, List.set_cons_succ, List.length_cons, List.length_nil, List.all_cons, List.all_nil, List.replicate_succ, List.replicate_zero, Bool.and_true, Bool.and_self, Bool.true_and, List.filterMap_cons, List.filterMap_nil, Nat.reduceAdd, Nat.reduceSub, Nat.zero_add, true_and, and_true, if_true, ite_true, Bool.not_true, Bool.not_false, Bool.false_eq_true, if_false, ite_false])
    refine p ns (sz_of (by omega) (by omega) fun m hm => ?_)
    obtain ⟨_, _, h⟩ := paired_mem hp m hm
    exact h
theorem w_any_sizes {P : DP} {c : Cn} (p : ∀ ms, Sz ms → P (.dat (nums ms))) : W_law_any_sizes [.bag] P c := by
  unfold W_law_any_sizes D_law_any_sizes
  ((try simp only [wFn, List.length_cons, List.length_nil, Nat.reduceAdd, true_and, Nat.reduceSub, List.replicate_succ, List.replicate_zero, List.append_nil, List.cons_append, List.nil_append, List.map_cons, List.map_nil]) <;> try simp only [wFn, dSeq, later, dIfS, dNext, dAsg, dPar, dRet, dRetV, dRetN, dExpr, dBrk, dCnt, dFor, dFrz, frzAt, dAsgG, dGName, dGSub, dGNil, dGCons, dGTup, dAugI, dAug, dApp, dExt, dRaise, dVar, dC, dBin, dUn, dChain, dTst, dAnd, dOr, dNot, dYes, dAndV, dOrV, dNotV, dIfE, dNil, dCons, dTup, dLst, dats, dNone, dSome, dSl, oCut, dCall, dCb, dLrg, pk, dCallK, dTab, dCallV, dISeq, dIRg1, dIRg2, dIZip, dIEnum, tfName, tfPair, dLc, lcStep, Cn.no, dCount, scVs, scV, oAdd, oSub, oMul, oMod, oDiv, oCmp, oNeg, oEq, toD, oIsN, oIx, seqD, lstD, bLen, bTuple, bList, bAbs, bMin, bMax, bSum, bAll, bAny, bSorted, bIsi, fz, isPl_dat, isPl_raw, isPl_bag, oIn, flD, List.map_cons, List.map_nil, List.cons_append, List.nil_append, List.append_nil, List.getElem?_cons_zero, List.getElem?_cons_succ, List.getElem?_nil, List.set_cons_zero, List.set_cons_succ, List.length_cons, List.length_nil, List.all_cons, List.all_nil, List.replicate_succ, List.replicate_zero, Bool.and_true, Bool.and_self, Bool.true_and, List.filterMap_cons, List.filterMap_nil, Nat.reduceAdd, Nat.reduceSub, Nat.zero_add, true_and, and_true, if_true, ite_true, Bool.not_true, Bool.not_false, Bool.false_eq_true, if_false, ite_false])
  refine w_pick (by simp) (by simp) fun d hd => ?_
  simp only [List.mem_cons, List.not_mem_nil, or_false] at hd
  rcases hd with rfl | rfl | rfl | rfl
  all_goals
    ((try simp only [wFn, List.length_cons, List.length_nil, Nat.reduceAdd, true_and, Nat.reduceSub, List.replicate_succ, List.replicate_zero, List.append_nil, List.cons_append, List.nil_append, List.map_cons, List.map_nil]) <;> try simp only [wFn, dSeq, later, dIfS, dNext, dAsg, dPar, dRet, dRetV, dRetN, dExpr, dBrk, dCnt, dFor, dFrz, frzAt, dAsgG, dGName, dGSub, dGNil, dGCons, dGTup, dAugI, dAug, dApp, dExt, dRaise, dVar, dC, dBin, dUn, dChain, dTst, dAnd, dOr, dNot, dYes, dAndV, dOrV, dNotV, dIfE, dNil, dCons, dTup, dLst, dats, dNone, dSome, dSl, oCut, dCall, dCb, dLrg, pk, dCallK, dTab, dCallV, dISeq, dIRg1, dIRg2, dIZip, dIEnum, tfName, tfPair, dLc, lcStep, Cn.no, dCount, scVs, scV, oAdd, oSub, oMul, oMod, oDiv, oCmp, oNeg, oEq, toD, oIsN, oIx, seqD, lstD, bLen, bTuple, bList, bAbs, bMin, bMax, bSum, bAll, bAny, bSorted, bIsi, fz, isPl_dat, isPl_raw, isPl_bag, oIn, flD, List.map_cons, List.map_nil, List.cons_append, List.nil_append, List.append_nil, List.getElem?_cons_zero, List.getElem?_cons_succ, List.getElem?_nil, List.set_cons_zero, List.set_cons_succ, List.length_cons, List.length_nil, List.all_cons, List.all_nil, List.replicate_succ, List.replicate_zero, Bool.and_true, Bool.and_self, Bool.true_and, List.filterMap_cons, List.filterMap_nil, Nat.reduceAdd, Nat.reduceSub, Nat.zero_add, true_and, and_true, if_true, ite_true, Bool.not_true, Bool.not_false, Bool.false_eq_true, if_false, ite_false])
    exact w_sizes (by omega) (by omega) p
theorem ld_of {ms cs : List Int} (h : Paired (fun m c => 0 ≤ c ∧ c ≤ m) ms cs) : Ld ms cs := by
  have hl := h.length
  refine ⟨hl.symm, fun i h0 h1 => ?_⟩
  obtain ⟨j, rfl⟩ : ∃ j : Nat, i = j := ⟨i.toNat, by omega⟩
  have go : ∀ {ms cs : List Int}, Paired (fun m c => 0 ≤ c ∧ c ≤ m) ms cs → ∀ j : Nat, j < ms.length → 0 ≤ cs.getD j 0 ∧ cs.getD j 0 ≤ ms.getD j 0 := by
    intro ms cs h
    induction h with
    | nil => intro j hj; simp at hj
    | cons r t ih =>
      intro j hj
      cases j with
      | zero => exact r
      | succ j => exact ih j (by simpa using hj)
  exact go h j (by omega)
theorem pow30 : (10 : Int) ^ (30 : Int).toNat = 1000000000000000000000000000000 := by decide
theorem cpow30 : CPow 10 30 := ⟨by decide, by decide, by decide⟩
theorem w_shuffled {ns : List Int} {P : DP} {c : Cn} (h : ns.length ≤ 1000) (p : ∀ ms : List Int, ms.Perm ns → P (.own (ms.map .int))) : W_shuffled [.bag, .dat (.list (ns.map .int))] P c := by
  unfold W_shuffled
  dsimp only
  rw [DW.ints_map]
  exact ⟨h, p⟩
def upto (n : Nat) : List Int := (List.range n).map fun (k : Nat) => (k : Int)
theorem upto_mem {n : Nat} {x : Int} (h : x ∈ upto n) : 0 ≤ x ∧ x < n := by
  obtain ⟨k, hk, rfl⟩ := List.mem_map.mp h
  have := List.mem_range.mp hk
  omega
theorem upto_nd (n : Nat) : (upto n).Nodup := by
  unfold upto
  rw [List.nodup_iff_pairwise_ne, List.pairwise_map]
  refine List.Pairwise.imp (fun h => ?_) (List.nodup_range (n := n))
  intro z
  exact h (by omega)
abbrev pairD (q : Int × Int) : PyData := .tuple [.int q.1, .int q.2]
def Alike (ms : List Int) (q : Int × Int) : Prop := Ck ms q.1 ∧ Ck ms q.2 ∧ q.1 ≠ q.2 ∧ at_ ms q.1 = at_ ms q.2
theorem deed_2 {w : Str} {n m : Int} {l : List Int} : atD (.str w :: (n :: m :: l).map PyData.int) 2 = some (.int m) := atD_2
theorem par_cut {w : Str} {n : Int} {l : List Int} {a b d e f g h i j : Option DV} {c : Cn} {D : Ed} (p : D.nx [a, b, some (.dat (deedD w (n :: l))), d, some (dint n), some (.dat (nums l)), g, h, i, j]) :
    dPar 4 5 (dCons (dBin oIx (dVar 2) (dC (dint 1))) (dCons (dSl (dVar 2) (dSome (dC (dint 2))) dNone) dNil)) c [a, b, some (.dat (deedD w (n :: l))), d, e, f, g, h, i, j] D := by
  show (match atD (.str w :: (n :: l).map PyData.int) 1 with
    | some v => (match [DV.dat v, DV.dat (.tuple (cutD (.str w :: (n :: l).map PyData.int) (some 2) none))] with
      | [.dat x, .dat y] => D.nx [a, b, some (.dat (deedD w (n :: l))), d, some (.dat x), some (.dat y), g, h, i, j]
      | _ => False)
    | none => False)
  rw [deed_1, deed_cut]
  exact p
theorem asg_six {x : DV} {k : Int} {l : List Int} {a b d e g h i j f : Option DV} {c : Cn} {D : Ed} (p : D.nx [a, b, d, e, f, some (.dat (nums (k :: l))), some (dint k), h, i, j]) :
    dAsg 6 (dBin oIx (dVar 5) (dC (dint 0))) c [a, b, d, e, f, some (.dat (nums (k :: l))), g, h, i, j] D := by
  show (match atD ((k :: l).map PyData.int) 0 with
    | some v => D.nx [a, b, d, e, f, some (.dat (nums (k :: l))), some (.dat v), h, i, j]
    | none => False)
  rw [ks_0]
  exact p
theorem kb_NoneType_bool : kitB "NoneType" "bool" = some false := by decide +kernel
theorem kb_NoneType_int : kitB "NoneType" "int" = some false := by decide +kernel
theorem kb_NoneType_str : kitB "NoneType" "str" = some false := by decide +kernel
theorem kb_NoneType_tuple : kitB "NoneType" "tuple" = some false := by decide +kernel
theorem kb_NoneType_list : kitB "NoneType" "list" = some false := by decide +kernel
theorem kb_bool_bool : kitB "bool" "bool" = some true := by decide +kernel
theorem kb_bool_int : kitB "bool" "int" = some true := by decide +kernel
theorem kb_bool_str : kitB "bool" "str" = some false := by decide +kernel
theorem kb_bool_tuple : kitB "bool" "tuple" = some false := by decide +kernel
theorem kb_bool_list : kitB "bool" "list" = some false := by decide +kernel
theorem kb_int_bool : kitB "int" "bool" = some false := by decide +kernel
theorem kb_int_int : kitB "int" "int" = some true := by decide +kernel
theorem kb_int_str : kitB "int" "str" = some false := by decide +kernel
theorem kb_int_tuple : kitB "int" "tuple" = some false := by decide +kernel
theorem kb_int_list : kitB "int" "list" = some false := by decide +kernel
theorem kb_str_bool : kitB "str" "bool" = some false := by decide +kernel
theorem kb_str_int : kitB "str" "int" = some false := by decide +kernel
theorem kb_str_str : kitB "str" "str" = some true := by decide +kernel
theorem kb_str_tuple : kitB "str" "tuple" = some false := by decide +kernel
theorem kb_str_list : kitB "str" "list" = some false := by decide +kernel
theorem kb_list_bool : kitB "list" "bool" = some false := by decide +kernel
theorem kb_list_int : kitB "list" "int" = some false := by decide +kernel
theorem kb_list_str : kitB "list" "str" = some false := by decide +kernel
theorem kb_list_tuple : kitB "list" "tuple" = some false := by decide +kernel
theorem kb_list_list : kitB "list" "list" = some true := by decide +kernel
theorem kb_tuple_bool : kitB "tuple" "bool" = some false := by decide +kernel
theorem kb_tuple_int : kitB "tuple" "int" = some false := by decide +kernel
theorem kb_tuple_str : kitB "tuple" "str" = some false := by decide +kernel
theorem kb_tuple_tuple : kitB "tuple" "tuple" = some true := by decide +kernel
theorem kb_tuple_list : kitB "tuple" "list" = some false := by decide +kernel
theorem isN_b {b : Bool} : decide (tyN (.bool b) = "NoneType") = false := by simp [tyN]
theorem isN_i {b : Int} : decide (tyN (.int b) = "NoneType") = false := by simp [tyN]
theorem isN_s {b : Str} : decide (tyN (.str b) = "NoneType") = false := by simp [tyN]
theorem isN_l {b : List PyData} : decide (tyN (.list b) = "NoneType") = false := by simp [tyN]
theorem isN_t {b : List PyData} : decide (tyN (.tuple b) = "NoneType") = false := by simp [tyN]
theorem bools_true (l : List Nat) : boolsD (l.map fun _ => PyData.bool true) = some (l.map fun _ => true) := by
  have e : (l.map fun _ => PyData.bool true) = (l.map fun _ => true).map .bool := by rw [List.map_map]; rfl
  rw [e, bools_map]
theorem all_true (l : List Nat) : (l.map fun _ => true).all id = true := by simp
theorem can_mem : ∀ {ds : List PyData}, PyData.canLayAll0 ds = true → ∀ x ∈ ds, PyData.canLay0 x = true
  | [], _, _, h => by cases h
  | d :: ds, h, x, hx => by
    rw [PyData.canLayAll0] at h
    obtain ⟨h1, h2⟩ := Bool.and_eq_true_iff.mp h
    rcases List.mem_cons.mp hx with e | e
    · rw [e]; exact h1
    · exact can_mem h2 x e
theorem nn (a : String) (h : (a == "NoneType") = false) : decide (a = "NoneType") = false := by simpa using h
theorem w_same : ∀ {n : Nat} {d : PyData} {P : DP} {c : Cn}, Flat n d → PyData.canLay0 d = true → P (dbl true) → W_law_same n [.dat d, .dat d] P c := by
  intro n
  induction n with
  | zero => intro d P c h; exact h.elim
  | succ n ih =>
    intro d P c h hc p
    have seq : ∀ ds : List PyData, (∀ x ∈ ds, Flat n x ∧ PyData.canLay0 x = true) → ds.length ≤ 100000 → ∀ (e : PyData), (e = .list ds ∨ e = .tuple ds) →
        dRet (dCb bAll (dCons (dLc (dIRg1 (dCons (dCb bLen (dCons (dVar 1) dNil)) dNil)) (tfName 2) dYes (dCall (W_law_same n) (dCons (dBin oIx (dVar 0) (dVar 2)) (dCons (dBin oIx (dVar 1) (dVar 2)) dNil))) [2]) dNil)) c [some (.dat e), some (.dat e), none] ⟨fun _ => P (.dat .none), P, fun _ => False, fun _ => False⟩ := by
      intro ds hd hl e he
      have go : lcGo (lcStep (tfName 2) dYes (dCall (W_law_same n) (dCons (dBin oIx (dVar 0) (dVar 2)) (dCons (dBin oIx (dVar 1) (dVar 2)) dNil))) c [some (.dat e), some (.dat e), none]) (rangeD 0 (ds.length : Int).toNat) fun ys => bAll [.dat (.list ys)] P := by
        rw [rangeM]
        refine lc_map (fun _ => PyData.bool true) (fun j hj K hK => ?_) ?_
        · have hj' : j < ds.length := by
            have := List.mem_range.mp hj
            omega
          have ej : atD ds ((0 : Int) + (j : Int)) = some ds[j] := by
            rw [atD_nat (by omega), show ((0 : Int) + (j : Int)).toNat = j by omega, List.getElem?_eq_getElem hj']
          rcases he with rfl | rfl
          · ((try simp only [wFn, List.length_cons, List.length_nil, Nat.reduceAdd, true_and, Nat.reduceSub, List.replicate_succ, List.replicate_zero, List.append_nil, List.cons_append, List.nil_append, List.map_cons, List.map_nil]) <;> try simp only [wFn, dSeq, dIfS, dNext, dAsg, dPar, dRet, dRetV, dRetN, dExpr, dBrk, dCnt, dFor, dFrz, frzAt, dAsgG, dGName, dGSub, dGNil, dGCons, dGTup, dAugI, dAug, dApp, dExt, dRaise, dVar, dC, dBin, dUn, dChain, dTst, dAnd, dOr, dNot, dYes, dAndV, dOrV, dNotV, dIfE, dNil, dCons, dTup, dLst, dats, dNone, dSome, dSl, oCut, dCall, dCb, dLrg, pk, dCallK, dTab, dCallV, dISeq, dIRg1, dIRg2, dIZip, dIEnum, tfName, tfPair, dLc, lcStep, Cn.no, dCount, scVs, scV, oAdd, oSub, oMul, oMod, oDiv, oCmp, oNeg, oEq, toD, oIsN, oIx, seqD, lstD, bLen, bTuple, bList, bAbs, bMin, bMax, bSum, bAll, bAny, bSorted, bIsi, fz, isPl_dat, isPl_raw, isPl_bag, oIn, flD, List.map_cons, List.map_nil, List.cons_append, List.nil_append, List.append_nil, List.getElem?_cons_zero, List.getElem?_cons_succ, List.getElem?_nil, List.set_cons_zero, List.set_cons_succ, List.length_cons, List.length_nil, List.all_cons, List.all_nil, List.replicate_succ, List.replicate_zero, Bool.and_true, Bool.and_self, Bool.true_and, List.filterMap_cons, List.filterMap_nil, Nat.reduceAdd, Nat.reduceSub, Nat.zero_add, true_and, and_true, if_true, ite_true, Bool.not_true, Bool.not_false, Bool.false_eq_true, if_false, ite_false])
            rw [ej]
            ((try simp only [wFn, List.length_cons, List.length_nil, Nat.reduceAdd, true_and, Nat.reduceSub, List.replicate_succ, List.replicate_zero, List.append_nil, List.cons_append, List.nil_append, List.map_cons, List.map_nil]) <;> try simp only [wFn, dSeq, dIfS, dNext, dAsg, dPar, dRet, dRetV, dRetN, dExpr, dBrk, dCnt, dFor, dFrz, frzAt, dAsgG, dGName, dGSub, dGNil, dGCons, dGTup, dAugI, dAug, dApp, dExt, dRaise, dVar, dC, dBin, dUn, dChain, dTst, dAnd, dOr, dNot, dYes, dAndV, dOrV, dNotV, dIfE, dNil, dCons, dTup, dLst, dats, dNone, dSome, dSl, oCut, dCall, dCb, dLrg, pk, dCallK, dTab, dCallV, dISeq, dIRg1, dIRg2, dIZip, dIEnum, tfName, tfPair, dLc, lcStep, Cn.no, dCount, scVs, scV, oAdd, oSub, oMul, oMod, oDiv, oCmp, oNeg, oEq, toD, oIsN, oIx, seqD, lstD, bLen, bTuple, bList, bAbs, bMin, bMax, bSum, bAll, bAny, bSorted, bIsi, fz, isPl_dat, isPl_raw, isPl_bag, oIn, flD, List.map_cons, List.map_nil, List.cons_append, List.nil_append, List.append_nil, List.getElem?_cons_zero, List.getElem?_cons_succ, List.getElem?_nil, List.set_cons_zero, List.set_cons_succ, List.length_cons, List.length_nil, List.all_cons, List.all_nil, List.replicate_succ, List.replicate_zero, Bool.and_true, Bool.and_self, Bool.true_and, List.filterMap_cons, List.filterMap_nil, Nat.reduceAdd, Nat.reduceSub, Nat.zero_add, true_and, and_true, if_true, ite_true, Bool.not_true, Bool.not_false, Bool.false_eq_true, if_false, ite_false])
            exact ih (hd _ (List.getElem_mem hj')).1 (hd _ (List.getElem_mem hj')).2 hK
          · ((try simp only [wFn, List.length_cons, List.length_nil, Nat.reduceAdd, true_and, Nat.reduceSub, List.replicate_succ, List.replicate_zero, List.append_nil, List.cons_append, List.nil_append, List.map_cons, List.map_nil]) <;> try simp only [wFn, dSeq, dIfS, dNext, dAsg, dPar, dRet, dRetV, dRetN, dExpr, dBrk, dCnt, dFor, dFrz, frzAt, dAsgG, dGName, dGSub, dGNil, dGCons, dGTup, dAugI, dAug, dApp, dExt, dRaise, dVar, dC, dBin, dUn, dChain, dTst, dAnd, dOr, dNot, dYes, dAndV, dOrV, dNotV, dIfE, dNil, dCons, dTup, dLst, dats, dNone, dSome, dSl, oCut, dCall, dCb, dLrg, pk, dCallK, dTab, dCallV, dISeq, dIRg1, dIRg2, dIZip, dIEnum, tfName, tfPair, dLc, lcStep, Cn.no, dCount, scVs, scV, oAdd, oSub, oMul, oMod, oDiv, oCmp, oNeg, oEq, toD, oIsN, oIx, seqD, lstD, bLen, bTuple, bList, bAbs, bMin, bMax, bSum, bAll, bAny, bSorted, bIsi, fz, isPl_dat, isPl_raw, isPl_bag, oIn, flD, List.map_cons, List.map_nil, List.cons_append, List.nil_append, List.append_nil, List.getElem?_cons_zero, List.getElem?_cons_succ, List.getElem?_nil, List.set_cons_zero, List.set_cons_succ, List.length_cons, List.length_nil, List.all_cons, List.all_nil, List.replicate_succ, List.replicate_zero, Bool.and_true, Bool.and_self, Bool.true_and, List.filterMap_cons, List.filterMap_nil, Nat.reduceAdd, Nat.reduceSub, Nat.zero_add, true_and, and_true, if_true, ite_true, Bool.not_true, Bool.not_false, Bool.false_eq_true, if_false, ite_false])
            rw [ej]
            ((try simp only [wFn, List.length_cons, List.length_nil, Nat.reduceAdd, true_and, Nat.reduceSub, List.replicate_succ, List.replicate_zero, List.append_nil, List.cons_append, List.nil_append, List.map_cons, List.map_nil]) <;> try simp only [wFn, dSeq, dIfS, dNext, dAsg, dPar, dRet, dRetV, dRetN, dExpr, dBrk, dCnt, dFor, dFrz, frzAt, dAsgG, dGName, dGSub, dGNil, dGCons, dGTup, dAugI, dAug, dApp, dExt, dRaise, dVar, dC, dBin, dUn, dChain, dTst, dAnd, dOr, dNot, dYes, dAndV, dOrV, dNotV, dIfE, dNil, dCons, dTup, dLst, dats, dNone, dSome, dSl, oCut, dCall, dCb, dLrg, pk, dCallK, dTab, dCallV, dISeq, dIRg1, dIRg2, dIZip, dIEnum, tfName, tfPair, dLc, lcStep, Cn.no, dCount, scVs, scV, oAdd, oSub, oMul, oMod, oDiv, oCmp, oNeg, oEq, toD, oIsN, oIx, seqD, lstD, bLen, bTuple, bList, bAbs, bMin, bMax, bSum, bAll, bAny, bSorted, bIsi, fz, isPl_dat, isPl_raw, isPl_bag, oIn, flD, List.map_cons, List.map_nil, List.cons_append, List.nil_append, List.append_nil, List.getElem?_cons_zero, List.getElem?_cons_succ, List.getElem?_nil, List.set_cons_zero, List.set_cons_succ, List.length_cons, List.length_nil, List.all_cons, List.all_nil, List.replicate_succ, List.replicate_zero, Bool.and_true, Bool.and_self, Bool.true_and, List.filterMap_cons, List.filterMap_nil, Nat.reduceAdd, Nat.reduceSub, Nat.zero_add, true_and, and_true, if_true, ite_true, Bool.not_true, Bool.not_false, Bool.false_eq_true, if_false, ite_false])
            exact ih (hd _ (List.getElem_mem hj')).1 (hd _ (List.getElem_mem hj')).2 hK
        · show (match boolsD ((List.range (ds.length : Int).toNat).map fun _ => PyData.bool true) with
            | some ns => P (dbl (ns.all id))
            | none => False)
          rw [bools_true]
          show P (dbl _)
          rw [all_true]
          exact p
      rcases he with rfl | rfl
      · ((try simp only [wFn, List.length_cons, List.length_nil, Nat.reduceAdd, true_and, Nat.reduceSub, List.replicate_succ, List.replicate_zero, List.append_nil, List.cons_append, List.nil_append, List.map_cons, List.map_nil]) <;> try simp only [wFn, dSeq, dIfS, dNext, dAsg, dPar, dRet, dRetV, dRetN, dExpr, dBrk, dCnt, dFor, dFrz, frzAt, dAsgG, dGName, dGSub, dGNil, dGCons, dGTup, dAugI, dAug, dApp, dExt, dRaise, dVar, dC, dBin, dUn, dChain, dTst, dAnd, dOr, dNot, dYes, dAndV, dOrV, dNotV, dIfE, dNil, dCons, dTup, dLst, dats, dNone, dSome, dSl, oCut, dCall, dCb, dLrg, pk, dCallK, dTab, dCallV, dISeq, dIRg1, dIRg2, dIZip, dIEnum, tfName, tfPair, dLc, lcStep, Cn.no, dCount, scVs, scV, oAdd, oSub, oMul, oMod, oDiv, oCmp, oNeg, oEq, toD, oIsN, oIx, seqD, lstD, bLen, bTuple, bList, bAbs, bMin, bMax, bSum, bAll, bAny, bSorted, bIsi, fz, isPl_dat, isPl_raw, isPl_bag, oIn, flD, List.map_cons, List.map_nil, List.cons_append, List.nil_append, List.append_nil, List.getElem?_cons_zero, List.getElem?_cons_succ, List.getElem?_nil, List.set_cons_zero, List.set_cons_succ, List.length_cons, List.length_nil, List.all_cons, List.all_nil, List.replicate_succ, List.replicate_zero, Bool.and_true, Bool.and_self, Bool.true_and, List.filterMap_cons, List.filterMap_nil, Nat.reduceAdd, Nat.reduceSub, Nat.zero_add, true_and, and_true, if_true, ite_true, Bool.not_true, Bool.not_false, Bool.false_eq_true, if_false, ite_false])
        exact ⟨by simp, by omega, by rw [rangeD_len]; omega, go⟩
      · ((try simp only [wFn, List.length_cons, List.length_nil, Nat.reduceAdd, true_and, Nat.reduceSub, List.replicate_succ, List.replicate_zero, List.append_nil, List.cons_append, List.nil_append, List.map_cons, List.map_nil]) <;> try simp only [wFn, dSeq, dIfS, dNext, dAsg, dPar, dRet, dRetV, dRetN, dExpr, dBrk, dCnt, dFor, dFrz, frzAt, dAsgG, dGName, dGSub, dGNil, dGCons, dGTup, dAugI, dAug, dApp, dExt, dRaise, dVar, dC, dBin, dUn, dChain, dTst, dAnd, dOr, dNot, dYes, dAndV, dOrV, dNotV, dIfE, dNil, dCons, dTup, dLst, dats, dNone, dSome, dSl, oCut, dCall, dCb, dLrg, pk, dCallK, dTab, dCallV, dISeq, dIRg1, dIRg2, dIZip, dIEnum, tfName, tfPair, dLc, lcStep, Cn.no, dCount, scVs, scV, oAdd, oSub, oMul, oMod, oDiv, oCmp, oNeg, oEq, toD, oIsN, oIx, seqD, lstD, bLen, bTuple, bList, bAbs, bMin, bMax, bSum, bAll, bAny, bSorted, bIsi, fz, isPl_dat, isPl_raw, isPl_bag, oIn, flD, List.map_cons, List.map_nil, List.cons_append, List.nil_append, List.append_nil, List.getElem?_cons_zero, List.getElem?_cons_succ, List.getElem?_nil, List.set_cons_zero, List.set_cons_succ, List.length_cons, List.length_nil, List.all_cons, List.all_nil, List.replicate_succ, List.replicate_zero, Bool.and_true, Bool.and_self, Bool.true_and, List.filterMap_cons, List.filterMap_nil, Nat.reduceAdd, Nat.reduceSub, Nat.zero_add, true_and, and_true, if_true, ite_true, Bool.not_true, Bool.not_false, Bool.false_eq_true, if_false, ite_false])
        exact ⟨by simp, by omega, by rw [rangeD_len]; omega, go⟩
    unfold W_law_same D_law_same
    cases d with
    | none => ((try simp only [wFn, List.length_cons, List.length_nil, Nat.reduceAdd, true_and, Nat.reduceSub, List.replicate_succ, List.replicate_zero, List.append_nil, List.cons_append, List.nil_append, List.map_cons, List.map_nil]) <;> try simp only [wFn, dSeq, dIfS, dNext, dAsg, dPar, dRet, dRetV, dRetN, dExpr, dBrk, dCnt, dFor, dFrz, frzAt, dAsgG, dGName, dGSub, dGNil, dGCons, dGTup, dAugI, dAug, dApp, dExt, dRaise, dVar, dC, dBin, dUn, dChain, dTst, dAnd, dOr, dNot, dYes, dAndV, dOrV, dNotV, dIfE, dNil, dCons, dTup, dLst, dats, dNone, dSome, dSl, oCut, dCall, dCb, dLrg, pk, dCallK, dTab, dCallV, dISeq, dIRg1, dIRg2, dIZip, dIEnum, tfName, tfPair, dLc, lcStep, Cn.no, dCount, scVs, scV, oAdd, oSub, oMul, oMod, oDiv, oCmp, oNeg, oEq, toD, oIsN, oIx, seqD, lstD, bLen, bTuple, bList, bAbs, bMin, bMax, bSum, bAll, bAny, bSorted, bIsi, fz, isPl_dat, isPl_raw, isPl_bag, oIn, flD, List.map_cons, List.map_nil, List.cons_append, List.nil_append, List.append_nil, List.getElem?_cons_zero, List.getElem?_cons_succ, List.getElem?_nil, List.set_cons_zero, List.set_cons_succ, List.length_cons, List.length_nil, List.all_cons, List.all_nil, List.replicate_succ, List.replicate_zero, Bool.and_true, Bool.and_self, Bool.true_and, List.filterMap_cons, List.filterMap_nil, Nat.reduceAdd, Nat.reduceSub, Nat.zero_add, true_and, and_true, if_true, ite_true, Bool.not_true, Bool.not_false, Bool.false_eq_true, if_false, ite_false]); ((try simp only [isN_b, isN_i, isN_s, isN_l, isN_t, if_false, ite_false, Bool.false_eq_true]) <;> try simp only [tyN, kb_NoneType_bool, kb_NoneType_int, kb_NoneType_str, kb_NoneType_tuple, kb_NoneType_list, kb_bool_bool, kb_bool_int, kb_bool_str, kb_bool_tuple, kb_bool_list, kb_int_bool, kb_int_int, kb_int_str, kb_int_tuple, kb_int_list, kb_str_bool, kb_str_int, kb_str_str, kb_str_tuple, kb_str_list, kb_list_bool, kb_list_int, kb_list_str, kb_list_tuple, kb_list_list, kb_tuple_bool, kb_tuple_int, kb_tuple_str, kb_tuple_tuple, kb_tuple_list, decide_true, decide_false, Bool.not_true, Bool.not_false, if_true, if_false, ite_true, ite_false, Bool.false_eq_true, reduceCtorEq]); ((try simp only [wFn, List.length_cons, List.length_nil, Nat.reduceAdd, true_and, Nat.reduceSub, List.replicate_succ, List.replicate_zero, List.append_nil, List.cons_append, List.nil_append, List.map_cons, List.map_nil]) <;> try simp only [wFn, dSeq, dIfS, dNext, dAsg, dPar, dRet, dRetV, dRetN, dExpr, dBrk, dCnt, dFor, dFrz, frzAt, dAsgG, dGName, dGSub, dGNil, dGCons, dGTup, dAugI, dAug, dApp, dExt, dRaise, dVar, dC, dBin, dUn, dChain, dTst, dAnd, dOr, dNot, dYes, dAndV, dOrV, dNotV, dIfE, dNil, dCons, dTup, dLst, dats, dNone, dSome, dSl, oCut, dCall, dCb, dLrg, pk, dCallK, dTab, dCallV, dISeq, dIRg1, dIRg2, dIZip, dIEnum, tfName, tfPair, dLc, lcStep, Cn.no, dCount, scVs, scV, oAdd, oSub, oMul, oMod, oDiv, oCmp, oNeg, oEq, toD, oIsN, oIx, seqD, lstD, bLen, bTuple, bList, bAbs, bMin, bMax, bSum, bAll, bAny, bSorted, bIsi, fz, isPl_dat, isPl_raw, isPl_bag, oIn, flD, List.map_cons, List.map_nil, List.cons_append, List.nil_append, List.append_nil, List.getElem?_cons_zero, List.getElem?_cons_succ, List.getElem?_nil, List.set_cons_zero, List.set_cons_succ, List.length_cons, List.length_nil, List.all_cons, List.all_nil, List.replicate_succ, List.replicate_zero, Bool.and_true, Bool.and_self, Bool.true_and, List.filterMap_cons, List.filterMap_nil, Nat.reduceAdd, Nat.reduceSub, Nat.zero_add, true_and, and_true, if_true, ite_true, Bool.not_true, Bool.not_false, Bool.false_eq_true, if_false, ite_false]); ((try simp only [isN_b, isN_i, isN_s, isN_l, isN_t, if_false, ite_false, Bool.false_eq_true]) <;> try simp only [tyN, kb_NoneType_bool, kb_NoneType_int, kb_NoneType_str, kb_NoneType_tuple, kb_NoneType_list, kb_bool_bool, kb_bool_int, kb_bool_str, kb_bool_tuple, kb_bool_list, kb_int_bool, kb_int_int, kb_int_str, kb_int_tuple, kb_int_list, kb_str_bool, kb_str_int, kb_str_str, kb_str_tuple, kb_str_list, kb_list_bool, kb_list_int, kb_list_str, kb_list_tuple, kb_list_list, kb_tuple_bool, kb_tuple_int, kb_tuple_str, kb_tuple_tuple, kb_tuple_list, decide_true, decide_false, Bool.not_true, Bool.not_false, if_true, if_false, ite_true, ite_false, Bool.false_eq_true, reduceCtorEq]); exact p
    | bool b =>
      ((try simp only [wFn, List.length_cons, List.length_nil, Nat.reduceAdd, true_and, Nat.reduceSub, List.replicate_succ, List.replicate_zero, List.append_nil, List.cons_append, List.nil_append, List.map_cons, List.map_nil]) <;> try simp only [wFn, dSeq, dIfS, dNext, dAsg, dPar, dRet, dRetV, dRetN, dExpr, dBrk, dCnt, dFor, dFrz, frzAt, dAsgG, dGName, dGSub, dGNil, dGCons, dGTup, dAugI, dAug, dApp, dExt, dRaise, dVar, dC, dBin, dUn, dChain, dTst, dAnd, dOr, dNot, dYes, dAndV, dOrV, dNotV, dIfE, dNil, dCons, dTup, dLst, dats, dNone, dSome, dSl, oCut, dCall, dCb, dLrg, pk, dCallK, dTab, dCallV, dISeq, dIRg1, dIRg2, dIZip, dIEnum, tfName, tfPair, dLc, lcStep, Cn.no, dCount, scVs, scV, oAdd, oSub, oMul, oMod, oDiv, oCmp, oNeg, oEq, toD, oIsN, oIx, seqD, lstD, bLen, bTuple, bList, bAbs, bMin, bMax, bSum, bAll, bAny, bSorted, bIsi, fz, isPl_dat, isPl_raw, isPl_bag, oIn, flD, List.map_cons, List.map_nil, List.cons_append, List.nil_append, List.append_nil, List.getElem?_cons_zero, List.getElem?_cons_succ, List.getElem?_nil, List.set_cons_zero, List.set_cons_succ, List.length_cons, List.length_nil, List.all_cons, List.all_nil, List.replicate_succ, List.replicate_zero, Bool.and_true, Bool.and_self, Bool.true_and, List.filterMap_cons, List.filterMap_nil, Nat.reduceAdd, Nat.reduceSub, Nat.zero_add, true_and, and_true, if_true, ite_true, Bool.not_true, Bool.not_false, Bool.false_eq_true, if_false, ite_false]); ((try simp only [isN_b, isN_i, isN_s, isN_l, isN_t, if_false, ite_false, Bool.false_eq_true]) <;> try simp only [tyN, kb_NoneType_bool, kb_NoneType_int, kb_NoneType_str, kb_NoneType_tuple, kb_NoneType_list, kb_bool_bool, kb_bool_int, kb_bool_str, kb_bool_tuple, kb_bool_list, kb_int_bool, kb_int_int, kb_int_str, kb_int_tuple, kb_int_list, kb_str_bool, kb_str_int, kb_str_str, kb_str_tuple, kb_str_list, kb_list_bool, kb_list_int, kb_list_str, kb_list_tuple, kb_list_list, kb_tuple_bool, kb_tuple_int, kb_tuple_str, kb_tuple_tuple, kb_tuple_list, decide_true, decide_false, Bool.not_true, Bool.not_false, if_true, if_false, ite_true, ite_false, Bool.false_eq_true, reduceCtorEq]); ((try simp only [later]) <;> ((try simp only [wFn, List.length_cons, List.length_nil, Nat.reduceAdd, true_and, Nat.reduceSub, List.replicate_succ, List.replicate_zero, List.append_nil, List.cons_append, List.nil_append, List.map_cons, List.map_nil]) <;> try simp only [wFn, dSeq, dIfS, dNext, dAsg, dPar, dRet, dRetV, dRetN, dExpr, dBrk, dCnt, dFor, dFrz, frzAt, dAsgG, dGName, dGSub, dGNil, dGCons, dGTup, dAugI, dAug, dApp, dExt, dRaise, dVar, dC, dBin, dUn, dChain, dTst, dAnd, dOr, dNot, dYes, dAndV, dOrV, dNotV, dIfE, dNil, dCons, dTup, dLst, dats, dNone, dSome, dSl, oCut, dCall, dCb, dLrg, pk, dCallK, dTab, dCallV, dISeq, dIRg1, dIRg2, dIZip, dIEnum, tfName, tfPair, dLc, lcStep, Cn.no, dCount, scVs, scV, oAdd, oSub, oMul, oMod, oDiv, oCmp, oNeg, oEq, toD, oIsN, oIx, seqD, lstD, bLen, bTuple, bList, bAbs, bMin, bMax, bSum, bAll, bAny, bSorted, bIsi, fz, isPl_dat, isPl_raw, isPl_bag, oIn, flD, List.map_cons, List.map_nil, List.cons_append, List.nil_append, List.append_nil, List.getElem?_cons_zero, List.getElem?_cons_succ, List.getElem?_nil, List.set_cons_zero, List.set_cons_succ, List.length_cons, List.length_nil, List.all_cons, List.all_nil, List.replicate_succ, List.replicate_zero, Bool.and_true, Bool.and_self, Bool.true_and, List.filterMap_cons, List.filterMap_nil, Nat.reduceAdd, Nat.reduceSub, Nat.zero_add, true_and, and_true, if_true, ite_true, Bool.not_true, Bool.not_false, Bool.false_eq_true, if_false, ite_false])); ((try simp only [isN_b, isN_i, isN_s, isN_l, isN_t, if_false, ite_false, Bool.false_eq_true]) <;> try simp only [tyN, kb_NoneType_bool, kb_NoneType_int, kb_NoneType_str, kb_NoneType_tuple, kb_NoneType_list, kb_bool_bool, kb_bool_int, kb_bool_str, kb_bool_tuple, kb_bool_list, kb_int_bool, kb_int_int, kb_int_str, kb_int_tuple, kb_int_list, kb_str_bool, kb_str_int, kb_str_str, kb_str_tuple, kb_str_list, kb_list_bool, kb_list_int, kb_list_str, kb_list_tuple, kb_list_list, kb_tuple_bool, kb_tuple_int, kb_tuple_str, kb_tuple_tuple, kb_tuple_list, decide_true, decide_false, Bool.not_true, Bool.not_false, if_true, if_false, ite_true, ite_false, Bool.false_eq_true, reduceCtorEq])
      refine ⟨⟨rfl, rfl⟩, ?_⟩
      rw [eqv_self (n := 0) hc]
      exact p
    | int i =>
      ((try simp only [wFn, List.length_cons, List.length_nil, Nat.reduceAdd, true_and, Nat.reduceSub, List.replicate_succ, List.replicate_zero, List.append_nil, List.cons_append, List.nil_append, List.map_cons, List.map_nil]) <;> try simp only [wFn, dSeq, dIfS, dNext, dAsg, dPar, dRet, dRetV, dRetN, dExpr, dBrk, dCnt, dFor, dFrz, frzAt, dAsgG, dGName, dGSub, dGNil, dGCons, dGTup, dAugI, dAug, dApp, dExt, dRaise, dVar, dC, dBin, dUn, dChain, dTst, dAnd, dOr, dNot, dYes, dAndV, dOrV, dNotV, dIfE, dNil, dCons, dTup, dLst, dats, dNone, dSome, dSl, oCut, dCall, dCb, dLrg, pk, dCallK, dTab, dCallV, dISeq, dIRg1, dIRg2, dIZip, dIEnum, tfName, tfPair, dLc, lcStep, Cn.no, dCount, scVs, scV, oAdd, oSub, oMul, oMod, oDiv, oCmp, oNeg, oEq, toD, oIsN, oIx, seqD, lstD, bLen, bTuple, bList, bAbs, bMin, bMax, bSum, bAll, bAny, bSorted, bIsi, fz, isPl_dat, isPl_raw, isPl_bag, oIn, flD, List.map_cons, List.map_nil, List.cons_append, List.nil_append, List.append_nil, List.getElem?_cons_zero, List.getElem?_cons_succ, List.getElem?_nil, List.set_cons_zero, List.set_cons_succ, List.length_cons, List.length_nil, List.all_cons, List.all_nil, List.replicate_succ, List.replicate_zero, Bool.and_true, Bool.and_self, Bool.true_and, List.filterMap_cons, List.filterMap_nil, Nat.reduceAdd, Nat.reduceSub, Nat.zero_add, true_and, and_true, if_true, ite_true, Bool.not_true, Bool.not_false, Bool.false_eq_true, if_false, ite_false]); ((try simp only [isN_b, isN_i, isN_s, isN_l, isN_t, if_false, ite_false, Bool.false_eq_true]) <;> try simp only [tyN, kb_NoneType_bool, kb_NoneType_int, kb_NoneType_str, kb_NoneType_tuple, kb_NoneType_list, kb_bool_bool, kb_bool_int, kb_bool_str, kb_bool_tuple, kb_bool_list, kb_int_bool, kb_int_int, kb_int_str, kb_int_tuple, kb_int_list, kb_str_bool, kb_str_int, kb_str_str, kb_str_tuple, kb_str_list, kb_list_bool, kb_list_int, kb_list_str, kb_list_tuple, kb_list_list, kb_tuple_bool, kb_tuple_int, kb_tuple_str, kb_tuple_tuple, kb_tuple_list, decide_true, decide_false, Bool.not_true, Bool.not_false, if_true, if_false, ite_true, ite_false, Bool.false_eq_true, reduceCtorEq]); ((try simp only [later]) <;> ((try simp only [wFn, List.length_cons, List.length_nil, Nat.reduceAdd, true_and, Nat.reduceSub, List.replicate_succ, List.replicate_zero, List.append_nil, List.cons_append, List.nil_append, List.map_cons, List.map_nil]) <;> try simp only [wFn, dSeq, dIfS, dNext, dAsg, dPar, dRet, dRetV, dRetN, dExpr, dBrk, dCnt, dFor, dFrz, frzAt, dAsgG, dGName, dGSub, dGNil, dGCons, dGTup, dAugI, dAug, dApp, dExt, dRaise, dVar, dC, dBin, dUn, dChain, dTst, dAnd, dOr, dNot, dYes, dAndV, dOrV, dNotV, dIfE, dNil, dCons, dTup, dLst, dats, dNone, dSome, dSl, oCut, dCall, dCb, dLrg, pk, dCallK, dTab, dCallV, dISeq, dIRg1, dIRg2, dIZip, dIEnum, tfName, tfPair, dLc, lcStep, Cn.no, dCount, scVs, scV, oAdd, oSub, oMul, oMod, oDiv, oCmp, oNeg, oEq, toD, oIsN, oIx, seqD, lstD, bLen, bTuple, bList, bAbs, bMin, bMax, bSum, bAll, bAny, bSorted, bIsi, fz, isPl_dat, isPl_raw, isPl_bag, oIn, flD, List.map_cons, List.map_nil, List.cons_append, List.nil_append, List.append_nil, List.getElem?_cons_zero, List.getElem?_cons_succ, List.getElem?_nil, List.set_cons_zero, List.set_cons_succ, List.length_cons, List.length_nil, List.all_cons, List.all_nil, List.replicate_succ, List.replicate_zero, Bool.and_true, Bool.and_self, Bool.true_and, List.filterMap_cons, List.filterMap_nil, Nat.reduceAdd, Nat.reduceSub, Nat.zero_add, true_and, and_true, if_true, ite_true, Bool.not_true, Bool.not_false, Bool.false_eq_true, if_false, ite_false])); ((try simp only [isN_b, isN_i, isN_s, isN_l, isN_t, if_false, ite_false, Bool.false_eq_true]) <;> try simp only [tyN, kb_NoneType_bool, kb_NoneType_int, kb_NoneType_str, kb_NoneType_tuple, kb_NoneType_list, kb_bool_bool, kb_bool_int, kb_bool_str, kb_bool_tuple, kb_bool_list, kb_int_bool, kb_int_int, kb_int_str, kb_int_tuple, kb_int_list, kb_str_bool, kb_str_int, kb_str_str, kb_str_tuple, kb_str_list, kb_list_bool, kb_list_int, kb_list_str, kb_list_tuple, kb_list_list, kb_tuple_bool, kb_tuple_int, kb_tuple_str, kb_tuple_tuple, kb_tuple_list, decide_true, decide_false, Bool.not_true, Bool.not_false, if_true, if_false, ite_true, ite_false, Bool.false_eq_true, reduceCtorEq]); ((try simp only [later]) <;> ((try simp only [wFn, List.length_cons, List.length_nil, Nat.reduceAdd, true_and, Nat.reduceSub, List.replicate_succ, List.replicate_zero, List.append_nil, List.cons_append, List.nil_append, List.map_cons, List.map_nil]) <;> try simp only [wFn, dSeq, dIfS, dNext, dAsg, dPar, dRet, dRetV, dRetN, dExpr, dBrk, dCnt, dFor, dFrz, frzAt, dAsgG, dGName, dGSub, dGNil, dGCons, dGTup, dAugI, dAug, dApp, dExt, dRaise, dVar, dC, dBin, dUn, dChain, dTst, dAnd, dOr, dNot, dYes, dAndV, dOrV, dNotV, dIfE, dNil, dCons, dTup, dLst, dats, dNone, dSome, dSl, oCut, dCall, dCb, dLrg, pk, dCallK, dTab, dCallV, dISeq, dIRg1, dIRg2, dIZip, dIEnum, tfName, tfPair, dLc, lcStep, Cn.no, dCount, scVs, scV, oAdd, oSub, oMul, oMod, oDiv, oCmp, oNeg, oEq, toD, oIsN, oIx, seqD, lstD, bLen, bTuple, bList, bAbs, bMin, bMax, bSum, bAll, bAny, bSorted, bIsi, fz, isPl_dat, isPl_raw, isPl_bag, oIn, flD, List.map_cons, List.map_nil, List.cons_append, List.nil_append, List.append_nil, List.getElem?_cons_zero, List.getElem?_cons_succ, List.getElem?_nil, List.set_cons_zero, List.set_cons_succ, List.length_cons, List.length_nil, List.all_cons, List.all_nil, List.replicate_succ, List.replicate_zero, Bool.and_true, Bool.and_self, Bool.true_and, List.filterMap_cons, List.filterMap_nil, Nat.reduceAdd, Nat.reduceSub, Nat.zero_add, true_and, and_true, if_true, ite_true, Bool.not_true, Bool.not_false, Bool.false_eq_true, if_false, ite_false])); ((try simp only [isN_b, isN_i, isN_s, isN_l, isN_t, if_false, ite_false, Bool.false_eq_true]) <;> try simp only [tyN, kb_NoneType_bool, kb_NoneType_int, kb_NoneType_str, kb_NoneType_tuple, kb_NoneType_list, kb_bool_bool, kb_bool_int, kb_bool_str, kb_bool_tuple, kb_bool_list, kb_int_bool, kb_int_int, kb_int_str, kb_int_tuple, kb_int_list, kb_str_bool, kb_str_int, kb_str_str, kb_str_tuple, kb_str_list, kb_list_bool, kb_list_int, kb_list_str, kb_list_tuple, kb_list_list, kb_tuple_bool, kb_tuple_int, kb_tuple_str, kb_tuple_tuple, kb_tuple_list, decide_true, decide_false, Bool.not_true, Bool.not_false, if_true, if_false, ite_true, ite_false, Bool.false_eq_true, reduceCtorEq])
      refine ⟨⟨rfl, rfl⟩, ?_⟩
      rw [eqv_self (n := 0) hc]
      exact p
    | str s =>
      ((try simp only [wFn, List.length_cons, List.length_nil, Nat.reduceAdd, true_and, Nat.reduceSub, List.replicate_succ, List.replicate_zero, List.append_nil, List.cons_append, List.nil_append, List.map_cons, List.map_nil]) <;> try simp only [wFn, dSeq, dIfS, dNext, dAsg, dPar, dRet, dRetV, dRetN, dExpr, dBrk, dCnt, dFor, dFrz, frzAt, dAsgG, dGName, dGSub, dGNil, dGCons, dGTup, dAugI, dAug, dApp, dExt, dRaise, dVar, dC, dBin, dUn, dChain, dTst, dAnd, dOr, dNot, dYes, dAndV, dOrV, dNotV, dIfE, dNil, dCons, dTup, dLst, dats, dNone, dSome, dSl, oCut, dCall, dCb, dLrg, pk, dCallK, dTab, dCallV, dISeq, dIRg1, dIRg2, dIZip, dIEnum, tfName, tfPair, dLc, lcStep, Cn.no, dCount, scVs, scV, oAdd, oSub, oMul, oMod, oDiv, oCmp, oNeg, oEq, toD, oIsN, oIx, seqD, lstD, bLen, bTuple, bList, bAbs, bMin, bMax, bSum, bAll, bAny, bSorted, bIsi, fz, isPl_dat, isPl_raw, isPl_bag, oIn, flD, List.map_cons, List.map_nil, List.cons_append, List.nil_append, List.append_nil, List.getElem?_cons_zero, List.getElem?_cons_succ, List.getElem?_nil, List.set_cons_zero, List.set_cons_succ, List.length_cons, List.length_nil, List.all_cons, List.all_nil, List.replicate_succ, List.replicate_zero, Bool.and_true, Bool.and_self, Bool.true_and, List.filterMap_cons, List.filterMap_nil, Nat.reduceAdd, Nat.reduceSub, Nat.zero_add, true_and, and_true, if_true, ite_true, Bool.not_true, Bool.not_false, Bool.false_eq_true, if_false, ite_false]); ((try simp only [isN_b, isN_i, isN_s, isN_l, isN_t, if_false, ite_false, Bool.false_eq_true]) <;> try simp only [tyN, kb_NoneType_bool, kb_NoneType_int, kb_NoneType_str, kb_NoneType_tuple, kb_NoneType_list, kb_bool_bool, kb_bool_int, kb_bool_str, kb_bool_tuple, kb_bool_list, kb_int_bool, kb_int_int, kb_int_str, kb_int_tuple, kb_int_list, kb_str_bool, kb_str_int, kb_str_str, kb_str_tuple, kb_str_list, kb_list_bool, kb_list_int, kb_list_str, kb_list_tuple, kb_list_list, kb_tuple_bool, kb_tuple_int, kb_tuple_str, kb_tuple_tuple, kb_tuple_list, decide_true, decide_false, Bool.not_true, Bool.not_false, if_true, if_false, ite_true, ite_false, Bool.false_eq_true, reduceCtorEq]); ((try simp only [later]) <;> ((try simp only [wFn, List.length_cons, List.length_nil, Nat.reduceAdd, true_and, Nat.reduceSub, List.replicate_succ, List.replicate_zero, List.append_nil, List.cons_append, List.nil_append, List.map_cons, List.map_nil]) <;> try simp only [wFn, dSeq, dIfS, dNext, dAsg, dPar, dRet, dRetV, dRetN, dExpr, dBrk, dCnt, dFor, dFrz, frzAt, dAsgG, dGName, dGSub, dGNil, dGCons, dGTup, dAugI, dAug, dApp, dExt, dRaise, dVar, dC, dBin, dUn, dChain, dTst, dAnd, dOr, dNot, dYes, dAndV, dOrV, dNotV, dIfE, dNil, dCons, dTup, dLst, dats, dNone, dSome, dSl, oCut, dCall, dCb, dLrg, pk, dCallK, dTab, dCallV, dISeq, dIRg1, dIRg2, dIZip, dIEnum, tfName, tfPair, dLc, lcStep, Cn.no, dCount, scVs, scV, oAdd, oSub, oMul, oMod, oDiv, oCmp, oNeg, oEq, toD, oIsN, oIx, seqD, lstD, bLen, bTuple, bList, bAbs, bMin, bMax, bSum, bAll, bAny, bSorted, bIsi, fz, isPl_dat, isPl_raw, isPl_bag, oIn, flD, List.map_cons, List.map_nil, List.cons_append, List.nil_append, List.append_nil, List.getElem?_cons_zero, List.getElem?_cons_succ, List.getElem?_nil, List.set_cons_zero, List.set_cons_succ, List.length_cons, List.length_nil, List.all_cons, List.all_nil, List.replicate_succ, List.replicate_zero, Bool.and_true, Bool.and_self, Bool.true_and, List.filterMap_cons, List.filterMap_nil, Nat.reduceAdd, Nat.reduceSub, Nat.zero_add, true_and, and_true, if_true, ite_true, Bool.not_true, Bool.not_false, Bool.false_eq_true, if_false, ite_false])); ((try simp only [isN_b, isN_i, isN_s, isN_l, isN_t, if_false, ite_false, Bool.false_eq_true]) <;> try simp only [tyN, kb_NoneType_bool, kb_NoneType_int, kb_NoneType_str, kb_NoneType_tuple, kb_NoneType_list, kb_bool_bool, kb_bool_int, kb_bool_str, kb_bool_tuple, kb_bool_list, kb_int_bool, kb_int_int, kb_int_str, kb_int_tuple, kb_int_list, kb_str_bool, kb_str_int, kb_str_str, kb_str_tuple, kb_str_list, kb_list_bool, kb_list_int, kb_list_str, kb_list_tuple, kb_list_list, kb_tuple_bool, kb_tuple_int, kb_tuple_str, kb_tuple_tuple, kb_tuple_list, decide_true, decide_false, Bool.not_true, Bool.not_false, if_true, if_false, ite_true, ite_false, Bool.false_eq_true, reduceCtorEq]); ((try simp only [later]) <;> ((try simp only [wFn, List.length_cons, List.length_nil, Nat.reduceAdd, true_and, Nat.reduceSub, List.replicate_succ, List.replicate_zero, List.append_nil, List.cons_append, List.nil_append, List.map_cons, List.map_nil]) <;> try simp only [wFn, dSeq, dIfS, dNext, dAsg, dPar, dRet, dRetV, dRetN, dExpr, dBrk, dCnt, dFor, dFrz, frzAt, dAsgG, dGName, dGSub, dGNil, dGCons, dGTup, dAugI, dAug, dApp, dExt, dRaise, dVar, dC, dBin, dUn, dChain, dTst, dAnd, dOr, dNot, dYes, dAndV, dOrV, dNotV, dIfE, dNil, dCons, dTup, dLst, dats, dNone, dSome, dSl, oCut, dCall, dCb, dLrg, pk, dCallK, dTab, dCallV, dISeq, dIRg1, dIRg2, dIZip, dIEnum, tfName, tfPair, dLc, lcStep, Cn.no, dCount, scVs, scV, oAdd, oSub, oMul, oMod, oDiv, oCmp, oNeg, oEq, toD, oIsN, oIx, seqD, lstD, bLen, bTuple, bList, bAbs, bMin, bMax, bSum, bAll, bAny, bSorted, bIsi, fz, isPl_dat, isPl_raw, isPl_bag, oIn, flD, List.map_cons, List.map_nil, List.cons_append, List.nil_append, List.append_nil, List.getElem?_cons_zero, List.getElem?_cons_succ, List.getElem?_nil, List.set_cons_zero, List.set_cons_succ, List.length_cons, List.length_nil, List.all_cons, List.all_nil, List.replicate_succ, List.replicate_zero, Bool.and_true, Bool.and_self, Bool.true_and, List.filterMap_cons, List.filterMap_nil, Nat.reduceAdd, Nat.reduceSub, Nat.zero_add, true_and, and_true, if_true, ite_true, Bool.not_true, Bool.not_false, Bool.false_eq_true, if_false, ite_false])); ((try simp only [isN_b, isN_i, isN_s, isN_l, isN_t, if_false, ite_false, Bool.false_eq_true]) <;> try simp only [tyN, kb_NoneType_bool, kb_NoneType_int, kb_NoneType_str, kb_NoneType_tuple, kb_NoneType_list, kb_bool_bool, kb_bool_int, kb_bool_str, kb_bool_tuple, kb_bool_list, kb_int_bool, kb_int_int, kb_int_str, kb_int_tuple, kb_int_list, kb_str_bool, kb_str_int, kb_str_str, kb_str_tuple, kb_str_list, kb_list_bool, kb_list_int, kb_list_str, kb_list_tuple, kb_list_list, kb_tuple_bool, kb_tuple_int, kb_tuple_str, kb_tuple_tuple, kb_tuple_list, decide_true, decide_false, Bool.not_true, Bool.not_false, if_true, if_false, ite_true, ite_false, Bool.false_eq_true, reduceCtorEq]); ((try simp only [later]) <;> ((try simp only [wFn, List.length_cons, List.length_nil, Nat.reduceAdd, true_and, Nat.reduceSub, List.replicate_succ, List.replicate_zero, List.append_nil, List.cons_append, List.nil_append, List.map_cons, List.map_nil]) <;> try simp only [wFn, dSeq, dIfS, dNext, dAsg, dPar, dRet, dRetV, dRetN, dExpr, dBrk, dCnt, dFor, dFrz, frzAt, dAsgG, dGName, dGSub, dGNil, dGCons, dGTup, dAugI, dAug, dApp, dExt, dRaise, dVar, dC, dBin, dUn, dChain, dTst, dAnd, dOr, dNot, dYes, dAndV, dOrV, dNotV, dIfE, dNil, dCons, dTup, dLst, dats, dNone, dSome, dSl, oCut, dCall, dCb, dLrg, pk, dCallK, dTab, dCallV, dISeq, dIRg1, dIRg2, dIZip, dIEnum, tfName, tfPair, dLc, lcStep, Cn.no, dCount, scVs, scV, oAdd, oSub, oMul, oMod, oDiv, oCmp, oNeg, oEq, toD, oIsN, oIx, seqD, lstD, bLen, bTuple, bList, bAbs, bMin, bMax, bSum, bAll, bAny, bSorted, bIsi, fz, isPl_dat, isPl_raw, isPl_bag, oIn, flD, List.map_cons, List.map_nil, List.cons_append, List.nil_append, List.append_nil, List.getElem?_cons_zero, List.getElem?_cons_succ, List.getElem?_nil, List.set_cons_zero, List.set_cons_succ, List.length_cons, List.length_nil, List.all_cons, List.all_nil, List.replicate_succ, List.replicate_zero, Bool.and_true, Bool.and_self, Bool.true_and, List.filterMap_cons, List.filterMap_nil, Nat.reduceAdd, Nat.reduceSub, Nat.zero_add, true_and, and_true, if_true, ite_true, Bool.not_true, Bool.not_false, Bool.false_eq_true, if_false, ite_false])); ((try simp only [isN_b, isN_i, isN_s, isN_l, isN_t, if_false, ite_false, Bool.false_eq_true]) <;> try simp only [tyN, kb_NoneType_bool, kb_NoneType_int, kb_NoneType_str, kb_NoneType_tuple, kb_NoneType_list, kb_bool_bool, kb_bool_int, kb_bool_str, kb_bool_tuple, kb_bool_list, kb_int_bool, kb_int_int, kb_int_str, kb_int_tuple, kb_int_list, kb_str_bool, kb_str_int, kb_str_str, kb_str_tuple, kb_str_list, kb_list_bool, kb_list_int, kb_list_str, kb_list_tuple, kb_list_list, kb_tuple_bool, kb_tuple_int, kb_tuple_str, kb_tuple_tuple, kb_tuple_list, decide_true, decide_false, Bool.not_true, Bool.not_false, if_true, if_false, ite_true, ite_false, Bool.false_eq_true, reduceCtorEq])
      refine ⟨⟨sh_str hc, sh_str hc⟩, ?_⟩
      rw [eqv_self (n := 0) hc]
      exact p
    | list ds =>
      ((try simp only [wFn, List.length_cons, List.length_nil, Nat.reduceAdd, true_and, Nat.reduceSub, List.replicate_succ, List.replicate_zero, List.append_nil, List.cons_append, List.nil_append, List.map_cons, List.map_nil]) <;> try simp only [wFn, dSeq, dIfS, dNext, dAsg, dPar, dRet, dRetV, dRetN, dExpr, dBrk, dCnt, dFor, dFrz, frzAt, dAsgG, dGName, dGSub, dGNil, dGCons, dGTup, dAugI, dAug, dApp, dExt, dRaise, dVar, dC, dBin, dUn, dChain, dTst, dAnd, dOr, dNot, dYes, dAndV, dOrV, dNotV, dIfE, dNil, dCons, dTup, dLst, dats, dNone, dSome, dSl, oCut, dCall, dCb, dLrg, pk, dCallK, dTab, dCallV, dISeq, dIRg1, dIRg2, dIZip, dIEnum, tfName, tfPair, dLc, lcStep, Cn.no, dCount, scVs, scV, oAdd, oSub, oMul, oMod, oDiv, oCmp, oNeg, oEq, toD, oIsN, oIx, seqD, lstD, bLen, bTuple, bList, bAbs, bMin, bMax, bSum, bAll, bAny, bSorted, bIsi, fz, isPl_dat, isPl_raw, isPl_bag, oIn, flD, List.map_cons, List.map_nil, List.cons_append, List.nil_append, List.append_nil, List.getElem?_cons_zero, List.getElem?_cons_succ, List.getElem?_nil, List.set_cons_zero, List.set_cons_succ, List.length_cons, List.length_nil, List.all_cons, List.all_nil, List.replicate_succ, List.replicate_zero, Bool.and_true, Bool.and_self, Bool.true_and, List.filterMap_cons, List.filterMap_nil, Nat.reduceAdd, Nat.reduceSub, Nat.zero_add, true_and, and_true, if_true, ite_true, Bool.not_true, Bool.not_false, Bool.false_eq_true, if_false, ite_false]); ((try simp only [isN_b, isN_i, isN_s, isN_l, isN_t, if_false, ite_false, Bool.false_eq_true]) <;> try simp only [tyN, kb_NoneType_bool, kb_NoneType_int, kb_NoneType_str, kb_NoneType_tuple, kb_NoneType_list, kb_bool_bool, kb_bool_int, kb_bool_str, kb_bool_tuple, kb_bool_list, kb_int_bool, kb_int_int, kb_int_str, kb_int_tuple, kb_int_list, kb_str_bool, kb_str_int, kb_str_str, kb_str_tuple, kb_str_list, kb_list_bool, kb_list_int, kb_list_str, kb_list_tuple, kb_list_list, kb_tuple_bool, kb_tuple_int, kb_tuple_str, kb_tuple_tuple, kb_tuple_list, decide_true, decide_false, Bool.not_true, Bool.not_false, if_true, if_false, ite_true, ite_false, Bool.false_eq_true, reduceCtorEq]); ((try simp only [later]) <;> ((try simp only [wFn, List.length_cons, List.length_nil, Nat.reduceAdd, true_and, Nat.reduceSub, List.replicate_succ, List.replicate_zero, List.append_nil, List.cons_append, List.nil_append, List.map_cons, List.map_nil]) <;> try simp only [wFn, dSeq, dIfS, dNext, dAsg, dPar, dRet, dRetV, dRetN, dExpr, dBrk, dCnt, dFor, dFrz, frzAt, dAsgG, dGName, dGSub, dGNil, dGCons, dGTup, dAugI, dAug, dApp, dExt, dRaise, dVar, dC, dBin, dUn, dChain, dTst, dAnd, dOr, dNot, dYes, dAndV, dOrV, dNotV, dIfE, dNil, dCons, dTup, dLst, dats, dNone, dSome, dSl, oCut, dCall, dCb, dLrg, pk, dCallK, dTab, dCallV, dISeq, dIRg1, dIRg2, dIZip, dIEnum, tfName, tfPair, dLc, lcStep, Cn.no, dCount, scVs, scV, oAdd, oSub, oMul, oMod, oDiv, oCmp, oNeg, oEq, toD, oIsN, oIx, seqD, lstD, bLen, bTuple, bList, bAbs, bMin, bMax, bSum, bAll, bAny, bSorted, bIsi, fz, isPl_dat, isPl_raw, isPl_bag, oIn, flD, List.map_cons, List.map_nil, List.cons_append, List.nil_append, List.append_nil, List.getElem?_cons_zero, List.getElem?_cons_succ, List.getElem?_nil, List.set_cons_zero, List.set_cons_succ, List.length_cons, List.length_nil, List.all_cons, List.all_nil, List.replicate_succ, List.replicate_zero, Bool.and_true, Bool.and_self, Bool.true_and, List.filterMap_cons, List.filterMap_nil, Nat.reduceAdd, Nat.reduceSub, Nat.zero_add, true_and, and_true, if_true, ite_true, Bool.not_true, Bool.not_false, Bool.false_eq_true, if_false, ite_false])); ((try simp only [isN_b, isN_i, isN_s, isN_l, isN_t, if_false, ite_false, Bool.false_eq_true]) <;> try simp only [tyN, kb_NoneType_bool, kb_NoneType_int, kb_NoneType_str, kb_NoneType_tuple, kb_NoneType_list, kb_bool_bool, kb_bool_int, kb_bool_str, kb_bool_tuple, kb_bool_list, kb_int_bool, kb_int_int, kb_int_str, kb_int_tuple, kb_int_list, kb_str_bool, kb_str_int, kb_str_str, kb_str_tuple, kb_str_list, kb_list_bool, kb_list_int, kb_list_str, kb_list_tuple, kb_list_list, kb_tuple_bool, kb_tuple_int, kb_tuple_str, kb_tuple_tuple, kb_tuple_list, decide_true, decide_false, Bool.not_true, Bool.not_false, if_true, if_false, ite_true, ite_false, Bool.false_eq_true, reduceCtorEq]); ((try simp only [later]) <;> ((try simp only [wFn, List.length_cons, List.length_nil, Nat.reduceAdd, true_and, Nat.reduceSub, List.replicate_succ, List.replicate_zero, List.append_nil, List.cons_append, List.nil_append, List.map_cons, List.map_nil]) <;> try simp only [wFn, dSeq, dIfS, dNext, dAsg, dPar, dRet, dRetV, dRetN, dExpr, dBrk, dCnt, dFor, dFrz, frzAt, dAsgG, dGName, dGSub, dGNil, dGCons, dGTup, dAugI, dAug, dApp, dExt, dRaise, dVar, dC, dBin, dUn, dChain, dTst, dAnd, dOr, dNot, dYes, dAndV, dOrV, dNotV, dIfE, dNil, dCons, dTup, dLst, dats, dNone, dSome, dSl, oCut, dCall, dCb, dLrg, pk, dCallK, dTab, dCallV, dISeq, dIRg1, dIRg2, dIZip, dIEnum, tfName, tfPair, dLc, lcStep, Cn.no, dCount, scVs, scV, oAdd, oSub, oMul, oMod, oDiv, oCmp, oNeg, oEq, toD, oIsN, oIx, seqD, lstD, bLen, bTuple, bList, bAbs, bMin, bMax, bSum, bAll, bAny, bSorted, bIsi, fz, isPl_dat, isPl_raw, isPl_bag, oIn, flD, List.map_cons, List.map_nil, List.cons_append, List.nil_append, List.append_nil, List.getElem?_cons_zero, List.getElem?_cons_succ, List.getElem?_nil, List.set_cons_zero, List.set_cons_succ, List.length_cons, List.length_nil, List.all_cons, List.all_nil, List.replicate_succ, List.replicate_zero, Bool.and_true, Bool.and_self, Bool.true_and, List.filterMap_cons, List.filterMap_nil, Nat.reduceAdd, Nat.reduceSub, Nat.zero_add, true_and, and_true, if_true, ite_true, Bool.not_true, Bool.not_false, Bool.false_eq_true, if_false, ite_false])); ((try simp only [isN_b, isN_i, isN_s, isN_l, isN_t, if_false, ite_false, Bool.false_eq_true]) <;> try simp only [tyN, kb_NoneType_bool, kb_NoneType_int, kb_NoneType_str, kb_NoneType_tuple, kb_NoneType_list, kb_bool_bool, kb_bool_int, kb_bool_str, kb_bool_tuple, kb_bool_list, kb_int_bool, kb_int_int, kb_int_str, kb_int_tuple, kb_int_list, kb_str_bool, kb_str_int, kb_str_str, kb_str_tuple, kb_str_list, kb_list_bool, kb_list_int, kb_list_str, kb_list_tuple, kb_list_list, kb_tuple_bool, kb_tuple_int, kb_tuple_str, kb_tuple_tuple, kb_tuple_list, decide_true, decide_false, Bool.not_true, Bool.not_false, if_true, if_false, ite_true, ite_false, Bool.false_eq_true, reduceCtorEq]); ((try simp only [later]) <;> ((try simp only [wFn, List.length_cons, List.length_nil, Nat.reduceAdd, true_and, Nat.reduceSub, List.replicate_succ, List.replicate_zero, List.append_nil, List.cons_append, List.nil_append, List.map_cons, List.map_nil]) <;> try simp only [wFn, dSeq, dIfS, dNext, dAsg, dPar, dRet, dRetV, dRetN, dExpr, dBrk, dCnt, dFor, dFrz, frzAt, dAsgG, dGName, dGSub, dGNil, dGCons, dGTup, dAugI, dAug, dApp, dExt, dRaise, dVar, dC, dBin, dUn, dChain, dTst, dAnd, dOr, dNot, dYes, dAndV, dOrV, dNotV, dIfE, dNil, dCons, dTup, dLst, dats, dNone, dSome, dSl, oCut, dCall, dCb, dLrg, pk, dCallK, dTab, dCallV, dISeq, dIRg1, dIRg2, dIZip, dIEnum, tfName, tfPair, dLc, lcStep, Cn.no, dCount, scVs, scV, oAdd, oSub, oMul, oMod, oDiv, oCmp, oNeg, oEq, toD, oIsN, oIx, seqD, lstD, bLen, bTuple, bList, bAbs, bMin, bMax, bSum, bAll, bAny, bSorted, bIsi, fz, isPl_dat, isPl_raw, isPl_bag, oIn, flD, List.map_cons, List.map_nil, List.cons_append, List.nil_append, List.append_nil, List.getElem?_cons_zero, List.getElem?_cons_succ, List.getElem?_nil, List.set_cons_zero, List.set_cons_succ, List.length_cons, List.length_nil, List.all_cons, List.all_nil, List.replicate_succ, List.replicate_zero, Bool.and_true, Bool.and_self, Bool.true_and, List.filterMap_cons, List.filterMap_nil, Nat.reduceAdd, Nat.reduceSub, Nat.zero_add, true_and, and_true, if_true, ite_true, Bool.not_true, Bool.not_false, Bool.false_eq_true, if_false, ite_false])); ((try simp only [isN_b, isN_i, isN_s, isN_l, isN_t, if_false, ite_false, Bool.false_eq_true]) <;> try simp only [tyN, kb_NoneType_bool, kb_NoneType_int, kb_NoneType_str, kb_NoneType_tuple, kb_NoneType_list, kb_bool_bool, kb_bool_int, kb_bool_str, kb_bool_tuple, kb_bool_list, kb_int_bool, kb_int_int, kb_int_str, kb_int_tuple, kb_int_list, kb_str_bool, kb_str_int, kb_str_str, kb_str_tuple, kb_str_list, kb_list_bool, kb_list_int, kb_list_str, kb_list_tuple, kb_list_list, kb_tuple_bool, kb_tuple_int, kb_tuple_str, kb_tuple_tuple, kb_tuple_list, decide_true, decide_false, Bool.not_true, Bool.not_false, if_true, if_false, ite_true, ite_false, Bool.false_eq_true, reduceCtorEq]); ((try simp only [later]) <;> ((try simp only [wFn, List.length_cons, List.length_nil, Nat.reduceAdd, true_and, Nat.reduceSub, List.replicate_succ, List.replicate_zero, List.append_nil, List.cons_append, List.nil_append, List.map_cons, List.map_nil]) <;> try simp only [wFn, dSeq, dIfS, dNext, dAsg, dPar, dRet, dRetV, dRetN, dExpr, dBrk, dCnt, dFor, dFrz, frzAt, dAsgG, dGName, dGSub, dGNil, dGCons, dGTup, dAugI, dAug, dApp, dExt, dRaise, dVar, dC, dBin, dUn, dChain, dTst, dAnd, dOr, dNot, dYes, dAndV, dOrV, dNotV, dIfE, dNil, dCons, dTup, dLst, dats, dNone, dSome, dSl, oCut, dCall, dCb, dLrg, pk, dCallK, dTab, dCallV, dISeq, dIRg1, dIRg2, dIZip, dIEnum, tfName, tfPair, dLc, lcStep, Cn.no, dCount, scVs, scV, oAdd, oSub, oMul, oMod, oDiv, oCmp, oNeg, oEq, toD, oIsN, oIx, seqD, lstD, bLen, bTuple, bList, bAbs, bMin, bMax, bSum, bAll, bAny, bSorted, bIsi, fz, isPl_dat, isPl_raw, isPl_bag, oIn, flD, List.map_cons, List.map_nil, List.cons_append, List.nil_append, List.append_nil, List.getElem?_cons_zero, List.getElem?_cons_succ, List.getElem?_nil, List.set_cons_zero, List.set_cons_succ, List.length_cons, List.length_nil, List.all_cons, List.all_nil, List.replicate_succ, List.replicate_zero, Bool.and_true, Bool.and_self, Bool.true_and, List.filterMap_cons, List.filterMap_nil, Nat.reduceAdd, Nat.reduceSub, Nat.zero_add, true_and, and_true, if_true, ite_true, Bool.not_true, Bool.not_false, Bool.false_eq_true, if_false, ite_false])); ((try simp only [isN_b, isN_i, isN_s, isN_l, isN_t, if_false, ite_false, Bool.false_eq_true]) <;> try simp only [tyN, kb_NoneType_bool, kb_NoneType_int, kb_NoneType_str, kb_NoneType_tuple, kb_NoneType_list, kb_bool_bool, kb_bool_int, kb_bool_str, kb_bool_tuple, kb_bool_list, kb_int_bool, kb_int_int, kb_int_str, kb_int_tuple, kb_int_list, kb_str_bool, kb_str_int, kb_str_str, kb_str_tuple, kb_str_list, kb_list_bool, kb_list_int, kb_list_str, kb_list_tuple, kb_list_list, kb_tuple_bool, kb_tuple_int, kb_tuple_str, kb_tuple_tuple, kb_tuple_list, decide_true, decide_false, Bool.not_true, Bool.not_false, if_true, if_false, ite_true, ite_false, Bool.false_eq_true, reduceCtorEq])
      refine ⟨⟨rfl, rfl⟩, ?_⟩
      rw [if_neg (by decide)]
      refine ⟨⟨rfl, rfl⟩, ?_⟩
      rw [if_neg (by decide)]
      ((try simp only [later]) <;> ((try simp only [wFn, List.length_cons, List.length_nil, Nat.reduceAdd, true_and, Nat.reduceSub, List.replicate_succ, List.replicate_zero, List.append_nil, List.cons_append, List.nil_append, List.map_cons, List.map_nil]) <;> try simp only [wFn, dSeq, dIfS, dNext, dAsg, dPar, dRet, dRetV, dRetN, dExpr, dBrk, dCnt, dFor, dFrz, frzAt, dAsgG, dGName, dGSub, dGNil, dGCons, dGTup, dAugI, dAug, dApp, dExt, dRaise, dVar, dC, dBin, dUn, dChain, dTst, dAnd, dOr, dNot, dYes, dAndV, dOrV, dNotV, dIfE, dNil, dCons, dTup, dLst, dats, dNone, dSome, dSl, oCut, dCall, dCb, dLrg, pk, dCallK, dTab, dCallV, dISeq, dIRg1, dIRg2, dIZip, dIEnum, tfName, tfPair, dLc, lcStep, Cn.no, dCount, scVs, scV, oAdd, oSub, oMul, oMod, oDiv, oCmp, oNeg, oEq, toD, oIsN, oIx, seqD, lstD, bLen, bTuple, bList, bAbs, bMin, bMax, bSum, bAll, bAny, bSorted, bIsi, fz, isPl_dat, isPl_raw, isPl_bag, oIn, flD, List.map_cons, List.map_nil, List.cons_append, List.nil_append, List.append_nil, List.getElem?_cons_zero, List.getElem?_cons_succ, List.getElem?_nil, List.set_cons_zero, List.set_cons_succ, List.length_cons, List.length_nil, List.all_cons, List.all_nil, List.replicate_succ, List.replicate_zero, Bool.and_true, Bool.and_self, Bool.true_and, List.filterMap_cons, List.filterMap_nil, Nat.reduceAdd, Nat.reduceSub, Nat.zero_add, true_and, and_true, if_true, ite_true, Bool.not_true, Bool.not_false, Bool.false_eq_true, if_false, ite_false]))
      refine ⟨⟨rfl, rfl⟩, ?_⟩
      rw [if_neg (by rw [eqv_ii]; simp)]
      rw [PyData.canLay0] at hc
      exact seq ds (fun x hx => ⟨h.2 x hx, can_mem hc x hx⟩) h.1 _ (.inl rfl)
    | tuple ds =>
      ((try simp only [wFn, List.length_cons, List.length_nil, Nat.reduceAdd, true_and, Nat.reduceSub, List.replicate_succ, List.replicate_zero, List.append_nil, List.cons_append, List.nil_append, List.map_cons, List.map_nil]) <;> try simp only [wFn, dSeq, dIfS, dNext, dAsg, dPar, dRet, dRetV, dRetN, dExpr, dBrk, dCnt, dFor, dFrz, frzAt, dAsgG, dGName, dGSub, dGNil, dGCons, dGTup, dAugI, dAug, dApp, dExt, dRaise, dVar, dC, dBin, dUn, dChain, dTst, dAnd, dOr, dNot, dYes, dAndV, dOrV, dNotV, dIfE, dNil, dCons, dTup, dLst, dats, dNone, dSome, dSl, oCut, dCall, dCb, dLrg, pk, dCallK, dTab, dCallV, dISeq, dIRg1, dIRg2, dIZip, dIEnum, tfName, tfPair, dLc, lcStep, Cn.no, dCount, scVs, scV, oAdd, oSub, oMul, oMod, oDiv, oCmp, oNeg, oEq, toD, oIsN, oIx, seqD, lstD, bLen, bTuple, bList, bAbs, bMin, bMax, bSum, bAll, bAny, bSorted, bIsi, fz, isPl_dat, isPl_raw, isPl_bag, oIn, flD, List.map_cons, List.map_nil, List.cons_append, List.nil_append, List.append_nil, List.getElem?_cons_zero, List.getElem?_cons_succ, List.getElem?_nil, List.set_cons_zero, List.set_cons_succ, List.length_cons, List.length_nil, List.all_cons, List.all_nil, List.replicate_succ, List.replicate_zero, Bool.and_true, Bool.and_self, Bool.true_and, List.filterMap_cons, List.filterMap_nil, Nat.reduceAdd, Nat.reduceSub, Nat.zero_add, true_and, and_true, if_true, ite_true, Bool.not_true, Bool.not_false, Bool.false_eq_true, if_false, ite_false]); ((try simp only [isN_b, isN_i, isN_s, isN_l, isN_t, if_false, ite_false, Bool.false_eq_true]) <;> try simp only [tyN, kb_NoneType_bool, kb_NoneType_int, kb_NoneType_str, kb_NoneType_tuple, kb_NoneType_list, kb_bool_bool, kb_bool_int, kb_bool_str, kb_bool_tuple, kb_bool_list, kb_int_bool, kb_int_int, kb_int_str, kb_int_tuple, kb_int_list, kb_str_bool, kb_str_int, kb_str_str, kb_str_tuple, kb_str_list, kb_list_bool, kb_list_int, kb_list_str, kb_list_tuple, kb_list_list, kb_tuple_bool, kb_tuple_int, kb_tuple_str, kb_tuple_tuple, kb_tuple_list, decide_true, decide_false, Bool.not_true, Bool.not_false, if_true, if_false, ite_true, ite_false, Bool.false_eq_true, reduceCtorEq]); ((try simp only [later]) <;> ((try simp only [wFn, List.length_cons, List.length_nil, Nat.reduceAdd, true_and, Nat.reduceSub, List.replicate_succ, List.replicate_zero, List.append_nil, List.cons_append, List.nil_append, List.map_cons, List.map_nil]) <;> try simp only [wFn, dSeq, dIfS, dNext, dAsg, dPar, dRet, dRetV, dRetN, dExpr, dBrk, dCnt, dFor, dFrz, frzAt, dAsgG, dGName, dGSub, dGNil, dGCons, dGTup, dAugI, dAug, dApp, dExt, dRaise, dVar, dC, dBin, dUn, dChain, dTst, dAnd, dOr, dNot, dYes, dAndV, dOrV, dNotV, dIfE, dNil, dCons, dTup, dLst, dats, dNone, dSome, dSl, oCut, dCall, dCb, dLrg, pk, dCallK, dTab, dCallV, dISeq, dIRg1, dIRg2, dIZip, dIEnum, tfName, tfPair, dLc, lcStep, Cn.no, dCount, scVs, scV, oAdd, oSub, oMul, oMod, oDiv, oCmp, oNeg, oEq, toD, oIsN, oIx, seqD, lstD, bLen, bTuple, bList, bAbs, bMin, bMax, bSum, bAll, bAny, bSorted, bIsi, fz, isPl_dat, isPl_raw, isPl_bag, oIn, flD, List.map_cons, List.map_nil, List.cons_append, List.nil_append, List.append_nil, List.getElem?_cons_zero, List.getElem?_cons_succ, List.getElem?_nil, List.set_cons_zero, List.set_cons_succ, List.length_cons, List.length_nil, List.all_cons, List.all_nil, List.replicate_succ, List.replicate_zero, Bool.and_true, Bool.and_self, Bool.true_and, List.filterMap_cons, List.filterMap_nil, Nat.reduceAdd, Nat.reduceSub, Nat.zero_add, true_and, and_true, if_true, ite_true, Bool.not_true, Bool.not_false, Bool.false_eq_true, if_false, ite_false])); ((try simp only [isN_b, isN_i, isN_s, isN_l, isN_t, if_false, ite_false, Bool.false_eq_true]) <;> try simp only [tyN, kb_NoneType_bool, kb_NoneType_int, kb_NoneType_str, kb_NoneType_tuple, kb_NoneType_list, kb_bool_bool, kb_bool_int, kb_bool_str, kb_bool_tuple, kb_bool_list, kb_int_bool, kb_int_int, kb_int_str, kb_int_tuple, kb_int_list, kb_str_bool, kb_str_int, kb_str_str, kb_str_tuple, kb_str_list, kb_list_bool, kb_list_int, kb_list_str, kb_list_tuple, kb_list_list, kb_tuple_bool, kb_tuple_int, kb_tuple_str, kb_tuple_tuple, kb_tuple_list, decide_true, decide_false, Bool.not_true, Bool.not_false, if_true, if_false, ite_true, ite_false, Bool.false_eq_true, reduceCtorEq]); ((try simp only [later]) <;> ((try simp only [wFn, List.length_cons, List.length_nil, Nat.reduceAdd, true_and, Nat.reduceSub, List.replicate_succ, List.replicate_zero, List.append_nil, List.cons_append, List.nil_append, List.map_cons, List.map_nil]) <;> try simp only [wFn, dSeq, dIfS, dNext, dAsg, dPar, dRet, dRetV, dRetN, dExpr, dBrk, dCnt, dFor, dFrz, frzAt, dAsgG, dGName, dGSub, dGNil, dGCons, dGTup, dAugI, dAug, dApp, dExt, dRaise, dVar, dC, dBin, dUn, dChain, dTst, dAnd, dOr, dNot, dYes, dAndV, dOrV, dNotV, dIfE, dNil, dCons, dTup, dLst, dats, dNone, dSome, dSl, oCut, dCall, dCb, dLrg, pk, dCallK, dTab, dCallV, dISeq, dIRg1, dIRg2, dIZip, dIEnum, tfName, tfPair, dLc, lcStep, Cn.no, dCount, scVs, scV, oAdd, oSub, oMul, oMod, oDiv, oCmp, oNeg, oEq, toD, oIsN, oIx, seqD, lstD, bLen, bTuple, bList, bAbs, bMin, bMax, bSum, bAll, bAny, bSorted, bIsi, fz, isPl_dat, isPl_raw, isPl_bag, oIn, flD, List.map_cons, List.map_nil, List.cons_append, List.nil_append, List.append_nil, List.getElem?_cons_zero, List.getElem?_cons_succ, List.getElem?_nil, List.set_cons_zero, List.set_cons_succ, List.length_cons, List.length_nil, List.all_cons, List.all_nil, List.replicate_succ, List.replicate_zero, Bool.and_true, Bool.and_self, Bool.true_and, List.filterMap_cons, List.filterMap_nil, Nat.reduceAdd, Nat.reduceSub, Nat.zero_add, true_and, and_true, if_true, ite_true, Bool.not_true, Bool.not_false, Bool.false_eq_true, if_false, ite_false])); ((try simp only [isN_b, isN_i, isN_s, isN_l, isN_t, if_false, ite_false, Bool.false_eq_true]) <;> try simp only [tyN, kb_NoneType_bool, kb_NoneType_int, kb_NoneType_str, kb_NoneType_tuple, kb_NoneType_list, kb_bool_bool, kb_bool_int, kb_bool_str, kb_bool_tuple, kb_bool_list, kb_int_bool, kb_int_int, kb_int_str, kb_int_tuple, kb_int_list, kb_str_bool, kb_str_int, kb_str_str, kb_str_tuple, kb_str_list, kb_list_bool, kb_list_int, kb_list_str, kb_list_tuple, kb_list_list, kb_tuple_bool, kb_tuple_int, kb_tuple_str, kb_tuple_tuple, kb_tuple_list, decide_true, decide_false, Bool.not_true, Bool.not_false, if_true, if_false, ite_true, ite_false, Bool.false_eq_true, reduceCtorEq]); ((try simp only [later]) <;> ((try simp only [wFn, List.length_cons, List.length_nil, Nat.reduceAdd, true_and, Nat.reduceSub, List.replicate_succ, List.replicate_zero, List.append_nil, List.cons_append, List.nil_append, List.map_cons, List.map_nil]) <;> try simp only [wFn, dSeq, dIfS, dNext, dAsg, dPar, dRet, dRetV, dRetN, dExpr, dBrk, dCnt, dFor, dFrz, frzAt, dAsgG, dGName, dGSub, dGNil, dGCons, dGTup, dAugI, dAug, dApp, dExt, dRaise, dVar, dC, dBin, dUn, dChain, dTst, dAnd, dOr, dNot, dYes, dAndV, dOrV, dNotV, dIfE, dNil, dCons, dTup, dLst, dats, dNone, dSome, dSl, oCut, dCall, dCb, dLrg, pk, dCallK, dTab, dCallV, dISeq, dIRg1, dIRg2, dIZip, dIEnum, tfName, tfPair, dLc, lcStep, Cn.no, dCount, scVs, scV, oAdd, oSub, oMul, oMod, oDiv, oCmp, oNeg, oEq, toD, oIsN, oIx, seqD, lstD, bLen, bTuple, bList, bAbs, bMin, bMax, bSum, bAll, bAny, bSorted, bIsi, fz, isPl_dat, isPl_raw, isPl_bag, oIn, flD, List.map_cons, List.map_nil, List.cons_append, List.nil_append, List.append_nil, List.getElem?_cons_zero, List.getElem?_cons_succ, List.getElem?_nil, List.set_cons_zero, List.set_cons_succ, List.length_cons, List.length_nil, List.all_cons, List.all_nil, List.replicate_succ, List.replicate_zero, Bool.and_true, Bool.and_self, Bool.true_and, List.filterMap_cons, List.filterMap_nil, Nat.reduceAdd, Nat.reduceSub, Nat.zero_add, true_and, and_true, if_true, ite_true, Bool.not_true, Bool.not_false, Bool.false_eq_true, if_false, ite_false])); ((try simp only [isN_b, isN_i, isN_s, isN_l, isN_t, if_false, ite_false, Bool.false_eq_true]) <;> try simp only [tyN, kb_NoneType_bool, kb_NoneType_int, kb_NoneType_str, kb_NoneType_tuple, kb_NoneType_list, kb_bool_bool, kb_bool_int, kb_bool_str, kb_bool_tuple, kb_bool_list, kb_int_bool, kb_int_int, kb_int_str, kb_int_tuple, kb_int_list, kb_str_bool, kb_str_int, kb_str_str, kb_str_tuple, kb_str_list, kb_list_bool, kb_list_int, kb_list_str, kb_list_tuple, kb_list_list, kb_tuple_bool, kb_tuple_int, kb_tuple_str, kb_tuple_tuple, kb_tuple_list, decide_true, decide_false, Bool.not_true, Bool.not_false, if_true, if_false, ite_true, ite_false, Bool.false_eq_true, reduceCtorEq]); ((try simp only [later]) <;> ((try simp only [wFn, List.length_cons, List.length_nil, Nat.reduceAdd, true_and, Nat.reduceSub, List.replicate_succ, List.replicate_zero, List.append_nil, List.cons_append, List.nil_append, List.map_cons, List.map_nil]) <;> try simp only [wFn, dSeq, dIfS, dNext, dAsg, dPar, dRet, dRetV, dRetN, dExpr, dBrk, dCnt, dFor, dFrz, frzAt, dAsgG, dGName, dGSub, dGNil, dGCons, dGTup, dAugI, dAug, dApp, dExt, dRaise, dVar, dC, dBin, dUn, dChain, dTst, dAnd, dOr, dNot, dYes, dAndV, dOrV, dNotV, dIfE, dNil, dCons, dTup, dLst, dats, dNone, dSome, dSl, oCut, dCall, dCb, dLrg, pk, dCallK, dTab, dCallV, dISeq, dIRg1, dIRg2, dIZip, dIEnum, tfName, tfPair, dLc, lcStep, Cn.no, dCount, scVs, scV, oAdd, oSub, oMul, oMod, oDiv, oCmp, oNeg, oEq, toD, oIsN, oIx, seqD, lstD, bLen, bTuple, bList, bAbs, bMin, bMax, bSum, bAll, bAny, bSorted, bIsi, fz, isPl_dat, isPl_raw, isPl_bag, oIn, flD, List.map_cons, List.map_nil, List.cons_append, List.nil_append, List.append_nil, List.getElem?_cons_zero, List.getElem?_cons_succ, List.getElem?_nil, List.set_cons_zero, List.set_cons_succ, List.length_cons, List.length_nil, List.all_cons, List.all_nil, List.replicate_succ, List.replicate_zero, Bool.and_true, Bool.and_self, Bool.true_and, List.filterMap_cons, List.filterMap_nil, Nat.reduceAdd, Nat.reduceSub, Nat.zero_add, true_and, and_true, if_true, ite_true, Bool.not_true, Bool.not_false, Bool.false_eq_true, if_false, ite_false])); ((try simp only [isN_b, isN_i, isN_s, isN_l, isN_t, if_false, ite_false, Bool.false_eq_true]) <;> try simp only [tyN, kb_NoneType_bool, kb_NoneType_int, kb_NoneType_str, kb_NoneType_tuple, kb_NoneType_list, kb_bool_bool, kb_bool_int, kb_bool_str, kb_bool_tuple, kb_bool_list, kb_int_bool, kb_int_int, kb_int_str, kb_int_tuple, kb_int_list, kb_str_bool, kb_str_int, kb_str_str, kb_str_tuple, kb_str_list, kb_list_bool, kb_list_int, kb_list_str, kb_list_tuple, kb_list_list, kb_tuple_bool, kb_tuple_int, kb_tuple_str, kb_tuple_tuple, kb_tuple_list, decide_true, decide_false, Bool.not_true, Bool.not_false, if_true, if_false, ite_true, ite_false, Bool.false_eq_true, reduceCtorEq])
      refine ⟨⟨rfl, rfl⟩, ?_⟩
      rw [if_neg (by decide)]
      refine ⟨⟨rfl, rfl⟩, ?_⟩
      rw [if_neg (by decide)]
      ((try simp only [later]) <;> ((try simp only [wFn, List.length_cons, List.length_nil, Nat.reduceAdd, true_and, Nat.reduceSub, List.replicate_succ, List.replicate_zero, List.append_nil, List.cons_append, List.nil_append, List.map_cons, List.map_nil]) <;> try simp only [wFn, dSeq, dIfS, dNext, dAsg, dPar, dRet, dRetV, dRetN, dExpr, dBrk, dCnt, dFor, dFrz, frzAt, dAsgG, dGName, dGSub, dGNil, dGCons, dGTup, dAugI, dAug, dApp, dExt, dRaise, dVar, dC, dBin, dUn, dChain, dTst, dAnd, dOr, dNot, dYes, dAndV, dOrV, dNotV, dIfE, dNil, dCons, dTup, dLst, dats, dNone, dSome, dSl, oCut, dCall, dCb, dLrg, pk, dCallK, dTab, dCallV, dISeq, dIRg1, dIRg2, dIZip, dIEnum, tfName, tfPair, dLc, lcStep, Cn.no, dCount, scVs, scV, oAdd, oSub, oMul, oMod, oDiv, oCmp, oNeg, oEq, toD, oIsN, oIx, seqD, lstD, bLen, bTuple, bList, bAbs, bMin, bMax, bSum, bAll, bAny, bSorted, bIsi, fz, isPl_dat, isPl_raw, isPl_bag, oIn, flD, List.map_cons, List.map_nil, List.cons_append, List.nil_append, List.append_nil, List.getElem?_cons_zero, List.getElem?_cons_succ, List.getElem?_nil, List.set_cons_zero, List.set_cons_succ, List.length_cons, List.length_nil, List.all_cons, List.all_nil, List.replicate_succ, List.replicate_zero, Bool.and_true, Bool.and_self, Bool.true_and, List.filterMap_cons, List.filterMap_nil, Nat.reduceAdd, Nat.reduceSub, Nat.zero_add, true_and, and_true, if_true, ite_true, Bool.not_true, Bool.not_false, Bool.false_eq_true, if_false, ite_false]))
      refine ⟨⟨rfl, rfl⟩, ?_⟩
      rw [if_neg (by rw [eqv_ii]; simp)]
      rw [PyData.canLay0] at hc
      exact seq ds (fun x hx => ⟨h.2 x hx, can_mem hc x hx⟩) h.1 _ (.inr rfl)
    | dict kvs => exact h.elim
theorem at_set {cs : List Int} {k i v : Int} (hk : 0 ≤ k) (hk1 : k < cs.length) (hi : 0 ≤ i) : at_ (cs.set k.toNat v) i = if i = k then v else at_ cs i := by
  unfold at_
  rw [List.getD_eq_getElem?_getD, List.getD_eq_getElem?_getD]
  by_cases h : i = k
  · subst h
    rw [if_pos rfl, List.getElem?_set_self (by omega)]
    rfl
  · rw [if_neg h, List.getElem?_set_ne (by omega)]
theorem ld_set {ms cs : List Int} {k v : Int} (h : Ld ms cs) (hk : Ck ms k) (h0 : 0 ≤ v) (h1 : v ≤ at_ ms k) : Ld ms (cs.set k.toNat v) := by
  refine ⟨by rw [List.length_set]; exact h.len, fun i i0 i1 => ?_⟩
  rw [at_set hk.1 (by rw [h.len]; exact hk.2) i0]
  split
  · rename_i e
    subst e
    exact ⟨h0, h1⟩
  · exact h.at_ i i0 i1
theorem fill_ld {ms : List Int} : ∀ {ks held : List Int} {g : Int}, Ld ms held → 0 ≤ g → (∀ z ∈ ks, Ck ms z) → Ld ms (fill ms ks held g).1 ∧ 0 ≤ (fill ms ks held g).2 ∧ (fill ms ks held g).2 ≤ g ∧ ∀ i, 0 ≤ i → i < (ms.length : Int) → i ∉ ks → at_ (fill ms ks held g).1 i = at_ held i
  | [], held, g, h, hg, _ => ⟨h, hg, Int.le_refl _, fun _ _ _ _ => rfl⟩
  | k :: ks, held, g, h, hg, hk => by
    have hk0 := hk k (List.mem_cons_self ..)
    have hb := h.at_ k hk0.1 hk0.2
    have h' : Ld ms (held.set k.toNat (at_ held k + min g (at_ ms k - at_ held k))) := ld_set h hk0 (by omega) (by omega)
    obtain ⟨r1, r2, r3, r4⟩ := fill_ld (ks := ks) h' (g := g - min g (at_ ms k - at_ held k)) (by omega) (fun z hz => hk z (List.mem_cons_of_mem _ hz))
    refine ⟨r1, r2, ?_, fun i i0 i1 hi => ?_⟩
    · show (fill ms ks _ _).2 ≤ g
      omega
    · show at_ (fill ms ks _ _).1 i = _
      rw [r4 i i0 i1 (fun z => hi (List.mem_cons_of_mem _ z)), at_set hk0.1 (by rw [h.len]; exact hk0.2) i0, if_neg (fun z => hi (by rw [z]; exact List.mem_cons_self ..))]
theorem lead_ld {ms cs ks : List Int} {g : Int} (h : Ld ms cs) (hw : Way ms ks) (h0 : 0 ≤ g) (h1 : g ≤ at_ cs (ks.headD 0)) : Ld ms (lead ms cs g ks) := by
  obtain ⟨k, l, rfl, hk⟩ := hw.head
  have h1 : g ≤ at_ cs k := h1
  have hb := h.at_ k hk.1 hk.2
  have h' : Ld ms (cs.set k.toNat (at_ cs k - g)) := ld_set h hk (by omega) (by omega)
  obtain ⟨r1, r2, r3, r4⟩ := fill_ld (ks := l) h' h0 (fun z hz => hw.ck z (List.mem_cons_of_mem _ hz))
  have nk : k ∉ l := (List.nodup_cons.mp hw.nd).1
  have e := r4 k hk.1 hk.2 nk
  rw [at_set hk.1 (by rw [h.len]; exact hk.2) hk.1, if_pos rfl] at e
  exact ld_set r1 hk (by omega) (by omega)
theorem pour_ld {ms cs : List Int} {d : Deed} (h : Ld ms cs) (hs : Sz ms) (hd : d.Ok ms) : Ld ms (pour ms cs d) := by
  cases d with
  | over n ks =>
    obtain ⟨hn, hw⟩ := hd
    obtain ⟨k, l, rfl, hk⟩ := hw.head
    have hb := h.at_ k hk.1 hk.2
    have := hn.1
    exact lead_ld h hw (show 0 ≤ min n (at_ cs k) by omega) (show min n (at_ cs k) ≤ at_ cs k by omega)
  | down n ks =>
    obtain ⟨hn, hw⟩ := hd
    obtain ⟨k, l, rfl, hk⟩ := hw.head
    have hb := h.at_ k hk.1 hk.2
    have := hn.1
    exact lead_ld h hw (show 0 ≤ max (at_ cs k - n) 0 by omega) (show max (at_ cs k - n) 0 ≤ at_ cs k by omega)
  | swap a b =>
    obtain ⟨ha, hb, hne, he⟩ := hd
    have h1 := h.at_ a ha.1 ha.2
    have h2 := h.at_ b hb.1 hb.2
    exact ld_set (ld_set h ha (by omega) (by omega)) hb (by omega) (by omega)
  | tap n k =>
    have hb := h.at_ k hd.2.1 hd.2.2
    have := hd.1.1
    exact ld_set h hd.2 (by omega) (by omega)
  | drain n k =>
    have hb := h.at_ k hd.2.1 hd.2.2
    have := hd.1.1
    exact ld_set h hd.2 (by omega) (by omega)
theorem flat_row {n : Nat} {ns : List Int} (h : ns.length ≤ 100000) : Flat (n + 2) (nums ns) := flat_nums h
theorem flat2 {x y : List Int} (hx : x.length ≤ 1000) (hy : y.length ≤ 1000) : Flat 6 (.list [nums x, nums y]) ∧ PyData.canLay0 (.list [nums x, nums y]) = true := by
  refine ⟨flat_l (n := 5) (by simp) (all_cons (flat_nums (n := 3) (by omega)) (all_cons (flat_nums (n := 3) (by omega)) all_nil)), ?_⟩
  exact (lay_list (n := 1) fun d hd => by
    simp only [List.mem_cons, List.not_mem_nil, or_false] at hd
    rcases hd with rfl | rfl
    · exact lay_nums
    · exact lay_nums).1
theorem lay_deed {d : Deed} : Lay 1 d.D := lay_tup (n := 0) fun x hx => by
  rcases List.mem_cons.mp hx with e | e
  · rw [e]
    cases d with
    | over n ks => exact lay_str cl_over
    | down n ks => exact lay_str cl_down
    | swap n ks => exact lay_str cl_swap
    | tap n ks => exact lay_str cl_tap
    | drain n ks => exact lay_str cl_drain
  · obtain ⟨i, _, rfl⟩ := List.mem_map.mp e
    exact lay_int
theorem lay_row {ds : List Deed} : Lay 2 (.list (rowD ds)) := lay_list fun x hx => by
  obtain ⟨d, _, rfl⟩ := List.mem_map.mp hx
  exact lay_deed
theorem pours_ld {ms : List Int} (hs : Sz ms) : ∀ {ds : List Deed} {cs : List Int}, Ld ms cs → Rows ms ds → Ld ms (pours ms cs ds)
  | [], _, h, _ => h
  | d :: ds, cs, h, hr => pours_ld hs (ds := ds) (pour_ld h hs (hr d (List.mem_cons_self ..))) fun x hx => hr x (List.mem_cons_of_mem _ hx)
theorem pours_take {ms cs : List Int} {ds : List Deed} {k : Nat} {d : Deed} (h : ds[k]? = some d) : pours ms cs (ds.take (k + 1)) = pour ms (pours ms cs (ds.take k)) d := by
  unfold pours
  rw [List.take_add_one, h, List.foldl_append]
  rfl

end Lw

set_option Elab.async false
set_option linter.all false
set_option maxRecDepth 100000
set_option maxHeartbeats 1000000
namespace Lw
open PySem PySem.Spec PyProof.Rows L2 DL DW
def bad (m : Int) : Bool := !(decide (1 ≤ m) && decide (m ≤ 40))
theorem bad_no {m : Int} (h : bad m = false) : 1 ≤ m ∧ m ≤ 40 := by
  unfold bad at h
  simpa using h
def flaw (ms : List Int) : Option Int := if ms.length = 0 ∨ 6 < ms.length then some (-1) else ((List.range ms.length).find? fun (j : Nat) => bad (at_ ms (j : Int))).map fun (j : Nat) => (j : Int)
theorem flaw_out {ms : List Int} (h : ms.length = 0 ∨ 6 < ms.length) : flaw ms = some (-1) := by
  unfold flaw
  rw [if_pos h]
theorem flaw_at {ms : List Int} {k : Nat} (h1 : 1 ≤ ms.length) (h2 : ms.length ≤ 6) (hk : k < ms.length) (h0 : ∀ j : Nat, j < k → bad (at_ ms (j : Int)) = false) (hb : bad (at_ ms (k : Int)) = true) : flaw ms = some (k : Int) := by
  unfold flaw
  rw [if_neg (by omega), List.find?_range_eq_some.mpr ⟨hb, List.mem_range.mpr hk, fun j hj => by rw [h0 j hj]; rfl⟩]
  rfl
theorem flaw_no {ms : List Int} (h1 : 1 ≤ ms.length) (h2 : ms.length ≤ 6) (h0 : ∀ j : Nat, j < ms.length → bad (at_ ms (j : Int)) = false) : flaw ms = none := by
  unfold flaw
  rw [if_neg (by omega), List.find?_eq_none.mpr (fun j hj => by rw [h0 j (List.mem_range.mp hj)]; decide)]
  rfl
theorem flaw_sz {ms : List Int} (h : flaw ms = none) : Sz ms := by
  by_cases hr : ms.length = 0 ∨ 6 < ms.length
  · rw [flaw_out hr] at h
    cases h
  · unfold flaw at h
    rw [if_neg hr, Option.map_eq_none_iff, List.find?_eq_none] at h
    refine ⟨by omega, by omega, fun i h0 h1 => ?_⟩
    obtain ⟨i, rfl⟩ := Int.eq_ofNat_of_zero_le h0
    exact bad_no (Bool.eq_false_iff.mpr (h i (List.mem_range.mpr (by omega))))
theorem w_looks {ms : List Int} {P : DP} {c : Cn} (h1 : flaw ms = none → P (.dat .none)) (h2 : ∀ k, flaw ms = some k → c.x 0 (mk_BadSizes [.int k])) (hl : ms.length ≤ 1000) : W_look_sizes [.dat (nums ms)] P c := by
  by_cases hr : ms.length = 0 ∨ 6 < ms.length
  · have e := h2 _ (flaw_out hr)
    unfold W_look_sizes D_look_sizes
    ((try simp only [wFn, List.length_cons, List.length_nil, Nat.reduceAdd, true_and, Nat.reduceSub, List.replicate_succ, List.replicate_zero, List.append_nil, List.cons_append, List.nil_append, List.map_cons, List.map_nil]) <;> try simp only [wFn, dSeq, later, dIfS, dNext, dAsg, dPar, dRet, dRetV, dRetN, dExpr, dBrk, dCnt, dFor, dFrz, frzAt, dAsgG, dGName, dGSub, dGNil, dGCons, dGTup, dAugI, dAug, dApp, dExt, dRaise, dVar, dC, dBin, dUn, dChain, dTst, dAnd, dOr, dNot, dYes, dAndV, dOrV, dNotV, dIfE, dNil, dCons, dTup, dLst, dats, dNone, dSome, dSl, oCut, dCall, dCb, dLrg, pk, dCallK, dTab, dCallV, dISeq, dIRg1, dIRg2, dIZip, dIEnum, tfName, tfPair, dLc, lcStep, Cn.no, dCount, scVs, scV, oAdd, oSub, oMul, oMod, oDiv, oCmp, oNeg, oEq, toD, oIsN, oIx, seqD, lstD, bLen, bTuple, bList, bAbs, bMin, bMax, bSum, bAll, bAny, bSorted, bIsi, fz, isPl_dat, isPl_raw, isPl_bag, oIn, flD, List.map_cons, List.map_nil, List.cons_append, List.nil_append, List.append_nil, List.getElem?_cons_zero, List.getElem?_cons_succ, List.getElem?_nil, List.set_cons_zero, List.set_cons_succ, List.length_cons, List.length_nil, List.all_cons, List.all_nil, List.replicate_succ, List.replicate_zero, Bool.and_true, Bool.and_self, Bool.true_and, List.filterMap_cons, List.filterMap_nil, Nat.reduceAdd, Nat.reduceSub, Nat.zero_add, true_and, and_true, if_true, ite_true, Bool.not_true, Bool.not_false, Bool.false_eq_true, if_false, ite_false])
    rcases hr with hr | hr
    · have a1 : ¬ (1 : Int) ≤ (ms.length : Int) := by omega
      (try simp only [a1, decide_true, decide_false, sh_int, sh_bl, sh_non, eqv_ii, eqv_ss, List.any_cons, List.any_nil, true_or, or_true, Bool.or_false, Bool.false_or, Bool.not_true, Bool.not_false, if_true, if_false, ite_true, ite_false, Bool.false_eq_true, List.length_map, not_false_eq_true, not_true_eq_false, reduceCtorEq, and_self, true_and, and_true, Bool.and_true, Bool.true_and])
      exact e
    · have a1 : (1 : Int) ≤ (ms.length : Int) := by omega
      have a2 : ¬ (ms.length : Int) ≤ 6 := by omega
      (try simp only [a1, a2, decide_true, decide_false, sh_int, sh_bl, sh_non, eqv_ii, eqv_ss, List.any_cons, List.any_nil, true_or, or_true, Bool.or_false, Bool.false_or, Bool.not_true, Bool.not_false, if_true, if_false, ite_true, ite_false, Bool.false_eq_true, List.length_map, not_false_eq_true, not_true_eq_false, reduceCtorEq, and_self, true_and, and_true, Bool.and_true, Bool.true_and])
      exact e
  · have a1 : (1 : Int) ≤ (ms.length : Int) := by omega
    have a2 : (ms.length : Int) ≤ 6 := by omega
    unfold W_look_sizes D_look_sizes
    ((try simp only [wFn, List.length_cons, List.length_nil, Nat.reduceAdd, true_and, Nat.reduceSub, List.replicate_succ, List.replicate_zero, List.append_nil, List.cons_append, List.nil_append, List.map_cons, List.map_nil]) <;> try simp only [wFn, dSeq, later, dIfS, dNext, dAsg, dPar, dRet, dRetV, dRetN, dExpr, dBrk, dCnt, dFor, dFrz, frzAt, dAsgG, dGName, dGSub, dGNil, dGCons, dGTup, dAugI, dAug, dApp, dExt, dRaise, dVar, dC, dBin, dUn, dChain, dTst, dAnd, dOr, dNot, dYes, dAndV, dOrV, dNotV, dIfE, dNil, dCons, dTup, dLst, dats, dNone, dSome, dSl, oCut, dCall, dCb, dLrg, pk, dCallK, dTab, dCallV, dISeq, dIRg1, dIRg2, dIZip, dIEnum, tfName, tfPair, dLc, lcStep, Cn.no, dCount, scVs, scV, oAdd, oSub, oMul, oMod, oDiv, oCmp, oNeg, oEq, toD, oIsN, oIx, seqD, lstD, bLen, bTuple, bList, bAbs, bMin, bMax, bSum, bAll, bAny, bSorted, bIsi, fz, isPl_dat, isPl_raw, isPl_bag, oIn, flD, List.map_cons, List.map_nil, List.cons_append, List.nil_append, List.append_nil, List.getElem?_cons_zero, List.getElem?_cons_succ, List.getElem?_nil, List.set_cons_zero, List.set_cons_succ, List.length_cons, List.length_nil, List.all_cons, List.all_nil, List.replicate_succ, List.replicate_zero, Bool.and_true, Bool.and_self, Bool.true_and, List.filterMap_cons, List.filterMap_nil, Nat.reduceAdd, Nat.reduceSub, Nat.zero_add, true_and, and_true, if_true, ite_true, Bool.not_true, Bool.not_false, Bool.false_eq_true, if_false, ite_false])
    (try simp only [a1, a2, decide_true, decide_false, sh_int, sh_bl, sh_non, eqv_ii, eqv_ss, List.any_cons, List.any_nil, true_or, or_true, Bool.or_false, Bool.false_or, Bool.not_true, Bool.not_false, if_true, if_false, ite_true, ite_false, Bool.false_eq_true, List.length_map, not_false_eq_true, not_true_eq_false, reduceCtorEq, and_self, true_and, and_true, Bool.and_true, Bool.true_and])
    refine forGo_inv (fun k δ => (∃ x y, δ = [some (.dat (nums ms)), x, y]) ∧ ∀ j : Nat, j < k → bad (at_ ms (j : Int)) = false) ⟨⟨_, _, rfl⟩, fun _ z => by omega⟩ (fun k d δk hd hj N hN => ?_) fun _ hn => h1 (flaw_no (by omega) (by omega) fun j hj => hn.2 j (by simpa [enumD] using hj))
    obtain ⟨⟨x, y, rfl⟩, hb⟩ := hj
    obtain ⟨hk, rfl⟩ := enumD_ints hd
    refine ⟨_, rfl, ?_⟩
    ((try simp only [wFn, List.length_cons, List.length_nil, Nat.reduceAdd, true_and, Nat.reduceSub, List.replicate_succ, List.replicate_zero, List.append_nil, List.cons_append, List.nil_append, List.map_cons, List.map_nil]) <;> try simp only [wFn, dSeq, later, dIfS, dNext, dAsg, dPar, dRet, dRetV, dRetN, dExpr, dBrk, dCnt, dFor, dFrz, frzAt, dAsgG, dGName, dGSub, dGNil, dGCons, dGTup, dAugI, dAug, dApp, dExt, dRaise, dVar, dC, dBin, dUn, dChain, dTst, dAnd, dOr, dNot, dYes, dAndV, dOrV, dNotV, dIfE, dNil, dCons, dTup, dLst, dats, dNone, dSome, dSl, oCut, dCall, dCb, dLrg, pk, dCallK, dTab, dCallV, dISeq, dIRg1, dIRg2, dIZip, dIEnum, tfName, tfPair, dLc, lcStep, Cn.no, dCount, scVs, scV, oAdd, oSub, oMul, oMod, oDiv, oCmp, oNeg, oEq, toD, oIsN, oIx, seqD, lstD, bLen, bTuple, bList, bAbs, bMin, bMax, bSum, bAll, bAny, bSorted, bIsi, fz, isPl_dat, isPl_raw, isPl_bag, oIn, flD, List.map_cons, List.map_nil, List.cons_append, List.nil_append, List.append_nil, List.getElem?_cons_zero, List.getElem?_cons_succ, List.getElem?_nil, List.set_cons_zero, List.set_cons_succ, List.length_cons, List.length_nil, List.all_cons, List.all_nil, List.replicate_succ, List.replicate_zero, Bool.and_true, Bool.and_self, Bool.true_and, List.filterMap_cons, List.filterMap_nil, Nat.reduceAdd, Nat.reduceSub, Nat.zero_add, true_and, and_true, if_true, ite_true, Bool.not_true, Bool.not_false, Bool.false_eq_true, if_false, ite_false])
    cases q : bad (at_ ms (k : Int)) with
    | true =>
      have e := h2 _ (flaw_at (by omega) (by omega) hk hb q)
      unfold bad at q
      by_cases b1 : 1 ≤ at_ ms (k : Int)
      · have b2 : ¬ at_ ms (k : Int) ≤ 40 := fun z => by simp [b1, z] at q
        (try simp only [b1, b2, decide_true, decide_false, sh_int, sh_bl, sh_non, eqv_ii, eqv_ss, List.any_cons, List.any_nil, true_or, or_true, Bool.or_false, Bool.false_or, Bool.not_true, Bool.not_false, if_true, if_false, ite_true, ite_false, Bool.false_eq_true, List.length_map, not_false_eq_true, not_true_eq_false, reduceCtorEq, and_self, true_and, and_true, Bool.and_true, Bool.true_and])
        exact e
      · (try simp only [b1, decide_true, decide_false, sh_int, sh_bl, sh_non, eqv_ii, eqv_ss, List.any_cons, List.any_nil, true_or, or_true, Bool.or_false, Bool.false_or, Bool.not_true, Bool.not_false, if_true, if_false, ite_true, ite_false, Bool.false_eq_true, List.length_map, not_false_eq_true, not_true_eq_false, reduceCtorEq, and_self, true_and, and_true, Bool.and_true, Bool.true_and])
        exact e
    | false =>
      have b := bad_no q
      (try simp only [b.1, b.2, decide_true, decide_false, sh_int, sh_bl, sh_non, eqv_ii, eqv_ss, List.any_cons, List.any_nil, true_or, or_true, Bool.or_false, Bool.false_or, Bool.not_true, Bool.not_false, if_true, if_false, ite_true, ite_false, Bool.false_eq_true, List.length_map, not_false_eq_true, not_true_eq_false, reduceCtorEq, and_self, true_and, and_true, Bool.and_true, Bool.true_and])
      refine hN _ ⟨⟨_, _, rfl⟩, fun j hj => ?_⟩
      by_cases z : j = k
      · rw [z]; exact q
      · exact hb j (by omega)
end Lw

set_option Elab.async false
set_option linter.all false
set_option maxRecDepth 100000
set_option maxHeartbeats 1000000
namespace Lw
open PySem PySem.Spec PyProof.Rows L2 DL DW
def flawD : Option Int → PyData
  | none => .str "none"
  | some k => .int k
theorem w_flaw {ms : List Int} {P : DP} {c : Cn} (p : P (.dat (flawD (flaw ms)))) (hl : ms.length ≤ 1000) : W_law_flaw [.dat (nums ms)] P c := by
  by_cases hr : ms.length = 0 ∨ 6 < ms.length
  · rw [flaw_out hr] at p
    unfold W_law_flaw D_law_flaw
    ((try simp only [wFn, List.length_cons, List.length_nil, Nat.reduceAdd, true_and, Nat.reduceSub, List.replicate_succ, List.replicate_zero, List.append_nil, List.cons_append, List.nil_append, List.map_cons, List.map_nil]) <;> try simp only [wFn, dSeq, dIfS, dNext, dAsg, dPar, dRet, dRetV, dRetN, dExpr, dBrk, dCnt, dFor, dFrz, frzAt, dAsgG, dGName, dGSub, dGNil, dGCons, dGTup, dAugI, dAug, dApp, dExt, dRaise, dVar, dC, dBin, dUn, dChain, dTst, dAnd, dOr, dNot, dYes, dAndV, dOrV, dNotV, dIfE, dNil, dCons, dTup, dLst, dats, dNone, dSome, dSl, oCut, dCall, dCb, dLrg, pk, dCallK, dTab, dCallV, dISeq, dIRg1, dIRg2, dIZip, dIEnum, tfName, tfPair, dLc, lcStep, Cn.no, dCount, scVs, scV, oAdd, oSub, oMul, oMod, oDiv, oCmp, oNeg, oEq, toD, oIsN, oIx, seqD, lstD, bLen, bTuple, bList, bAbs, bMin, bMax, bSum, bAll, bAny, bSorted, bIsi, fz, isPl_dat, isPl_raw, isPl_bag, oIn, flD, List.map_cons, List.map_nil, List.cons_append, List.nil_append, List.append_nil, List.getElem?_cons_zero, List.getElem?_cons_succ, List.getElem?_nil, List.set_cons_zero, List.set_cons_succ, List.length_cons, List.length_nil, List.all_cons, List.all_nil, List.replicate_succ, List.replicate_zero, Bool.and_true, Bool.and_self, Bool.true_and, List.filterMap_cons, List.filterMap_nil, Nat.reduceAdd, Nat.reduceSub, Nat.zero_add, true_and, and_true, if_true, ite_true, Bool.not_true, Bool.not_false, Bool.false_eq_true, if_false, ite_false])
    rcases hr with hr | hr
    · have a1 : ¬ (1 : Int) ≤ (ms.length : Int) := by omega
      (try simp only [a1, decide_true, decide_false, sh_int, sh_bl, sh_non, eqv_ii, eqv_ss, List.any_cons, List.any_nil, true_or, or_true, Bool.or_false, Bool.false_or, Bool.not_true, Bool.not_false, if_true, if_false, ite_true, ite_false, Bool.false_eq_true, List.length_map, not_false_eq_true, not_true_eq_false, reduceCtorEq, and_self, true_and, and_true, Bool.and_true, Bool.true_and])
      exact p
    · have a1 : (1 : Int) ≤ (ms.length : Int) := by omega
      have a2 : ¬ (ms.length : Int) ≤ 6 := by omega
      (try simp only [a1, a2, decide_true, decide_false, sh_int, sh_bl, sh_non, eqv_ii, eqv_ss, List.any_cons, List.any_nil, true_or, or_true, Bool.or_false, Bool.false_or, Bool.not_true, Bool.not_false, if_true, if_false, ite_true, ite_false, Bool.false_eq_true, List.length_map, not_false_eq_true, not_true_eq_false, reduceCtorEq, and_self, true_and, and_true, Bool.and_true, Bool.true_and])
      exact p
  · have a1 : (1 : Int) ≤ (ms.length : Int) := by omega
    have a2 : (ms.length : Int) ≤ 6 := by omega
    unfold W_law_flaw D_law_flaw
    ((try simp only [wFn, List.length_cons, List.length_nil, Nat.reduceAdd, true_and, Nat.reduceSub, List.replicate_succ, List.replicate_zero, List.append_nil, List.cons_append, List.nil_append, List.map_cons, List.map_nil]) <;> try simp only [wFn, dSeq, dIfS, dNext, dAsg, dPar, dRet, dRetV, dRetN, dExpr, dBrk, dCnt, dFor, dFrz, frzAt, dAsgG, dGName, dGSub, dGNil, dGCons, dGTup, dAugI, dAug, dApp, dExt, dRaise, dVar, dC, dBin, dUn, dChain, dTst, dAnd, dOr, dNot, dYes, dAndV, dOrV, dNotV, dIfE, dNil, dCons, dTup, dLst, dats, dNone, dSome, dSl, oCut, dCall, dCb, dLrg, pk, dCallK, dTab, dCallV, dISeq, dIRg1, dIRg2, dIZip, dIEnum, tfName, tfPair, dLc, lcStep, Cn.no, dCount, scVs, scV, oAdd, oSub, oMul, oMod, oDiv, oCmp, oNeg, oEq, toD, oIsN, oIx, seqD, lstD, bLen, bTuple, bList, bAbs, bMin, bMax, bSum, bAll, bAny, bSorted, bIsi, fz, isPl_dat, isPl_raw, isPl_bag, oIn, flD, List.map_cons, List.map_nil, List.cons_append, List.nil_append, List.append_nil, List.getElem?_cons_zero, List.getElem?_cons_succ, List.getElem?_nil, List.set_cons_zero, List.set_cons_succ, List.length_cons, List.length_nil, List.all_cons, List.all_nil, List.replicate_succ, List.replicate_zero, Bool.and_true, Bool.and_self, Bool.true_and, List.filterMap_cons, List.filterMap_nil, Nat.reduceAdd, Nat.reduceSub, Nat.zero_add, true_and, and_true, if_true, ite_true, Bool.not_true, Bool.not_false, Bool.false_eq_true, if_false, ite_false])
    (try simp only [a1, a2, decide_true, decide_false, sh_int, sh_bl, sh_non, eqv_ii, eqv_ss, List.any_cons, List.any_nil, true_or, or_true, Bool.or_false, Bool.false_or, Bool.not_true, Bool.not_false, if_true, if_false, ite_true, ite_false, Bool.false_eq_true, List.length_map, not_false_eq_true, not_true_eq_false, reduceCtorEq, and_self, true_and, and_true, Bool.and_true, Bool.true_and])
    ((try simp only [later]) <;> ((try simp only [wFn, List.length_cons, List.length_nil, Nat.reduceAdd, true_and, Nat.reduceSub, List.replicate_succ, List.replicate_zero, List.append_nil, List.cons_append, List.nil_append, List.map_cons, List.map_nil]) <;> try simp only [wFn, dSeq, dIfS, dNext, dAsg, dPar, dRet, dRetV, dRetN, dExpr, dBrk, dCnt, dFor, dFrz, frzAt, dAsgG, dGName, dGSub, dGNil, dGCons, dGTup, dAugI, dAug, dApp, dExt, dRaise, dVar, dC, dBin, dUn, dChain, dTst, dAnd, dOr, dNot, dYes, dAndV, dOrV, dNotV, dIfE, dNil, dCons, dTup, dLst, dats, dNone, dSome, dSl, oCut, dCall, dCb, dLrg, pk, dCallK, dTab, dCallV, dISeq, dIRg1, dIRg2, dIZip, dIEnum, tfName, tfPair, dLc, lcStep, Cn.no, dCount, scVs, scV, oAdd, oSub, oMul, oMod, oDiv, oCmp, oNeg, oEq, toD, oIsN, oIx, seqD, lstD, bLen, bTuple, bList, bAbs, bMin, bMax, bSum, bAll, bAny, bSorted, bIsi, fz, isPl_dat, isPl_raw, isPl_bag, oIn, flD, List.map_cons, List.map_nil, List.cons_append, List.nil_append, List.append_nil, List.getElem?_cons_zero, List.getElem?_cons_succ, List.getElem?_nil, List.set_cons_zero, List.set_cons_succ, List.length_cons, List.length_nil, List.all_cons, List.all_nil, List.replicate_succ, List.replicate_zero, Bool.and_true, Bool.and_self, Bool.true_and, List.filterMap_cons, List.filterMap_nil, Nat.reduceAdd, Nat.reduceSub, Nat.zero_add, true_and, and_true, if_true, ite_true, Bool.not_true, Bool.not_false, Bool.false_eq_true, if_false, ite_false]))
    refine ⟨by simp, by simp; omega, by rw [rangeD_len]; simp; omega, ?_⟩
    rw [Int.toNat_natCast, List.length_map, rangeM]
    refine lc_filt (fun (j : Nat) => bad (at_ ms (j : Int))) (fun (j : Nat) => PyData.int (j : Int)) (fun j hj K h1 h2 => ?_) ?_
    · have hj' := List.mem_range.mp hj
      ((try simp only [wFn, List.length_cons, List.length_nil, Nat.reduceAdd, true_and, Nat.reduceSub, List.replicate_succ, List.replicate_zero, List.append_nil, List.cons_append, List.nil_append, List.map_cons, List.map_nil]) <;> try simp only [wFn, dSeq, dIfS, dNext, dAsg, dPar, dRet, dRetV, dRetN, dExpr, dBrk, dCnt, dFor, dFrz, frzAt, dAsgG, dGName, dGSub, dGNil, dGCons, dGTup, dAugI, dAug, dApp, dExt, dRaise, dVar, dC, dBin, dUn, dChain, dTst, dAnd, dOr, dNot, dYes, dAndV, dOrV, dNotV, dIfE, dNil, dCons, dTup, dLst, dats, dNone, dSome, dSl, oCut, dCall, dCb, dLrg, pk, dCallK, dTab, dCallV, dISeq, dIRg1, dIRg2, dIZip, dIEnum, tfName, tfPair, dLc, lcStep, Cn.no, dCount, scVs, scV, oAdd, oSub, oMul, oMod, oDiv, oCmp, oNeg, oEq, toD, oIsN, oIx, seqD, lstD, bLen, bTuple, bList, bAbs, bMin, bMax, bSum, bAll, bAny, bSorted, bIsi, fz, isPl_dat, isPl_raw, isPl_bag, oIn, flD, List.map_cons, List.map_nil, List.cons_append, List.nil_append, List.append_nil, List.getElem?_cons_zero, List.getElem?_cons_succ, List.getElem?_nil, List.set_cons_zero, List.set_cons_succ, List.length_cons, List.length_nil, List.all_cons, List.all_nil, List.replicate_succ, List.replicate_zero, Bool.and_true, Bool.and_self, Bool.true_and, List.filterMap_cons, List.filterMap_nil, Nat.reduceAdd, Nat.reduceSub, Nat.zero_add, true_and, and_true, if_true, ite_true, Bool.not_true, Bool.not_false, Bool.false_eq_true, if_false, ite_false])
      rw [show (0 : Int) + (j : Int) = (j : Int) by omega, atD_at (by omega) (by omega)]
      ((try simp only [wFn, List.length_cons, List.length_nil, Nat.reduceAdd, true_and, Nat.reduceSub, List.replicate_succ, List.replicate_zero, List.append_nil, List.cons_append, List.nil_append, List.map_cons, List.map_nil]) <;> try simp only [wFn, dSeq, dIfS, dNext, dAsg, dPar, dRet, dRetV, dRetN, dExpr, dBrk, dCnt, dFor, dFrz, frzAt, dAsgG, dGName, dGSub, dGNil, dGCons, dGTup, dAugI, dAug, dApp, dExt, dRaise, dVar, dC, dBin, dUn, dChain, dTst, dAnd, dOr, dNot, dYes, dAndV, dOrV, dNotV, dIfE, dNil, dCons, dTup, dLst, dats, dNone, dSome, dSl, oCut, dCall, dCb, dLrg, pk, dCallK, dTab, dCallV, dISeq, dIRg1, dIRg2, dIZip, dIEnum, tfName, tfPair, dLc, lcStep, Cn.no, dCount, scVs, scV, oAdd, oSub, oMul, oMod, oDiv, oCmp, oNeg, oEq, toD, oIsN, oIx, seqD, lstD, bLen, bTuple, bList, bAbs, bMin, bMax, bSum, bAll, bAny, bSorted, bIsi, fz, isPl_dat, isPl_raw, isPl_bag, oIn, flD, List.map_cons, List.map_nil, List.cons_append, List.nil_append, List.append_nil, List.getElem?_cons_zero, List.getElem?_cons_succ, List.getElem?_nil, List.set_cons_zero, List.set_cons_succ, List.length_cons, List.length_nil, List.all_cons, List.all_nil, List.replicate_succ, List.replicate_zero, Bool.and_true, Bool.and_self, Bool.true_and, List.filterMap_cons, List.filterMap_nil, Nat.reduceAdd, Nat.reduceSub, Nat.zero_add, true_and, and_true, if_true, ite_true, Bool.not_true, Bool.not_false, Bool.false_eq_true, if_false, ite_false])
      cases q : bad (at_ ms (j : Int)) with
      | true =>
        unfold bad at q
        by_cases b1 : 1 ≤ at_ ms (j : Int)
        · have b2 : ¬ at_ ms (j : Int) ≤ 40 := fun z => by simp [b1, z] at q
          (try simp only [b1, b2, decide_true, decide_false, sh_int, sh_bl, sh_non, eqv_ii, eqv_ss, List.any_cons, List.any_nil, true_or, or_true, Bool.or_false, Bool.false_or, Bool.not_true, Bool.not_false, if_true, if_false, ite_true, ite_false, Bool.false_eq_true, List.length_map, not_false_eq_true, not_true_eq_false, reduceCtorEq, and_self, true_and, and_true, Bool.and_true, Bool.true_and])
          exact h1 q
        · (try simp only [b1, decide_true, decide_false, sh_int, sh_bl, sh_non, eqv_ii, eqv_ss, List.any_cons, List.any_nil, true_or, or_true, Bool.or_false, Bool.false_or, Bool.not_true, Bool.not_false, if_true, if_false, ite_true, ite_false, Bool.false_eq_true, List.length_map, not_false_eq_true, not_true_eq_false, reduceCtorEq, and_self, true_and, and_true, Bool.and_true, Bool.true_and])
          exact h1 q
      | false =>
        have b := bad_no q
        (try simp only [b.1, b.2, decide_true, decide_false, sh_int, sh_bl, sh_non, eqv_ii, eqv_ss, List.any_cons, List.any_nil, true_or, or_true, Bool.or_false, Bool.false_or, Bool.not_true, Bool.not_false, if_true, if_false, ite_true, ite_false, Bool.false_eq_true, List.length_map, not_false_eq_true, not_true_eq_false, reduceCtorEq, and_self, true_and, and_true, Bool.and_true, Bool.true_and])
        exact h2 q
    · ((try simp only [later]) <;> ((try simp only [wFn, List.length_cons, List.length_nil, Nat.reduceAdd, true_and, Nat.reduceSub, List.replicate_succ, List.replicate_zero, List.append_nil, List.cons_append, List.nil_append, List.map_cons, List.map_nil]) <;> try simp only [wFn, dSeq, dIfS, dNext, dAsg, dPar, dRet, dRetV, dRetN, dExpr, dBrk, dCnt, dFor, dFrz, frzAt, dAsgG, dGName, dGSub, dGNil, dGCons, dGTup, dAugI, dAug, dApp, dExt, dRaise, dVar, dC, dBin, dUn, dChain, dTst, dAnd, dOr, dNot, dYes, dAndV, dOrV, dNotV, dIfE, dNil, dCons, dTup, dLst, dats, dNone, dSome, dSl, oCut, dCall, dCb, dLrg, pk, dCallK, dTab, dCallV, dISeq, dIRg1, dIRg2, dIZip, dIEnum, tfName, tfPair, dLc, lcStep, Cn.no, dCount, scVs, scV, oAdd, oSub, oMul, oMod, oDiv, oCmp, oNeg, oEq, toD, oIsN, oIx, seqD, lstD, bLen, bTuple, bList, bAbs, bMin, bMax, bSum, bAll, bAny, bSorted, bIsi, fz, isPl_dat, isPl_raw, isPl_bag, oIn, flD, List.map_cons, List.map_nil, List.cons_append, List.nil_append, List.append_nil, List.getElem?_cons_zero, List.getElem?_cons_succ, List.getElem?_nil, List.set_cons_zero, List.set_cons_succ, List.length_cons, List.length_nil, List.all_cons, List.all_nil, List.replicate_succ, List.replicate_zero, Bool.and_true, Bool.and_self, Bool.true_and, List.filterMap_cons, List.filterMap_nil, Nat.reduceAdd, Nat.reduceSub, Nat.zero_add, true_and, and_true, if_true, ite_true, Bool.not_true, Bool.not_false, Bool.false_eq_true, if_false, ite_false]))
      have hsh : ∀ zs : List Nat, SeqAt.shaped (.list (zs.map fun (j : Nat) => PyData.int (j : Int))) = true := fun zs => (lay_list (n := 0) fun x hx => by
        obtain ⟨j, _, rfl⟩ := List.mem_map.mp hx
        exact lay_int).sh (by decide)
      refine ⟨⟨hsh _, by decide⟩, ?_⟩
      have e : flaw ms = (((List.range ms.length).filter fun (j : Nat) => bad (at_ ms (j : Int))).head?).map fun (j : Nat) => (j : Int) := by
        unfold flaw
        rw [if_neg hr, List.head?_filter]
      rw [e] at p
      generalize (List.range ms.length).filter (fun (j : Nat) => bad (at_ ms (j : Int))) = zs at p
      cases zs with
      | nil =>
        rw [if_pos (by simp [PyData.eqv, PyData.eqvAll])]
        exact p
      | cons z t =>
        rw [if_neg (by simp [PyData.eqv, PyData.eqvAll]), List.map_cons, atD_0]
        exact p
/-! ### what asks for sizes first -/
theorem w_stand_bad {ms : List Int} {d : PyData} {P : DP} {c : Cn} {k : Int} (h : flaw ms = some k) (hl : ms.length ≤ 1000) (hx : c.x 0 (mk_BadSizes [.int k])) : W_look_stand [.dat (nums ms), .dat d] P c := by
  unfold W_look_stand D_look_stand
  ((try simp only [wFn, List.length_cons, List.length_nil, Nat.reduceAdd, true_and, Nat.reduceSub, List.replicate_succ, List.replicate_zero, List.append_nil, List.cons_append, List.nil_append, List.map_cons, List.map_nil]) <;> try simp only [wFn, dSeq, dIfS, dNext, dAsg, dPar, dRet, dRetV, dRetN, dExpr, dBrk, dCnt, dFor, dFrz, frzAt, dAsgG, dGName, dGSub, dGNil, dGCons, dGTup, dAugI, dAug, dApp, dExt, dRaise, dVar, dC, dBin, dUn, dChain, dTst, dAnd, dOr, dNot, dYes, dAndV, dOrV, dNotV, dIfE, dNil, dCons, dTup, dLst, dats, dNone, dSome, dSl, oCut, dCall, dCb, dLrg, pk, dCallK, dTab, dCallV, dISeq, dIRg1, dIRg2, dIZip, dIEnum, tfName, tfPair, dLc, lcStep, Cn.no, dCount, scVs, scV, oAdd, oSub, oMul, oMod, oDiv, oCmp, oNeg, oEq, toD, oIsN, oIx, seqD, lstD, bLen, bTuple, bList, bAbs, bMin, bMax, bSum, bAll, bAny, bSorted, bIsi, fz, isPl_dat, isPl_raw, isPl_bag, oIn, flD, List.map_cons, List.map_nil, List.cons_append, List.nil_append, List.append_nil, List.getElem?_cons_zero, List.getElem?_cons_succ, List.getElem?_nil, List.set_cons_zero, List.set_cons_succ, List.length_cons, List.length_nil, List.all_cons, List.all_nil, List.replicate_succ, List.replicate_zero, Bool.and_true, Bool.and_self, Bool.true_and, List.filterMap_cons, List.filterMap_nil, Nat.reduceAdd, Nat.reduceSub, Nat.zero_add, true_and, and_true, if_true, ite_true, Bool.not_true, Bool.not_false, Bool.false_eq_true, if_false, ite_false])
  refine w_looks (fun z => ?_) (fun j z => ?_) hl
  · rw [h] at z; cases z
  · rw [h] at z; cases z; exact hx
theorem w_counts_bad {ms : List Int} {d : PyData} {P : DP} {c : Cn} {k : Int} (h : flaw ms = some k) (hl : ms.length ≤ 1000) (hx : c.x 0 (mk_BadSizes [.int k])) : W_counts_of [.dat (nums ms), .dat d] P c := by
  unfold W_counts_of D_counts_of
  ((try simp only [wFn, List.length_cons, List.length_nil, Nat.reduceAdd, true_and, Nat.reduceSub, List.replicate_succ, List.replicate_zero, List.append_nil, List.cons_append, List.nil_append, List.map_cons, List.map_nil]) <;> try simp only [wFn, dSeq, dIfS, dNext, dAsg, dPar, dRet, dRetV, dRetN, dExpr, dBrk, dCnt, dFor, dFrz, frzAt, dAsgG, dGName, dGSub, dGNil, dGCons, dGTup, dAugI, dAug, dApp, dExt, dRaise, dVar, dC, dBin, dUn, dChain, dTst, dAnd, dOr, dNot, dYes, dAndV, dOrV, dNotV, dIfE, dNil, dCons, dTup, dLst, dats, dNone, dSome, dSl, oCut, dCall, dCb, dLrg, pk, dCallK, dTab, dCallV, dISeq, dIRg1, dIRg2, dIZip, dIEnum, tfName, tfPair, dLc, lcStep, Cn.no, dCount, scVs, scV, oAdd, oSub, oMul, oMod, oDiv, oCmp, oNeg, oEq, toD, oIsN, oIx, seqD, lstD, bLen, bTuple, bList, bAbs, bMin, bMax, bSum, bAll, bAny, bSorted, bIsi, fz, isPl_dat, isPl_raw, isPl_bag, oIn, flD, List.map_cons, List.map_nil, List.cons_append, List.nil_append, List.append_nil, List.getElem?_cons_zero, List.getElem?_cons_succ, List.getElem?_nil, List.set_cons_zero, List.set_cons_succ, List.length_cons, List.length_nil, List.all_cons, List.all_nil, List.replicate_succ, List.replicate_zero, Bool.and_true, Bool.and_self, Bool.true_and, List.filterMap_cons, List.filterMap_nil, Nat.reduceAdd, Nat.reduceSub, Nat.zero_add, true_and, and_true, if_true, ite_true, Bool.not_true, Bool.not_false, Bool.false_eq_true, if_false, ite_false])
  exact w_stand_bad h hl hx
theorem w_book_bad {ms : List Int} {x : V} {P : DP} {c : Cn} {k : Int} (h : flaw ms = some k) (hl : ms.length ≤ 1000) (hx : c.x 0 (mk_BadSizes [.int k])) : W_Book [.raw x, .dat (nums ms)] P c := by
  unfold W_Book D_Book
  ((try simp only [wFn, List.length_cons, List.length_nil, Nat.reduceAdd, true_and, Nat.reduceSub, List.replicate_succ, List.replicate_zero, List.append_nil, List.cons_append, List.nil_append, List.map_cons, List.map_nil]) <;> try simp only [wFn, dSeq, dIfS, dNext, dAsg, dPar, dRet, dRetV, dRetN, dExpr, dBrk, dCnt, dFor, dFrz, frzAt, dAsgG, dGName, dGSub, dGNil, dGCons, dGTup, dAugI, dAug, dApp, dExt, dRaise, dVar, dC, dBin, dUn, dChain, dTst, dAnd, dOr, dNot, dYes, dAndV, dOrV, dNotV, dIfE, dNil, dCons, dTup, dLst, dats, dNone, dSome, dSl, oCut, dCall, dCb, dLrg, pk, dCallK, dTab, dCallV, dISeq, dIRg1, dIRg2, dIZip, dIEnum, tfName, tfPair, dLc, lcStep, Cn.no, dCount, scVs, scV, oAdd, oSub, oMul, oMod, oDiv, oCmp, oNeg, oEq, toD, oIsN, oIx, seqD, lstD, bLen, bTuple, bList, bAbs, bMin, bMax, bSum, bAll, bAny, bSorted, bIsi, fz, isPl_dat, isPl_raw, isPl_bag, oIn, flD, List.map_cons, List.map_nil, List.cons_append, List.nil_append, List.append_nil, List.getElem?_cons_zero, List.getElem?_cons_succ, List.getElem?_nil, List.set_cons_zero, List.set_cons_succ, List.length_cons, List.length_nil, List.all_cons, List.all_nil, List.replicate_succ, List.replicate_zero, Bool.and_true, Bool.and_self, Bool.true_and, List.filterMap_cons, List.filterMap_nil, Nat.reduceAdd, Nat.reduceSub, Nat.zero_add, true_and, and_true, if_true, ite_true, Bool.not_true, Bool.not_false, Bool.false_eq_true, if_false, ite_false])
  refine w_looks (fun z => ?_) (fun j z => ?_) hl
  · rw [h] at z; cases z
  · rw [h] at z; cases z; exact hx
theorem w_loft_bad {ms : List Int} {x : V} {d : PyData} {P : DP} {c : Cn} {k : Int} (h : flaw ms = some k) (hl : ms.length ≤ 1000) (hx : c.x 0 (mk_BadSizes [.int k])) : W_Loft [.raw x, .dat (nums ms), .dat d] P c := by
  unfold W_Loft D_Loft
  ((try simp only [wFn, List.length_cons, List.length_nil, Nat.reduceAdd, true_and, Nat.reduceSub, List.replicate_succ, List.replicate_zero, List.append_nil, List.cons_append, List.nil_append, List.map_cons, List.map_nil]) <;> try simp only [wFn, dSeq, dIfS, dNext, dAsg, dPar, dRet, dRetV, dRetN, dExpr, dBrk, dCnt, dFor, dFrz, frzAt, dAsgG, dGName, dGSub, dGNil, dGCons, dGTup, dAugI, dAug, dApp, dExt, dRaise, dVar, dC, dBin, dUn, dChain, dTst, dAnd, dOr, dNot, dYes, dAndV, dOrV, dNotV, dIfE, dNil, dCons, dTup, dLst, dats, dNone, dSome, dSl, oCut, dCall, dCb, dLrg, pk, dCallK, dTab, dCallV, dISeq, dIRg1, dIRg2, dIZip, dIEnum, tfName, tfPair, dLc, lcStep, Cn.no, dCount, scVs, scV, oAdd, oSub, oMul, oMod, oDiv, oCmp, oNeg, oEq, toD, oIsN, oIx, seqD, lstD, bLen, bTuple, bList, bAbs, bMin, bMax, bSum, bAll, bAny, bSorted, bIsi, fz, isPl_dat, isPl_raw, isPl_bag, oIn, flD, List.map_cons, List.map_nil, List.cons_append, List.nil_append, List.append_nil, List.getElem?_cons_zero, List.getElem?_cons_succ, List.getElem?_nil, List.set_cons_zero, List.set_cons_succ, List.length_cons, List.length_nil, List.all_cons, List.all_nil, List.replicate_succ, List.replicate_zero, Bool.and_true, Bool.and_self, Bool.true_and, List.filterMap_cons, List.filterMap_nil, Nat.reduceAdd, Nat.reduceSub, Nat.zero_add, true_and, and_true, if_true, ite_true, Bool.not_true, Bool.not_false, Bool.false_eq_true, if_false, ite_false])
  exact w_stand_bad h hl hx
theorem w_counts_none {ms : List Int} {P : DP} {c : Cn} (h : Sz ms) (p : P (.dat (nums (List.replicate ms.length 0)))) : W_counts_of [.dat (nums ms), .dat (.tuple [])] P c := by
  have h6 := h.hi
  unfold W_counts_of D_counts_of
  ((try simp only [wFn, List.length_cons, List.length_nil, Nat.reduceAdd, true_and, Nat.reduceSub, List.replicate_succ, List.replicate_zero, List.append_nil, List.cons_append, List.nil_append, List.map_cons, List.map_nil]) <;> try simp only [wFn, dSeq, dIfS, dNext, dAsg, dPar, dRet, dRetV, dRetN, dExpr, dBrk, dCnt, dFor, dFrz, frzAt, dAsgG, dGName, dGSub, dGNil, dGCons, dGTup, dAugI, dAug, dApp, dExt, dRaise, dVar, dC, dBin, dUn, dChain, dTst, dAnd, dOr, dNot, dYes, dAndV, dOrV, dNotV, dIfE, dNil, dCons, dTup, dLst, dats, dNone, dSome, dSl, oCut, dCall, dCb, dLrg, pk, dCallK, dTab, dCallV, dISeq, dIRg1, dIRg2, dIZip, dIEnum, tfName, tfPair, dLc, lcStep, Cn.no, dCount, scVs, scV, oAdd, oSub, oMul, oMod, oDiv, oCmp, oNeg, oEq, toD, oIsN, oIx, seqD, lstD, bLen, bTuple, bList, bAbs, bMin, bMax, bSum, bAll, bAny, bSorted, bIsi, fz, isPl_dat, isPl_raw, isPl_bag, oIn, flD, List.map_cons, List.map_nil, List.cons_append, List.nil_append, List.append_nil, List.getElem?_cons_zero, List.getElem?_cons_succ, List.getElem?_nil, List.set_cons_zero, List.set_cons_succ, List.length_cons, List.length_nil, List.all_cons, List.all_nil, List.replicate_succ, List.replicate_zero, Bool.and_true, Bool.and_self, Bool.true_and, List.filterMap_cons, List.filterMap_nil, Nat.reduceAdd, Nat.reduceSub, Nat.zero_add, true_and, and_true, if_true, ite_true, Bool.not_true, Bool.not_false, Bool.false_eq_true, if_false, ite_false])
  unfold W_look_stand D_look_stand
  ((try simp only [wFn, List.length_cons, List.length_nil, Nat.reduceAdd, true_and, Nat.reduceSub, List.replicate_succ, List.replicate_zero, List.append_nil, List.cons_append, List.nil_append, List.map_cons, List.map_nil]) <;> try simp only [wFn, dSeq, dIfS, dNext, dAsg, dPar, dRet, dRetV, dRetN, dExpr, dBrk, dCnt, dFor, dFrz, frzAt, dAsgG, dGName, dGSub, dGNil, dGCons, dGTup, dAugI, dAug, dApp, dExt, dRaise, dVar, dC, dBin, dUn, dChain, dTst, dAnd, dOr, dNot, dYes, dAndV, dOrV, dNotV, dIfE, dNil, dCons, dTup, dLst, dats, dNone, dSome, dSl, oCut, dCall, dCb, dLrg, pk, dCallK, dTab, dCallV, dISeq, dIRg1, dIRg2, dIZip, dIEnum, tfName, tfPair, dLc, lcStep, Cn.no, dCount, scVs, scV, oAdd, oSub, oMul, oMod, oDiv, oCmp, oNeg, oEq, toD, oIsN, oIx, seqD, lstD, bLen, bTuple, bList, bAbs, bMin, bMax, bSum, bAll, bAny, bSorted, bIsi, fz, isPl_dat, isPl_raw, isPl_bag, oIn, flD, List.map_cons, List.map_nil, List.cons_append, List.nil_append, List.append_nil, List.getElem?_cons_zero, List.getElem?_cons_succ, List.getElem?_nil, List.set_cons_zero, List.set_cons_succ, List.length_cons, List.length_nil, List.all_cons, List.all_nil, List.replicate_succ, List.replicate_zero, Bool.and_true, Bool.and_self, Bool.true_and, List.filterMap_cons, List.filterMap_nil, Nat.reduceAdd, Nat.reduceSub, Nat.zero_add, true_and, and_true, if_true, ite_true, Bool.not_true, Bool.not_false, Bool.false_eq_true, if_false, ite_false])
  refine w_look_sizes h ?_
  ((try simp only [later]) <;> ((try simp only [wFn, List.length_cons, List.length_nil, Nat.reduceAdd, true_and, Nat.reduceSub, List.replicate_succ, List.replicate_zero, List.append_nil, List.cons_append, List.nil_append, List.map_cons, List.map_nil]) <;> try simp only [wFn, dSeq, dIfS, dNext, dAsg, dPar, dRet, dRetV, dRetN, dExpr, dBrk, dCnt, dFor, dFrz, frzAt, dAsgG, dGName, dGSub, dGNil, dGCons, dGTup, dAugI, dAug, dApp, dExt, dRaise, dVar, dC, dBin, dUn, dChain, dTst, dAnd, dOr, dNot, dYes, dAndV, dOrV, dNotV, dIfE, dNil, dCons, dTup, dLst, dats, dNone, dSome, dSl, oCut, dCall, dCb, dLrg, pk, dCallK, dTab, dCallV, dISeq, dIRg1, dIRg2, dIZip, dIEnum, tfName, tfPair, dLc, lcStep, Cn.no, dCount, scVs, scV, oAdd, oSub, oMul, oMod, oDiv, oCmp, oNeg, oEq, toD, oIsN, oIx, seqD, lstD, bLen, bTuple, bList, bAbs, bMin, bMax, bSum, bAll, bAny, bSorted, bIsi, fz, isPl_dat, isPl_raw, isPl_bag, oIn, flD, List.map_cons, List.map_nil, List.cons_append, List.nil_append, List.append_nil, List.getElem?_cons_zero, List.getElem?_cons_succ, List.getElem?_nil, List.set_cons_zero, List.set_cons_succ, List.length_cons, List.length_nil, List.all_cons, List.all_nil, List.replicate_succ, List.replicate_zero, Bool.and_true, Bool.and_self, Bool.true_and, List.filterMap_cons, List.filterMap_nil, Nat.reduceAdd, Nat.reduceSub, Nat.zero_add, true_and, and_true, if_true, ite_true, Bool.not_true, Bool.not_false, Bool.false_eq_true, if_false, ite_false]))
  ((try simp only [later]) <;> ((try simp only [wFn, List.length_cons, List.length_nil, Nat.reduceAdd, true_and, Nat.reduceSub, List.replicate_succ, List.replicate_zero, List.append_nil, List.cons_append, List.nil_append, List.map_cons, List.map_nil]) <;> try simp only [wFn, dSeq, dIfS, dNext, dAsg, dPar, dRet, dRetV, dRetN, dExpr, dBrk, dCnt, dFor, dFrz, frzAt, dAsgG, dGName, dGSub, dGNil, dGCons, dGTup, dAugI, dAug, dApp, dExt, dRaise, dVar, dC, dBin, dUn, dChain, dTst, dAnd, dOr, dNot, dYes, dAndV, dOrV, dNotV, dIfE, dNil, dCons, dTup, dLst, dats, dNone, dSome, dSl, oCut, dCall, dCb, dLrg, pk, dCallK, dTab, dCallV, dISeq, dIRg1, dIRg2, dIZip, dIEnum, tfName, tfPair, dLc, lcStep, Cn.no, dCount, scVs, scV, oAdd, oSub, oMul, oMod, oDiv, oCmp, oNeg, oEq, toD, oIsN, oIx, seqD, lstD, bLen, bTuple, bList, bAbs, bMin, bMax, bSum, bAll, bAny, bSorted, bIsi, fz, isPl_dat, isPl_raw, isPl_bag, oIn, flD, List.map_cons, List.map_nil, List.cons_append, List.nil_append, List.append_nil, List.getElem?_cons_zero, List.getElem?_cons_succ, List.getElem?_nil, List.set_cons_zero, List.set_cons_succ, List.length_cons, List.length_nil, List.all_cons, List.all_nil, List.replicate_succ, List.replicate_zero, Bool.and_true, Bool.and_self, Bool.true_and, List.filterMap_cons, List.filterMap_nil, Nat.reduceAdd, Nat.reduceSub, Nat.zero_add, true_and, and_true, if_true, ite_true, Bool.not_true, Bool.not_false, Bool.false_eq_true, if_false, ite_false]))
  rw [if_neg (by decide)]
  ((try simp only [later]) <;> ((try simp only [wFn, List.length_cons, List.length_nil, Nat.reduceAdd, true_and, Nat.reduceSub, List.replicate_succ, List.replicate_zero, List.append_nil, List.cons_append, List.nil_append, List.map_cons, List.map_nil]) <;> try simp only [wFn, dSeq, dIfS, dNext, dAsg, dPar, dRet, dRetV, dRetN, dExpr, dBrk, dCnt, dFor, dFrz, frzAt, dAsgG, dGName, dGSub, dGNil, dGCons, dGTup, dAugI, dAug, dApp, dExt, dRaise, dVar, dC, dBin, dUn, dChain, dTst, dAnd, dOr, dNot, dYes, dAndV, dOrV, dNotV, dIfE, dNil, dCons, dTup, dLst, dats, dNone, dSome, dSl, oCut, dCall, dCb, dLrg, pk, dCallK, dTab, dCallV, dISeq, dIRg1, dIRg2, dIZip, dIEnum, tfName, tfPair, dLc, lcStep, Cn.no, dCount, scVs, scV, oAdd, oSub, oMul, oMod, oDiv, oCmp, oNeg, oEq, toD, oIsN, oIx, seqD, lstD, bLen, bTuple, bList, bAbs, bMin, bMax, bSum, bAll, bAny, bSorted, bIsi, fz, isPl_dat, isPl_raw, isPl_bag, oIn, flD, List.map_cons, List.map_nil, List.cons_append, List.nil_append, List.append_nil, List.getElem?_cons_zero, List.getElem?_cons_succ, List.getElem?_nil, List.set_cons_zero, List.set_cons_succ, List.length_cons, List.length_nil, List.all_cons, List.all_nil, List.replicate_succ, List.replicate_zero, Bool.and_true, Bool.and_self, Bool.true_and, List.filterMap_cons, List.filterMap_nil, Nat.reduceAdd, Nat.reduceSub, Nat.zero_add, true_and, and_true, if_true, ite_true, Bool.not_true, Bool.not_false, Bool.false_eq_true, if_false, ite_false]))
  rw [show enumD [] = [] from rfl, forGo_nil]
  ((try simp only [wFn, List.length_cons, List.length_nil, Nat.reduceAdd, true_and, Nat.reduceSub, List.replicate_succ, List.replicate_zero, List.append_nil, List.cons_append, List.nil_append, List.map_cons, List.map_nil]) <;> try simp only [wFn, dSeq, dIfS, dNext, dAsg, dPar, dRet, dRetV, dRetN, dExpr, dBrk, dCnt, dFor, dFrz, frzAt, dAsgG, dGName, dGSub, dGNil, dGCons, dGTup, dAugI, dAug, dApp, dExt, dRaise, dVar, dC, dBin, dUn, dChain, dTst, dAnd, dOr, dNot, dYes, dAndV, dOrV, dNotV, dIfE, dNil, dCons, dTup, dLst, dats, dNone, dSome, dSl, oCut, dCall, dCb, dLrg, pk, dCallK, dTab, dCallV, dISeq, dIRg1, dIRg2, dIZip, dIEnum, tfName, tfPair, dLc, lcStep, Cn.no, dCount, scVs, scV, oAdd, oSub, oMul, oMod, oDiv, oCmp, oNeg, oEq, toD, oIsN, oIx, seqD, lstD, bLen, bTuple, bList, bAbs, bMin, bMax, bSum, bAll, bAny, bSorted, bIsi, fz, isPl_dat, isPl_raw, isPl_bag, oIn, flD, List.map_cons, List.map_nil, List.cons_append, List.nil_append, List.append_nil, List.getElem?_cons_zero, List.getElem?_cons_succ, List.getElem?_nil, List.set_cons_zero, List.set_cons_succ, List.length_cons, List.length_nil, List.all_cons, List.all_nil, List.replicate_succ, List.replicate_zero, Bool.and_true, Bool.and_self, Bool.true_and, List.filterMap_cons, List.filterMap_nil, Nat.reduceAdd, Nat.reduceSub, Nat.zero_add, true_and, and_true, if_true, ite_true, Bool.not_true, Bool.not_false, Bool.false_eq_true, if_false, ite_false])
  refine ⟨by simp, by simp; omega, by rw [rangeD_len]; simp; omega, ?_⟩
  rw [Int.toNat_natCast, List.length_map, rangeM]
  refine lc_map (fun _ => PyData.int 0) (fun j hj K hK => ?_) ?_
  · ((try simp only [wFn, List.length_cons, List.length_nil, Nat.reduceAdd, true_and, Nat.reduceSub, List.replicate_succ, List.replicate_zero, List.append_nil, List.cons_append, List.nil_append, List.map_cons, List.map_nil]) <;> try simp only [wFn, dSeq, dIfS, dNext, dAsg, dPar, dRet, dRetV, dRetN, dExpr, dBrk, dCnt, dFor, dFrz, frzAt, dAsgG, dGName, dGSub, dGNil, dGCons, dGTup, dAugI, dAug, dApp, dExt, dRaise, dVar, dC, dBin, dUn, dChain, dTst, dAnd, dOr, dNot, dYes, dAndV, dOrV, dNotV, dIfE, dNil, dCons, dTup, dLst, dats, dNone, dSome, dSl, oCut, dCall, dCb, dLrg, pk, dCallK, dTab, dCallV, dISeq, dIRg1, dIRg2, dIZip, dIEnum, tfName, tfPair, dLc, lcStep, Cn.no, dCount, scVs, scV, oAdd, oSub, oMul, oMod, oDiv, oCmp, oNeg, oEq, toD, oIsN, oIx, seqD, lstD, bLen, bTuple, bList, bAbs, bMin, bMax, bSum, bAll, bAny, bSorted, bIsi, fz, isPl_dat, isPl_raw, isPl_bag, oIn, flD, List.map_cons, List.map_nil, List.cons_append, List.nil_append, List.append_nil, List.getElem?_cons_zero, List.getElem?_cons_succ, List.getElem?_nil, List.set_cons_zero, List.set_cons_succ, List.length_cons, List.length_nil, List.all_cons, List.all_nil, List.replicate_succ, List.replicate_zero, Bool.and_true, Bool.and_self, Bool.true_and, List.filterMap_cons, List.filterMap_nil, Nat.reduceAdd, Nat.reduceSub, Nat.zero_add, true_and, and_true, if_true, ite_true, Bool.not_true, Bool.not_false, Bool.false_eq_true, if_false, ite_false])
    exact hK
  · have e : (List.range ms.length).map (fun _ => PyData.int 0) = (List.replicate ms.length (0 : Int)).map .int := by
      rw [List.map_replicate, List.map_const', List.length_range]
    rw [e]
    exact p
/-! ### told -/
theorem told_at {c : Cn} {δ : En} {ms : List Int} (hi : δ[3]? = some (some (.dat (nums ms)))) : (plE δ)[3]? = some (some (.dat (nums ms))) := by
  unfold plE
  rw [List.getElem?_map, hi]
  rfl
theorem t0 {c : Cn} {δ : En} {P : DP} {ms : List Int} (hi : δ[3]? = some (some (.dat (nums ms)))) (hl : ms.length ≤ 1000) (p : P (.dat (flawD (flaw ms)))) : Td_0 c δ P := by
  unfold Td_0 dTold
  simp only [dCall, dCons, dNil, dVar, told_at (c := c) hi, fz]
  refine ⟨rfl, w_looks (fun z => ?_) (fun j z => ⟨.int j, rfl, ?_⟩) hl⟩
  · rw [z] at p; exact p
  · rw [z] at p; exact p
theorem t1 {c : Cn} {δ : En} {P : DP} {ms : List Int} {k : Int} (h : flaw ms = some k) (hi : δ[3]? = some (some (.dat (nums ms)))) (hl : ms.length ≤ 1000) (p : P (dint k)) : Td_1 c δ P := by
  unfold Td_1 dTold
  simp only [dCall, dCons, dNil, dVar, told_at (c := c) hi, fz, dTup, dC, dats]
  exact ⟨rfl, w_counts_bad h hl ⟨.int k, rfl, p⟩⟩
theorem t2 {c : Cn} {δ : En} {P : DP} {ms : List Int} {k : Int} (h : flaw ms = some k) (hi : δ[3]? = some (some (.dat (nums ms)))) (hl : ms.length ≤ 1000) (p : P (dint k)) : Td_2 c δ P := by
  unfold Td_2 dTold
  simp only [dMk, dCons, dNil, dVar, told_at (c := c) hi, fz, dTup, dC, dats]
  exact ⟨rfl, fun x => w_book_bad h hl ⟨.int k, rfl, p⟩⟩
theorem t3 {c : Cn} {δ : En} {P : DP} {ms : List Int} {k : Int} (h : flaw ms = some k) (hi : δ[3]? = some (some (.dat (nums ms)))) (hl : ms.length ≤ 1000) (p : P (dint k)) : Td_3 c δ P := by
  unfold Td_3 dTold
  simp only [dMkK, dCons, dNil, dVar, told_at (c := c) hi, fz, dTup, dC, dats]
  exact ⟨rfl, fun x => ⟨rfl, w_loft_bad h hl ⟨.int k, rfl, p⟩⟩⟩
end Lw

set_option Elab.async false
set_option linter.all false
set_option maxRecDepth 100000
set_option maxHeartbeats 1000000
namespace Lw
open PySem PySem.Spec PyProof.Rows L2 DL DW
theorem flat_ints {n : Nat} {l : List Int} (h : l.length ≤ 100000) : Flat (n + 2) (.list (l.map .int)) := ⟨by rw [List.length_map]; exact h, fun x hx => by
  obtain ⟨i, _, rfl⟩ := List.mem_map.mp hx
  exact True.intro⟩
theorem flat_flaw {n : Nat} {o : Option Int} : Flat (n + 1) (flawD o) ∧ PyData.canLay0 (flawD o) = true := by
  cases o with
  | none => exact ⟨True.intro, by decide +kernel⟩
  | some k => exact ⟨True.intro, rfl⟩
theorem oks_none : OkS ("none" : Str) := by decide +kernel
theorem pow20 : (10 : Int) ^ (20 : Int).toNat = 100000000000000000000 := by decide
theorem cpow20 : CPow 10 20 := ⟨by decide, by decide, by decide⟩
theorem law_holds (fa : Nat → Addr) : D_law ⟨fun _ _ => False, fa⟩ (none :: some .bag :: List.replicate 7 none) ⟨fun _ => False, fun r => r = dbl true, fun _ => False, fun _ => False⟩ := by
  unfold D_law B_law_12 B_law_11 B_law_10 B_law_9 B_law_8 B_law_7 B_law_6 B_law_5 B_law_4 B_law_3 B_law_2 B_law_1 B_law_0
  ((try simp only [wFn, List.length_cons, List.length_nil, Nat.reduceAdd, true_and, Nat.reduceSub, List.replicate_succ, List.replicate_zero, List.append_nil, List.cons_append, List.nil_append, List.map_cons, List.map_nil]) <;> try simp only [wFn, dSeq, dIfS, dNext, dAsg, dPar, dRet, dRetV, dRetN, dExpr, dBrk, dCnt, dFor, dFrz, frzAt, dAsgG, dGName, dGSub, dGNil, dGCons, dGTup, dAugI, dAug, dApp, dExt, dRaise, dVar, dC, dBin, dUn, dChain, dTst, dAnd, dOr, dNot, dYes, dAndV, dOrV, dNotV, dIfE, dNil, dCons, dTup, dLst, dats, dNone, dSome, dSl, oCut, dCall, dCb, dLrg, pk, dCallK, dTab, dCallV, dISeq, dIRg1, dIRg2, dIZip, dIEnum, tfName, tfPair, dLc, lcStep, Cn.no, dCount, scVs, scV, oAdd, oSub, oMul, oMod, oDiv, oCmp, oNeg, oEq, toD, oIsN, oIx, seqD, lstD, bLen, bTuple, bList, bAbs, bMin, bMax, bSum, bAll, bAny, bSorted, bIsi, fz, isPl_dat, isPl_raw, isPl_bag, oIn, flD, List.map_cons, List.map_nil, List.cons_append, List.nil_append, List.append_nil, List.getElem?_cons_zero, List.getElem?_cons_succ, List.getElem?_nil, List.set_cons_zero, List.set_cons_succ, List.length_cons, List.length_nil, List.all_cons, List.all_nil, List.replicate_succ, List.replicate_zero, Bool.and_true, Bool.and_self, Bool.true_and, List.filterMap_cons, List.filterMap_nil, Nat.reduceAdd, Nat.reduceSub, Nat.zero_add, true_and, and_true, if_true, ite_true, Bool.not_true, Bool.not_false, Bool.false_eq_true, if_false, ite_false])
  refine ⟨by decide, ?_⟩
  refine forGo_inv (fun _ δ => ∃ x0 x2 x3 x4 x5 x6 x7 x8 : Option DV, δ = [x0, some .bag, x2, x3, x4, x5, x6, x7, x8]) ⟨_, _, _, _, _, _, _, _, rfl⟩ (fun k d δk hd hj N hN => ?_) fun δ hj => ?_
  · obtain ⟨x0, x2, x3, x4, x5, x6, x7, x8, rfl⟩ := hj
    obtain ⟨hk, rfl⟩ := rangeD_at hd
    refine ⟨_, rfl, ?_⟩
    (try simp only [wFn, dSeq, dIfS, dNext, dAsg, dPar, dRet, dRetV, dRetN, dExpr, dBrk, dCnt, dFor, dFrz, frzAt, dAsgG, dGName, dGSub, dGNil, dGCons, dGTup, dAugI, dAug, dApp, dExt, dRaise, dVar, dC, dBin, dUn, dChain, dTst, dAnd, dOr, dNot, dYes, dAndV, dOrV, dNotV, dIfE, dNil, dCons, dTup, dLst, dats, dNone, dSome, dSl, oCut, dCall, dCb, dLrg, pk, dCallK, dTab, dCallV, dISeq, dIRg1, dIRg2, dIZip, dIEnum, tfName, tfPair, dLc, lcStep, Cn.no, dCount, scVs, scV, oAdd, oSub, oMul, oMod, oDiv, oCmp, oNeg, oEq, toD, oIsN, oIx, seqD, lstD, bLen, bTuple, bList, bAbs, bMin, bMax, bSum, bAll, bAny, bSorted, bIsi, fz, isPl_dat, isPl_raw, isPl_bag, oIn, flD, List.cons_append, List.nil_append, List.append_nil, List.getElem?_cons_zero, List.getElem?_cons_succ, List.getElem?_nil, List.set_cons_zero, List.set_cons_succ, List.length_cons, List.length_nil, List.all_cons, List.all_nil, List.replicate_succ, List.replicate_zero, Bool.and_true, Bool.and_self, Bool.true_and, List.filterMap_cons, List.filterMap_nil, Nat.reduceAdd, Nat.reduceSub, Nat.zero_add, true_and, and_true, if_true, ite_true, Bool.not_true, Bool.not_false, Bool.false_eq_true, if_false, ite_false])
    refine w_any_sizes fun ms hs => ?_
    have h6 := hs.hi
    have h1 := hs.lo
    ((try simp only [later]) <;> (try simp only [wFn, dSeq, dIfS, dNext, dAsg, dPar, dRet, dRetV, dRetN, dExpr, dBrk, dCnt, dFor, dFrz, frzAt, dAsgG, dGName, dGSub, dGNil, dGCons, dGTup, dAugI, dAug, dApp, dExt, dRaise, dVar, dC, dBin, dUn, dChain, dTst, dAnd, dOr, dNot, dYes, dAndV, dOrV, dNotV, dIfE, dNil, dCons, dTup, dLst, dats, dNone, dSome, dSl, oCut, dCall, dCb, dLrg, pk, dCallK, dTab, dCallV, dISeq, dIRg1, dIRg2, dIZip, dIEnum, tfName, tfPair, dLc, lcStep, Cn.no, dCount, scVs, scV, oAdd, oSub, oMul, oMod, oDiv, oCmp, oNeg, oEq, toD, oIsN, oIx, seqD, lstD, bLen, bTuple, bList, bAbs, bMin, bMax, bSum, bAll, bAny, bSorted, bIsi, fz, isPl_dat, isPl_raw, isPl_bag, oIn, flD, List.cons_append, List.nil_append, List.append_nil, List.getElem?_cons_zero, List.getElem?_cons_succ, List.getElem?_nil, List.set_cons_zero, List.set_cons_succ, List.length_cons, List.length_nil, List.all_cons, List.all_nil, List.replicate_succ, List.replicate_zero, Bool.and_true, Bool.and_self, Bool.true_and, List.filterMap_cons, List.filterMap_nil, Nat.reduceAdd, Nat.reduceSub, Nat.zero_add, true_and, and_true, if_true, ite_true, Bool.not_true, Bool.not_false, Bool.false_eq_true, if_false, ite_false]))
    refine w_take ⟨by omega, by omega⟩ fun how w0 w1 => ?_
    ((try simp only [later]) <;> (try simp only [wFn, dSeq, dIfS, dNext, dAsg, dPar, dRet, dRetV, dRetN, dExpr, dBrk, dCnt, dFor, dFrz, frzAt, dAsgG, dGName, dGSub, dGNil, dGCons, dGTup, dAugI, dAug, dApp, dExt, dRaise, dVar, dC, dBin, dUn, dChain, dTst, dAnd, dOr, dNot, dYes, dAndV, dOrV, dNotV, dIfE, dNil, dCons, dTup, dLst, dats, dNone, dSome, dSl, oCut, dCall, dCb, dLrg, pk, dCallK, dTab, dCallV, dISeq, dIRg1, dIRg2, dIZip, dIEnum, tfName, tfPair, dLc, lcStep, Cn.no, dCount, scVs, scV, oAdd, oSub, oMul, oMod, oDiv, oCmp, oNeg, oEq, toD, oIsN, oIx, seqD, lstD, bLen, bTuple, bList, bAbs, bMin, bMax, bSum, bAll, bAny, bSorted, bIsi, fz, isPl_dat, isPl_raw, isPl_bag, oIn, flD, List.cons_append, List.nil_append, List.append_nil, List.getElem?_cons_zero, List.getElem?_cons_succ, List.getElem?_nil, List.set_cons_zero, List.set_cons_succ, List.length_cons, List.length_nil, List.all_cons, List.all_nil, List.replicate_succ, List.replicate_zero, Bool.and_true, Bool.and_self, Bool.true_and, List.filterMap_cons, List.filterMap_nil, Nat.reduceAdd, Nat.reduceSub, Nat.zero_add, true_and, and_true, if_true, ite_true, Bool.not_true, Bool.not_false, Bool.false_eq_true, if_false, ite_false]))
    simp only [List.length_map]
    refine w_take ⟨by omega, by omega⟩ fun a a0 a1 => ?_
    obtain ⟨a, rfl⟩ := Int.eq_ofNat_of_zero_le a0
    ((try simp only [later]) <;> (try simp only [wFn, dSeq, dIfS, dNext, dAsg, dPar, dRet, dRetV, dRetN, dExpr, dBrk, dCnt, dFor, dFrz, frzAt, dAsgG, dGName, dGSub, dGNil, dGCons, dGTup, dAugI, dAug, dApp, dExt, dRaise, dVar, dC, dBin, dUn, dChain, dTst, dAnd, dOr, dNot, dYes, dAndV, dOrV, dNotV, dIfE, dNil, dCons, dTup, dLst, dats, dNone, dSome, dSl, oCut, dCall, dCb, dLrg, pk, dCallK, dTab, dCallV, dISeq, dIRg1, dIRg2, dIZip, dIEnum, tfName, tfPair, dLc, lcStep, Cn.no, dCount, scVs, scV, oAdd, oSub, oMul, oMod, oDiv, oCmp, oNeg, oEq, toD, oIsN, oIx, seqD, lstD, bLen, bTuple, bList, bAbs, bMin, bMax, bSum, bAll, bAny, bSorted, bIsi, fz, isPl_dat, isPl_raw, isPl_bag, oIn, flD, List.cons_append, List.nil_append, List.append_nil, List.getElem?_cons_zero, List.getElem?_cons_succ, List.getElem?_nil, List.set_cons_zero, List.set_cons_succ, List.length_cons, List.length_nil, List.all_cons, List.all_nil, List.replicate_succ, List.replicate_zero, Bool.and_true, Bool.and_self, Bool.true_and, List.filterMap_cons, List.filterMap_nil, Nat.reduceAdd, Nat.reduceSub, Nat.zero_add, true_and, and_true, if_true, ite_true, Bool.not_true, Bool.not_false, Bool.false_eq_true, if_false, ite_false]))
    simp only [oPow, pow20]
    (try simp only [wFn, dSeq, dIfS, dNext, dAsg, dPar, dRet, dRetV, dRetN, dExpr, dBrk, dCnt, dFor, dFrz, frzAt, dAsgG, dGName, dGSub, dGNil, dGCons, dGTup, dAugI, dAug, dApp, dExt, dRaise, dVar, dC, dBin, dUn, dChain, dTst, dAnd, dOr, dNot, dYes, dAndV, dOrV, dNotV, dIfE, dNil, dCons, dTup, dLst, dats, dNone, dSome, dSl, oCut, dCall, dCb, dLrg, pk, dCallK, dTab, dCallV, dISeq, dIRg1, dIRg2, dIZip, dIEnum, tfName, tfPair, dLc, lcStep, Cn.no, dCount, scVs, scV, oAdd, oSub, oMul, oMod, oDiv, oCmp, oNeg, oEq, toD, oIsN, oIx, seqD, lstD, bLen, bTuple, bList, bAbs, bMin, bMax, bSum, bAll, bAny, bSorted, bIsi, fz, isPl_dat, isPl_raw, isPl_bag, oIn, flD, List.cons_append, List.nil_append, List.append_nil, List.getElem?_cons_zero, List.getElem?_cons_succ, List.getElem?_nil, List.set_cons_zero, List.set_cons_succ, List.length_cons, List.length_nil, List.all_cons, List.all_nil, List.replicate_succ, List.replicate_zero, Bool.and_true, Bool.and_self, Bool.true_and, List.filterMap_cons, List.filterMap_nil, Nat.reduceAdd, Nat.reduceSub, Nat.zero_add, true_and, and_true, if_true, ite_true, Bool.not_true, Bool.not_false, Bool.false_eq_true, if_false, ite_false])
    refine ⟨.inl cpow20, .inl cpow20, ?_⟩
    (try simp only [wFn, dSeq, dIfS, dNext, dAsg, dPar, dRet, dRetV, dRetN, dExpr, dBrk, dCnt, dFor, dFrz, frzAt, dAsgG, dGName, dGSub, dGNil, dGCons, dGTup, dAugI, dAug, dApp, dExt, dRaise, dVar, dC, dBin, dUn, dChain, dTst, dAnd, dOr, dNot, dYes, dAndV, dOrV, dNotV, dIfE, dNil, dCons, dTup, dLst, dats, dNone, dSome, dSl, oCut, dCall, dCb, dLrg, pk, dCallK, dTab, dCallV, dISeq, dIRg1, dIRg2, dIZip, dIEnum, tfName, tfPair, dLc, lcStep, Cn.no, dCount, scVs, scV, oAdd, oSub, oMul, oMod, oDiv, oCmp, oNeg, oEq, toD, oIsN, oIx, seqD, lstD, bLen, bTuple, bList, bAbs, bMin, bMax, bSum, bAll, bAny, bSorted, bIsi, fz, isPl_dat, isPl_raw, isPl_bag, oIn, flD, List.cons_append, List.nil_append, List.append_nil, List.getElem?_cons_zero, List.getElem?_cons_succ, List.getElem?_nil, List.set_cons_zero, List.set_cons_succ, List.length_cons, List.length_nil, List.all_cons, List.all_nil, List.replicate_succ, List.replicate_zero, Bool.and_true, Bool.and_self, Bool.true_and, List.filterMap_cons, List.filterMap_nil, Nat.reduceAdd, Nat.reduceSub, Nat.zero_add, true_and, and_true, if_true, ite_true, Bool.not_true, Bool.not_false, Bool.false_eq_true, if_false, ite_false])
    refine w_pick (by simp) (by simp) fun d hd => ?_
    obtain ⟨o, rfl⟩ : ∃ o : Int, d = .int o := by
      simp only [List.mem_cons, List.not_mem_nil, or_false] at hd
      rcases hd with rfl | rfl | rfl | rfl | rfl <;> exact ⟨_, rfl⟩
    ((try simp only [later]) <;> (try simp only [wFn, dSeq, dIfS, dNext, dAsg, dPar, dRet, dRetV, dRetN, dExpr, dBrk, dCnt, dFor, dFrz, frzAt, dAsgG, dGName, dGSub, dGNil, dGCons, dGTup, dAugI, dAug, dApp, dExt, dRaise, dVar, dC, dBin, dUn, dChain, dTst, dAnd, dOr, dNot, dYes, dAndV, dOrV, dNotV, dIfE, dNil, dCons, dTup, dLst, dats, dNone, dSome, dSl, oCut, dCall, dCb, dLrg, pk, dCallK, dTab, dCallV, dISeq, dIRg1, dIRg2, dIZip, dIEnum, tfName, tfPair, dLc, lcStep, Cn.no, dCount, scVs, scV, oAdd, oSub, oMul, oMod, oDiv, oCmp, oNeg, oEq, toD, oIsN, oIx, seqD, lstD, bLen, bTuple, bList, bAbs, bMin, bMax, bSum, bAll, bAny, bSorted, bIsi, fz, isPl_dat, isPl_raw, isPl_bag, oIn, flD, List.cons_append, List.nil_append, List.append_nil, List.getElem?_cons_zero, List.getElem?_cons_succ, List.getElem?_nil, List.set_cons_zero, List.set_cons_succ, List.length_cons, List.length_nil, List.all_cons, List.all_nil, List.replicate_succ, List.replicate_zero, Bool.and_true, Bool.and_self, Bool.true_and, List.filterMap_cons, List.filterMap_nil, Nat.reduceAdd, Nat.reduceSub, Nat.zero_add, true_and, and_true, if_true, ite_true, Bool.not_true, Bool.not_false, Bool.false_eq_true, if_false, ite_false]))
    generalize hR : later _ _ _ = R
    have rest : ∀ ms' : List Int, 1 ≤ ms'.length → ms'.length ≤ 6 → R [x0, some .bag, some (.dat (.int (0 + (k : Int)))), some (.dat (nums ms')), some (dint how), some (dint (a : Int)), some (dint o), x7, x8] := by
      intro ms1 l1 l6
      rw [← hR]
      ((try simp only [later]) <;> (try simp only [wFn, dSeq, dIfS, dNext, dAsg, dPar, dRet, dRetV, dRetN, dExpr, dBrk, dCnt, dFor, dFrz, frzAt, dAsgG, dGName, dGSub, dGNil, dGCons, dGTup, dAugI, dAug, dApp, dExt, dRaise, dVar, dC, dBin, dUn, dChain, dTst, dAnd, dOr, dNot, dYes, dAndV, dOrV, dNotV, dIfE, dNil, dCons, dTup, dLst, dats, dNone, dSome, dSl, oCut, dCall, dCb, dLrg, pk, dCallK, dTab, dCallV, dISeq, dIRg1, dIRg2, dIZip, dIEnum, tfName, tfPair, dLc, lcStep, Cn.no, dCount, scVs, scV, oAdd, oSub, oMul, oMod, oDiv, oCmp, oNeg, oEq, toD, oIsN, oIx, seqD, lstD, bLen, bTuple, bList, bAbs, bMin, bMax, bSum, bAll, bAny, bSorted, bIsi, fz, isPl_dat, isPl_raw, isPl_bag, oIn, flD, List.cons_append, List.nil_append, List.append_nil, List.getElem?_cons_zero, List.getElem?_cons_succ, List.getElem?_nil, List.set_cons_zero, List.set_cons_succ, List.length_cons, List.length_nil, List.all_cons, List.all_nil, List.replicate_succ, List.replicate_zero, Bool.and_true, Bool.and_self, Bool.true_and, List.filterMap_cons, List.filterMap_nil, Nat.reduceAdd, Nat.reduceSub, Nat.zero_add, true_and, and_true, if_true, ite_true, Bool.not_true, Bool.not_false, Bool.false_eq_true, if_false, ite_false]))
      generalize hR2 : later _ _ _ = R2
      have rest2 : ∀ ms' : List Int, 1 ≤ ms'.length → ms'.length ≤ 7 → R2 [x0, some .bag, some (.dat (.int (0 + (k : Int)))), some (.dat (nums ms')), some (dint how), some (dint (a : Int)), some (dint o), x7, x8] := by
        intro ms2 m1 m7
        rw [← hR2]
        ((try simp only [later]) <;> (try simp only [wFn, dSeq, dIfS, dNext, dAsg, dPar, dRet, dRetV, dRetN, dExpr, dBrk, dCnt, dFor, dFrz, frzAt, dAsgG, dGName, dGSub, dGNil, dGCons, dGTup, dAugI, dAug, dApp, dExt, dRaise, dVar, dC, dBin, dUn, dChain, dTst, dAnd, dOr, dNot, dYes, dAndV, dOrV, dNotV, dIfE, dNil, dCons, dTup, dLst, dats, dNone, dSome, dSl, oCut, dCall, dCb, dLrg, pk, dCallK, dTab, dCallV, dISeq, dIRg1, dIRg2, dIZip, dIEnum, tfName, tfPair, dLc, lcStep, Cn.no, dCount, scVs, scV, oAdd, oSub, oMul, oMod, oDiv, oCmp, oNeg, oEq, toD, oIsN, oIx, seqD, lstD, bLen, bTuple, bList, bAbs, bMin, bMax, bSum, bAll, bAny, bSorted, bIsi, fz, isPl_dat, isPl_raw, isPl_bag, oIn, flD, List.cons_append, List.nil_append, List.append_nil, List.getElem?_cons_zero, List.getElem?_cons_succ, List.getElem?_nil, List.set_cons_zero, List.set_cons_succ, List.length_cons, List.length_nil, List.all_cons, List.all_nil, List.replicate_succ, List.replicate_zero, Bool.and_true, Bool.and_self, Bool.true_and, List.filterMap_cons, List.filterMap_nil, Nat.reduceAdd, Nat.reduceSub, Nat.zero_add, true_and, and_true, if_true, ite_true, Bool.not_true, Bool.not_false, Bool.false_eq_true, if_false, ite_false]))
        generalize hR3 : later _ _ _ = R3
        have rest3 : ∀ ms' : List Int, ms'.length ≤ 1000 → R3 [x0, some .bag, some (.dat (.int (0 + (k : Int)))), some (.dat (nums ms')), some (dint how), some (dint (a : Int)), some (dint o), x7, x8] := by
          intro ms3 hl
          rw [← hR3]
          ((try simp only [later]) <;> (try simp only [wFn, dSeq, dIfS, dNext, dAsg, dPar, dRet, dRetV, dRetN, dExpr, dBrk, dCnt, dFor, dFrz, frzAt, dAsgG, dGName, dGSub, dGNil, dGCons, dGTup, dAugI, dAug, dApp, dExt, dRaise, dVar, dC, dBin, dUn, dChain, dTst, dAnd, dOr, dNot, dYes, dAndV, dOrV, dNotV, dIfE, dNil, dCons, dTup, dLst, dats, dNone, dSome, dSl, oCut, dCall, dCb, dLrg, pk, dCallK, dTab, dCallV, dISeq, dIRg1, dIRg2, dIZip, dIEnum, tfName, tfPair, dLc, lcStep, Cn.no, dCount, scVs, scV, oAdd, oSub, oMul, oMod, oDiv, oCmp, oNeg, oEq, toD, oIsN, oIx, seqD, lstD, bLen, bTuple, bList, bAbs, bMin, bMax, bSum, bAll, bAny, bSorted, bIsi, fz, isPl_dat, isPl_raw, isPl_bag, oIn, flD, List.cons_append, List.nil_append, List.append_nil, List.getElem?_cons_zero, List.getElem?_cons_succ, List.getElem?_nil, List.set_cons_zero, List.set_cons_succ, List.length_cons, List.length_nil, List.all_cons, List.all_nil, List.replicate_succ, List.replicate_zero, Bool.and_true, Bool.and_self, Bool.true_and, List.filterMap_cons, List.filterMap_nil, Nat.reduceAdd, Nat.reduceSub, Nat.zero_add, true_and, and_true, if_true, ite_true, Bool.not_true, Bool.not_false, Bool.false_eq_true, if_false, ite_false]))
          refine w_flaw ?_ hl
          ((try simp only [later]) <;> (try simp only [wFn, dSeq, dIfS, dNext, dAsg, dPar, dRet, dRetV, dRetN, dExpr, dBrk, dCnt, dFor, dFrz, frzAt, dAsgG, dGName, dGSub, dGNil, dGCons, dGTup, dAugI, dAug, dApp, dExt, dRaise, dVar, dC, dBin, dUn, dChain, dTst, dAnd, dOr, dNot, dYes, dAndV, dOrV, dNotV, dIfE, dNil, dCons, dTup, dLst, dats, dNone, dSome, dSl, oCut, dCall, dCb, dLrg, pk, dCallK, dTab, dCallV, dISeq, dIRg1, dIRg2, dIZip, dIEnum, tfName, tfPair, dLc, lcStep, Cn.no, dCount, scVs, scV, oAdd, oSub, oMul, oMod, oDiv, oCmp, oNeg, oEq, toD, oIsN, oIx, seqD, lstD, bLen, bTuple, bList, bAbs, bMin, bMax, bSum, bAll, bAny, bSorted, bIsi, fz, isPl_dat, isPl_raw, isPl_bag, oIn, flD, List.cons_append, List.nil_append, List.append_nil, List.getElem?_cons_zero, List.getElem?_cons_succ, List.getElem?_nil, List.set_cons_zero, List.set_cons_succ, List.length_cons, List.length_nil, List.all_cons, List.all_nil, List.replicate_succ, List.replicate_zero, Bool.and_true, Bool.and_self, Bool.true_and, List.filterMap_cons, List.filterMap_nil, Nat.reduceAdd, Nat.reduceSub, Nat.zero_add, true_and, and_true, if_true, ite_true, Bool.not_true, Bool.not_false, Bool.false_eq_true, if_false, ite_false]))
          generalize hR4 : later _ _ _ = R4
          have rest4 : R4 [x0, some .bag, some (.dat (.int (0 + (k : Int)))), some (.dat (nums ms3)), some (dint how), some (dint (a : Int)), some (dint o), some (.dat (flawD (flaw ms3))), x8] := by
            rw [← hR4]
            cases q : flaw ms3 with
            | none =>
              have hz := flaw_sz q
              have z6 := hz.hi
              have z1 := hz.lo
              simp only [flawD]
              ((try simp only [later]) <;> (try simp only [wFn, dSeq, dIfS, dNext, dAsg, dPar, dRet, dRetV, dRetN, dExpr, dBrk, dCnt, dFor, dFrz, frzAt, dAsgG, dGName, dGSub, dGNil, dGCons, dGTup, dAugI, dAug, dApp, dExt, dRaise, dVar, dC, dBin, dUn, dChain, dTst, dAnd, dOr, dNot, dYes, dAndV, dOrV, dNotV, dIfE, dNil, dCons, dTup, dLst, dats, dNone, dSome, dSl, oCut, dCall, dCb, dLrg, pk, dCallK, dTab, dCallV, dISeq, dIRg1, dIRg2, dIZip, dIEnum, tfName, tfPair, dLc, lcStep, Cn.no, dCount, scVs, scV, oAdd, oSub, oMul, oMod, oDiv, oCmp, oNeg, oEq, toD, oIsN, oIx, seqD, lstD, bLen, bTuple, bList, bAbs, bMin, bMax, bSum, bAll, bAny, bSorted, bIsi, fz, isPl_dat, isPl_raw, isPl_bag, oIn, flD, List.cons_append, List.nil_append, List.append_nil, List.getElem?_cons_zero, List.getElem?_cons_succ, List.getElem?_nil, List.set_cons_zero, List.set_cons_succ, List.length_cons, List.length_nil, List.all_cons, List.all_nil, List.replicate_succ, List.replicate_zero, Bool.and_true, Bool.and_self, Bool.true_and, List.filterMap_cons, List.filterMap_nil, Nat.reduceAdd, Nat.reduceSub, Nat.zero_add, true_and, and_true, if_true, ite_true, Bool.not_true, Bool.not_false, Bool.false_eq_true, if_false, ite_false]))
              refine ⟨⟨sh_str oks_none, sh_str oks_none⟩, ?_⟩
              rw [if_pos (by rw [eqv_ss]; decide)]
              refine w_look_sizes hz ?_
              (try simp only [wFn, dSeq, dIfS, dNext, dAsg, dPar, dRet, dRetV, dRetN, dExpr, dBrk, dCnt, dFor, dFrz, frzAt, dAsgG, dGName, dGSub, dGNil, dGCons, dGTup, dAugI, dAug, dApp, dExt, dRaise, dVar, dC, dBin, dUn, dChain, dTst, dAnd, dOr, dNot, dYes, dAndV, dOrV, dNotV, dIfE, dNil, dCons, dTup, dLst, dats, dNone, dSome, dSl, oCut, dCall, dCb, dLrg, pk, dCallK, dTab, dCallV, dISeq, dIRg1, dIRg2, dIZip, dIEnum, tfName, tfPair, dLc, lcStep, Cn.no, dCount, scVs, scV, oAdd, oSub, oMul, oMod, oDiv, oCmp, oNeg, oEq, toD, oIsN, oIx, seqD, lstD, bLen, bTuple, bList, bAbs, bMin, bMax, bSum, bAll, bAny, bSorted, bIsi, fz, isPl_dat, isPl_raw, isPl_bag, oIn, flD, List.cons_append, List.nil_append, List.append_nil, List.getElem?_cons_zero, List.getElem?_cons_succ, List.getElem?_nil, List.set_cons_zero, List.set_cons_succ, List.length_cons, List.length_nil, List.all_cons, List.all_nil, List.replicate_succ, List.replicate_zero, Bool.and_true, Bool.and_self, Bool.true_and, List.filterMap_cons, List.filterMap_nil, Nat.reduceAdd, Nat.reduceSub, Nat.zero_add, true_and, and_true, if_true, ite_true, Bool.not_true, Bool.not_false, Bool.false_eq_true, if_false, ite_false])
              rw [if_neg (by simp [tyN])]
              refine w_counts_none hz ?_
              (try simp only [wFn, dSeq, dIfS, dNext, dAsg, dPar, dRet, dRetV, dRetN, dExpr, dBrk, dCnt, dFor, dFrz, frzAt, dAsgG, dGName, dGSub, dGNil, dGCons, dGTup, dAugI, dAug, dApp, dExt, dRaise, dVar, dC, dBin, dUn, dChain, dTst, dAnd, dOr, dNot, dYes, dAndV, dOrV, dNotV, dIfE, dNil, dCons, dTup, dLst, dats, dNone, dSome, dSl, oCut, dCall, dCb, dLrg, pk, dCallK, dTab, dCallV, dISeq, dIRg1, dIRg2, dIZip, dIEnum, tfName, tfPair, dLc, lcStep, Cn.no, dCount, scVs, scV, oAdd, oSub, oMul, oMod, oDiv, oCmp, oNeg, oEq, toD, oIsN, oIx, seqD, lstD, bLen, bTuple, bList, bAbs, bMin, bMax, bSum, bAll, bAny, bSorted, bIsi, fz, isPl_dat, isPl_raw, isPl_bag, oIn, flD, List.cons_append, List.nil_append, List.append_nil, List.getElem?_cons_zero, List.getElem?_cons_succ, List.getElem?_nil, List.set_cons_zero, List.set_cons_succ, List.length_cons, List.length_nil, List.all_cons, List.all_nil, List.replicate_succ, List.replicate_zero, Bool.and_true, Bool.and_self, Bool.true_and, List.filterMap_cons, List.filterMap_nil, Nat.reduceAdd, Nat.reduceSub, Nat.zero_add, true_and, and_true, if_true, ite_true, Bool.not_true, Bool.not_false, Bool.false_eq_true, if_false, ite_false])
              have e : (List.replicate (((ms3.map PyData.int).length : Int)).toNat [PyData.int 0]).flatten = (List.replicate ms3.length (0 : Int)).map .int := by
                rw [Int.toNat_natCast, List.length_map, List.map_replicate, List.flatten_replicate_singleton]
              refine ⟨⟨by simp, by decide, by omega, by simp; omega⟩, ?_⟩
              rw [e]
              refine ⟨⟨shaped_nums _, shaped_nums _⟩, ?_⟩
              rw [eqv_nums, if_neg (by simp)]
              exact hN _ ⟨_, _, _, _, _, _, _, _, rfl⟩
            | some f =>
              simp only [flawD]
              ((try simp only [later]) <;> (try simp only [wFn, dSeq, dIfS, dNext, dAsg, dPar, dRet, dRetV, dRetN, dExpr, dBrk, dCnt, dFor, dFrz, frzAt, dAsgG, dGName, dGSub, dGNil, dGCons, dGTup, dAugI, dAug, dApp, dExt, dRaise, dVar, dC, dBin, dUn, dChain, dTst, dAnd, dOr, dNot, dYes, dAndV, dOrV, dNotV, dIfE, dNil, dCons, dTup, dLst, dats, dNone, dSome, dSl, oCut, dCall, dCb, dLrg, pk, dCallK, dTab, dCallV, dISeq, dIRg1, dIRg2, dIZip, dIEnum, tfName, tfPair, dLc, lcStep, Cn.no, dCount, scVs, scV, oAdd, oSub, oMul, oMod, oDiv, oCmp, oNeg, oEq, toD, oIsN, oIx, seqD, lstD, bLen, bTuple, bList, bAbs, bMin, bMax, bSum, bAll, bAny, bSorted, bIsi, fz, isPl_dat, isPl_raw, isPl_bag, oIn, flD, List.cons_append, List.nil_append, List.append_nil, List.getElem?_cons_zero, List.getElem?_cons_succ, List.getElem?_nil, List.set_cons_zero, List.set_cons_succ, List.length_cons, List.length_nil, List.all_cons, List.all_nil, List.replicate_succ, List.replicate_zero, Bool.and_true, Bool.and_self, Bool.true_and, List.filterMap_cons, List.filterMap_nil, Nat.reduceAdd, Nat.reduceSub, Nat.zero_add, true_and, and_true, if_true, ite_true, Bool.not_true, Bool.not_false, Bool.false_eq_true, if_false, ite_false]))
              refine ⟨⟨sh_int, sh_str oks_none⟩, ?_⟩
              rw [if_neg (by simp [PyData.eqv])]
              refine t1 q rfl hl ?_
              ((try simp only [later]) <;> (try simp only [wFn, dSeq, dIfS, dNext, dAsg, dPar, dRet, dRetV, dRetN, dExpr, dBrk, dCnt, dFor, dFrz, frzAt, dAsgG, dGName, dGSub, dGNil, dGCons, dGTup, dAugI, dAug, dApp, dExt, dRaise, dVar, dC, dBin, dUn, dChain, dTst, dAnd, dOr, dNot, dYes, dAndV, dOrV, dNotV, dIfE, dNil, dCons, dTup, dLst, dats, dNone, dSome, dSl, oCut, dCall, dCb, dLrg, pk, dCallK, dTab, dCallV, dISeq, dIRg1, dIRg2, dIZip, dIEnum, tfName, tfPair, dLc, lcStep, Cn.no, dCount, scVs, scV, oAdd, oSub, oMul, oMod, oDiv, oCmp, oNeg, oEq, toD, oIsN, oIx, seqD, lstD, bLen, bTuple, bList, bAbs, bMin, bMax, bSum, bAll, bAny, bSorted, bIsi, fz, isPl_dat, isPl_raw, isPl_bag, oIn, flD, List.cons_append, List.nil_append, List.append_nil, List.getElem?_cons_zero, List.getElem?_cons_succ, List.getElem?_nil, List.set_cons_zero, List.set_cons_succ, List.length_cons, List.length_nil, List.all_cons, List.all_nil, List.replicate_succ, List.replicate_zero, Bool.and_true, Bool.and_self, Bool.true_and, List.filterMap_cons, List.filterMap_nil, Nat.reduceAdd, Nat.reduceSub, Nat.zero_add, true_and, and_true, if_true, ite_true, Bool.not_true, Bool.not_false, Bool.false_eq_true, if_false, ite_false]))
              refine t2 q rfl hl ?_
              ((try simp only [later]) <;> (try simp only [wFn, dSeq, dIfS, dNext, dAsg, dPar, dRet, dRetV, dRetN, dExpr, dBrk, dCnt, dFor, dFrz, frzAt, dAsgG, dGName, dGSub, dGNil, dGCons, dGTup, dAugI, dAug, dApp, dExt, dRaise, dVar, dC, dBin, dUn, dChain, dTst, dAnd, dOr, dNot, dYes, dAndV, dOrV, dNotV, dIfE, dNil, dCons, dTup, dLst, dats, dNone, dSome, dSl, oCut, dCall, dCb, dLrg, pk, dCallK, dTab, dCallV, dISeq, dIRg1, dIRg2, dIZip, dIEnum, tfName, tfPair, dLc, lcStep, Cn.no, dCount, scVs, scV, oAdd, oSub, oMul, oMod, oDiv, oCmp, oNeg, oEq, toD, oIsN, oIx, seqD, lstD, bLen, bTuple, bList, bAbs, bMin, bMax, bSum, bAll, bAny, bSorted, bIsi, fz, isPl_dat, isPl_raw, isPl_bag, oIn, flD, List.cons_append, List.nil_append, List.append_nil, List.getElem?_cons_zero, List.getElem?_cons_succ, List.getElem?_nil, List.set_cons_zero, List.set_cons_succ, List.length_cons, List.length_nil, List.all_cons, List.all_nil, List.replicate_succ, List.replicate_zero, Bool.and_true, Bool.and_self, Bool.true_and, List.filterMap_cons, List.filterMap_nil, Nat.reduceAdd, Nat.reduceSub, Nat.zero_add, true_and, and_true, if_true, ite_true, Bool.not_true, Bool.not_false, Bool.false_eq_true, if_false, ite_false]))
              refine ⟨by decide, t3 q rfl hl ?_⟩
              refine ⟨by decide, ?_⟩
              refine ⟨rfl, w_same (d := .list [.int f, .int f, .int f]) (flat_ints (l := [f, f, f]) (by simp)) (lay_list (n := 0) (ds := [.int f, .int f, .int f]) fun x hx => by
                simp only [List.mem_cons, List.not_mem_nil, or_false] at hx
                rcases hx with rfl | rfl | rfl <;> exact lay_int).1 ?_⟩
              exact hN _ ⟨_, _, _, _, _, _, _, _, rfl⟩
          refine t0 rfl hl ?_
          (try simp only [wFn, dSeq, dIfS, dNext, dAsg, dPar, dRet, dRetV, dRetN, dExpr, dBrk, dCnt, dFor, dFrz, frzAt, dAsgG, dGName, dGSub, dGNil, dGCons, dGTup, dAugI, dAug, dApp, dExt, dRaise, dVar, dC, dBin, dUn, dChain, dTst, dAnd, dOr, dNot, dYes, dAndV, dOrV, dNotV, dIfE, dNil, dCons, dTup, dLst, dats, dNone, dSome, dSl, oCut, dCall, dCb, dLrg, pk, dCallK, dTab, dCallV, dISeq, dIRg1, dIRg2, dIZip, dIEnum, tfName, tfPair, dLc, lcStep, Cn.no, dCount, scVs, scV, oAdd, oSub, oMul, oMod, oDiv, oCmp, oNeg, oEq, toD, oIsN, oIx, seqD, lstD, bLen, bTuple, bList, bAbs, bMin, bMax, bSum, bAll, bAny, bSorted, bIsi, fz, isPl_dat, isPl_raw, isPl_bag, oIn, flD, List.cons_append, List.nil_append, List.append_nil, List.getElem?_cons_zero, List.getElem?_cons_succ, List.getElem?_nil, List.set_cons_zero, List.set_cons_succ, List.length_cons, List.length_nil, List.all_cons, List.all_nil, List.replicate_succ, List.replicate_zero, Bool.and_true, Bool.and_self, Bool.true_and, List.filterMap_cons, List.filterMap_nil, Nat.reduceAdd, Nat.reduceSub, Nat.zero_add, true_and, and_true, if_true, ite_true, Bool.not_true, Bool.not_false, Bool.false_eq_true, if_false, ite_false])
          refine w_same (flat_flaw (n := 5)).1 (flat_flaw (n := 5)).2 ?_
          (try simp only [wFn, dSeq, dIfS, dNext, dAsg, dPar, dRet, dRetV, dRetN, dExpr, dBrk, dCnt, dFor, dFrz, frzAt, dAsgG, dGName, dGSub, dGNil, dGCons, dGTup, dAugI, dAug, dApp, dExt, dRaise, dVar, dC, dBin, dUn, dChain, dTst, dAnd, dOr, dNot, dYes, dAndV, dOrV, dNotV, dIfE, dNil, dCons, dTup, dLst, dats, dNone, dSome, dSl, oCut, dCall, dCb, dLrg, pk, dCallK, dTab, dCallV, dISeq, dIRg1, dIRg2, dIZip, dIEnum, tfName, tfPair, dLc, lcStep, Cn.no, dCount, scVs, scV, oAdd, oSub, oMul, oMod, oDiv, oCmp, oNeg, oEq, toD, oIsN, oIx, seqD, lstD, bLen, bTuple, bList, bAbs, bMin, bMax, bSum, bAll, bAny, bSorted, bIsi, fz, isPl_dat, isPl_raw, isPl_bag, oIn, flD, List.cons_append, List.nil_append, List.append_nil, List.getElem?_cons_zero, List.getElem?_cons_succ, List.getElem?_nil, List.set_cons_zero, List.set_cons_succ, List.length_cons, List.length_nil, List.all_cons, List.all_nil, List.replicate_succ, List.replicate_zero, Bool.and_true, Bool.and_self, Bool.true_and, List.filterMap_cons, List.filterMap_nil, Nat.reduceAdd, Nat.reduceSub, Nat.zero_add, true_and, and_true, if_true, ite_true, Bool.not_true, Bool.not_false, Bool.false_eq_true, if_false, ite_false])
          exact rest4
        refine ⟨⟨sh_int, sh_int⟩, ?_⟩
        split
        · refine ⟨⟨by have := m1; intro z; rw [List.map_eq_nil_iff] at z; rw [z] at this; simp at this, by simp; omega, by decide, by decide⟩, ?_⟩
          refine w_pick (by simp) (by simp) fun d hd => ?_
          obtain ⟨n, rfl⟩ : ∃ n : Nat, d = .int (n : Int) := by
            simp only [List.mem_cons, List.not_mem_nil, or_false] at hd
            rcases hd with rfl | rfl | rfl
            · exact ⟨7, rfl⟩
            · exact ⟨0, rfl⟩
            · exact ⟨6, rfl⟩
          (try simp only [wFn, dSeq, dIfS, dNext, dAsg, dPar, dRet, dRetV, dRetN, dExpr, dBrk, dCnt, dFor, dFrz, frzAt, dAsgG, dGName, dGSub, dGNil, dGCons, dGTup, dAugI, dAug, dApp, dExt, dRaise, dVar, dC, dBin, dUn, dChain, dTst, dAnd, dOr, dNot, dYes, dAndV, dOrV, dNotV, dIfE, dNil, dCons, dTup, dLst, dats, dNone, dSome, dSl, oCut, dCall, dCb, dLrg, pk, dCallK, dTab, dCallV, dISeq, dIRg1, dIRg2, dIZip, dIEnum, tfName, tfPair, dLc, lcStep, Cn.no, dCount, scVs, scV, oAdd, oSub, oMul, oMod, oDiv, oCmp, oNeg, oEq, toD, oIsN, oIx, seqD, lstD, bLen, bTuple, bList, bAbs, bMin, bMax, bSum, bAll, bAny, bSorted, bIsi, fz, isPl_dat, isPl_raw, isPl_bag, oIn, flD, List.cons_append, List.nil_append, List.append_nil, List.getElem?_cons_zero, List.getElem?_cons_succ, List.getElem?_nil, List.set_cons_zero, List.set_cons_succ, List.length_cons, List.length_nil, List.all_cons, List.all_nil, List.replicate_succ, List.replicate_zero, Bool.and_true, Bool.and_self, Bool.true_and, List.filterMap_cons, List.filterMap_nil, Nat.reduceAdd, Nat.reduceSub, Nat.zero_add, true_and, and_true, if_true, ite_true, Bool.not_true, Bool.not_false, Bool.false_eq_true, if_false, ite_false])
          rw [cut_to]
          have e : ((List.replicate (Int.toNat 7) (ms2.map PyData.int)).flatten).take n = (((List.replicate 7 ms2).flatten).take n).map .int := by
            rw [List.map_take, List.map_flatten, List.map_replicate]
            rfl
          rw [e]
          refine rest3 _ ?_
          have : ((List.replicate 7 ms2).flatten).length ≤ 49 := by
            rw [List.length_flatten, List.map_replicate, List.sum_replicate_nat]
            omega
          have := List.length_take_le n ((List.replicate 7 ms2).flatten)
          have := List.length_take_le' n ((List.replicate 7 ms2).flatten)
          omega
        · exact rest3 _ (by omega)
      refine ⟨⟨sh_int, sh_int⟩, ?_⟩
      split
      · refine w_pick (by simp) (by simp) fun d hd => ?_
        obtain ⟨n, rfl⟩ : ∃ n : Int, d = .int n := by
          simp only [List.mem_cons, List.not_mem_nil, or_false] at hd
          rcases hd with rfl | rfl | rfl | rfl <;> exact ⟨_, rfl⟩
        (try simp only [wFn, dSeq, dIfS, dNext, dAsg, dPar, dRet, dRetV, dRetN, dExpr, dBrk, dCnt, dFor, dFrz, frzAt, dAsgG, dGName, dGSub, dGNil, dGCons, dGTup, dAugI, dAug, dApp, dExt, dRaise, dVar, dC, dBin, dUn, dChain, dTst, dAnd, dOr, dNot, dYes, dAndV, dOrV, dNotV, dIfE, dNil, dCons, dTup, dLst, dats, dNone, dSome, dSl, oCut, dCall, dCb, dLrg, pk, dCallK, dTab, dCallV, dISeq, dIRg1, dIRg2, dIZip, dIEnum, tfName, tfPair, dLc, lcStep, Cn.no, dCount, scVs, scV, oAdd, oSub, oMul, oMod, oDiv, oCmp, oNeg, oEq, toD, oIsN, oIx, seqD, lstD, bLen, bTuple, bList, bAbs, bMin, bMax, bSum, bAll, bAny, bSorted, bIsi, fz, isPl_dat, isPl_raw, isPl_bag, oIn, flD, List.cons_append, List.nil_append, List.append_nil, List.getElem?_cons_zero, List.getElem?_cons_succ, List.getElem?_nil, List.set_cons_zero, List.set_cons_succ, List.length_cons, List.length_nil, List.all_cons, List.all_nil, List.replicate_succ, List.replicate_zero, Bool.and_true, Bool.and_self, Bool.true_and, List.filterMap_cons, List.filterMap_nil, Nat.reduceAdd, Nat.reduceSub, Nat.zero_add, true_and, and_true, if_true, ite_true, Bool.not_true, Bool.not_false, Bool.false_eq_true, if_false, ite_false])
        refine ⟨by simp; omega, ?_⟩
        have e : ms1.map PyData.int ++ [PyData.int n] = (ms1 ++ [n]).map .int := by simp
        rw [e]
        exact rest2 _ (by simp) (by simp; omega)
      · exact rest2 _ (by omega) (by omega)
    split
    · rw [cut_to, show ((a : Int) + 1) = ((a + 1 : Nat) : Int) by omega, cut_from (by rw [List.length_map]; omega)]
      have e : (ms.map PyData.int).take a ++ [PyData.int o] ++ (ms.map PyData.int).drop (a + 1) = (ms.take a ++ [o] ++ ms.drop (a + 1)).map .int := by
        rw [List.map_append, List.map_append, List.map_take, List.map_drop]
        rfl
      refine ⟨by simp; omega, by simp; omega, ?_⟩
      rw [e]
      refine rest _ ?_ ?_
      · simp
        omega
      · simp
        omega
    · exact rest _ h1 h6
  · obtain ⟨x0, x2, x3, x4, x5, x6, x7, x8, rfl⟩ := hj
    exact ⟨rfl, w_same (d := .list [.int 6, .int 40, .int 60, .int (-1)]) (flat_ints (l := [6, 40, 60, -1]) (by decide)) (lay_list (n := 0) (ds := [.int 6, .int 40, .int 60, .int (-1)]) fun x hx => by
      simp only [List.mem_cons, List.not_mem_nil, or_false] at hx
      rcases hx with rfl | rfl | rfl | rfl <;> exact lay_int).1 rfl⟩
end Lw

set_option Elab.async false
set_option linter.all false
set_option maxRecDepth 100000
set_option maxHeartbeats 4000000
namespace Lw
open PySem PySem.Spec PyProof.Rows L2 DL DW
section
variable {P : Program} {w : World} {K : PySem.W.Frag} {mg : Str → Option Value} {base : Heap}
def spLawT (K : PySem.W.Frag) (P : Addr) : Sp := fun vs H Q _ => ∃ (a : Addr) (ns : List Int), vs = [.ref a] ∧ SqL K H a (ns.map V.int) ∧ ns.length ≤ 63 ∧ H P = some (.tbl #[]) ∧ ∀ H', Q (.bl true) H'
theorem ok_law (T : Top K mg w) (TB : LamX.TabB base mg T.k_law T.P_law) : FnOk P w K mg base CX0 9 T.a_law T.fd_law ["_law_script"] (spLawT K T.P_law) := by
  have G_law_open := ok_law_open (P := P) (w := w) (base := base) T
  have G_law_same := ok_law_same (P := P) (w := w) (base := base) T 6
  have G_law_any_sizes := ok_law_any_sizes (P := P) (w := w) (base := base) T
  have G_law_take := ok_law_take (P := P) (w := w) (base := base) T
  have G_law_pick := ok_law_pick (P := P) (w := w) (base := base) T
  have G_law_flaw := ok_law_flaw (P := P) (w := w) (base := base) T
  have G_look_sizes := ok_look_sizes (P := P) (w := w) (base := base) T
  have G_counts_of := ok_counts_of (P := P) (w := w) (base := base) T
  have G_Book := ok_Book (P := P) (w := w) (base := base) T
  have G_Loft := ok_Loft (P := P) (w := w) (base := base) T
  obtain ⟨oc, od, kV, dc, pm, an, ct, osl, efd, lk, hcd⟩ := T.L_law
  rw [efd] at lk ⊢
  refine fn_of lk hcd sc_law (fun vs H Q E h => ?_) (fun A outer s H vs Q E hr h => ?_)
  · obtain ⟨a, ns, rfl, _⟩ := h
    rfl
  · obtain ⟨a, ns, rfl, hS, hlen, hP, q⟩ := h
    obtain ⟨u, j1, j2⟩ : JSs (cxOf CX0 P w K mg base N_law "law" (defScope s_law) T.a_law (.ref T.k_law) A outer s H E).nox ⟨9, fun _ _ _ => False, T.cls, T.fa, fun t => t = tabs_law T⟩ (defBody s_law).tail (dSeq (dFor (dIRg1 (dCons (dC (dint 6)) dNil)) (tfName 2) (dSeq (dFrz 1 (dAsg 3 (dCall W_law_any_sizes (dCons (dVar 1) dNil))))
    (dSeq (dFrz 1 (dAsg 4 (dCall W_take (dCons (dVar 1) (dCons (dC (dint 6)) dNil)))))
    (dSeq (dFrz 1 (dAsg 5 (dCall W_take (dCons (dVar 1) (dCons (dCb bLen (dCons (dVar 3) dNil)) dNil)))))
    (dSeq (dFrz 1 (dAsg 6 (dCall W_law_pick (dCons (dVar 1) (dCons (dLst (dCons (dC (dint 0)) (dCons (dC (dint 41)) (dCons (dUn oNeg (dC (dint 1))) (dCons (dBin oPow (dC (dint 10)) (dC (dint 20))) (dCons (dUn oNeg (dBin oPow (dC (dint 10)) (dC (dint 20)))) dNil)))))) dNil)))))
    (dSeq (dIfS (dTst (dBin oLt (dVar 4) (dC (dint 3)))) (dFrz 6 (dAsg 3 (dBin oAdd (dBin oAdd (dSl (dVar 3) dNone (dSome (dVar 5))) (dTup (dCons (dVar 6) dNil))) (dSl (dVar 3) (dSome (dBin oAdd (dVar 5) (dC (dint 1)))) dNone)))) dNext)
    (dSeq (dIfS (dTst (dBin (oEq false) (dVar 4) (dC (dint 1)))) (dFrz 1 (dAsg 3 (dBin oAdd (dVar 3) (dTup (dCons (dCall W_law_pick (dCons (dVar 1) (dCons (dLst (dCons (dC (dint 0)) (dCons (dC (dint 41)) (dCons (dC (dint 40)) (dCons (dC (dint 1)) dNil))))) dNil))) dNil))))) dNext)
    (dSeq (dIfS (dTst (dBin (oEq false) (dVar 4) (dC (dint 3)))) (dFrz 1 (dAsg 3 (dSl (dBin oMul (dVar 3) (dC (dint 7))) dNone (dSome (dCall W_law_pick (dCons (dVar 1) (dCons (dLst (dCons (dC (dint 7)) (dCons (dC (dint 0)) (dCons (dC (dint 6)) dNil)))) dNil))))))) dNext)
    (dSeq (dFrz 3 (dAsg 7 (dCall W_law_flaw (dCons (dVar 3) dNil))))
    (dSeq (dFrz 7 (dFrz 3 (dIfS (dNot (dTst (dCall (W_law_same 6) (dCons Td_0 (dCons (dVar 7) dNil))))) (dRet (dC (dbl false))) dNext)))
    (dIfS (dTst (dBin (oEq false) (dVar 7) (dC (dstr "none")))) (dFrz 3 (dIfS (dOr (dTst (dBin (oIsN true) (dCallK W_look_sizes [0] dNil (dCons (dVar 3) dNil)) (dC (.dat .none)))) (dTst (dBin (oEq true) (dCall W_counts_of (dCons (dVar 3) (dCons (dTup dNil) dNil))) (dBin oMul (dTup (dCons (dC (dint 0)) dNil)) (dCb bLen (dCons (dVar 3) dNil)))))) (dRet (dC (dbl false))) dNext)) (dSeq (dFrz 3 (dAsg 8 (dLst (dCons Td_1 dNil))))
    (dSeq (dFrz 3 (dApp 8 Td_2))
    (dSeq (dFrz 3 (dApp 8 Td_3))
    (dFrz 7 (dFrz 8 (dIfS (dNot (dTst (dCall (W_law_same 6) (dCons (dVar 8) (dCons (dLst (dCons (dVar 7) (dCons (dVar 7) (dCons (dVar 7) dNil)))) dNil))))) (dRet (dC (dbl false))) dNext)))))))))))))))))
    (dRet (dCall (W_law_same 6) (dCons (dLst (dCons (dC (dint (6))) (dCons (dC (dint (40))) (dCons (dC (dint (60))) (dCons (dC (dint (-1))) dNil))))) (dCons (dLst (dCons (dC (dint 6)) (dCons (dC (dint 40)) (dCons (dC (dint 60)) (dCons (dUn oNeg (dC (dint 1))) dNil))))) dNil))))) := (jss_cons (js_for PassesOwn.never rfl (ji_rg1 (by rfl) T.m_range (ja_cons je_int ja_nil)) to_name (jg_name (i := 2) (pg_name (i := 2) sc_law.nd rfl (by first | exact Or.inl rfl | exact Or.inr rfl)) (ltr rfl)) (jss_cons (js_frz 1 (js_set sc_law.nd rfl (ltr rfl) (je_call G_law_any_sizes (hr.mono (by omega)) (by rfl) T.g_law_any_sizes T.F_law_any_sizes.kp T.b_law_any_sizes passE0 (ja_cons (je_var (pv 1)) ja_nil)) (fun _ h => ps_set (i := 3) sc_law.nd rfl (by first | exact Or.inl rfl | exact Or.inr rfl) h)))
      (jss_cons (js_frz 1 (js_set sc_law.nd rfl (ltr rfl) (je_call G_law_take (hr.mono (by omega)) (by rfl) T.g_law_take T.F_law_take.kp T.b_law_take passE0 (ja_cons (je_var (pv 1)) (ja_cons je_int ja_nil))) (fun _ h => ps_set (i := 4) sc_law.nd rfl (by first | exact Or.inl rfl | exact Or.inr rfl) h)))
      (jss_cons (js_frz 1 (js_set sc_law.nd rfl (ltr rfl) (je_call G_law_take (hr.mono (by omega)) (by rfl) T.g_law_take T.F_law_take.kp T.b_law_take passE0 (ja_cons (je_var (pv 1)) (ja_cons (je_callB jb_len (by rfl) T.m_len PySem.boot_len (ja_cons (je_var (pv 3)) ja_nil)) ja_nil))) (fun _ h => ps_set (i := 5) sc_law.nd rfl (by first | exact Or.inl rfl | exact Or.inr rfl) h)))
      (jss_cons (js_frz 1 (js_set sc_law.nd rfl (ltr rfl) (je_call G_law_pick (hr.mono (by omega)) (by rfl) T.g_law_pick T.F_law_pick.kp T.b_law_pick passE0 (ja_cons (je_var (pv 1)) (ja_cons (je_lst (ja_cons je_int (ja_cons je_int (ja_cons (je_un ju_neg je_int) (ja_cons (je_op jo_pow je_int je_int) (ja_cons (je_un ju_neg (je_op jo_pow je_int je_int)) ja_nil)))))) ja_nil))) (fun _ h => ps_set (i := 6) sc_law.nd rfl (by first | exact Or.inl rfl | exact Or.inr rfl) h)))
      (jss_cons (js_if (jt_cmp jo_lt (je_var (pv 4)) je_int (nomark _)) (jss_one (js_frz 6 (js_set sc_law.nd rfl (ltr rfl) (je_op (jo_add T.kl) (je_op (jo_add T.kl) (je_sl (je_var (pv 3)) jo_none (jo_some (je_var (pv 5)))) (je_tup (ja_cons (je_var (pv 6)) ja_nil))) (je_sl (je_var (pv 3)) (jo_some (je_op (jo_add T.kl) (je_var (pv 5)) je_int)) jo_none)) (fun _ h => ps_set (i := 3) sc_law.nd rfl (by first | exact Or.inl rfl | exact Or.inr rfl) h)))) jss_nil)
      (jss_cons (js_if (jt_cmp (jo_eq hr.units) (je_var (pv 4)) je_int (nomark _)) (jss_one (js_frz 1 (js_set sc_law.nd rfl (ltr rfl) (je_op (jo_add T.kl) (je_var (pv 3)) (je_tup (ja_cons (je_call G_law_pick (hr.mono (by omega)) (by rfl) T.g_law_pick T.F_law_pick.kp T.b_law_pick passE0 (ja_cons (je_var (pv 1)) (ja_cons (je_lst (ja_cons je_int (ja_cons je_int (ja_cons je_int (ja_cons je_int ja_nil))))) ja_nil))) ja_nil))) (fun _ h => ps_set (i := 3) sc_law.nd rfl (by first | exact Or.inl rfl | exact Or.inr rfl) h)))) jss_nil)
      (jss_cons (js_if (jt_cmp (jo_eq hr.units) (je_var (pv 4)) je_int (nomark _)) (jss_one (js_frz 1 (js_set sc_law.nd rfl (ltr rfl) (je_sl (je_op (jo_mul T.kl) (je_var (pv 3)) je_int) jo_none (jo_some (je_call G_law_pick (hr.mono (by omega)) (by rfl) T.g_law_pick T.F_law_pick.kp T.b_law_pick passE0 (ja_cons (je_var (pv 1)) (ja_cons (je_lst (ja_cons je_int (ja_cons je_int (ja_cons je_int ja_nil)))) ja_nil))))) (fun _ h => ps_set (i := 3) sc_law.nd rfl (by first | exact Or.inl rfl | exact Or.inr rfl) h)))) jss_nil)
      (jss_cons (js_frz 3 (js_set sc_law.nd rfl (ltr rfl) (je_call G_law_flaw (hr.mono (by omega)) (by rfl) T.g_law_flaw T.F_law_flaw.kp T.b_law_flaw passE0 (ja_cons (je_var (pv 3)) ja_nil)) (fun _ h => ps_set (i := 7) sc_law.nd rfl (by first | exact Or.inl rfl | exact Or.inr rfl) h)))
      (jss_cons (js_frz 7 (js_frz 3 (js_if (jt_not (jt_val (je_call G_law_same (hr.mono (by omega)) (by rfl) T.g_law_same T.F_law_same.kp T.b_law_same passE0 (ja_cons (je_lam (k := 6) (fun t hb => pe_law_told (k := 6) T TB rfl rfl rfl rfl rfl (by rfl) (hr.mono (by omega)) (LamX.lamS_by (sc := defScope s_law) (by decide +kernel)) rfl (fun _ _ _ _ _ => rfl) hb) (fun _ => Dp.str _) (fun _ h => h) (aft_ok T) (fun A outer s H E f c' hr2 => (je_call G_look_sizes (hr2.mono (by omega)) (by rfl) T.g_look_sizes T.F_look_sizes.kp T.b_look_sizes passLamJ (ja_cons (je_var (pv 3)) ja_nil)))) (ja_cons (je_var (pv 7)) ja_nil))))) (jss_one (js_ret je_bl)) jss_nil)))
      (jss_one (js_if (jt_cmp (jo_eq hr.units) (je_var (pv 7)) je_str (nomark _)) (jss_one (js_frz 3 (js_if (jt_w (jw_or (jt_cmp jo_notN (je_callK0 (is := [0]) G_look_sizes (hr.mono (by omega)) (by rfl) T.g_look_sizes T.F_look_sizes.kp (B_look_sizes_0_sizes T) passE0 (jk_cons (je_var (pv 3)) jk_nil)) je_non (nomark _)) (jw_or1 (jt_cmp (jo_ne hr.units) (je_call G_counts_of (hr.mono (by omega)) (by rfl) T.g_counts_of T.F_counts_of.kp T.b_counts_of passE0 (ja_cons (je_var (pv 3)) (ja_cons (je_tup ja_nil) ja_nil))) (je_op (jo_mul T.kl) (je_tup (ja_cons je_int ja_nil)) (je_callB jb_len (by rfl) T.m_len PySem.boot_len (ja_cons (je_var (pv 3)) ja_nil))) (nomark _))))) (jss_one (js_ret je_bl)) jss_nil))) (jss_cons (js_frz 3 (js_set sc_law.nd rfl (ltr rfl) (je_lst (ja_cons (je_lam (k := 6) (fun t hb => pe_law_told (k := 6) T TB rfl rfl rfl rfl rfl (by rfl) (hr.mono (by omega)) (LamX.lamS_by (sc := defScope s_law) (by decide +kernel)) rfl (fun _ _ _ _ _ => rfl) hb) (fun _ => Dp.str _) (fun _ h => h) (aft_ok T) (fun A outer s H E f c' hr2 => (je_call G_counts_of (hr2.mono (by omega)) (by rfl) T.g_counts_of T.F_counts_of.kp T.b_counts_of passLamJ (ja_cons (je_var (pv 3)) (ja_cons (je_tup (ja_cons je_int ja_nil)) ja_nil))))) ja_nil)) (fun _ h => ps_set (i := 8) sc_law.nd rfl (by first | exact Or.inl rfl | exact Or.inr rfl) h)))
      (jss_cons (js_frz 3 (js_app (i := 8) (je_lam (k := 6) (fun t hb => pe_law_told (k := 6) T TB rfl rfl rfl rfl rfl (by rfl) (hr.mono (by omega)) (LamX.lamS_by (sc := defScope s_law) (by decide +kernel)) rfl (fun _ _ _ _ _ => rfl) hb) (fun _ => Dp.str _) (fun _ h => h) (aft_ok T) (fun A outer s H E f c' hr2 => (je_make T.M_Book G_Book (hr2.mono (by omega)) (by rfl) T.g_Book T.b_Book passLamJ (ja_cons (je_var (pv 3)) ja_nil)))) (fun _ h => ps_expr (pe_bm PySem.F.plainAttrs_list PySem.F.slot_list_append PySem.F.type_list_append mt_append (pv 8) (pa_cons h pa_nil)))))
      (jss_cons (js_frz 3 (js_app (i := 8) (je_lam (k := 6) (fun t hb => pe_law_told (k := 6) T TB rfl rfl rfl rfl rfl (by rfl) (hr.mono (by omega)) (LamX.lamS_by (sc := defScope s_law) (by decide +kernel)) rfl (fun _ _ _ _ _ => rfl) hb) (fun _ => Dp.str _) (fun _ h => h) (aft_ok T) (fun A outer s H E f c' hr2 => (je_makeK (is := [0, 1, 2]) T.M_Loft G_Loft (hr2.mono (by omega)) (by rfl) T.g_Loft (B_Loft_2_stand T) passLamJ (ja_cons (je_var (pv 3)) ja_nil) (jk_cons (je_tup (ja_cons je_int ja_nil)) jk_nil)))) (fun _ h => ps_expr (pe_bm PySem.F.plainAttrs_list PySem.F.slot_list_append PySem.F.type_list_append mt_append (pv 8) (pa_cons h pa_nil)))))
      (jss_one (js_frz 7 (js_frz 8 (js_if (jt_not (jt_val (je_call G_law_same (hr.mono (by omega)) (by rfl) T.g_law_same T.F_law_same.kp T.b_law_same passE0 (ja_cons (je_var (pv 8)) (ja_cons (je_lst (ja_cons (je_var (pv 7)) (ja_cons (je_var (pv 7)) (ja_cons (je_var (pv 7)) ja_nil)))) ja_nil))))) (jss_one (js_ret je_bl)) jss_nil)))))))))))))))))) (fun _ _ _ h1 h2 h3 => ps_for PassesOwn.never rfl h1 h2 h3))
      (jss_one (js_ret (je_call G_law_same (hr.mono (by omega)) (by rfl) T.g_law_same T.F_law_same.kp T.b_law_same passE0 (ja_cons (je_lst (ja_cons (je_c (C8.pe_gc (by rfl) (gc_int T.c_MOST_CASKS)) (fun _ => Dp.int _)) (ja_cons (je_c (C8.pe_gc (by rfl) (gc_int T.c_MOST_SIZE)) (fun _ => Dp.int _)) (ja_cons (je_c (C8.pe_gc (by rfl) (gc_int T.c_MOST_DROPS)) (fun _ => Dp.int _)) (ja_cons (je_c (C8.pe_gc (by rfl) (gc_int T.c_GONE)) (fun _ => Dp.int _)) ja_nil))))) (ja_cons (je_lst (ja_cons je_int (ja_cons je_int (ja_cons je_int (ja_cons (je_un ju_neg je_int) ja_nil))))) ja_nil))))))
    refine ⟨_, PSs.nox (C8.pss_cut (ps_set (i := 1) sc_law.nd rfl (by first | exact Or.inl rfl | exact Or.inr rfl) (pe_call G_law_open (hr.mono (by omega)) (by rfl) T.g_law_open T.F_law_open.kp T.b_law_open .nil pass0 (pa_cons (pv 0) pa_nil))) j1), ?_⟩
    refine ⟨fun σ' H' => ∃ b l ms, σ' = [some (.ref a), some (.ref b), none, none, none, none, none, none, none] ∧ b ≠ l ∧ H' b = some (.lst [.ref l, .int 0, .int 0, .int 9465, .int 0]) ∧ H' l = some (.lst (ms.map V.int)) ∧ H' T.P_law = some (.tbl #[]), ⟨.ref a, rfl, a, ns, rfl, hS, fun b l ms H1 keep nbl hb hl => ⟨b, l, ms, rfl, nbl, hb, hl, keep _ _ hP⟩⟩, ?_⟩
    rintro σ1 H1 ⟨b, l, ms, rfl, nbl, hb, hl, hP⟩
    obtain ⟨I, k, n⟩ := bag_start (K := K) (n := 7) (T := tabs_law T) nbl hb hl (fun p hp => by
      rcases List.mem_cons.mp hp with e | e
      · rw [e]
        exact LamX.TabS.nil hP
      · cases e) (σ := [some (.ref a), some (.ref b), none, none, none, none, none, none, none]) rfl rfl
    exact law_w j2 k n ⟨rfl, rfl⟩ (c := ⟨fun _ _ => False, T.fa⟩) rfl (fun _ _ h => h) rfl (law_holds T.fa) q
end
abbrev RR : PySem.W.OpenRow := PySem.W.OpenLaw.row PySem.Challenge.rw_hidelater_k01_sizes_judged
abbrev hd0 : He.DefD := HX.dd "look_sizes" "look_sizes" s_look_sizes
abbrev hd1 : He.DefD := HX.dd "look_stand" "look_stand" s_look_stand
abbrev hd2 : He.DefD := HX.dd "counts_of" "counts_of" s_counts_of
abbrev hd3 : He.DefD := HX.di "Book" "Book.__init__" s_Book
abbrev hd4 : He.DefD := HX.di "Loft" "Loft.__init__" s_Loft
abbrev hd5 : He.DefD := HX.dd "_law_open" "_law_open" s_law_open
abbrev hd6 : He.DefD := HX.dd "_law_take" "_law_take" s_law_take
abbrev hd7 : He.DefD := HX.dd "_law_pick" "_law_pick" s_law_pick
abbrev hd8 : He.DefD := HX.dd "_law_same" "_law_same" s_law_same
abbrev hd9 : He.DefD := HX.dd "_law_sizes" "_law_sizes" s_law_sizes
abbrev hd10 : He.DefD := HX.dd "_law_any_sizes" "_law_any_sizes" s_law_any_sizes
abbrev hd11 : He.DefD := HX.dd "_law_flaw" "_law_flaw" s_law_flaw
abbrev hd12 : He.DefD := HX.dd "_law_told" "_law_told" s_law_told
abbrev hd13 : He.DefD := HX.dd "law" "law" s_law
abbrev hd14 : He.DefD := HX.di "BadSizes" "BadSizes.__init__" si_BadSizes
def hfa : List He.Fa := [.glo "look_sizes",
  .glo "look_stand",
  .glo "counts_of",
  .glo "Book",
  .mkr "Book",
  .glo "Loft",
  .mkr "Loft",
  .glo "_law_open",
  .glo "_law_take",
  .glo "_law_pick",
  .glo "_law_same",
  .glo "_law_sizes",
  .glo "_law_any_sizes",
  .glo "_law_flaw",
  .glo "_law_told",
  .glo "law",
  .free "enumerate",
  .free "len",
  .free "list",
  .free "tuple",
  .free "range",
  .free "isinstance",
  .free "bool",
  .free "int",
  .free "str",
  .free "all",
  .int "MOST_CASKS" (6),
  .int "MOST_SIZE" (40),
  .int "MOST_DROPS" (60),
  .int "GONE" (-1),
  .glo "BadSizes",
  .exm "BadSizes" "BadSizes" true]
def hfn : List He.DefD := [hd0, hd1, hd2, hd3, hd4, hd5, hd6, hd7, hd8, hd9, hd10, hd11, hd12, hd13, hd14]
def hts : List He.Tab := []
def htf : List He.Defn := [("law", none)]
def hex (K : PySem.W.Frag) : Bool := (ktB K && (klB K && (HX.clsX K "BadSizes" ["word", "cask"] && true)))
def hln : List Str := (["look_sizes", "look_stand", "counts_of", "Book", "Loft", "_law_open", "_law_take", "_law_pick", "_law_same", "_law_sizes", "_law_any_sizes", "_law_flaw", "_law_told", "law", "BadSizes"] : List Str)
abbrev hk : PySem.W.Hook := HX.hookL hln 4 hfa hfn hts htf hex
def hob (s : PySem.W.SharedT) : He.AlX := HX.obsL hln 4 hfa hfn hts htf hex (HandSHeadRun.getT s)
theorem hob_eq (s : PySem.W.SharedT) : hob s = hk.obs s.abs := HX.obsL_eq (HandSHeadRun.getT_eq s)
def hnames : List Str := (["_wall", "__name__", "HideError", "BadSizes", "BadStand", "BadRow", "BadName", "Taken", "InUse", "Tapped", "TooLong", "TooMany", "Missing", "NoRound", "NoDrop", "NoCask", "MOST_CASKS", "MOST_SIZE", "MOST_DROPS", "GONE", "look_sizes", "look_stand", "look_cask", "counts_of", "GREAT", "WORDS", "look_row", "look_dry", "fault_place", "length_fits"] : List Str) ++ (["swap_fault", "cask_fault", "gained", "led", "led_amounts", "over", "over_amounts", "down", "down_amounts", "swap", "swap_amounts", "tap", "tap_amounts", "drain", "drain_amounts", "POURINGS", "counts_behind", "counts_behind_row", "ranks_in", "led_ranks", "over_ranks", "down_ranks", "swap_ranks", "tap_ranks", "drain_ranks", "DOINGS", "stand_behind", "stand_behind_row", "FAR", "ring"] : List Str) ++ (["ring_far", "look_again", "trail", "ring_of_trail", "far_behind", "MOST_ROUNDS", "MOST_FLAT", "MOST_CALLS", "MOST_LETTERS", "LETTERS", "Book", "is_name", "step_fault", "calls", "table_behind", "end_of_one", "step_text", "page_rows", "Moment", "Loft", "first_moment", "_law_open", "_law_take", "_law_pick", "_law_same", "_law_sizes", "_law_any_sizes", "_law_flaw", "_law_told"] : List Str)
theorem three {S A B C : Type} {x : Option S} {f : S → A} {g : S → B} {h : S → C} {a : A} {b : B} {c : C} (e1 : x.map f = some a) (e2 : x.map g = some b) (e3 : x.map h = some c) : x.map (fun s => (f s, g s, h s)) = some (a, b, c) := by
  cases x with
  | none => cases e1
  | some s => cases e1; cases e2; cases e3; rfl
theorem hrun1_false (w : World) (os : PySem.OsState) : (HandSHeadRun.endF (HandSHeadRun.stepQ (HandSHeadRun.denQ HandSHeadRun.tabQ) RR.prog (w.withFollow "special-get-raises" false)) 15000 RR.prog (w.withFollow "special-get-raises" false) os).map (fun s => HandSHeadRun.looksF RR.prog (PySem.W.boot_heap (w.withFollow "special-get-raises" false).params) s.abs) = some true := by
  kernel_rfl
theorem hrun2_false (w : World) (os : PySem.OsState) : (HandSHeadRun.endF (HandSHeadRun.stepQ (HandSHeadRun.denQ HandSHeadRun.tabQ) RR.prog (w.withFollow "special-get-raises" false)) 15000 RR.prog (w.withFollow "special-get-raises" false) os).map (fun s => HandSHeadRun.seenQ (PySem.W.view RR.prog [105]) hnames (importedModules RR.prog.main.body) (fun s => PySem.W.xlAt (PySem.W.view RR.prog [105]) [] s && PySem.W.recOk RR.toRowW.records s) s.abs) = some (PySem.W.openGood (PySem.W.view RR.prog [105]) hnames) := by
  kernel_rfl
theorem hrun3_false (w : World) (os : PySem.OsState) : (HandSHeadRun.endF (HandSHeadRun.stepQ (HandSHeadRun.denQ HandSHeadRun.tabQ) RR.prog (w.withFollow "special-get-raises" false)) 15000 RR.prog (w.withFollow "special-get-raises" false) os).map (fun s => hob s) = some (hk.val (w.withFollow "special-get-raises" false)) := by
  kernel_rfl
theorem hrun1_true (w : World) (os : PySem.OsState) : (HandSHeadRun.endF (HandSHeadRun.stepQ (HandSHeadRun.denQ HandSHeadRun.tabQ) RR.prog (w.withFollow "special-get-raises" true)) 15000 RR.prog (w.withFollow "special-get-raises" true) os).map (fun s => HandSHeadRun.looksF RR.prog (PySem.W.boot_heap (w.withFollow "special-get-raises" true).params) s.abs) = some true := by
  kernel_rfl
theorem hrun2_true (w : World) (os : PySem.OsState) : (HandSHeadRun.endF (HandSHeadRun.stepQ (HandSHeadRun.denQ HandSHeadRun.tabQ) RR.prog (w.withFollow "special-get-raises" true)) 15000 RR.prog (w.withFollow "special-get-raises" true) os).map (fun s => HandSHeadRun.seenQ (PySem.W.view RR.prog [105]) hnames (importedModules RR.prog.main.body) (fun s => PySem.W.xlAt (PySem.W.view RR.prog [105]) [] s && PySem.W.recOk RR.toRowW.records s) s.abs) = some (PySem.W.openGood (PySem.W.view RR.prog [105]) hnames) := by
  kernel_rfl
theorem hrun3_true (w : World) (os : PySem.OsState) : (HandSHeadRun.endF (HandSHeadRun.stepQ (HandSHeadRun.denQ HandSHeadRun.tabQ) RR.prog (w.withFollow "special-get-raises" true)) 15000 RR.prog (w.withFollow "special-get-raises" true) os).map (fun s => hob s) = some (hk.val (w.withFollow "special-get-raises" true)) := by
  kernel_rfl
theorem hrun (w : World) : HandSHeadRun.RunEq RR (PySem.W.view RR.prog [105]) hk hob 15000 hnames w := PySem.W.byRow2 "special-get-raises" (P := fun w => HandSHeadRun.RunEq RR (PySem.W.view RR.prog [105]) hk hob 15000 hnames w) (fun w os => three (hrun1_false w os) (hrun2_false w os) (hrun3_false w os)) (fun w os => three (hrun1_true w os) (hrun2_true w os) (hrun3_true w os)) w
theorem hfacts {l : PySem.W.OpenLaw} {w : World} {K : PySem.W.Frag} {h : Heap} {mg : Str → Option Value} {f : Addr} (X : K.In h) (G : h.Ns mainGlobals mg) (hfa0 : mg ("law" : Str) = some (.ref f)) (c : He.SaysX hfa hfn hts htf hex w h K) : LamX.LawAtS l w K CX0 9 63 "_law_script" mg f h := by
  have m0 : hex K = true := c.more
  unfold hex at m0
  obtain ⟨x0, m1⟩ := He.ba m0
  obtain ⟨x1, m2⟩ := He.ba m1
  obtain ⟨x2, m3⟩ := He.ba m2
  obtain ⟨fd_look_sizes, FD_look_sizes⟩ := c.t.d.def_ 0 (d := HX.dd "look_sizes" "look_sizes" s_look_sizes) rfl
  have F_look_sizes : Fun K "look_sizes" "look_sizes" s_look_sizes (He.ga K "look_sizes") fd_look_sizes := HX.fun_of FD_look_sizes
  obtain ⟨fd_look_stand, FD_look_stand⟩ := c.t.d.def_ 1 (d := HX.dd "look_stand" "look_stand" s_look_stand) rfl
  have F_look_stand : Fun K "look_stand" "look_stand" s_look_stand (He.ga K "look_stand") fd_look_stand := HX.fun_of FD_look_stand
  obtain ⟨fd_counts_of, FD_counts_of⟩ := c.t.d.def_ 2 (d := HX.dd "counts_of" "counts_of" s_counts_of) rfl
  have F_counts_of : Fun K "counts_of" "counts_of" s_counts_of (He.ga K "counts_of") fd_counts_of := HX.fun_of FD_counts_of
  obtain ⟨fd_Book, FD_Book⟩ := c.t.d.def_ 3 (d := HX.di "Book" "Book.__init__" s_Book) rfl
  have F_Book : Fun K "__init__" "Book.__init__" s_Book (He.ma K (He.ga K "Book") "__init__") fd_Book := HX.fun_of FD_Book
  obtain ⟨fd_Loft, FD_Loft⟩ := c.t.d.def_ 4 (d := HX.di "Loft" "Loft.__init__" s_Loft) rfl
  have F_Loft : Fun K "__init__" "Loft.__init__" s_Loft (He.ma K (He.ga K "Loft") "__init__") fd_Loft := HX.fun_of FD_Loft
  obtain ⟨fd_law_open, FD_law_open⟩ := c.t.d.def_ 5 (d := HX.dd "_law_open" "_law_open" s_law_open) rfl
  have F_law_open : Fun K "_law_open" "_law_open" s_law_open (He.ga K "_law_open") fd_law_open := HX.fun_of FD_law_open
  obtain ⟨fd_law_take, FD_law_take⟩ := c.t.d.def_ 6 (d := HX.dd "_law_take" "_law_take" s_law_take) rfl
  have F_law_take : Fun K "_law_take" "_law_take" s_law_take (He.ga K "_law_take") fd_law_take := HX.fun_of FD_law_take
  obtain ⟨fd_law_pick, FD_law_pick⟩ := c.t.d.def_ 7 (d := HX.dd "_law_pick" "_law_pick" s_law_pick) rfl
  have F_law_pick : Fun K "_law_pick" "_law_pick" s_law_pick (He.ga K "_law_pick") fd_law_pick := HX.fun_of FD_law_pick
  obtain ⟨fd_law_same, FD_law_same⟩ := c.t.d.def_ 8 (d := HX.dd "_law_same" "_law_same" s_law_same) rfl
  have F_law_same : Fun K "_law_same" "_law_same" s_law_same (He.ga K "_law_same") fd_law_same := HX.fun_of FD_law_same
  obtain ⟨fd_law_sizes, FD_law_sizes⟩ := c.t.d.def_ 9 (d := HX.dd "_law_sizes" "_law_sizes" s_law_sizes) rfl
  have F_law_sizes : Fun K "_law_sizes" "_law_sizes" s_law_sizes (He.ga K "_law_sizes") fd_law_sizes := HX.fun_of FD_law_sizes
  obtain ⟨fd_law_any_sizes, FD_law_any_sizes⟩ := c.t.d.def_ 10 (d := HX.dd "_law_any_sizes" "_law_any_sizes" s_law_any_sizes) rfl
  have F_law_any_sizes : Fun K "_law_any_sizes" "_law_any_sizes" s_law_any_sizes (He.ga K "_law_any_sizes") fd_law_any_sizes := HX.fun_of FD_law_any_sizes
  obtain ⟨fd_law_flaw, FD_law_flaw⟩ := c.t.d.def_ 11 (d := HX.dd "_law_flaw" "_law_flaw" s_law_flaw) rfl
  have F_law_flaw : Fun K "_law_flaw" "_law_flaw" s_law_flaw (He.ga K "_law_flaw") fd_law_flaw := HX.fun_of FD_law_flaw
  obtain ⟨fd_law_told, FD_law_told⟩ := c.t.d.def_ 12 (d := HX.dd "_law_told" "_law_told" s_law_told) rfl
  have F_law_told : Fun K "_law_told" "_law_told" s_law_told (He.ga K "_law_told") fd_law_told := HX.fun_of FD_law_told
  obtain ⟨fd_law, FD_law⟩ := c.t.d.def_ 13 (d := HX.dd "law" "law" s_law) rfl
  have F_law : Fun K "law" "law" s_law (He.ga K "law") fd_law := HX.fun_of FD_law
  obtain ⟨fdi_BadSizes, FDi_BadSizes⟩ := c.t.d.def_ 14 (d := HX.di "BadSizes" "BadSizes.__init__" si_BadSizes) rfl
  have Fi_BadSizes : Fun K "__init__" "BadSizes.__init__" si_BadSizes (He.ma K (He.ga K "BadSizes") "__init__") fdi_BadSizes := HX.fun_of FDi_BadSizes
  have W_BadSizes := HX.clsX_ok x2
  have e := hfa0.symm.trans (He.glo_ok X G (c.t.d.fact 15 (f := .glo "law") rfl))
  cases e
  obtain ⟨oc, od, kV, doc, pm, an, cdv, ct, osl, efd, lk, hcd⟩ := F_law.ex
  obtain ⟨kc, ekc⟩ := He.codeIn_ref hcd
  subst ekc
  have ec : He.codeOf K ("law", none) = kc := He.codeOf_eq lk (by rw [efd])
  let T : Top K mg w := {
    a_look_sizes := (He.ga K "look_sizes"),
    fd_look_sizes := fd_look_sizes,
    F_look_sizes := F_look_sizes,
    g_look_sizes := He.glo_ok X G (c.t.d.fact 0 (f := .glo "look_sizes") rfl),
    b_look_sizes := F_look_sizes.binds (ps := ["sizes"]) (fun _ _ _ _ _ _ us hl => match us, hl with | [_], _ => rfl),
    a_look_stand := (He.ga K "look_stand"),
    fd_look_stand := fd_look_stand,
    F_look_stand := F_look_stand,
    g_look_stand := He.glo_ok X G (c.t.d.fact 1 (f := .glo "look_stand") rfl),
    b_look_stand := F_look_stand.binds (ps := ["sizes", "stand"]) (fun _ _ _ _ _ _ us hl => match us, hl with | [_, _], _ => rfl),
    a_counts_of := (He.ga K "counts_of"),
    fd_counts_of := fd_counts_of,
    F_counts_of := F_counts_of,
    g_counts_of := He.glo_ok X G (c.t.d.fact 2 (f := .glo "counts_of") rfl),
    b_counts_of := F_counts_of.binds (ps := ["sizes", "stand"]) (fun _ _ _ _ _ _ us hl => match us, hl with | [_, _], _ => rfl),
    a_Book := (He.ma K (He.ga K "Book") "__init__"),
    fd_Book := fd_Book,
    F_Book := F_Book,
    g_Book := He.glo_ok X G (c.t.d.fact 3 (f := .glo "Book") rfl),
    C_Book := He.ga K "Book",
    M_Book := He.mkr_ok (c.t.d.fact 4 (f := .mkr "Book") rfl),
    b_Book := F_Book.binds (ps := ["self", "sizes"]) (fun _ _ _ _ _ _ us hl => match us, hl with | [_, _], _ => rfl),
    a_Loft := (He.ma K (He.ga K "Loft") "__init__"),
    fd_Loft := fd_Loft,
    F_Loft := F_Loft,
    g_Loft := He.glo_ok X G (c.t.d.fact 5 (f := .glo "Loft") rfl),
    C_Loft := He.ga K "Loft",
    M_Loft := He.mkr_ok (c.t.d.fact 6 (f := .mkr "Loft") rfl),
    a_law_open := (He.ga K "_law_open"),
    fd_law_open := fd_law_open,
    F_law_open := F_law_open,
    g_law_open := He.glo_ok X G (c.t.d.fact 7 (f := .glo "_law_open") rfl),
    b_law_open := F_law_open.binds (ps := ["_law_script"]) (fun _ _ _ _ _ _ us hl => match us, hl with | [_], _ => rfl),
    a_law_take := (He.ga K "_law_take"),
    fd_law_take := fd_law_take,
    F_law_take := F_law_take,
    g_law_take := He.glo_ok X G (c.t.d.fact 8 (f := .glo "_law_take") rfl),
    b_law_take := F_law_take.binds (ps := ["_law_bag", "_law_sides"]) (fun _ _ _ _ _ _ us hl => match us, hl with | [_, _], _ => rfl),
    a_law_pick := (He.ga K "_law_pick"),
    fd_law_pick := fd_law_pick,
    F_law_pick := F_law_pick,
    g_law_pick := He.glo_ok X G (c.t.d.fact 9 (f := .glo "_law_pick") rfl),
    b_law_pick := F_law_pick.binds (ps := ["_law_bag", "_law_row"]) (fun _ _ _ _ _ _ us hl => match us, hl with | [_, _], _ => rfl),
    a_law_same := (He.ga K "_law_same"),
    fd_law_same := fd_law_same,
    F_law_same := F_law_same,
    g_law_same := He.glo_ok X G (c.t.d.fact 10 (f := .glo "_law_same") rfl),
    b_law_same := F_law_same.binds (ps := ["_law_found", "_law_due"]) (fun _ _ _ _ _ _ us hl => match us, hl with | [_, _], _ => rfl),
    a_law_sizes := (He.ga K "_law_sizes"),
    fd_law_sizes := fd_law_sizes,
    F_law_sizes := F_law_sizes,
    g_law_sizes := He.glo_ok X G (c.t.d.fact 11 (f := .glo "_law_sizes") rfl),
    b_law_sizes := F_law_sizes.binds (ps := ["_law_bag", "_law_mcasks", "_law_most"]) (fun _ _ _ _ _ _ us hl => match us, hl with | [_, _, _], _ => rfl),
    a_law_any_sizes := (He.ga K "_law_any_sizes"),
    fd_law_any_sizes := fd_law_any_sizes,
    F_law_any_sizes := F_law_any_sizes,
    g_law_any_sizes := He.glo_ok X G (c.t.d.fact 12 (f := .glo "_law_any_sizes") rfl),
    b_law_any_sizes := F_law_any_sizes.binds (ps := ["_law_bag"]) (fun _ _ _ _ _ _ us hl => match us, hl with | [_], _ => rfl),
    a_law_flaw := (He.ga K "_law_flaw"),
    fd_law_flaw := fd_law_flaw,
    F_law_flaw := F_law_flaw,
    g_law_flaw := He.glo_ok X G (c.t.d.fact 13 (f := .glo "_law_flaw") rfl),
    b_law_flaw := F_law_flaw.binds (ps := ["_law_row"]) (fun _ _ _ _ _ _ us hl => match us, hl with | [_], _ => rfl),
    a_law_told := (He.ga K "_law_told"),
    fd_law_told := fd_law_told,
    F_law_told := F_law_told,
    g_law_told := He.glo_ok X G (c.t.d.fact 14 (f := .glo "_law_told") rfl),
    b_law_told := F_law_told.binds (ps := ["_law_ask"]) (fun _ _ _ _ _ _ us hl => match us, hl with | [_], _ => rfl),
    a_law := (He.ga K "law"),
    fd_law := fd_law,
    F_law := F_law,
    g_law := He.glo_ok X G (c.t.d.fact 15 (f := .glo "law") rfl),
    b_law := F_law.binds (ps := ["_law_script"]) (fun _ _ _ _ _ _ us hl => match us, hl with | [_], _ => rfl),
    kt := kt_by x0,
    kl := kl_by x1,
    m_enumerate := He.free_ok X G (c.t.d.fact 16 (f := .free "enumerate") rfl),
    m_len := He.free_ok X G (c.t.d.fact 17 (f := .free "len") rfl),
    m_list := He.free_ok X G (c.t.d.fact 18 (f := .free "list") rfl),
    m_tuple := He.free_ok X G (c.t.d.fact 19 (f := .free "tuple") rfl),
    m_range := He.free_ok X G (c.t.d.fact 20 (f := .free "range") rfl),
    m_isinstance := He.free_ok X G (c.t.d.fact 21 (f := .free "isinstance") rfl),
    m_bool := He.free_ok X G (c.t.d.fact 22 (f := .free "bool") rfl),
    m_int := He.free_ok X G (c.t.d.fact 23 (f := .free "int") rfl),
    m_str := He.free_ok X G (c.t.d.fact 24 (f := .free "str") rfl),
    m_all := He.free_ok X G (c.t.d.fact 25 (f := .free "all") rfl),
    c_MOST_CASKS := He.int_ok X G (c.t.d.fact 26 (f := .int "MOST_CASKS" (6)) rfl),
    c_MOST_SIZE := He.int_ok X G (c.t.d.fact 27 (f := .int "MOST_SIZE" (40)) rfl),
    c_MOST_DROPS := He.int_ok X G (c.t.d.fact 28 (f := .int "MOST_DROPS" (60)) rfl),
    c_GONE := He.int_ok X G (c.t.d.fact 29 (f := .int "GONE" (-1)) rfl),
    C_BadSizes := He.ga K "BadSizes",
    g_BadSizes := He.glo_ok X G (c.t.d.fact 30 (f := .glo "BadSizes") rfl),
    o_BadSizes := W_BadSizes.o,
    f_BadSizes := W_BadSizes.f,
    fi_BadSizes := He.ma K (He.ga K "BadSizes") "__init__",
    fdi_BadSizes := fdi_BadSizes,
    Fi_BadSizes := Fi_BadSizes,
    ii_BadSizes := W_BadSizes.ii,
    ti_BadSizes := W_BadSizes.ti,
    bi_BadSizes := Fi_BadSizes.binds (ps := ["self", "cask"]) (fun _ _ _ _ _ _ us hl => match us, hl with | [_, _], _ => rfl),
    n_BadSizes_word := W_BadSizes.nf _ (List.mem_cons_self ..),
    n_BadSizes_cask := W_BadSizes.nf _ (List.mem_cons_of_mem _ (List.mem_cons_self ..)),
    e_BadSizes_BadSizes := He.exm_ok (c.t.d.fact 31 (f := .exm "BadSizes" "BadSizes" true) rfl),
    k_law := kc,
    P_law := (He.cT K ("law", none)).2,
    L_law := ⟨oc, od, kV, doc, pm, an, ct, osl, efd, lk, hcd⟩ }
  have hm : (("law", none) : He.Defn) ∈ htf := List.mem_cons_self ..
  have one : ∀ {q : Addr × Addr → Prop}, q (kc, (He.cT K ("law", none)).2) → ∀ p ∈ [(kc, (He.cT K ("law", none)).2)], q p := fun h p hp => by
    rcases List.mem_cons.mp hp with e | e
    · rw [e]; exact h
    · cases e
  have hhd : PySem.W.codeHdIn K kc (He.cT K ("law", none)).2 = true := by
    have z := c.hd _ hm
    rw [show (He.cT K ("law", none)).1 = kc from ec] at z
    exact z
  have bnd := F_law.binds (ps := ["_law_script"]) (fun _ _ _ _ _ _ us hl => match us, hl with | [_], _ => rfl)
  exact ⟨fd_law, [(kc, (He.cT K ("law", none)).2)], spLawT K (He.cT K ("law", none)).2, one (c.empty _ hm), one (c.out _ hm), one (PySem.W.codeHd_of_K X hhd), fun s v => by rw [efd]; exact .of_eq rfl, fun H a ns hl _ hH hS => ⟨a, ns, rfl, hS, hl, hH (kc, (He.cT K ("law", none)).2) (List.mem_cons_self ..), fun _ => rfl⟩, fun base _ _ TB => ok_law T (TB _ (List.mem_cons_self ..))⟩
end Lw
open PySem PySem.W PyProof.Rows
set_option maxHeartbeats 0 in
theorem PySem.Challenge.cw_hidelater_k01_sizes_judged_holds : PySem.Challenge.rw_hidelater_k01_sizes_judged.Holds := by
  w_on; o_law
  refine HandSHeadRun.head_any (r := OpenLaw.row PySem.Challenge.rw_hidelater_k01_sizes_judged) (q := view (OpenLaw.row PySem.Challenge.rw_hidelater_k01_sizes_judged).prog [105]) (H := Lw.hk) (ob := Lw.hob) (M := 15000) (loose := Lw.hnames) (d := HandSHeadRun.topDef (OpenLaw.row PySem.Challenge.rw_hidelater_k01_sizes_judged).prog 105) (kwd := []) Lw.hob_eq
    (by kernel_rfl) (fun s => by kernel_rfl) Lw.hrun (by kernel_rfl) (by kernel_rfl) (by kernel_rfl) (by rfl) (by first | assumption | decide +kernel) (by decide +kernel) ⟨rfl, rfl, rfl, rfl, rfl, by decide +kernel⟩ ?hw ?hc
  case hw => w_witness2
  case hc =>
    refine LamX.walk_ofTsE (l := PySem.Challenge.rw_hidelater_k01_sizes_judged) (n := 63) (k := 9) (x := "_law_script") (CX := fun _ => L2.CX0) rfl (by decide) (by kernel_rfl) ⟨rfl, by decide, by decide⟩ ?F (fun _ _ _ _ _ z => z)
    intro w mg fa h Y G hmg0
    obtain ⟨K, KX, c⟩ := Y
    have hmg : mg ("law" : PySem.Str) = some (.ref fa) := by
      have e : (HandSHeadRun.topDef (OpenLaw.row PySem.Challenge.rw_hidelater_k01_sizes_judged).prog 105).name = ("law" : PySem.Str) := by kernel_rfl
      rw [← e]
      exact hmg0
    exact ⟨K, KX, Lw.hfacts KX G hmg c⟩
