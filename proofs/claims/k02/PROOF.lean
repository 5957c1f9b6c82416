import PyProof.Rows.All
import Wide.All
import OpenK.AllK
import Wide.FinOn
import HandS.ForMost
import HandS.Walk
import HandS.Zip
import HandS.IsInst
import HandS.Wide
import HandS.TupAny
import HandS.TupMul
import HandS.SetFor
import PyProof.Draws
import KE.GoesMore
import KE.GoesEnum
import HandS.EndBits
import HandS.Flow
import HandS.Lambda
import HandS.TupLen
import HandS.Conv
import KE.KeyNested
import KE.KDictDisplayH
import HandS.EndTab
import HandS.Defaults
import HandS.Codes
import HandS.ExcInit
import HandS.ExcField
import HandS.TryMany
import HandS.ExcOwn
import HandS.WordsExc
import HandS.ExcIs
import PySem.Challenge.RW_hidelater_k02_counts_and_stands_judged
set_option Elab.async false
set_option linter.all false
set_option maxRecDepth 100000
set_option maxHeartbeats 4000000
/-! Tuples that are known to have no dict of their own; enumerate of a tuple; xs[i] op= e; t.count(k). -/
namespace TF
open PySem PySem.Spec PyProof.Rows L2
/-- a new tuple of xs, known to the object -/
def NewT (xs : List V) (H : Hp) (Q : VK) : Prop := ∀ (p : Addr) (o : Obj), H p = none → o.dict = none → Q (.ref p) (upd H p (.frz o (.tup xs)))
section
variable {X : Cx} {pins : List (Addr × Obj)} {σ : L2.St} {H : Hp} {s : Shared} {Q : VK}
theorem laidT {xs : List V} {us : List Value} {g : Heap} {tk : Nat} (J : Inv X pins σ H { s with heap := g }) (rel : Vals xs us) (small : xs.length ≤ sizeLine) (goal : NewT xs H Q) :
    EP X pins σ Q (.ref g.objs.size) { s with heap := g.push { cls := .type "tuple", data := .seq us.toArray }, toks := tk } := by
  have got : (g.push { cls := .type "tuple", data := .seq us.toArray }).get? g.objs.size = some { cls := .type "tuple", data := .seq us.toArray } := Heap.get?_push_size _ rfl
  refine ⟨.ref g.objs.size, upd H g.objs.size (.frz { cls := .type "tuple", data := .seq us.toArray } (.tup xs)), ?_, rfl, goal _ _ (J.hok.fresh (Nat.le_refl _)) rfl⟩
  exact J.laid (t' := tk) (fun _ _ old => Heap.get?_push_of_some _ old) (Nat.le_refl _) ⟨got, small, us, rel, _, got, rfl, _, rfl⟩
end
section
variable {X : Cx} {es : List Expr} {t : TA} {pos : Pos}
def tTupF (t : TA) : TE := fun σ H Q => t σ H fun xs H1 => xs.length ≤ sizeLine ∧ NewT xs H1 Q
theorem pe_tupF {x1} (h : PA X es t) : PE X (.Tuple es x1 pos) (tTupF t) :=
  ⟨fun pins s σ H Q I hq => wpAny_Tuple_spliced (thn (h.run pos pins s σ H _ I hq) fun us s1 ⟨xs, H1, I1, r, z, q⟩ => ⟨r.length ▸ z, laidT (tk := s1.toks) I1 r z q⟩)⟩
/-- tuple(list), tuple(tuple) -/
def rTupleF (K : PySem.W.Frag) : List V → Hp → VK → Prop := fun xs H Q => ∃ p ys, xs = [.ref p] ∧ ((SqL K H p ys ∧ NewT ys H Q) ∨ (SqT K H p ys ∧ Q (.ref p) H))
theorem call_tupleF : CallR X (.type "tuple") (rTupleF X.K) := fun pins s σ H xs us Q I r ⟨p, ys, e, h⟩ => by
  subst e
  obtain ⟨u, rfl, ru⟩ := vals1 r
  obtain rfl : u = Value.ref p := ru
  rcases h with ⟨isl, q⟩ | ⟨ist, q⟩
  · obtain ⟨its, rel, pl, small⟩ := I.list isl
    exact call_tuple_list pl.isList (fun g kept => laidT (tk := s.toks) (I.kept (t' := s.toks) kept) rel small q) (by rw [List.size_toArray, ← rel.length]; exact small)
  · obtain ⟨its, rel, pt, _⟩ := I.tuple ist
    exact call_tuple_same pt ⟨.ref p, H, I, rfl, q⟩
/-- t + u -/
def rCatF (K : PySem.W.Frag) : R2 := fun x y H Q => ∃ a c xs ys, x = .ref a ∧ y = .ref c ∧ SqT K H a xs ∧ SqT K H c ys ∧ xs.length + ys.length ≤ sizeLine ∧ (xs = [] → Q (.ref c) H) ∧ (xs ≠ [] → ys = [] → Q (.ref a) H) ∧ (xs ≠ [] → ys ≠ [] → NewT (xs ++ ys) H Q)
theorem op_catF : OpR X (binaryOp .Add) (rCatF X.K) := fun pins s σ H x y v u Q I rx ry ⟨a, c, xs, ys, ex, ey, ha, hc, small, q0, q1, q2⟩ => by
  subst ex ey
  obtain rfl : v = Value.ref a := rx
  obtain rfl : u = Value.ref c := ry
  obtain ⟨vs, rel1, pt1, _⟩ := I.tuple ha
  obtain ⟨ws, rel2, pt2, _⟩ := I.tuple hc
  by_cases hx : xs = []
  · subst hx
    cases rel1
    exact cat_tup0 pt1 pt2 ⟨.ref c, H, I, rfl, q0 rfl⟩
  · have n1 := rel1.nil_iff
    have n2 := rel2.nil_iff
    exact HT.cat_tup pt1 pt2 (fun z => hx (n1.mp z)) (fun z => ⟨.ref a, H, I, rfl, q1 hx (n2.mp z)⟩) (fun z => laidT (tk := s.toks) I (rel1.append rel2) (by rw [List.length_append]; exact small) (q2 hx fun zz => z (n2.mpr zz))) (by rw [← rel1.length, ← rel2.length]; exact small)
/-- t[lo:hi] -/
def rSlF (K : PySem.W.Frag) : V → Option Int → Option Int → Hp → VK → Prop := fun x lo hi H Q => ∃ a xs, x = .ref a ∧ SqT K H a xs ∧
  (HT.sIx xs.length 0 lo = 0 ∧ HT.sIx xs.length xs.length hi = xs.length → Q (.ref a) H) ∧ (¬ (HT.sIx xs.length 0 lo = 0 ∧ HT.sIx xs.length xs.length hi = xs.length) → NewT (cutV xs lo hi) H Q)
theorem sl_tupF : SlR X (rSlF X.K) := fun pins s σ H x v vl vu lo hi sl Q I rx hs pl pu ⟨a, xs, ex, ha, q1, q2⟩ => by
  subst ex
  obtain rfl : v = Value.ref a := rx
  obtain ⟨vs, rel, pt, small⟩ := I.tuple ha
  have size : vs.toArray.size = xs.length := by rw [List.size_toArray, rel.length]
  refine ⟨"tuple", _, PyProof.Rows.slot_tuple_getitem.lookup, pt.typeIs, ?_⟩
  by_cases hw : HT.sIx xs.length 0 lo = 0 ∧ HT.sIx xs.length xs.length hi = xs.length
  · exact getItem_tuple_whole pt hs pl pu (by rw [size]; exact hw) ⟨.ref a, H, I, rfl, q1 hw⟩
  · refine HT.getItem_tuple_cut pt hs pl pu (by rw [size]; exact hw) ?_ (by rw [size]; exact small)
    rw [size]
    exact laidT (tk := s.toks) I ((rel.drop _).take _) (Nat.le_trans (cutV_length xs lo hi) small) (q2 hw)
end
/-! ### xs[i] op= e -/
section
variable {X : Cx}
def rGetL (K : PySem.W.Frag) : V → V → Hp → VK → Prop := fun o i H Q => ∃ p xs k v, o = .ref p ∧ i = .int k ∧ SqL K H p xs ∧ 0 ≤ k ∧ xs[k.toNat]? = some v ∧ Q v H
theorem get_list : PGet X (rGetL X.K) := fun pins s σ H o i ov iv Q I ro ri ⟨p, xs, k, v, eo, ei, hl, k0, hv, q⟩ => by
  subst eo ei
  obtain rfl : ov = Value.ref p := ro
  obtain ⟨tk, rfl⟩ := ri
  obtain ⟨us, rel, pl, small⟩ := I.list hl
  obtain ⟨u, hu, ru⟩ := rel.get hv
  have lt : k.toNat < xs.length := (List.getElem?_eq_some_iff.mp hv).1
  have big := line63
  exact wpAny_getItem_list pl.isList k0 (by omega) (by simpa using hu) ⟨v, H, I, ru, q⟩
end
/-! ### t.count(k) -/
section
variable {X : Cx} {o e : Expr} {to te : TE} {apos cpos : Pos}
/-- the object at a has no dict of its own -/
def Nd (K : PySem.W.Frag) (H : Hp) (a : Addr) : Prop := (∃ ob u, H a = some (.frz ob u) ∧ ob.dict = none) ∨ ∃ o, K.lookup a = some o ∧ o.dict = none
def tCount (K : PySem.W.Frag) (to te : TE) : TE := fun σ H Q => to σ H fun x H1 => ∃ (a : Addr) (ns : List Int), x = .ref a ∧ SqT K H1 a (ns.map V.int) ∧ Nd K H1 a ∧
  tCons te tNil σ H1 fun ys H2 => ∃ k : Int, ys = [.int k] ∧ SqT K H2 a (ns.map V.int) ∧ Q (.int (ns.count k : Nat)) H2
theorem count_T {pins : List (Addr × Obj)} {σ : L2.St} {H : Hp} {s : Shared} {a : Addr} {ns : List Int} {k : Int} {tk : Tok} {Q : VK} (I : Inv X pins σ H s) (ha : SqT X.K H a (ns.map V.int)) (q : Q (.int (ns.count k : Nat)) H) :
    wpAny (model X.prog X.w) X.A (call (.builtin "tuple.count") [.ref a, .int k tk]) (EP X pins σ Q) X.xe s := by
  obtain ⟨us, rel, ⟨⟨c, dd, dt, sl⟩, got', cls, n, dat⟩, _⟩ := I.tuple ha
  simp only at cls dat
  subst cls dat
  have isI := ints_of_vals rel
  refine call_meets PySem.F.slot_tuple_count ⟨_, got', rfl⟩ PySem.F.entry_tuple_count (PySem.F.args_tuple_count_2 _ _) (SeqAt.tuple_countAt a us.toArray n dd sl (.int k tk) (eqk k)) ⟨got', fun y hy => (eqk_gives isI y (by simpa using hy)).at _ _, ?_⟩
  have cnt : us.toArray.toList.countP (eqk k) = ns.count k := eqk_count isI
  rw [cnt]
  exact ⟨.int _, H, I.tok _, ⟨_, rfl⟩, q⟩
theorem pe_count (ho : PE X o to) (he : PE X e te) (hbase : attributeBase o "count" X.env (eval o X.env) = eval o X.env := by rfl) (hline : (apos.endLine == cpos.line) = true := by rfl)
    (few : ((backTo cpos (starEach [e] X.env)).all (fun x => !x.1) && (backToKw cpos (keywordEach [] X.env)).all (fun x => x.1.isSome) && decide ([e].length + ([] : List Keyword).length + (if ([] : List Keyword).isEmpty then 0 else 1) < 30)) = true := by rfl)
    (one : starEach [e] X.env = [(false, eval e X.env)] := by rfl) : PE X (.Call (.Attribute o "count" apos) [e] [] cpos) (tCount X.K to te) := by
  refine ⟨fun pins s σ H Q I h => wpAny_Call_method_late hbase few hline rfl (thn (ho.run pins s σ H _ I h) ?_)⟩
  rintro v s1 ⟨x, H1, I1, r1, a, ns, ex, ha, hdn, h1⟩
  subst ex
  obtain rfl : v = Value.ref a := r1
  obtain ⟨us, rel, ⟨o', got', cls, _⟩, _⟩ := I1.tuple ha
  refine ⟨"tuple", "tuple.count", PySem.F.plainAttrs_tuple, PySem.F.slot_tuple_count, PySem.F.type_tuple_count, ⟨o', got', cls⟩, fun b eb => ?_, ?_⟩
  · cases eb
    rcases hdn with ⟨ob, u, hob, hdn⟩ | ⟨ob, hob, hdn⟩
    · obtain ⟨got, _⟩ := I1.hok a _ hob
      exact ⟨ob, got, hdn⟩
    · exact ⟨ob, I1.kIn a ob hob, hdn⟩
  · have args : PA X [e] (tCons te tNil) := pa_cons he pa_nil one
    have run := args.run cpos pins s1 σ H1 (fun xs H2 => ∃ k : Int, xs = [.int k] ∧ SqT X.K H2 a (ns.map V.int) ∧ Q (.int (ns.count k : Nat)) H2) I1 h1
    rw [one] at run ⊢
    refine Calls.callWith_builtin rfl (Calls.evalArgs_plain (thn run ?_))
    rintro ws s2 ⟨xs, H2, I2, r2, k, exs, ha2, q⟩
    subst exs
    obtain ⟨u, rfl, ru⟩ := vals1 r2
    obtain ⟨tk, rfl⟩ := ru
    exact count_T I2 ha2 q
end
/-! ### enumerate(tuple) -/
def IteT (K : PySem.W.Frag) (a : Addr) : It :=
  ⟨fun i H => ∃ (xs : List V) (x : V), SqT K H a xs ∧ xs[i]? = some x, fun i H v H' => ∃ T x, v = .ref T ∧ H T = none ∧ H' = upd H T (.tup [.int (i : Nat), x]) ∧ ∀ xs, SqT K H a xs → xs[i]? = some x, fun i H => ∃ xs : List V, SqT K H a xs ∧ xs.length ≤ i⟩
theorem meets_enum1 {v : Value} {o : Obj} {S : Heap → Prop} (B : Begins v o S) : Meets (Builtin.«enumerate.__new__» ⟨[.type "enumerate", v], []⟩) (fun _ R s => S s.heap ∧
    R (.ok (.ret (.ref (s.heap.push o).objs.size))) { s with heap := (s.heap.push o).push { cls := .type "enumerate", data := .fields #[.none, .bool false, .ref s.heap.objs.size, rawInt 0, .none, .none] } }) :=
  .of_wp fun prog w A R s h => by
    obtain ⟨hp, g, d, tk, os⟩ := s
    obtain ⟨h1, h⟩ := h
    have sub := sub_enumerate
    have begin_ : ∀ {A' : Around} {E : Value → Shared → Prop} {Q : Value → Shared → Prop}, Q (.ref hp.objs.size) ⟨hp.push o, g, d, tk, os⟩ → wpAny (model prog w) A' (pyIter v) Q E ⟨hp, g, d, tk, os⟩ := fun q => B.iter prog w _ _ ⟨hp, g, d, tk, os⟩ _ h1 q
    wp_walk using begin_
    refine wpAny_stack_any fun st => wpAny_pure ?_
    split
    · rename_i c _ _ _ _ _
      cases (c == Value.type "enumerate") <;> (wp_walk using begin_; exact ⟨_, rfl, h⟩)
    · wp_walk using begin_
      exact ⟨_, rfl, h⟩
section
variable {prog : Program} {w : World} {A : Around} {E : Value → Shared → Prop} {s : Shared}
theorem call_enum1 {v : Value} {o : Obj} {S : Heap → Prop} {Q : Value → Shared → Prop} (B : Begins v o S) (h1 : S s.heap)
    (h : ∀ g, IsEnum g (s.heap.objs.size + 1) s.heap.objs.size 0 .none → g.get? s.heap.objs.size = some o → (∀ b u, s.heap.get? b = some u → g.get? b = some u) → Q (.ref (s.heap.objs.size + 1)) { s with heap := g }) :
    wpAny (model prog w) A (call (.type "enumerate") [v]) Q E s := by
  have size : (s.heap.push o).objs.size = s.heap.objs.size + 1 := Heap.size_push ..
  have isE : IsEnum ((s.heap.push o).push { cls := .type "enumerate", data := .fields #[.none, .bool false, .ref s.heap.objs.size, rawInt 0, .none, .none] }) (s.heap.objs.size + 1) s.heap.objs.size 0 .none := by
    have z := Heap.get?_push_size (s.heap.push o) (o := { cls := .type "enumerate", data := .fields #[.none, .bool false, .ref s.heap.objs.size, rawInt 0, .none, .none] }) rfl
    rw [size] at z
    exact z
  refine callType_new F.called_enumerate (by decide) (F.typeCall_enumerate_1 _) (F.newCall_enumerate_1 _) (fun obj => F.args_object_init_2 obj _) F.entry_enumerate_new (meets_enum1 B) ⟨h1, ?_⟩
  show _ ∧ _
  rw [size]
  exact ⟨⟨_, isE, rfl⟩, h _ isE (Heap.get?_push_of_some _ (Heap.get?_push_size _ B.free)) fun b u x => Heap.get?_push_of_some _ (Heap.get?_push_of_some _ x)⟩
end
section
variable {prog : Program} {w : World} {A : Around} {E : Value → Shared → Prop} {s : Shared}
theorem end_enumT {e it a : Addr} {i : Nat} {k : Int} {items : Array Value} {old : Value} {Q : Option Value → Shared → Prop} (calm : A.handled = none) (isE : IsEnum s.heap e it k old) (itr : s.heap.IsTupleIter it a i) (isT : s.heap.IsTuple a items) (out : items[i]? = none)
    (hQ : ∀ g, Heap.ExtBut it s.heap g → Q none { s with heap := g }) : wpAny (model prog w) A (pyNext (.ref e)) Q E s := by
  have ty : s.TypeIs (.ref e) "enumerate" := ⟨_, isE, rfl⟩
  unfold pyNext
  refine wpAny_bind (wpAny_attempt (wpAny_callSpecial?_slot (name := Str.ofString "__next__") ty F.slot_enumerate_next (wpAny_call_entry F.slot_enumerate_next ty F.entry_enumerate_next ?_ (F.args_enumerate_next_1 _))))
  show wpAny _ _ (field (.ref e) 2 >>= _) _ _ _
  refine wpAny_bind (wpAny_field isE rfl (x := .ref it) rfl (wpAny_bind (wpAny_nextOf_tuple_end calm itr isT out ?_)))
  rintro g x kept ⟨o, got, cls⟩
  exact wpAny_bind (wpAny_isInstance (T := "StopIteration") (b := true) ⟨o, got, cls⟩ isSubtype_stop (wpAny_pure (hQ g kept)))
end
theorem turn_enumT {P : Program} {w : World} {K : PySem.W.Frag} {elts : List Expr} {kk : Nat} {tpos : Pos} (a e it : Addr) :
    Turn P w K (.Tuple elts kk tpos) (IteT K a) [e, it] e (fun i h => (∃ old, IsEnum h e it ((i : Nat) : Int) old) ∧ h.IsTupleIter it a i ∧ e ≠ it) where
  mem := List.mem_cons_self
  obj := by
    rintro i h ⟨⟨old, isE⟩, ⟨o, got, _, dat⟩, _⟩ b hb
    rcases List.mem_cons.mp hb with z | z
    · exact ⟨_, z ▸ isE, by intro v q; cases q⟩
    · cases List.mem_singleton.mp z
      exact ⟨o, got, fun v q => by rw [dat] at q; cases q⟩
  keep := by
    rintro i h h' ⟨⟨old, isE⟩, ⟨o, got, r⟩, ne⟩ k
    exact ⟨⟨old, k e List.mem_cons_self _ isE⟩, ⟨o, k it (List.mem_cons_of_mem _ List.mem_cons_self) _ got, r⟩, ne⟩
  item := by
    rintro X rfl rfl rfl calm i pins s σ H E I off ⟨⟨old, isE⟩, itr, ne⟩ ⟨xs, x, isT, hx⟩
    obtain ⟨us, rel, pt, small⟩ := I.tuple isT
    have lt : i < us.toArray.size := by
      rw [List.size_toArray, ← rel.length]
      exact (List.getElem?_eq_some_iff.mp hx).1
    have pt' : s.heap.IsTuple a us.toArray := pt
    obtain ⟨oT, gotT, clsT, _⟩ := id pt'
    obtain ⟨oI, gotI, clsI, _⟩ := id itr
    have nai : a ≠ it := fun z => by
      rw [z, gotI] at gotT
      cases gotT
      rw [clsI] at clsT
      exact absurd (Value.type.inj clsT) (by decide)
    have nea : e ≠ a := fun z => by
      have q : s.heap.get? a = _ := z ▸ isE
      rw [gotT] at q
      rw [Option.some.inj q] at clsT
      exact absurd (Value.type.inj clsT) (by decide)
    refine wpAny_pyNext_enum_itemD (Draws.tuple (A := X.A.in1) (I.ok.hd calm) it a nai us.toArray) isE ⟨itr, pt'⟩ lt ne (fun hm => ?_) fun u h1 tk hu out st1 gotN size kept => ?_
    · rcases List.mem_cons.mp hm with z | z
      · exact ne z
      · exact nea (List.mem_singleton.mp z)
    refine ⟨_, rfl, wpAny_letOwnedTupleGo_enum (s := { s with heap := h1, toks := tk + 1 }) out fun h2 isE2 same => ?_⟩
    obtain ⟨u', hu', ru'⟩ := rel.get hx
    have eu : u = u' := by
      have z : us[i]? = some u := by simpa using hu
      rw [hu'] at z
      exact (Option.some.inj z).symm
    subst eu
    have le : e < s.heap.objs.size := Heap.lt_size isE
    have li : it < s.heap.objs.size := Heap.lt_size gotI
    have gotN2 : h2.get? s.heap.objs.size = some { cls := .type "tuple", data := .seq #[.int i tk, u] } := (same.2 _ (Nat.ne_of_gt le)).trans gotN
    have new : ObjOk X.prog X.w (upd H s.heap.objs.size (.tup [.int (i : Nat), x])) h2 s.heap.objs.size (.tup [.int (i : Nat), x]) := ⟨by show 2 ≤ sizeLine; decide, [.int i tk, u], .cons ⟨_, rfl⟩ (.cons ru' .nil), ⟨_, gotN2, rfl, _, rfl⟩⟩
    have J : Inv X pins σ (upd H s.heap.objs.size (.tup [.int (i : Nat), x])) { s with heap := h2, toks := tk + 1 } :=
      I.turnedNew (ch := [e, it]) (fun b o hb q => (same.2 b (fun z => hb (by simp [z]))).trans (kept b o (fun z => hb (by simp [z])) (fun z => hb (by simp [z])) q)) off (Nat.le_refl _) new
    obtain ⟨⟨oJ, gotJ, rJ⟩, _⟩ := st1
    refine ⟨.ref s.heap.objs.size, _, J, rfl, ⟨_, x, rfl, I.hok.fresh (Nat.le_refl _), rfl, fun ys hy => by rw [I.tuple_inj hy isT]; exact hx⟩, ⟨⟨u, ?_⟩, ⟨oJ, (same.2 it (fun z => ne z.symm)).trans gotJ, rJ⟩, ne⟩, fun b hb => ?_⟩
    · rw [show ((i + 1 : Nat) : Int) = (i : Int) + 1 by omega]
      exact isE2
    · rw [upd_ne (fun z => ?_)]
      · exact (off b hb).1
      · rcases List.mem_cons.mp hb with q | q
        · exact absurd (z.symm.trans q) (Nat.ne_of_gt le)
        · exact absurd (z.symm.trans (List.mem_singleton.mp q)) (Nat.ne_of_gt li)
  done := by
    rintro X rfl rfl rfl calm i pins s σ H E I off ⟨⟨old, isE⟩, itr, ne⟩ ⟨xs, isT, hx⟩
    obtain ⟨us, rel, pt, small⟩ := I.tuple isT
    obtain ⟨f0, f1, f2, f3, f4, f5⟩ := off it (List.mem_cons_of_mem _ List.mem_cons_self)
    refine end_enumT (I.ok.hd calm) isE itr (show s.heap.IsTuple a us.toArray from pt) ?_ fun g kept => ⟨rfl, I.turned (t' := s.toks) (fun b o hb q => kept b o hb q) f0 f1 f3 f4 f5⟩
    have len := rel.length
    simp
    omega
  self := by
    rintro A i s Q E ⟨⟨_, isE⟩, _⟩ h
    exact wpAny_pyIter_enum isE h
def iEnumT (K : PySem.W.Frag) (ta : TA) : TI := fun σ H R => ta σ H fun vs H1 => ∃ a xs, vs = [.ref a] ∧ SqT K H1 a xs ∧ R (IteT K a) H1
theorem pi_enumT {X : Cx} {e : Expr} {ta : TA} {p pos tpos : Pos} {elts : List Expr} {kk : Nat} (hg : Gl X "enumerate") (hm : X.mg "enumerate" = none) (ha : PA X [e] ta) (one : starEach [e] X.env = [(false, eval e X.env)] := by rfl) :
    PI X (.Tuple elts kk tpos) (.Call (.Name "enumerate" p) [e] [] pos) (iEnumT X.K ta) := by
  refine ⟨fun pins s σ H R I h => Call_ (ld_blt I hg hm boot_enumerate (PyProof.Rows.callWith_type1 (thn (ha.run pos pins s σ H _ I h) ?_) one rfl))⟩
  rintro us s1 ⟨vs, H1, I1, r1, a, xs, rfl, isT, q⟩
  obtain ⟨u, rfl, ru⟩ := vals1 r1
  obtain rfl : u = Value.ref a := ru
  obtain ⟨ws, rel, pt, small⟩ := I1.tuple isT
  refine call_enum1 (begins_tuple a ws.toArray) pt fun g isE itr kept => wpAny_pyIter_enum isE ?_
  have J : Inv X pins σ H1 { s1 with heap := g } := I1.kept (t' := s1.toks) kept
  refine ⟨s1.heap.objs.size + 1, [s1.heap.objs.size + 1, s1.heap.objs.size], _, _, H1, rfl, J, turn_enumT a (s1.heap.objs.size + 1) s1.heap.objs.size, ⟨⟨.none, isE⟩, ⟨_, itr, rfl, rfl⟩, Nat.succ_ne_self _⟩, fun b hb => ?_, q⟩
  have ge : s1.heap.objs.size ≤ b := by
    rcases List.mem_cons.mp hb with z | z
    · rw [z]
      exact Nat.le_succ _
    · rw [List.mem_singleton.mp z]
      exact Nat.le_refl _
  exact I1.fpOk ge (I1.hok.fresh ge)
end TF

set_option Elab.async false
set_option linter.all false
set_option maxRecDepth 100000
set_option maxHeartbeats 4000000
namespace TF
open PySem PySem.Spec PyProof.Rows L2
theorem mul_0 (l : Addr) (items : Array Value) (n : Nat) (dd : Option Addr) (sl : Array (Option Value)) (x : Int) (u : Tok) (c0 : (decide (x < -(2 ^ 63)) || decide (x ≥ 2 ^ 63)) = false) (c1 : (items.isEmpty || x == 1) = false) (c2 : (decide (x ≤ 0) || items.isEmpty) = true) :
    Meets (Builtin.«tuple.__mul__» ⟨[.ref l, .int x u], []⟩) (fun _ R s => s.heap.get? l = some { cls := .type "tuple", dict := dd, data := .seq items n, slots := sl } ∧
      R (.ok (.ret (Value.ref s.heap.objs.size))) { s with heap := s.heap.push { cls := Value.type "tuple", data := Data.seq #[] }, toks := s.toks }) :=
  .of_wp fun prog w A R s h => by
    obtain ⟨hp, g, d, tk, os⟩ := s
    obtain ⟨hl, h⟩ := h
    have idx := AutoSeq1.idx_int
    wp_walk using wpAny_loadPart' hl
    repeat (first
      | (refine wpAny_ite_false (decide_eq_false (by rw [c0]; exact Bool.false_ne_true)) ?_; wp_walk using wpAny_loadPart' hl)
      | (refine wpAny_ite_false (decide_eq_false (by rw [c1]; exact Bool.false_ne_true)) ?_; wp_walk using wpAny_loadPart' hl)
      | (refine wpAny_ite_true (decide_eq_true (by rw [c2])) ?_; wp_walk using wpAny_loadPart' hl))
    exact ⟨_, rfl, h⟩
theorem mul_1 (l : Addr) (items : Array Value) (n : Nat) (dd : Option Addr) (sl : Array (Option Value)) (x : Int) (u : Tok) (c0 : (decide (x < -(2 ^ 63)) || decide (x ≥ 2 ^ 63)) = false) (c1 : (items.isEmpty || x == 1) = true) :
    Meets (Builtin.«tuple.__mul__» ⟨[.ref l, .int x u], []⟩) (fun _ R s => s.heap.get? l = some { cls := .type "tuple", dict := dd, data := .seq items n, slots := sl } ∧ R (.ok (.ret (Value.ref l))) s) :=
  .of_wp fun prog w A R s h => by
    obtain ⟨hp, g, d, tk, os⟩ := s
    obtain ⟨hl, h⟩ := h
    have idx := AutoSeq1.idx_int
    wp_walk using wpAny_loadPart' hl
    repeat (first
      | (refine wpAny_ite_false (decide_eq_false (by rw [c0]; exact Bool.false_ne_true)) ?_; wp_walk using wpAny_loadPart' hl)
      | (refine wpAny_ite_true (decide_eq_true (by rw [c1])) ?_; wp_walk using wpAny_loadPart' hl))
    exact ⟨_, rfl, h⟩
def rRepF (K : PySem.W.Frag) : R2 := fun x y H Q => ∃ l k xs, x = .ref l ∧ y = .int k ∧ SqT K H l xs ∧ xs ≠ [] ∧ -1000 ≤ k ∧ k ≤ 1000 ∧ xs.length ≤ 1000 ∧ (k ≤ 0 → NewT [] H Q) ∧ (k = 1 → Q (.ref l) H) ∧ (2 ≤ k → NewT (List.replicate k.toNat xs).flatten H Q)
section
variable {X : Cx}
theorem op_repF : OpR X (binaryOp .Mult) (rRepF X.K) := fun pins s σ H x y v u Q I rx ry ⟨l, k, xs, ex, ey, isT, ne, k0, k1, small, q0, q1, q2⟩ => by
  subst ex ey
  obtain rfl : v = Value.ref l := rx
  obtain ⟨tk, rfl⟩ := ry
  obtain ⟨us, rel, ⟨⟨c, dd, dt, sl⟩, got, cls, n, dat⟩, _⟩ := I.tuple isT
  simp only at cls dat
  subst cls dat
  have len : us.length = xs.length := rel.length.symm
  have nonempty : us.toArray.isEmpty = false := by
    cases us with
    | nil => exact absurd (List.eq_nil_of_length_eq_zero len.symm) ne
    | cons _ _ => rfl
  have inside : (decide (k < -(2 ^ 63)) || decide (k ≥ 2 ^ 63)) = false := by
    rw [decide_eq_false (by omega), decide_eq_false (by omega), Bool.or_false]
  have go : ∀ {S : PySem.Spec}, Meets (Builtin.«tuple.__mul__» ⟨[.ref l, .int k tk], []⟩) S → S X.A (wants (EP X pins σ Q) X.xe) s → wpAny (model X.prog X.w) X.A (binaryOp .Mult (.ref l) (.int k tk)) (EP X pins σ Q) X.xe s := fun m h =>
    wpAny_binaryOp_repeat_ref (T := "tuple") (U := "int") (by decide) ⟨_, got, rfl⟩ (fun s' => typeIs_int s' k tk) noFill_tuple_mul F.fills_int_mul F.slot_int_rmul repeat_tuple F.slot_int_index.lookup
      (call_meets F.slot_int_rmul (typeIs_int s k tk) F.entry_int_rmul (F.args_int_rmul_2 _ _) (int_rmul_tuple k tk l us.toArray n dd sl) ⟨got, rfl, ⟨_, got, rfl⟩, call_meets F.slot_tuple_mul ⟨_, got, rfl⟩ F.entry_tuple_mul (F.args_tuple_mul_2 _ _) m h⟩)
  by_cases h1 : k = 1
  · exact go (mul_1 l us.toArray n dd sl k tk inside (by rw [h1, nonempty]; rfl)) ⟨got, ⟨.ref l, H, I, rfl, q1 h1⟩⟩
  · have one : (us.toArray.isEmpty || k == 1) = false := by
      rw [nonempty, Bool.false_or]
      exact beq_eq_false_iff_ne.mpr h1
    by_cases h0 : k ≤ 0
    · exact go (mul_0 l us.toArray n dd sl k tk inside one (by rw [decide_eq_true h0, Bool.true_or])) ⟨got, laidT (us := []) (tk := s.toks) I .nil (Nat.zero_le _) (q0 h0)⟩
    · have prod : ((us.toArray.size : Nat) : Int) * k ≤ 1000000 := by
        rw [List.size_toArray, len]
        have z : ((xs.length : Nat) : Int) * k ≤ 1000 * k := Int.mul_le_mul_of_nonneg_right (by omega) (by omega)
        omega
      have fits : (List.replicate k.toNat us).flatten.length ≤ 1000000 := by
        rw [PyProof.Rows.lm_len_rep_flat, len]
        have z : k.toNat * xs.length ≤ 1000 * 1000 := Nat.mul_le_mul (by omega) small
        omega
      have line : 1000000 ≤ sizeLine := by rw [sizeLine_eq]; decide
      refine go (tuple_mulW l us.toArray n dd sl k tk inside one (by rw [nonempty, Bool.or_false]; exact decide_eq_false (by omega)) (by omega) ?_ (by rw [size_rep, List.size_toArray]; exact Nat.le_trans fits line)) ⟨got, ?_⟩
      · unfold Builtin.Tuple.tupleTooMany
        rw [sizeLine_eq]
        exact decide_eq_false (by omega)
      · rw [size_rep]
        exact laidT (tk := s.toks) I (rel.rep k.toNat) (by rw [PyProof.Rows.lm_len_rep_flat, ← len]; rw [PyProof.Rows.lm_len_rep_flat] at fits; exact Nat.le_trans fits line) (q2 (by omega))
end
end TF

set_option Elab.async false
set_option linter.all false
set_option maxRecDepth 100000
set_option maxHeartbeats 4000000
/-! Dicts whose keys are numbers' tuples, nested or not, tracked by their one object. -/
namespace DK
open PySem PySem.Spec PyProof.Rows L2
mutual
def plainKey : NestedKey → Bool
  | .num _ => true
  | .tup ks => plainKeys ks
  | _ => false
def plainKeys : List NestedKey → Bool
  | [] => true
  | k :: ks => plainKey k && plainKeys ks
end
mutual
theorem hash_w (w w' : World) : ∀ k : NestedKey, plainKey k = true → k.hash w = k.hash w'
  | .num _, _ => rfl
  | .tup ks, h => by
    rw [plainKey] at h
    rw [NestedKey.hash, NestedKey.hash, hashes_w w w' ks h]
  | .none, h => by cases h
  | .text _, h => by cases h
theorem hashes_w (w w' : World) : ∀ ks : List NestedKey, plainKeys ks = true → NestedKey.hashes w ks = NestedKey.hashes w' ks
  | [], _ => rfl
  | k :: ks, h => by
    rw [plainKeys] at h
    obtain ⟨h1, h2⟩ := Bool.and_eq_true_iff.mp h
    rw [NestedKey.hashes, NestedKey.hashes, hash_w w w' k h1, hashes_w w w' ks h2]
end
mutual
def keyOf : PyData → Option NestedKey
  | .int i => some (.num i)
  | .tuple ds => match keysOf ds with
    | some ks => some (.tup ks)
    | none => none
  | _ => none
def keysOf : List PyData → Option (List NestedKey)
  | [] => some []
  | d :: ds => match keyOf d with
    | some k => match keysOf ds with
      | some ks => some (k :: ks)
      | none => none
    | none => none
end
mutual
theorem keyOf_plain : ∀ {d : PyData} {k : NestedKey}, keyOf d = some k → plainKey k = true
  | .int i, k, h => by
    rw [keyOf] at h
    cases h
    rfl
  | .tuple ds, k, h => by
    rw [keyOf] at h
    cases q : keysOf ds with
    | none => rw [q] at h; cases h
    | some ks =>
      rw [q] at h
      cases h
      rw [plainKey]
      exact keysOf_plain q
  | .none, k, h => by simp [keyOf] at h
  | .bool _, k, h => by simp [keyOf] at h
  | .str _, k, h => by simp [keyOf] at h
  | .list _, k, h => by simp [keyOf] at h
  | .dict _, k, h => by simp [keyOf] at h
theorem keysOf_plain : ∀ {ds : List PyData} {ks : List NestedKey}, keysOf ds = some ks → plainKeys ks = true
  | [], ks, h => by
    rw [keysOf] at h
    cases h
    rfl
  | d :: ds, ks, h => by
    rw [keysOf] at h
    cases q : keyOf d with
    | none => rw [q] at h; cases h
    | some k =>
      cases q2 : keysOf ds with
      | none => rw [q, q2] at h; cases h
      | some ks' =>
        rw [q, q2] at h
        cases h
        rw [plainKeys, keyOf_plain q, keysOf_plain q2]
        rfl
end
mutual
theorem keyOf_data : ∀ {d : PyData} {k : NestedKey}, keyOf d = some k → k.data = d
  | .int i, k, h => by
    rw [keyOf] at h
    cases h
    rfl
  | .tuple ds, k, h => by
    rw [keyOf] at h
    cases q : keysOf ds with
    | none => rw [q] at h; cases h
    | some ks =>
      rw [q] at h
      cases h
      rw [NestedKey.data, keysOf_data q]
  | .none, k, h => by simp [keyOf] at h
  | .bool _, k, h => by simp [keyOf] at h
  | .str _, k, h => by simp [keyOf] at h
  | .list _, k, h => by simp [keyOf] at h
  | .dict _, k, h => by simp [keyOf] at h
theorem keysOf_data : ∀ {ds : List PyData} {ks : List NestedKey}, keysOf ds = some ks → NestedKey.datas ks = ds
  | [], ks, h => by
    rw [keysOf] at h
    cases h
    rfl
  | d :: ds, ks, h => by
    rw [keysOf] at h
    cases q : keyOf d with
    | none => rw [q] at h; cases h
    | some k =>
      cases q2 : keysOf ds with
      | none => rw [q, q2] at h; cases h
      | some ks' =>
        rw [q, q2] at h
        cases h
        rw [NestedKey.datas, keyOf_data q, keysOf_data q2]
end
section
variable {X : Cx} {pins : List (Addr × Obj)} {σ : L2.St} {H : Hp} {s : Shared}
mutual
theorem dp_key (I : Inv X pins σ H s) : ∀ {d : PyData} {v : V} {u : Value} {k : NestedKey}, Dp X.K H v d → keyOf d = some k → RelV v u → NestedIs s.heap k u
  | .int i, _, _, _, .int _, h, r => by
    rw [keyOf] at h
    cases h
    obtain ⟨t, rfl⟩ := r
    exact .int i t
  | .tuple ds, _, _, k, .tup hs hd, h, r => by
    rw [keyOf] at h
    cases q : keysOf ds with
    | none => rw [q] at h; cases h
    | some ks =>
      rw [q] at h
      cases h
      obtain ⟨its, rv, ⟨o, e, c, n, hdat⟩, _⟩ := I.tuple hs
      cases r
      exact .tup e c hdat (by simpa using dpa_key I hd q rv)
  | .none, _, _, _, _, h, _ => by simp [keyOf] at h
  | .bool _, _, _, _, _, h, _ => by simp [keyOf] at h
  | .str _, _, _, _, _, h, _ => by simp [keyOf] at h
  | .list _, _, _, _, _, h, _ => by simp [keyOf] at h
  | .dict _, _, _, _, _, h, _ => by simp [keyOf] at h
theorem dpa_key (I : Inv X pins σ H s) : ∀ {ds : List PyData} {vs : List V} {us : List Value} {ks : List NestedKey}, DpAll X.K H vs ds → keysOf ds = some ks → Vals vs us → NestedAll s.heap ks us
  | [], _, _, ks, .nil, h, .nil => by
    rw [keysOf] at h
    cases h
    exact .nil
  | d :: ds, _, _, ks, .cons hd ht, h, .cons r rt => by
    rw [keysOf] at h
    cases q : keyOf d with
    | none => rw [q] at h; cases h
    | some k =>
      cases q2 : keysOf ds with
      | none => rw [q, q2] at h; cases h
      | some ks' =>
        rw [q, q2] at h
        cases h
        exact .cons (dp_key I hd q r) (dpa_key I ht q2 rt)
end
end
/-! ### the dict's object -/
abbrev Ent := NestedKey × Addr × V
def REnt (p : Ent) (q : NestedKey × Addr × Value) : Prop := p.1 = q.1 ∧ p.2.1 = q.2.1 ∧ RelV p.2.2 q.2.2
def dctP (a : Addr) (es : List Ent) (h : Heap) : Prop := (es.length ≤ sizeLine ∧ (a == sysModules) = false ∧ ∀ e ∈ es, plainKey e.1 = true ∧ e.1.depth ≤ 8) ∧
  ∃ xs, Paired REnt es xs ∧ ∃ o ds ep, h.get? a = some o ∧ o.ExactDict ∧ o.data = .dict ds ep ∧ (∀ (P : Program) (w : World), ds.toList = xs.map (entryOfKey (nestedKind P w))) ∧ (xs.map (·.1)).Nodup
def dctO (a : Addr) (es : List Ent) : HO := .ext (dctP a es)
theorem dct_ok {P : Program} {w : World} {H : Hp} {h : Heap} {a : Addr} {es : List Ent} (x : dctP a es h) : ObjOk P w H h a (dctO a es) := by
  refine ⟨x, ?_, fun h1 h2 x1 k => ?_⟩
  · obtain ⟨_, xs, _, o, ds, ep, e, _⟩ := x
    exact ⟨o, e⟩
  · obtain ⟨z, xs, r, o, ds, ep, e, c⟩ := x1
    exact ⟨z, xs, r, o, ds, ep, k o e, c⟩
theorem dct_of {P : Program} {w : World} {H : Hp} {h : Heap} {a : Addr} {es : List Ent} (ok : HOk P w H h) (e : H a = some (dctO a es)) : dctP a es h := (ok a _ e).1
/-- the keys are known -/
def KeysOk (K : PySem.W.Frag) (H : Hp) (es : List Ent) : Prop := ∀ e ∈ es, ∃ d, keyOf d = some e.1 ∧ Dp K H (.ref e.2.1) d
theorem paired_memR {α β : Type} {F : α → β → Prop} : ∀ {l : List α} {m : List β}, Paired F l m → ∀ y ∈ m, ∃ x ∈ l, F x y
  | _, _, .nil, _, h => by cases h
  | _, _, .cons r t, y, h => by
    rcases List.mem_cons.mp h with e | e
    · exact ⟨_, List.mem_cons_self .., e ▸ r⟩
    · obtain ⟨x, hx, hf⟩ := paired_memR t y e
      exact ⟨x, List.mem_cons_of_mem _ hx, hf⟩
theorem dct_dd {X : Cx} {pins : List (Addr × Obj)} {σ : L2.St} {H : Hp} {s : Shared} {a : Addr} {es : List Ent} (I : Inv X pins σ H s) (e : H a = some (dctO a es)) (hk : KeysOk X.K H es) :
    ∃ xs, Paired REnt es xs ∧ s.heap.DictOfH (nestedKind X.prog X.w) a xs := by
  obtain ⟨⟨_, _, pk⟩, xs, r, o, ds, ep, ho, hc, hd, he, hn⟩ := dct_of I.hok e
  refine ⟨xs, r, o, ds, ep, ho, hc, hd, he _ _, fun x hx => ?_, hn⟩
  obtain ⟨p, hp, e1, e2, _⟩ := paired_memR r x hx
  obtain ⟨d, hd1, hd2⟩ := hk p hp
  rw [← e1, ← e2]
  exact ⟨dp_key I hd2 hd1 rfl, (pk p hp).2⟩
def atE (es : List Ent) (k : NestedKey) : Option V := (es.find? fun e => decide (e.1 = k)).map (·.2.2)
theorem atE_rel {es : List Ent} {xs : List (NestedKey × Addr × Value)} (r : Paired REnt es xs) (k : NestedKey) : RelO (atE es k) ((atKey xs k).map (·.2)) := by
  unfold atE atKey
  induction r with
  | nil => exact True.intro
  | @cons p q ps qs h t ih =>
    obtain ⟨h1, h2, h3⟩ := h
    by_cases z : p.1 = k
    · rw [List.find?_cons_of_pos (by simpa using z), List.find?_cons_of_pos (by simpa using h1.symm.trans z)]
      exact h3
    · rw [List.find?_cons_of_neg (by simpa using z), List.find?_cons_of_neg (by simpa using fun y => z (h1.trans y))]
      exact ih
def putE (es : List Ent) (k : NestedKey) (b : Addr) (v : V) : List Ent := if (atE es k).isSome = true then es.map (fun e => if e.1 = k then (e.1, e.2.1, v) else e) else es ++ [(k, b, v)]
theorem paired_app {α β : Type} {F : α → β → Prop} : ∀ {l l' : List α} {m m' : List β}, Paired F l m → Paired F l' m' → Paired F (l ++ l') (m ++ m')
  | _, _, _, _, .nil, r => r
  | _, _, _, _, .cons q t, r => .cons q (paired_app t r)
theorem putE_rel {es : List Ent} {xs : List (NestedKey × Addr × Value)} (r : Paired REnt es xs) (k : NestedKey) (b : Addr) {v : V} {u : Value} (rv : RelV v u) : Paired REnt (putE es k b v) (storedH xs k b u) := by
  have q := (atE_rel r k).isSome_eq
  rw [Option.isSome_map] at q
  unfold putE storedH
  rw [q]
  clear q
  split
  · rename_i zz
    clear zz
    induction r with
    | nil => exact .nil
    | @cons p q ps qs h t ih =>
      rw [List.map_cons, List.map_cons]
      refine .cons ?_ ih
      obtain ⟨h1, h2, h3⟩ := h
      unfold putAt
      by_cases z : p.1 = k
      · rw [if_pos z, if_pos (h1.symm.trans z)]
        exact ⟨h1, h2, rv⟩
      · rw [if_neg z, if_neg (fun y => z (h1.trans y))]
        exact ⟨h1, h2, h3⟩
  · exact paired_app r (.cons ⟨rfl, rfl, rv⟩ .nil)
theorem putE_len {es : List Ent} {k : NestedKey} {b : Addr} {v : V} : (putE es k b v).length ≤ es.length + 1 := by
  unfold putE
  split
  · rw [List.length_map]; omega
  · simp
theorem putE_key {es : List Ent} {k : NestedKey} {b : Addr} {v : V} {p : NestedKey → Prop} (h : ∀ e ∈ es, p e.1) (hk : p k) : ∀ e ∈ putE es k b v, p e.1 := fun e he => by
  unfold putE at he
  split at he
  · obtain ⟨x, hx, rfl⟩ := List.mem_map.mp he
    split
    · exact h x hx
    · exact h x hx
  · rcases List.mem_append.mp he with z | z
    · exact h e z
    · rw [List.mem_singleton] at z
      rw [z]; exact hk
theorem entry_w {xs : List (NestedKey × Addr × Value)} {P P' : Program} {w w' : World} (h : ∀ x ∈ xs, plainKey x.1 = true) : xs.map (entryOfKey (nestedKind P w)) = xs.map (entryOfKey (nestedKind P' w')) :=
  List.map_congr_left fun x hx => by
    show (⟨x.1.hash w, _, _⟩ : DictEntry) = ⟨x.1.hash w', _, _⟩
    rw [hash_w w w' _ (h x hx)]
theorem dct_new {X : Cx} {h : Heap} {a : Addr} {es : List Ent} {xs : List (NestedKey × Addr × Value)} (hl : es.length ≤ sizeLine) (hs : (a == sysModules) = false) (pk : ∀ e ∈ es, plainKey e.1 = true ∧ e.1.depth ≤ 8) (r : Paired REnt es xs) (dd : h.DictOfH (nestedKind X.prog X.w) a xs) : dctP a es h := by
  obtain ⟨o, ds, ep, ho, hc, hd, he, _, hn⟩ := dd
  refine ⟨⟨hl, hs, pk⟩, xs, r, o, ds, ep, ho, hc, hd, fun P w => ?_, hn⟩
  rw [he]
  refine entry_w fun x hx => ?_
  obtain ⟨p, hp, e1, _⟩ := paired_memR r x hx
  rw [← e1]
  exact (pk p hp).1
theorem room8 {A : Around} (hu : A.units + 64 < cLine) {P : Program} {w : World} : (nestedKind P w).room A.in1 := by
  show A.units + 1 + 8 < cLine
  omega
theorem room8' {A : Around} (hu : A.units + 64 < cLine) {P : Program} {w : World} : (nestedKind P w).room A := by
  show A.units + 8 < cLine
  omega
/-! ### rules -/
/-- x is a key -/
def KeyV (K : PySem.W.Frag) (H : Hp) (x : V) (b : Addr) (k : NestedKey) : Prop := x = .ref b ∧ k.depth ≤ 8 ∧ ∃ d, keyOf d = some k ∧ Dp K H x d
theorem keyV_is {X : Cx} {pins : List (Addr × Obj)} {σ : L2.St} {H : Hp} {s : Shared} {x : V} {b : Addr} {k : NestedKey} {u : Value} (I : Inv X pins σ H s) (h : KeyV X.K H x b k) (r : RelV x u) : u = .ref b ∧ (nestedKind X.prog X.w).is s.heap k b := by
  obtain ⟨rfl, hd, d, h1, h2⟩ := h
  obtain rfl : u = .ref b := r
  exact ⟨rfl, dp_key I h2 h1 rfl, hd⟩
def rDIn (K : PySem.W.Frag) (neg : Bool) : R2 := fun x y H Q => ∃ b k d es, KeyV K H x b k ∧ y = .ref d ∧ H d = some (dctO d es) ∧ KeysOk K H es ∧ Q (.bl (if neg then !(atE es k).isSome else (atE es k).isSome)) H
def rDIx (K : PySem.W.Frag) : R2 := fun x y H Q => ∃ b k d es v, KeyV K H y b k ∧ x = .ref d ∧ H d = some (dctO d es) ∧ KeysOk K H es ∧ atE es k = some v ∧ Q v H
def rDSet (K : PySem.W.Frag) : V → V → V → Hp → (Hp → Prop) → Prop := fun o i v H Q => ∃ b k d es, KeyV K H i b k ∧ plainKey k = true ∧ o = .ref d ∧ H d = some (dctO d es) ∧ KeysOk K H es ∧ es.length < sizeLine ∧ Q (upd H d (dctO d (putE es k b v)))
def rDLen (K : PySem.W.Frag) : List V → Hp → VK → Prop := fun vs H Q => ∃ d es, vs = [.ref d] ∧ H d = some (dctO d es) ∧ KeysOk K H es ∧ Q (.int (es.length : Int)) H
def rDList (K : PySem.W.Frag) : List V → Hp → VK → Prop := fun vs H Q => ∃ d es, vs = [.ref d] ∧ H d = some (dctO d es) ∧ KeysOk K H es ∧ ∀ p, H p = none → Q (.ref p) (upd H p (.lst (es.map fun e => V.ref e.2.1)))
def tDNew : TE := fun _ H Q => ∀ p, H p = none → Q (.ref p) (upd H p (dctO p []))
section
variable {X : Cx}
theorem op_din (hu : X.A.units + 64 < cLine) : OpR X (compareOp .In) (rDIn X.K false) := fun pins s σ H x y v u Q I rx ry h => by
  obtain ⟨b, k, d, es, hk, rfl, hd, ko, q⟩ := h
  obtain ⟨rfl, is⟩ := keyV_is I hk rx
  obtain rfl : u = .ref d := ry
  obtain ⟨xs, r, dd⟩ := dct_dd I hd ko
  refine wpAny_in_heap (room8 hu) is (dct_of I.hok hd).1.2.1 dd ?_
  have e := (atE_rel r k).isSome_eq
  rw [Option.isSome_map] at e
  rw [← e]
  exact ⟨.bl (atE es k).isSome, H, I.tok _, rfl, q⟩
theorem op_dnotin (hu : X.A.units + 64 < cLine) : OpR X (compareOp .NotIn) (rDIn X.K true) := fun pins s σ H x y v u Q I rx ry h => by
  obtain ⟨b, k, d, es, hk, rfl, hd, ko, q⟩ := h
  obtain ⟨rfl, is⟩ := keyV_is I hk rx
  obtain rfl : u = .ref d := ry
  obtain ⟨xs, r, dd⟩ := dct_dd I hd ko
  refine wpAny_notIn_heap (room8 hu) is (dct_of I.hok hd).1.2.1 dd ?_
  have e := (atE_rel r k).isSome_eq
  rw [Option.isSome_map] at e
  rw [← e]
  exact ⟨.bl (!(atE es k).isSome), H, I.tok _, rfl, q⟩
theorem ix_dct (hu : X.A.units + 64 < cLine) : IxR X (rDIx X.K) := fun value slice pins s σ H x y v u Q I rx ry h hs => by
  obtain ⟨b, k, d, es, z, hk, rfl, hd, ko, hz, q⟩ := h
  obtain ⟨rfl, is⟩ := keyV_is I hk ry
  obtain rfl : v = .ref d := rx
  obtain ⟨xs, r, dd⟩ := dct_dd I hd ko
  obtain ⟨w', hw, rw'⟩ := RelO.some_of (v := z) (o := (atKey xs k).map (·.2)) (by rw [← hz]; exact atE_rel r k)
  obtain ⟨p, hp, hp2⟩ := Option.map_eq_some_iff.mp hw
  refine tail_any dd.typeIs slot_dict_getitem.lookup (wpAny_getItem_heap (room8 hu) is dd hp ?_) hs
  rw [hp2]
  exact ⟨z, H, I.tok _, rw', q⟩
theorem set_dct (hu : X.A.units + 64 < cLine) : PSet X (rDSet X.K) := by
  intro pins s σ H o i v ov iv u Q I ro ri rv h
  obtain ⟨b, k, d, es, hk, pk, rfl, hd, ko, hl, q⟩ := h
  have hdep := hk.2.1
  obtain ⟨rfl, is⟩ := keyV_is I hk ri
  obtain rfl : ov = .ref d := ro
  obtain ⟨⟨z, hs, pks⟩, _⟩ := dct_of I.hok hd
  obtain ⟨xs, r, dd⟩ := dct_dd I hd ko
  have hz : xs.length ≤ sizeLine := by rw [← Paired.length r]; exact z
  refine wpAny_setItem_heap (hsz := hz) (room8 hu) is dd fun h' dd' hsb => ?_
  have hP : dctP d (putE es k b v) h' := dct_new (X := X) (by have := putE_len (es := es) (k := k) (b := b) (v := v); omega) hs (putE_key (p := fun k => plainKey k = true ∧ k.depth ≤ 8) pks ⟨pk, hdep⟩) (putE_rel r k b rv) dd'
  obtain ⟨oo, _, _, hoo, _⟩ := dd'
  exact ⟨_, d_write I (by rw [hd]; exact True.intro) hsb ⟨oo, hoo⟩ (dct_ok hP), q⟩
theorem call_lenDct : CallR X (.builtin "len") (rDLen X.K) := by
  intro pins s σ H xs us Q I r h
  obtain ⟨d, es, rfl, hd, ko, q⟩ := h
  obtain ⟨u, rfl, rx⟩ := vals1 r
  obtain rfl : u = .ref d := rx
  obtain ⟨⟨z, hs, _⟩, _⟩ := dct_of I.hok hd
  obtain ⟨ys, rel, dd⟩ := dct_dd I hd ko
  have hl : es.length = ys.length := Paired.length rel
  refine call_len_dictH hs dd (by rw [← hl]; rw [sizeLine_eq] at z; omega) ?_
  rw [← hl]
  exact ⟨.int (es.length : Int), H, I.tok _, ⟨_, rfl⟩, q⟩
theorem ent_refs : ∀ {kvs : List Ent} {ks : List (NestedKey × Addr × Value)}, Paired REnt kvs ks → (kvs.map fun e => V.ref e.2.1) = (ks.map fun x => x.2.1).map V.ref
  | _, _, .nil => rfl
  | _, _, .cons h t => by
    rw [List.map_cons, List.map_cons, List.map_cons, h.2.1, ent_refs t]
theorem call_listDct (hc : X.calm = true) : CallR X (.type "list") (rDList X.K) := by
  intro pins s σ H xs us Q I r h
  obtain ⟨d, kvs, rfl, hd, ko, q⟩ := h
  obtain ⟨u, rfl, rx⟩ := r.one
  cases rx
  obtain ⟨⟨z, hs, _⟩, ks, pr, o, es, ep, ho, hx, hdt, he, hn⟩ := dct_of I.hok hd
  have he := he X.prog X.w
  have l1 : es.size = ks.length := size_of_entries he
  have l2 : kvs.length = ks.length := Paired.length pr
  refine PySem.W.kdl_call (kdl_raw hs hx hdt) (I.ok.hd hc) ho (by omega) fun h' tk acc' c' kp e it => ?_
  have ea : acc'.toList = ks.map fun x => Value.ref x.2.1 := by
    have hl : acc'.toList.length = ks.length := by rw [Array.length_toList, it.1]; exact l1
    apply List.ext_getElem?
    intro j
    rw [List.getElem?_map]
    cases hj : acc'.toList[j]? with
    | none =>
      have h1 := List.getElem?_eq_none_iff.mp hj
      rw [List.getElem?_eq_none (by omega)]
      all_goals rfl
    | some v =>
      obtain ⟨en, hen, hv⟩ := it.2 j v (by rw [← Array.getElem?_toList]; exact hj)
      have qe := entry_at he j
      rw [hen] at qe
      cases hb : ks[j]? with
      | none =>
        rw [hb] at qe
        exact nomatch (show some en = none from qe)
      | some b =>
        rw [hb] at qe
        have e2 : en = entryOfKey (nestedKind X.prog X.w) b := Option.some.inj qe
        rw [hv, e2]
        all_goals rfl
  have eks := ent_refs pr
  have eb : acc'.toList = (ks.map fun x => x.2.1).map Value.ref := by rw [ea, List.map_map]; all_goals rfl
  have rv : Vals (kvs.map fun e => V.ref e.2.1) acc'.toList := by rw [eb, eks]; exact vals_refs _
  have hz : (kvs.map fun e => V.ref e.2.1).length ≤ sizeLine := by rw [List.length_map]; omega
  refine ⟨.ref s.heap.objs.size, _, I.laid (t' := tk) (o := .lst (kvs.map fun e => V.ref e.2.1)) kp (Nat.le_refl _) ?_, rfl, q _ (I.hok.fresh (Nat.le_refl _))⟩
  exact ⟨hz, acc'.toList, c', rv, by rw [Array.toArray_toList]; exact e⟩
theorem dct_empty {P : Program} {w : World} (h : Heap) (hb : sysModules < h.objs.size) : dctP h.objs.size [] (h.push { cls := .type "dict", data := .dict #[] }) :=
  ⟨⟨Nat.zero_le _, beq_eq_false_iff_ne.mpr (Ne.symm (Nat.ne_of_lt hb)), fun _ h => by cases h⟩, [], .nil, _, #[], 0, Heap.get?_push_size _ rfl, ⟨rfl, rfl, rfl⟩, rfl, fun _ _ => rfl, List.nodup_nil⟩
theorem pe_dnewD {pos : Pos} : PE X (.Dict [] [] pos) tDNew := ⟨fun pins s σ H Q I h =>
  wpAny_Dict_empty ⟨.ref s.heap.objs.size, _, I.laid (a := s.heap.objs.size) (o := dctO s.heap.objs.size []) (t' := s.toks) (fun _ _ q => Heap.get?_push_of_some _ q) (Nat.le_refl _) (dct_ok (dct_empty (P := X.prog) (w := X.w) s.heap I.big)), rfl, h _ (I.hok.fresh (Nat.le_refl _))⟩⟩
/-- {k: v} -/
def tDOne (K : PySem.W.Frag) (tk tv : TE) : TE := fun σ H Q => ∀ p, H p = none → tk σ (upd H p (dctO p [])) fun x H1 => tv σ H1 fun y H2 => H2 p = some (dctO p []) ∧ ∃ b k, KeyV K H2 x b k ∧ plainKey k = true ∧ Q (.ref p) (upd H2 p (dctO p [(k, b, y)]))
theorem pe_done {k v : Expr} {tk tv : TE} {pos : Pos} (hu : X.A.units + 64 < cLine) (hk : PE X k tk) (hv : PE X v tv) : PE X (.Dict [some k] [v] pos) (tDOne X.K tk tv) := by
  refine ⟨fun pins s σ H Q I q => ?_⟩
  have hn := I.hok.fresh (Nat.le_refl s.heap.objs.size)
  have I1 := I.laid (a := s.heap.objs.size) (o := dctO s.heap.objs.size []) (h' := s.heap.push { cls := .type "dict", data := .dict #[] }) (t' := s.toks) (fun _ _ q => Heap.get?_push_of_some _ q) (Nat.le_refl _) (dct_ok (dct_empty (P := X.prog) (w := X.w) s.heap I.big))
  rw [arm_eval_Dict, zip_pairTrees [some k] [v] X.env pos rfl rfl, dictDisplay_pairs (pairTrees [some k] [v] X.env pos) (by intro z; cases z) (by show 1 < 17; decide)]
  refine wpAny_bind (wpAny_standAt (wpAny_bind (wpAny_subDictH (knd := nestedKind X.prog X.w) (Q := fun d s' => wpAny (model X.prog X.w) X.A (pure (Value.ref d)) (EP X pins σ Q) X.xe s') (room8' hu) (by show 1 ≤ 15; decide) ?_)))
  refine pairTrees_cons_walk (thn (hk.run pins _ σ _ _ I1 (q _ hn)) fun kv s1 ⟨x, H1, J1, rx, q1⟩ => thn (hv.run pins s1 σ H1 _ J1 q1) fun vv s2 ⟨y, H2, J2, ry, e, b, kk, hkv, pk, q2⟩ => pairTrees_nil_walk ?_)
  have hdep := hkv.2.1
  obtain ⟨rfl, is⟩ := keyV_is J2 hkv rx
  obtain ⟨⟨_, hs, _⟩, _⟩ := dct_of J2.hok e
  obtain ⟨xs, r, dd⟩ := dct_dd J2 e (fun _ h => by cases h)
  cases r
  refine ⟨[(kk, b, vv)], ⟨rfl, rfl, is, True.intro⟩, dd, fun h' tk' dd' hsb => wpAny_pure ?_⟩
  have hP : dctP s.heap.objs.size [(kk, b, y)] h' := dct_new (X := X) (by show 1 ≤ sizeLine; decide) hs (fun e he => by
    rw [List.mem_singleton] at he
    rw [he]
    exact ⟨pk, hdep⟩) (.cons ⟨rfl, rfl, ry⟩ .nil) dd'
  obtain ⟨oo, _, _, hoo, _⟩ := dd'
  exact ⟨.ref s.heap.objs.size, _, d_write J2 (by rw [e]; exact True.intro) hsb ⟨oo, hoo⟩ (dct_ok hP), rfl, q2⟩
end
end DK

set_option Elab.async false
set_option linter.all false
set_option maxRecDepth 100000
set_option maxHeartbeats 4000000
/-! The data logic: what a reading is worth, told of plain data. -/
namespace DL
open PySem L2

/-- a slot's worth: plain data; a list that this def alone holds; such a list lent; a value as it is -/
inductive DV where
  | dat (d : PyData)
  | own (ds : List PyData)
  | bor (ds : List PyData)
  | raw (v : V)
  | bag
  /-- a dict of this def's own (true), or lent -/
  | dct (own : Bool) (kvs : List (PyData × PyData))

abbrev dint (i : Int) : DV := .dat (.int i)
abbrev dbl (b : Bool) : DV := .dat (.bool b)
abbrev dstr (s : Str) : DV := .dat (.str s)
abbrev Env := List (Option DV)

/-! ### data stay -/
theorem rd_mono {H H' : Hp} {a : Addr} {u : HO} (e : Same H H') (h : Rd H a u) : Rd H' a u := by
  rcases h with h | ⟨o, h⟩
  · exact .inl (e _ _ h)
  · exact .inr ⟨o, e _ _ h⟩
theorem sl_mono {K : PySem.W.Frag} {H H' : Hp} {a : Addr} {xs : List V} (e : Same H H') (h : SqL K H a xs) : SqL K H' a xs := h.imp (rd_mono e) id
theorem st_mono {K : PySem.W.Frag} {H H' : Hp} {a : Addr} {xs : List V} (e : Same H H') (h : SqT K H a xs) : SqT K H' a xs := h.imp (rd_mono e) id
mutual
theorem dp_mono {K : PySem.W.Frag} {H H' : Hp} (e : Same H H') : ∀ {v : V} {d : PyData}, Dp K H v d → Dp K H' v d
  | _, _, .non => .non
  | _, _, .bl b => .bl b
  | _, _, .int i => .int i
  | _, _, .str x => .str x
  | _, _, .lst q r => .lst (sl_mono e q) (dpa_mono e r)
  | _, _, .tup q r => .tup (st_mono e q) (dpa_mono e r)
theorem dpa_mono {K : PySem.W.Frag} {H H' : Hp} (e : Same H H') : ∀ {vs : List V} {ds : List PyData}, DpAll K H vs ds → DpAll K H' vs ds
  | _, _, .nil => .nil
  | _, _, .cons q r => .cons (dp_mono e q) (dpa_mono e r)
end
theorem dpa_len {K : PySem.W.Frag} {H : Hp} : ∀ {vs : List V} {ds : List PyData}, DpAll K H vs ds → vs.length = ds.length
  | _, _, .nil => rfl
  | _, _, .cons _ r => congrArg Nat.succ (dpa_len r)
theorem dpa_app {K : PySem.W.Frag} {H : Hp} : ∀ {vs ws : List V} {ds es : List PyData}, DpAll K H vs ds → DpAll K H ws es → DpAll K H (vs ++ ws) (ds ++ es)
  | _, _, _, _, .nil, r => r
  | _, _, _, _, .cons q t, r => .cons q (dpa_app t r)
theorem dpa_get {K : PySem.W.Frag} {H : Hp} : ∀ {vs : List V} {ds : List PyData} {i : Nat} {d : PyData}, DpAll K H vs ds → ds[i]? = some d → ∃ v, vs[i]? = some v ∧ Dp K H v d
  | _, _, _, _, .nil, h => by simp at h
  | _, _, 0, _, .cons q _, h => by
    have e := Option.some.inj h
    subst e
    exact ⟨_, rfl, q⟩
  | _, _, i + 1, _, .cons _ r, h => dpa_get (i := i) r h
theorem dpa_set {K : PySem.W.Frag} {H : Hp} {v : V} {d : PyData} (q : Dp K H v d) : ∀ {vs : List V} {ds : List PyData} (i : Nat), DpAll K H vs ds → DpAll K H (vs.set i v) (ds.set i d)
  | _, _, _, .nil => .nil
  | _, _, 0, .cons _ r => .cons q r
  | _, _, i + 1, .cons p r => .cons p (dpa_set q i r)
theorem dpa_take {K : PySem.W.Frag} {H : Hp} : ∀ {vs : List V} {ds : List PyData} (n : Nat), DpAll K H vs ds → DpAll K H (vs.take n) (ds.take n)
  | _, _, 0, _ => .nil
  | _, _, _ + 1, .nil => .nil
  | _, _, n + 1, .cons q r => .cons q (dpa_take n r)
theorem dpa_drop {K : PySem.W.Frag} {H : Hp} : ∀ {vs : List V} {ds : List PyData} (n : Nat), DpAll K H vs ds → DpAll K H (vs.drop n) (ds.drop n)
  | _, _, 0, r => r
  | _, _, _ + 1, .nil => .nil
  | _, _, n + 1, .cons _ r => dpa_drop n r
theorem dpa_ints {K : PySem.W.Frag} {H : Hp} : ∀ {vs : List V} {ns : List Int}, DpAll K H vs (ns.map .int) → vs = ns.map V.int
  | [], [], _ => rfl
  | _ :: _, n :: ns, .cons q r => by
    cases q
    rw [dpa_ints r]
    rfl
theorem dpa_bools {K : PySem.W.Frag} {H : Hp} : ∀ {vs : List V} {ns : List Bool}, DpAll K H vs (ns.map .bool) → vs = ns.map V.bl
  | [], [], _ => rfl
  | _ :: _, n :: ns, .cons q r => by
    cases q
    rw [dpa_bools r]
    rfl
theorem dpa_ofInts {K : PySem.W.Frag} {H : Hp} : ∀ (ns : List Int), DpAll K H (ns.map V.int) (ns.map .int)
  | [] => .nil
  | n :: ns => .cons (.int n) (dpa_ofInts ns)

/-! ### the bag of draws, the tables of code objects, the state -/
/-- where the bag stands; the tables, each with its def's lambda's name -/
structure Bg where
  a : Addr
  T : List (Addr × Str)
/-- nothing but a table stands there -/
def Fr (H : Hp) (a : Addr) : Prop := ∀ o, H a = some o → ∃ ps, o = .tbl ps
theorem fr_none {H : Hp} {a : Addr} (h : H a = none) : Fr H a := fun o e => by rw [h] at e; cases e
theorem fr_lst {H : Hp} {a : Addr} {xs : List V} (h : Fr H a) (e : H a = some (.lst xs)) : False := by
  obtain ⟨ps, z⟩ := h _ e
  cases z
theorem fr_not {H : Hp} {a : Addr} {o : HO} (h : Fr H a) (e : H a = some o) (n : ∀ ps, o ≠ .tbl ps) : False := by
  obtain ⟨ps, z⟩ := h _ e
  exact n ps z
/-- plain things: lists, tuples without a dict of their own -/
def PlainO : HO → Prop
  | .lst _ => True
  | .frz o (.tup _) => o.dict = none
  | _ => False
theorem plain_tbl {o : HO} (h : PlainO o) : ∀ ps, o ≠ .tbl ps := fun ps z => by subst z; exact h
theorem lst_tbl {xs : List V} : ∀ ps, HO.lst xs ≠ .tbl ps := fun _ z => by cases z
theorem tup_tbl {xs : List V} : ∀ ps, HO.tup xs ≠ .tbl ps := fun _ z => by cases z
theorem tabs_upd {T : List (Addr × Str)} {H : Hp} {a : Addr} {xs : List V} {o : HO} (t : LamX.Tabs T H) (h : H a = some (.lst xs)) : LamX.Tabs T (upd H a o) := fun p hp => by
  obtain ⟨ps, h1, h2, h3⟩ := t p hp
  refine ⟨ps, by rw [upd_ne (ne_of h1 h (fun z => by cases z))]; exact h1, h2, fun pos cv hc => ?_⟩
  obtain ⟨c, e1, e2⟩ := h3 pos cv hc
  exact ⟨c, e1, by rw [upd_ne (ne_of e2 h (fun z => by unfold LamX.CodeO at z; cases z))]; exact e2⟩
def Bag (K : PySem.W.Frag) (b : Bg) (I H : Hp) : Prop := I b.a = none ∧ (∀ a o, I a = some o → PlainO o) ∧ LamX.Tabs b.T H ∧ ∃ (l : Addr) (ns : List Int) (p q m c : Int),
  H b.a = some (.lst [.ref l, .int p, .int q, .int m, .int c]) ∧ SqL K I l (ns.map V.int) ∧ 0 ≤ p ∧ 0 ≤ q ∧ 0 ≤ m ∧ m < 2147483647
/-- from (I, H) to (I', H'): what is known stays, all but the bag and the tables stays as it stood, what was not plain does not become plain; the bag is a bag -/
structure Ext (K : PySem.W.Frag) (b : Bg) (I H I' H' : Hp) : Prop where
  i : Same I I'
  h : ∀ a o, a ≠ b.a → (∀ ps, o ≠ .tbl ps) → H a = some o → H' a = some o
  n : ∀ a o, I a = none → H a = some o → (∀ ps, o ≠ .tbl ps) → I' a = none
  k : ∀ l xs, H b.a = some (.lst (.ref l :: xs)) → ∃ ys, H' b.a = some (.lst (.ref l :: ys))
  s : Same I' H'
  b : Bag K b I' H'
section
variable {K : PySem.W.Frag} {b : Bg} {I H I' H' I2 H2 : Hp}
theorem Bag.lst (B : Bag K b I H) : ∃ xs, H b.a = some (.lst xs) := by
  obtain ⟨_, _, _, l, ns, p, q, m, c, e, _⟩ := B
  exact ⟨_, e⟩
theorem Ext.trans (e : Ext K b I H I' H') (f : Ext K b I' H' I2 H2) : Ext K b I H I2 H2 := by
  refine ⟨e.i.trans f.i, fun a o n t h => f.h a o n t (e.h a o n t h), fun a o n h t => ?_, fun l xs h => (let ⟨ys, h1⟩ := e.k l xs h; f.k l ys h1), f.s, f.b⟩
  by_cases z : a = b.a
  · subst z
    obtain ⟨xs, q⟩ := e.b.lst
    exact f.n _ _ (e.n _ o n h t) q lst_tbl
  · exact f.n a o (e.n a o n h t) (e.h a o z t h) t
theorem Ext.refl (S : Same I H) (B : Bag K b I H) : Ext K b I H I H := ⟨Same.refl I, fun _ _ _ _ h => h, fun _ _ n _ _ => n, fun _ xs h => ⟨xs, h⟩, S, B⟩
theorem Ext.re (e : Ext K b I H I' H') : Ext K b I' H' I' H' := Ext.refl e.s e.b
theorem Ext.free (e : Ext K b I H I' H') {a : Addr} (h : Fr H' a) : Fr H a := fun o q => by
  by_cases t : ∃ ps, o = .tbl ps
  · exact t
  · have t' : ∀ ps, o ≠ .tbl ps := fun ps z => t ⟨ps, z⟩
    by_cases z : a = b.a
    · subst z
      obtain ⟨xs, q2⟩ := e.b.lst
      exact (fr_lst h q2).elim
    · exact (fr_not h (e.h a o z t' q) t').elim
/-- a new object, plain from now on -/
theorem Ext.new {p : Addr} {o : HO} (S : Same I H) (B : Bag K b I H) (hp : H p = none) (ho : PlainO o) : Ext K b I H (upd I p o) (upd H p o) := by
  have ip : I p = none := by
    cases q : I p with
    | none => rfl
    | some u => rw [S p u q] at hp; cases hp
  obtain ⟨n, pl, tb, l, ns, x, q, m, c, e, sl, r⟩ := B
  have pb : b.a ≠ p := ne_of_none e hp
  refine ⟨fun a u h => ?_, fun a u _ _ h => ?_, fun a u n h _ => ?_, fun l xs h => ⟨xs, by rw [upd_ne pb]; exact h⟩, fun a u h => ?_, ?_, fun a ps h => ?_, tb.ext fun a u h => ?_, l, ns, x, q, m, c, ?_, ?_, r⟩
  · rw [upd_ne (ne_of_none h ip)]; exact h
  · rw [upd_ne (ne_of_none h hp)]; exact h
  · rw [upd_ne (ne_of_none h hp)]; exact n
  · by_cases z : a = p
    · subst z; rw [upd_same] at h ⊢; exact h
    · rw [upd_ne z] at h ⊢; exact S a u h
  · rw [upd_ne pb]; exact n
  · by_cases z : a = p
    · subst z; rw [upd_same] at h; cases h; exact ho
    · rw [upd_ne z] at h; exact pl a _ h
  · rw [upd_ne (ne_of_none h hp)]; exact h
  · rw [upd_ne pb]; exact e
  · exact sl_mono (fun a u h => by rw [upd_ne (ne_of_none h ip)]; exact h) sl
/-- a new object, not plain -/
theorem Ext.newH {p : Addr} {o : HO} (S : Same I H) (B : Bag K b I H) (hp : H p = none) : Ext K b I H I (upd H p o) := by
  obtain ⟨n, pl, tb, l, ns, x, q, m, c, e, sl, r⟩ := B
  refine ⟨Same.refl I, fun a u _ _ h => ?_, fun a u n _ _ => n, fun l xs h => ⟨xs, by rw [upd_ne (ne_of_none h hp)]; exact h⟩, fun a u h => ?_, n, pl, tb.ext fun a u h => ?_, l, ns, x, q, m, c, ?_, sl, r⟩
  · rw [upd_ne (ne_of_none h hp)]; exact h
  · rw [upd_ne (ne_of_none (S a u h) hp)]; exact S a u h
  · rw [upd_ne (ne_of_none h hp)]; exact h
  · rw [upd_ne (ne_of_none e hp)]; exact e
end

theorem dct_tbl {a : Addr} {es : List DK.Ent} : ∀ ps, DK.dctO a es ≠ .tbl ps := fun _ z => by cases z
/-- the dict's entries as data -/
def DEnt (K : PySem.W.Frag) (I : Hp) (e : DK.Ent) (kv : PyData × PyData) : Prop := DK.keyOf kv.1 = some e.1 ∧ Dp K I (.ref e.2.1) kv.1 ∧ Dp K I e.2.2 kv.2
abbrev DctR (K : PySem.W.Frag) (I : Hp) (es : List DK.Ent) (kvs : List (PyData × PyData)) : Prop := Paired (DEnt K I) es kvs
theorem dctR_mono {K : PySem.W.Frag} {I I' : Hp} (s : Same I I') : ∀ {es : List DK.Ent} {kvs : List (PyData × PyData)}, DctR K I es kvs → DctR K I' es kvs
  | _, _, .nil => .nil
  | _, _, .cons h t => .cons ⟨h.1, dp_mono s h.2.1, dp_mono s h.2.2⟩ (dctR_mono s t)
/-- v is worth r; H0: the heap at the def's entry -/
def Res (K : PySem.W.Frag) (b : Bg) (H0 I H : Hp) (v : V) : DV → Prop
  | .dat d => Dp K I v d
  | .own ds => ∃ a xs, v = .ref a ∧ Fr H0 a ∧ I a = none ∧ a ≠ b.a ∧ H a = some (.lst xs) ∧ DpAll K I xs ds
  | .bor ds => ∃ a xs, v = .ref a ∧ H a = some (.lst xs) ∧ a ≠ b.a ∧ I a = none ∧ DpAll K I xs ds
  | .raw u => v = u
  | .bag => v = .ref b.a
  | .dct own kvs => ∃ a es, v = .ref a ∧ (own = true → Fr H0 a) ∧ I a = none ∧ a ≠ b.a ∧ H a = some (DK.dctO a es) ∧ DctR K I es kvs
structure EnvR (K : PySem.W.Frag) (b : Bg) (H0 I H : Hp) (σ : St) (δ : Env) : Prop where
  len : σ.length = δ.length
  at_ : ∀ (i : Nat) (r : DV), δ[i]? = some (some r) → ∃ v, σ[i]? = some (some v) ∧ Res K b H0 I H v r
  nd : ∀ (i j : Nat) (a : Addr) (ds es : List PyData), δ[i]? = some (some (.own ds)) → σ[i]? = some (some (.ref a)) → δ[j]? = some (some (.own es)) → σ[j]? = some (some (.ref a)) → i = j
section
variable {K : PySem.W.Frag} {b : Bg} {H0 I H I' H' : Hp} {v : V} {r : DV} {σ : St} {δ : Env}
theorem Res.ext (e : Ext K b I H I' H') (h : Res K b H0 I H v r) : Res K b H0 I' H' v r := by
  cases r with
  | dat d => exact dp_mono e.i h
  | own ds =>
    obtain ⟨a, xs, rfl, h0, hi, hb, ha, hd⟩ := h
    exact ⟨a, xs, rfl, h0, e.n a _ hi ha lst_tbl, hb, e.h a _ hb lst_tbl ha, dpa_mono e.i hd⟩
  | bor ds =>
    obtain ⟨a, xs, rfl, ha, hb, hi, hd⟩ := h
    exact ⟨a, xs, rfl, e.h a _ hb lst_tbl ha, hb, e.n a _ hi ha lst_tbl, dpa_mono e.i hd⟩
  | raw u => exact h
  | bag => exact h
  | dct own kvs =>
    obtain ⟨a, es, rfl, h0, hi, hb, ha, hd⟩ := h
    exact ⟨a, es, rfl, h0, e.n a _ hi ha dct_tbl, hb, e.h a _ hb dct_tbl ha, dctR_mono e.i hd⟩
theorem EnvR.ext (e : Ext K b I H I' H') (h : EnvR K b H0 I H σ δ) : EnvR K b H0 I' H' σ δ :=
  ⟨h.len, fun i r q => (h.at_ i r q).imp fun v z => ⟨z.1, z.2.ext e⟩, h.nd⟩
/-- fewer slots are known -/
theorem EnvR.less {δ' : Env} (h : EnvR K b H0 I H σ δ) (hl : δ'.length = δ.length) (hs : ∀ (i : Nat) (r : DV), δ'[i]? = some (some r) → δ[i]? = some (some r)) : EnvR K b H0 I H σ δ' :=
  ⟨h.len.trans hl.symm, fun i r q => h.at_ i r (hs i r q), fun i j a ds es h1 h2 h3 h4 => h.nd i j a ds es (hs _ _ h1) h2 (hs _ _ h3) h4⟩
/-- a lookup list is read -/
def LstR (r : DV) (ds : List PyData) : Prop := r = .own ds ∨ r = .bor ds ∨ r = .dat (.list ds)
theorem LstR.read {ds : List PyData} (S : Same I H) (l : LstR r ds) (h : Res K b H0 I H v r) : ∃ a xs, v = .ref a ∧ SqL K H a xs ∧ DpAll K I xs ds := by
  rcases l with rfl | rfl | rfl
  · obtain ⟨a, xs, rfl, _, _, _, ha, hd⟩ := h
    exact ⟨a, xs, rfl, .inl (.inl ha), hd⟩
  · obtain ⟨a, xs, rfl, ha, _, _, hd⟩ := h
    exact ⟨a, xs, rfl, .inl (.inl ha), hd⟩
  · have h : Dp K I v (.list ds) := h
    cases h with
    | lst q r => exact ⟨_, _, rfl, sl_mono S q, r⟩
theorem tup_read {ds : List PyData} (S : Same I H) (h : Res K b H0 I H v (.dat (.tuple ds))) : ∃ a xs, v = .ref a ∧ SqT K H a xs ∧ DpAll K I xs ds := by
  have h : Dp K I v (.tuple ds) := h
  cases h with
  | tup q r => exact ⟨_, _, rfl, st_mono S q, r⟩
theorem int_read {i : Int} (h : Res K b H0 I H v (dint i)) : v = .int i := by
  have h : Dp K I v (.int i) := h
  cases h; rfl
theorem bl_read {i : Bool} (h : Res K b H0 I H v (dbl i)) : v = .bl i := by
  have h : Dp K I v (.bool i) := h
  cases h; rfl
theorem str_read {i : Str} (h : Res K b H0 I H v (dstr i)) : v = .str i := by
  have h : Dp K I v (.str i) := h
  cases h; rfl
theorem non_read (h : Res K b H0 I H v (.dat .none)) : v = .non := by
  have h : Dp K I v .none := h
  cases h; rfl
/-- a slot is set -/
theorem EnvR.set (h : EnvR K b H0 I H σ δ) {i : Nat} (hi : i < δ.length) (q : Res K b H0 I H v r)
    (hf : ∀ a ds, r = .own ds → v = .ref a → ∀ (j : Nat) es, j ≠ i → δ[j]? = some (some (.own es)) → σ[j]? ≠ some (some (.ref a))) : EnvR K b H0 I H (σ.set i (some v)) (δ.set i (some r)) := by
  have hi' : i < σ.length := by rw [h.len]; exact hi
  refine ⟨by rw [List.length_set, List.length_set]; exact h.len, fun j u e => ?_, fun j k a ds es h1 h2 h3 h4 => ?_⟩
  · by_cases z : i = j
    · subst z
      rw [List.getElem?_set_self hi] at e
      cases e
      exact ⟨v, by rw [List.getElem?_set_self hi'], q⟩
    · rw [List.getElem?_set_ne z] at e
      obtain ⟨w, e1, e2⟩ := h.at_ j u e
      exact ⟨w, by rw [List.getElem?_set_ne z]; exact e1, e2⟩
  · by_cases zj : i = j
    · by_cases zk : i = k
      · rw [← zj, ← zk]
      · subst zj
        rw [List.getElem?_set_self hi] at h1
        rw [List.getElem?_set_self hi'] at h2
        rw [List.getElem?_set_ne zk] at h3 h4
        cases h1; cases h2
        exact absurd h4 (hf a ds rfl rfl k es (fun q => zk q.symm) h3)
    · by_cases zk : i = k
      · subst zk
        rw [List.getElem?_set_self hi] at h3
        rw [List.getElem?_set_self hi'] at h4
        rw [List.getElem?_set_ne zj] at h1 h2
        cases h3; cases h4
        exact absurd h2 (hf a es rfl rfl j ds (fun q => zj q.symm) h1)
      · rw [List.getElem?_set_ne zj] at h1 h2
        rw [List.getElem?_set_ne zk] at h3 h4
        exact h.nd j k a ds es h1 h2 h3 h4
theorem EnvR.setD (h : EnvR K b H0 I H σ δ) {i : Nat} (hi : i < δ.length) (q : Res K b H0 I H v r) (hr : ∀ ds, r ≠ .own ds) : EnvR K b H0 I H (σ.set i (some v)) (δ.set i (some r)) :=
  h.set hi q fun _ ds e => absurd e (hr ds)
end
end DL

set_option Elab.async false
set_option linter.all false
set_option maxRecDepth 100000
set_option maxHeartbeats 4000000
namespace DL
open PySem L2
structure Ok (K : PySem.W.Frag) (b : Bg) (I H : Hp) : Prop where
  s : Same I H
  b : Bag K b I H
section
variable {K : PySem.W.Frag} {b : Bg} {I0 H0 I H I' H' : Hp}
theorem Ext.ok (e : Ext K b I0 H0 I H) : Ok K b I H := ⟨e.s, e.b⟩
theorem Ok.re (o : Ok K b I H) : Ext K b I H I H := Ext.refl o.s o.b
theorem Ok.new {p : Addr} {o : HO} (k : Ok K b I H) (hp : H p = none) (ho : PlainO o) : Ext K b I H (upd I p o) (upd H p o) := Ext.new k.s k.b hp ho
theorem Ok.newH {p : Addr} {o : HO} (k : Ok K b I H) (hp : H p = none) : Ext K b I H I (upd H p o) := Ext.newH k.s k.b hp
theorem Ok.inone (k : Ok K b I H) {p : Addr} (hp : H p = none) : I p = none := by
  cases q : I p with
  | none => rfl
  | some u => rw [k.s p u q] at hp; cases hp
theorem Ok.nb (k : Ok K b I H) {p : Addr} (hp : H p = none) : p ≠ b.a := fun z => by
  obtain ⟨xs, e⟩ := k.b.lst
  rw [← z, hp] at e
  cases e
theorem Res.since {H1 : Hp} {v : V} {r : DV} (h : Res K b H1 I H v r) (f : ∀ a, Fr H1 a → Fr H0 a) : Res K b H0 I H v r := by
  cases r with
  | own ds =>
    obtain ⟨a, xs, rfl, h0, hi, hb, ha, hd⟩ := h
    exact ⟨a, xs, rfl, f a h0, hi, hb, ha, hd⟩
  | dct own kvs =>
    obtain ⟨a, xs, rfl, h0, h⟩ := h
    exact ⟨a, xs, rfl, fun z => f a (h0 z), h⟩
  | _ => exact h
end
section
variable (K : PySem.W.Frag) (b : Bg) (I0 H0 : Hp)
/-- the reading te, where the slots are worth δ, gives a worth in P -/
def EvD (te : TE) (δ : Env) (P : DV → Prop) : Prop := ∀ (σ : St) (I H : Hp), Ext K b I0 H0 I H → EnvR K b H0 I H σ δ → ∀ Q : VK,
  (∀ r v I' H', P r → Ext K b I H I' H' → Res K b H I' H' v r → Q v H') → te σ H Q
def EvT (tt : TT) (δ : Env) (P : Bool → Prop) : Prop := ∀ (σ : St) (I H : Hp), Ext K b I0 H0 I H → EnvR K b H0 I H σ δ → ∀ Q : Bool → Hp → Prop,
  (∀ c I' H', P c → Ext K b I H I' H' → Q c H') → tt σ H Q
inductive ResA (K : PySem.W.Frag) (b : Bg) (H0 I H : Hp) : List V → List DV → Prop
  | nil : ResA K b H0 I H [] []
  | cons {v : V} {vs : List V} {r : DV} {rs : List DV} : Res K b H0 I H v r → ResA K b H0 I H vs rs → ResA K b H0 I H (v :: vs) (r :: rs)
def EvA (ta : TA) (δ : Env) (P : List DV → Prop) : Prop := ∀ (σ : St) (I H : Hp), Ext K b I0 H0 I H → EnvR K b H0 I H σ δ → ∀ Q : List V → Hp → Prop,
  (∀ rs vs I' H', P rs → Ext K b I H I' H' → ResA K b H I' H' vs rs → Q vs H') → ta σ H Q
end
section
variable (K : PySem.W.Frag) (b : Bg)
/-- an operation on two worths -/
def OpD (r : R2) (x y : DV) (P : DV → Prop) : Prop := ∀ (H0 I H : Hp) (v w : V), Ok K b I H → Res K b H0 I H v x → Res K b H0 I H w y → ∀ Q : VK,
  (∀ z u I' H', P z → Ext K b I H I' H' → Res K b H I' H' u z → Q u H') → r v w H Q
def UnD (r : V → Hp → VK → Prop) (x : DV) (P : DV → Prop) : Prop := ∀ (H0 I H : Hp) (v : V), Ok K b I H → Res K b H0 I H v x → ∀ Q : VK,
  (∀ z u I' H', P z → Ext K b I H I' H' → Res K b H I' H' u z → Q u H') → r v H Q
def CbD (r : List V → Hp → VK → Prop) (rs : List DV) (P : DV → Prop) : Prop := ∀ (H0 I H : Hp) (vs : List V), Ok K b I H → ResA K b H0 I H vs rs → ∀ Q : VK,
  (∀ z u I' H', P z → Ext K b I H I' H' → Res K b H I' H' u z → Q u H') → r vs H Q
end
section
variable {K : PySem.W.Frag} {b : Bg} {I0 H0 H1 I H I' H' : Hp} {δ : Env} {ta tb te : TE} {P Pa Pb : DV → Prop}
theorem ResA.ext (e : Ext K b I H I' H') : ∀ {vs : List V} {rs : List DV}, ResA K b H0 I H vs rs → ResA K b H0 I' H' vs rs
  | _, _, .nil => .nil
  | _, _, .cons q r => .cons (q.ext e) (ResA.ext e r)
theorem ResA.since (f : ∀ a, Fr H1 a → Fr H0 a) : ∀ {vs : List V} {rs : List DV}, ResA K b H1 I H vs rs → ResA K b H0 I H vs rs
  | _, _, .nil => .nil
  | _, _, .cons q r => .cons (q.since f) (ResA.since f r)
theorem EvD.mono (h : EvD K b I0 H0 te δ Pa) (m : ∀ r, Pa r → P r) : EvD K b I0 H0 te δ P := fun σ I H e n Q q => h σ I H e n Q fun r v I' H' p => q r v I' H' (m r p)
theorem EvT.mono {tt : TT} {A B : Bool → Prop} (h : EvT K b I0 H0 tt δ A) (m : ∀ r, A r → B r) : EvT K b I0 H0 tt δ B := fun σ I H e n Q q => h σ I H e n Q fun r I' H' p => q r I' H' (m r p)
theorem EvA.mono {ta : TA} {A B : List DV → Prop} (h : EvA K b I0 H0 ta δ A) (m : ∀ r, A r → B r) : EvA K b I0 H0 ta δ B := fun σ I H e n Q q => h σ I H e n Q fun r v I' H' p => q r v I' H' (m r p)
theorem EvD.to {r s : DV} (h : EvD K b I0 H0 te δ (fun x => x = r)) (e : r = s) : EvD K b I0 H0 te δ (fun x => x = s) := e ▸ h
/-- a name -/
theorem ev_var {i : Nat} {r : DV} (h : δ[i]? = some (some r)) (hr : ∀ ds, r ≠ .own ds := by intro _ z; cases z) (hd2 : ∀ kvs, r ≠ .dct true kvs := by intro _ z; cases z) : EvD K b I0 H0 (tVar i) δ (fun x => x = r) := fun σ I H e n Q q => by
  obtain ⟨v, e1, e2⟩ := n.at_ i r h
  refine ⟨v, e1, q r v I H rfl e.re ?_⟩
  cases r with
  | own ds => exact absurd rfl (hr ds)
  | dat d => exact e2
  | bor ds => exact e2
  | raw u => exact e2
  | bag => exact e2
  | dct own kvs =>
    cases own with
    | true => exact absurd rfl (hd2 kvs)
    | false =>
      obtain ⟨a, es, rfl, _, z⟩ := e2
      exact ⟨a, es, rfl, (fun z => by cases z), z⟩
/-- a dict of its own, lent -/
theorem ev_varK {i : Nat} {kvs : List (PyData × PyData)} (h : δ[i]? = some (some (.dct true kvs))) : EvD K b I0 H0 (tVar i) δ (fun x => x = .dct false kvs) := fun σ I H e n Q q => by
  obtain ⟨v, e1, e2⟩ := n.at_ i _ h
  obtain ⟨a, es, rfl, _, z⟩ := e2
  exact ⟨_, e1, q _ _ I H rfl e.re ⟨a, es, rfl, (fun z => by cases z), z⟩⟩
/-- a list of its own, lent -/
theorem ev_varB {i : Nat} {ds : List PyData} (h : δ[i]? = some (some (.own ds))) : EvD K b I0 H0 (tVar i) δ (fun x => x = .bor ds) := fun σ I H e n Q q => by
  obtain ⟨v, e1, e2⟩ := n.at_ i _ h
  obtain ⟨a, xs, rfl, _, hi, hb, ha, hd⟩ := e2
  exact ⟨_, e1, q _ _ I H rfl e.re ⟨a, xs, rfl, ha, hb, hi, hd⟩⟩
theorem ev_int {i : Int} : EvD K b I0 H0 (tC (.int i)) δ (fun x => x = dint i) := fun σ I H e n Q q => q _ _ I H rfl e.re (Dp.int i)
theorem ev_bl {i : Bool} : EvD K b I0 H0 (tC (.bl i)) δ (fun x => x = dbl i) := fun σ I H e n Q q => q _ _ I H rfl e.re (Dp.bl i)
theorem ev_str {i : Str} : EvD K b I0 H0 (tC (.str i)) δ (fun x => x = dstr i) := fun σ I H e n Q q => q _ _ I H rfl e.re (Dp.str i)
theorem ev_non : EvD K b I0 H0 (tC .non) δ (fun x => x = .dat .none) := fun σ I H e n Q q => q _ _ I H rfl e.re Dp.non
theorem ev_raw {v : V} : EvD K b I0 H0 (tC v) δ (fun x => x = .raw v) := fun σ I H e n Q q => q _ _ I H rfl e.re rfl
/-- a fresh list becomes plain -/
theorem Ext.frz {a : Addr} {xs : List V} (e : Ext K b I H I' H') (h0 : Fr H a) (hi : I' a = none) (hb : a ≠ b.a) (ha : H' a = some (.lst xs)) : Ext K b I H (upd I' a (.lst xs)) H' := by
  obtain ⟨n, pl, tb, l, ns, x, q, m, c, e1, sl, r⟩ := e.b
  refine ⟨fun c o h => ?_, e.h, fun c o n h t => ?_, e.k, fun c o h => ?_, by rw [upd_ne (fun z => hb z.symm)]; exact n, fun c ps h => ?_, tb, l, ns, x, q, m, c, e1, sl_mono (fun d u h => ?_) sl, r⟩
  · rw [upd_ne (ne_of_none (e.i c o h) hi)]; exact e.i c o h
  · rw [upd_ne (fun (z : c = a) => fr_not h0 (z ▸ h) t)]; exact e.n c o n h t
  · by_cases z : c = a
    · subst z; rw [upd_same] at h; rw [ha]; exact h
    · rw [upd_ne z] at h; exact e.s c o h
  · by_cases z : c = a
    · subst z; rw [upd_same] at h; cases h; exact True.intro
    · rw [upd_ne z] at h; exact pl c _ h
  · rw [upd_ne (ne_of_none h hi)]; exact h
theorem frz_res {ds : List PyData} {v : V} {I2 H2 : Hp} (e : Ext K b I2 H2 I' H') (rs : Res K b H2 I' H' v (.own ds)) : ∃ I'', Ext K b I2 H2 I'' H' ∧ Res K b H2 I'' H' v (.dat (.list ds)) := by
  obtain ⟨a, xs, rfl, h0, hi, hb, ha, hd⟩ := rs
  have s1 : Same I' (upd I' a (.lst xs)) := fun c o h => by rw [upd_ne (ne_of_none h hi)]; exact h
  exact ⟨_, e.frz h0 hi hb ha, .lst (.inl (.inl upd_same)) (dpa_mono s1 hd)⟩
/-- a list that was made becomes plain data -/
theorem ev_frz {A : List PyData → Prop} (h : EvD K b I0 H0 te δ (fun x => ∃ ds, x = .own ds ∧ A ds)) : EvD K b I0 H0 te δ (fun x => ∃ ds, x = .dat (.list ds) ∧ A ds) := fun σ I H e n Q q =>
  h σ I H e n Q fun r v I' H' p x rs => by
    obtain ⟨ds, rfl, p⟩ := p
    obtain ⟨I'', x', rs'⟩ := frz_res x rs
    exact q _ _ I'' H' ⟨ds, rfl, p⟩ x' rs'
theorem ev_frz1 {ds : List PyData} (h : EvD K b I0 H0 te δ (fun x => x = .own ds)) : EvD K b I0 H0 te δ (fun x => x = .dat (.list ds)) := fun σ I H e n Q q =>
  h σ I H e n Q fun r v I' H' p x rs => by
    subst p
    obtain ⟨I'', x', rs'⟩ := frz_res x rs
    exact q _ _ I'' H' rfl x' rs'
/-! ### operations -/
theorem free_of (e : Ext K b I H I' H') : ∀ a, Fr H' a → Fr H a := fun _ h => e.free h
theorem ev_op {r : R2} (ha : EvD K b I0 H0 ta δ Pa) (hb : EvD K b I0 H0 tb δ Pb) (ho : ∀ x y, Pa x → Pb y → OpD K b r x y P) : EvD K b I0 H0 (tOp r ta tb) δ P := fun σ I H e n Q q =>
  ha σ I H e n _ fun x v I1 H1 p1 x1 r1 => hb σ I1 H1 (e.trans x1) (n.ext x1) _ fun y w I2 H2 p2 x2 r2 =>
    ho x y p1 p2 H I2 H2 v w x2.ok (r1.ext x2) (r2.since (free_of x1)) Q fun z u I3 H3 p3 x3 r3 => q z u I3 H3 p3 ((x1.trans x2).trans x3) (r3.since (free_of (x1.trans x2)))
theorem ev_un {r : V → Hp → VK → Prop} (ha : EvD K b I0 H0 ta δ Pa) (ho : ∀ x, Pa x → UnD K b r x P) : EvD K b I0 H0 (tUn r ta) δ P := fun σ I H e n Q q =>
  ha σ I H e n _ fun x v I1 H1 p1 x1 r1 => ho x p1 H I1 H1 v x1.ok r1 Q fun z u I3 H3 p3 x3 r3 => q z u I3 H3 p3 (x1.trans x3) (r3.since (free_of x1))
theorem ea_nil : EvA K b I0 H0 tNil δ (fun x => x = []) := fun σ I H e n Q q => q [] [] I H rfl e.re .nil
theorem ea_cons {tr : TA} {A : List DV → Prop} {B : List DV → Prop} (ha : EvD K b I0 H0 ta δ Pa) (hr : EvA K b I0 H0 tr δ A) (hB : ∀ r rs, Pa r → A rs → B (r :: rs)) : EvA K b I0 H0 (tCons ta tr) δ B := fun σ I H e n Q q =>
  ha σ I H e n _ fun x v I1 H1 p1 x1 r1 => hr σ I1 H1 (e.trans x1) (n.ext x1) _ fun rs vs I2 H2 p2 x2 r2 =>
    q (x :: rs) (v :: vs) I2 H2 (hB x rs p1 p2) (x1.trans x2) (.cons (r1.ext x2) (r2.since (free_of x1)))
/-- the same, the worths told one by one -/
theorem ea_cons1 {tr : TA} {r : DV} {rs : List DV} (ha : EvD K b I0 H0 ta δ (fun x => x = r)) (hr : EvA K b I0 H0 tr δ (fun x => x = rs)) : EvA K b I0 H0 (tCons ta tr) δ (fun x => x = r :: rs) :=
  ea_cons ha hr fun _ _ e f => by rw [e, f]
theorem ev_cb {r : List V → Hp → VK → Prop} {t : TA} {A : List DV → Prop} (ha : EvA K b I0 H0 t δ A) (hc : ∀ rs, A rs → CbD K b r rs P) : EvD K b I0 H0 (tCB r t) δ P := fun σ I H e n Q q =>
  ha σ I H e n _ fun rs vs I1 H1 p1 x1 r1 => hc rs p1 H I1 H1 vs x1.ok r1 Q fun z u I2 H2 p2 x2 r2 => q z u I2 H2 p2 (x1.trans x2) (r2.since (free_of x1))
/-! ### tests -/
theorem et_test {A : Bool → Prop} (h : EvD K b I0 H0 te δ (fun x => ∃ c, x = dbl c ∧ A c)) : EvT K b I0 H0 (tTest te) δ A := fun σ I H e n Q q =>
  h σ I H e n _ fun r v I' H' p x rs => by
    obtain ⟨c, rfl, p⟩ := p
    exact ⟨c, bl_read rs, q c I' H' p x⟩
theorem et_B {A : Bool → Prop} (h : EvD K b I0 H0 te δ (fun x => ∃ c, x = dbl c ∧ A c)) : EvT K b I0 H0 (tB te) δ A := fun σ I H e n Q q =>
  h σ I H e n _ fun r v I' H' p x rs => by
    obtain ⟨c, rfl, p⟩ := p
    exact ⟨c, bl_read rs, q c I' H' p x⟩
theorem et_test1 {c : Bool} (h : EvD K b I0 H0 te δ (fun x => x = dbl c)) : EvT K b I0 H0 (tTest te) δ (fun x => x = c) := et_test (h.mono fun _ e => ⟨c, e, rfl⟩)
theorem et_B1 {c : Bool} (h : EvD K b I0 H0 te δ (fun x => x = dbl c)) : EvT K b I0 H0 (tB te) δ (fun x => x = c) := et_B (h.mono fun _ e => ⟨c, e, rfl⟩)
theorem et_and {t u : TT} {A B C : Bool → Prop} (h1 : EvT K b I0 H0 t δ A) (h2 : A true → EvT K b I0 H0 u δ B) (h3 : A false → C false) (h4 : A true → ∀ c, B c → C c) : EvT K b I0 H0 (tAnd t u) δ C := fun σ I H e n Q q =>
  h1 σ I H e n _ fun c I1 H1 p x => by
    cases c with
    | true => exact h2 p σ I1 H1 (e.trans x) (n.ext x) Q fun c I2 H2 p2 x2 => q c I2 H2 (h4 p c p2) (x.trans x2)
    | false => exact q false I1 H1 (h3 p) x
theorem et_or {t u : TT} {A B C : Bool → Prop} (h1 : EvT K b I0 H0 t δ A) (h2 : A false → EvT K b I0 H0 u δ B) (h3 : A true → C true) (h4 : A false → ∀ c, B c → C c) : EvT K b I0 H0 (tOr t u) δ C := fun σ I H e n Q q =>
  h1 σ I H e n _ fun c I1 H1 p x => by
    cases c with
    | false => exact h2 p σ I1 H1 (e.trans x) (n.ext x) Q fun c I2 H2 p2 x2 => q c I2 H2 (h4 p c p2) (x.trans x2)
    | true => exact q true I1 H1 (h3 p) x
theorem et_not {t : TT} {A : Bool → Prop} (h1 : EvT K b I0 H0 t δ A) : EvT K b I0 H0 (tNot t) δ (fun c => A (!c)) := fun σ I H e n Q q =>
  h1 σ I H e n _ fun c I1 H1 p x => q (!c) I1 H1 (by show A (!(!c)); rw [Bool.not_not]; exact p) x
theorem et_not1 {t : TT} {c : Bool} (h1 : EvT K b I0 H0 t δ (fun x => x = c)) : EvT K b I0 H0 (tNot t) δ (fun x => x = !c) := (et_not h1).mono fun x h => by
  cases x <;> cases c <;> simp_all
/-- and, both answers told -/
theorem et_and1 {t u : TT} {x y : Bool} (h1 : EvT K b I0 H0 t δ (fun c => c = x)) (h2 : x = true → EvT K b I0 H0 u δ (fun c => c = y)) : EvT K b I0 H0 (tAnd t u) δ (fun c => c = (x && y)) :=
  et_and h1 (fun e => h2 e.symm) (fun e => by rw [← e]; rfl) fun e c hc => by rw [← e, hc]; rfl
theorem et_or1 {t u : TT} {x y : Bool} (h1 : EvT K b I0 H0 t δ (fun c => c = x)) (h2 : x = false → EvT K b I0 H0 u δ (fun c => c = y)) : EvT K b I0 H0 (tOr t u) δ (fun c => c = (x || y)) :=
  et_or h1 (fun e => h2 e.symm) (fun e => by rw [← e]; rfl) fun e c hc => by rw [← e, hc]; rfl
theorem ev_if {t : TT} {A : Bool → Prop} (h1 : EvT K b I0 H0 t δ A) (h2 : A true → EvD K b I0 H0 ta δ P) (h3 : A false → EvD K b I0 H0 tb δ P) : EvD K b I0 H0 (tIf t ta tb) δ P := fun σ I H e n Q q =>
  h1 σ I H e n _ fun c I1 H1 p x => by
    cases c with
    | true => exact h2 p σ I1 H1 (e.trans x) (n.ext x) Q fun r v I2 H2 p2 x2 r2 => q r v I2 H2 p2 (x.trans x2) (r2.since (free_of x))
    | false => exact h3 p σ I1 H1 (e.trans x) (n.ext x) Q fun r v I2 H2 p2 x2 r2 => q r v I2 H2 p2 (x.trans x2) (r2.since (free_of x))
theorem ev_andV {A : Bool → Prop} (h1 : EvD K b I0 H0 ta δ (fun x => ∃ c, x = dbl c ∧ A c)) (h2 : A true → EvD K b I0 H0 tb δ P) (h3 : A false → P (dbl false)) : EvD K b I0 H0 (tAndV ta tb) δ P := fun σ I H e n Q q =>
  h1 σ I H e n _ fun r v I1 H1 p x rs => by
    obtain ⟨c, rfl, p⟩ := p
    refine ⟨c, bl_read rs, ?_⟩
    cases c with
    | true => exact h2 p σ I1 H1 (e.trans x) (n.ext x) Q fun r v I2 H2 p2 x2 r2 => q r v I2 H2 p2 (x.trans x2) (r2.since (free_of x))
    | false => exact q _ _ I1 H1 (h3 p) x (Dp.bl false)
theorem ev_orV {A : Bool → Prop} (h1 : EvD K b I0 H0 ta δ (fun x => ∃ c, x = dbl c ∧ A c)) (h2 : A false → EvD K b I0 H0 tb δ P) (h3 : A true → P (dbl true)) : EvD K b I0 H0 (tOrV ta tb) δ P := fun σ I H e n Q q =>
  h1 σ I H e n _ fun r v I1 H1 p x rs => by
    obtain ⟨c, rfl, p⟩ := p
    refine ⟨c, bl_read rs, ?_⟩
    cases c with
    | false => exact h2 p σ I1 H1 (e.trans x) (n.ext x) Q fun r v I2 H2 p2 x2 r2 => q r v I2 H2 p2 (x.trans x2) (r2.since (free_of x))
    | true => exact q _ _ I1 H1 (h3 p) x (Dp.bl true)
theorem ev_notV {A : Bool → Prop} (h1 : EvD K b I0 H0 ta δ (fun x => ∃ c, x = dbl c ∧ A c)) (h2 : ∀ c, A c → P (dbl (!c))) : EvD K b I0 H0 (tNotV ta) δ P := fun σ I H e n Q q =>
  h1 σ I H e n _ fun r v I1 H1 p x rs => by
    obtain ⟨c, rfl, p⟩ := p
    exact ⟨c, bl_read rs, q _ _ I1 H1 (h2 c p) x (Dp.bl _)⟩
theorem ev_chain {r r' : R2} {tc : TE} {Pc : DV → Prop} {A : Bool → Prop} (ha : EvD K b I0 H0 ta δ Pa) (hb : EvD K b I0 H0 tb δ Pb) (hc : EvD K b I0 H0 tc δ Pc)
    (ho : ∀ x y, Pa x → Pb y → OpD K b r x y (fun z => ∃ c, z = dbl c ∧ (c = false → P (dbl false)) ∧ (c = true → ∀ z, Pc z → OpD K b r' y z P))) : EvD K b I0 H0 (tChain r r' ta tb tc) δ P := fun σ I H e n Q q =>
  ha σ I H e n _ fun x v I1 H1 p1 x1 r1 => hb σ I1 H1 (e.trans x1) (n.ext x1) _ fun y w I2 H2 p2 x2 r2 =>
    ho x y p1 p2 H I2 H2 v w x2.ok (r1.ext x2) (r2.since (free_of x1)) _ fun z u I3 H3 p3 x3 r3 => by
      obtain ⟨c, rfl, pf, pt⟩ := p3
      refine ⟨c, bl_read r3, ?_⟩
      cases c with
      | false => exact q _ _ I3 H3 (pf rfl) ((x1.trans x2).trans x3) (Dp.bl false)
      | true =>
        exact hc σ I3 H3 (e.trans ((x1.trans x2).trans x3)) (n.ext ((x1.trans x2).trans x3)) _ fun zz ww I4 H4 p4 x4 r4 =>
          pt rfl zz p4 H I4 H4 w ww x4.ok (((r2.since (free_of x1)).ext x3).ext x4) (r4.since (free_of ((x1.trans x2).trans x3))) Q fun z5 u5 I5 H5 p5 x5 r5 =>
            q z5 u5 I5 H5 p5 ((((x1.trans x2).trans x3).trans x4).trans x5) (r5.since (free_of (((x1.trans x2).trans x3).trans x4)))
/-! ### tuples, lists made -/
theorem resA_dats : ∀ {vs : List V} {ds : List PyData}, ResA K b H0 I H vs (ds.map .dat) → DpAll K I vs ds
  | [], [], _ => .nil
  | _ :: _, d :: ds, .cons q r => .cons q (resA_dats r)
/-- a new tuple -/
theorem newT_res {I1 H1 : Hp} {xs : List V} {ds : List PyData} {Q : VK} (k : Ok K b I1 H1) (hd : DpAll K I1 xs ds) (q : ∀ v I' H', Ext K b I1 H1 I' H' → Dp K I' v (.tuple ds) → Q v H') : TF.NewT xs H1 Q := fun p o hp ho => by
  have x2 := k.new (o := .frz o (.tup xs)) hp ho
  exact q _ _ _ x2 (.tup (.inl (.inr ⟨o, upd_same⟩)) (dpa_mono x2.i hd))
theorem ev_tup {t : TA} {A : List PyData → Prop} (h : EvA K b I0 H0 t δ (fun rs => ∃ ds, rs = ds.map .dat ∧ ds.length ≤ 100000 ∧ A ds)) : EvD K b I0 H0 (TF.tTupF t) δ (fun x => ∃ ds, x = .dat (.tuple ds) ∧ A ds) := fun σ I H e n Q q =>
  h σ I H e n _ fun rs vs I1 H1 p x r => by
    obtain ⟨ds, rfl, hl, p⟩ := p
    have hd := resA_dats r
    exact ⟨Nat.le_trans (by rw [dpa_len hd]; exact hl) (by decide : 100000 ≤ sizeLine), newT_res x.ok hd fun v I' H' x2 d => q _ v I' H' ⟨ds, rfl, p⟩ (x.trans x2) d⟩
theorem ev_tup1 {t : TA} {ds : List PyData} (h : EvA K b I0 H0 t δ (fun rs => rs = ds.map .dat)) (hl : ds.length ≤ 100000 := by decide) : EvD K b I0 H0 (TF.tTupF t) δ (fun x => x = .dat (.tuple ds)) :=
  (ev_tup (A := fun x => x = ds) (h.mono fun rs e => ⟨ds, e, hl, rfl⟩)).mono fun r ⟨d, e, e2⟩ => by rw [e, e2]
theorem ev_lst {t : TA} {A : List PyData → Prop} (h : EvA K b I0 H0 t δ (fun rs => ∃ ds, rs = ds.map .dat ∧ ds.length ≤ 100000 ∧ A ds)) : EvD K b I0 H0 (tLst t) δ (fun x => ∃ ds, x = .own ds ∧ A ds) := fun σ I H e n Q q =>
  h σ I H e n _ fun rs vs I1 H1 p x r => by
    obtain ⟨ds, rfl, hl, p⟩ := p
    have hd := resA_dats r
    refine ⟨Nat.le_trans (by rw [dpa_len hd]; exact hl) (by decide : 100000 ≤ sizeLine), fun p' hp => ?_⟩
    have x2 := x.ok.newH (o := .lst vs) hp
    exact q _ _ _ _ ⟨ds, rfl, p⟩ (x.trans x2) ⟨p', vs, rfl, x.free (fr_none hp), x.ok.inone hp, x.ok.nb hp, upd_same, hd⟩
theorem ev_lst1 {t : TA} {ds : List PyData} (h : EvA K b I0 H0 t δ (fun rs => rs = ds.map .dat)) (hl : ds.length ≤ 100000 := by decide) : EvD K b I0 H0 (tLst t) δ (fun x => x = .own ds) :=
  (ev_lst (A := fun x => x = ds) (h.mono fun rs e => ⟨ds, e, hl, rfl⟩)).mono fun r ⟨d, e, e2⟩ => by rw [e, e2]
end
/-! ### what the operations on values are worth -/
section
variable {K : PySem.W.Frag} {b : Bg} {i j : Int}
theorem od_I0 {g : Int → Int → V} {d : PyData} (hg : ∀ K I, Dp K I (g i j) d) : OpD K b (rI0 g) (dint i) (dint j) (fun x => x = .dat d) := fun H0 I H v w k r1 r2 Q q =>
  ⟨i, j, int_read r1, int_read r2, q _ _ I H rfl k.re (hg K I)⟩
theorem od_I {C : Int → Int → Prop} {g : Int → Int → V} {d : PyData} (hc : C i j) (hg : ∀ K I, Dp K I (g i j) d) : OpD K b (rI C g) (dint i) (dint j) (fun x => x = .dat d) := fun H0 I H v w k r1 r2 Q q =>
  ⟨i, j, int_read r1, int_read r2, hc, q _ _ I H rfl k.re (hg K I)⟩
theorem ud_U {g : Int → V} {d : PyData} (hg : ∀ K I, Dp K I (g i) d) : UnD K b (rU g) (dint i) (fun x => x = .dat d) := fun H0 I H v k r1 Q q =>
  ⟨i, int_read r1, q _ _ I H rfl k.re (hg K I)⟩
theorem ixL_ {P : DV → Prop} {x : DV} {ds : List PyData} {d : PyData} (l : LstR x ds) (h0 : 0 ≤ i) (h : ds[i.toNat]? = some d) (hP : P (.dat d)) : OpD K b (rIxL K) x (dint i) P := fun H0 I H v w k r1 r2 Q q => by
  obtain ⟨a, xs, rfl, hs, hd⟩ := l.read k.s r1
  obtain ⟨u, e1, e2⟩ := dpa_get hd h
  refine ⟨a, xs, i, u, rfl, int_read r2, hs, ?_, q _ _ I H hP k.re e2⟩
  exact at_of (j := i.toNat) (by omega) e1
theorem ixT_ {P : DV → Prop} {ds : List PyData} {d : PyData} (h0 : 0 ≤ i) (h : ds[i.toNat]? = some d) (hP : P (.dat d)) : OpD K b (rIxT K) (.dat (.tuple ds)) (dint i) P := fun H0 I H v w k r1 r2 Q q => by
  obtain ⟨a, xs, rfl, hs, hd⟩ := tup_read k.s r1
  obtain ⟨u, e1, e2⟩ := dpa_get hd h
  refine ⟨a, xs, i, u, rfl, int_read r2, hs, ?_, q _ _ I H hP k.re e2⟩
  exact at_of (j := i.toNat) (by omega) e1
/-- == of plain data -/
theorem od_eq {d e : PyData} (h1 : SeqAt.shaped d = true) (h2 : SeqAt.shaped e = true) : OpD K b (rEqD K) (.dat d) (.dat e) (fun x => x = dbl (PyData.eqv d e)) := fun H0 I H v w k r1 r2 Q q =>
  ⟨d, e, dp_mono k.s r1, dp_mono k.s r2, h1, h2, q _ _ I H rfl k.re (Dp.bl _)⟩
theorem od_ne {d e : PyData} (h1 : SeqAt.shaped d = true) (h2 : SeqAt.shaped e = true) : OpD K b (rNeD K) (.dat d) (.dat e) (fun x => x = dbl (!PyData.eqv d e)) := fun H0 I H v w k r1 r2 Q q =>
  ⟨d, e, dp_mono k.s r1, dp_mono k.s r2, h1, h2, q _ _ I H rfl k.re (Dp.bl _)⟩
end
end DL

set_option Elab.async false
set_option linter.all false
set_option maxRecDepth 100000
set_option maxHeartbeats 4000000
namespace DL
open PySem L2 RZ
section
variable {K : PySem.W.Frag} {b : Bg} {H0 I H I' H' : Hp}
/-- a list that is new since (I, H) changes -/
theorem Ext.mut {D : Addr} {xs : List V} {o : HO} (e : Ext K b I H I' H') (h0 : Fr H D) (hi : I' D = none) (hb : D ≠ b.a) (hD : H' D = some (.lst xs)) : Ext K b I H I' (upd H' D o) := by
  obtain ⟨n, pl, tb, l, ns, x, q, m, c, e1, sl, r⟩ := e.b
  refine ⟨e.i, fun a u n t h => ?_, e.n, fun l xs h => (let ⟨ys, h1⟩ := e.k l xs h; ⟨ys, by rw [upd_ne (fun z => hb z.symm)]; exact h1⟩), fun a u h => ?_, n, pl, tabs_upd tb hD, l, ns, x, q, m, c, ?_, sl, r⟩
  · rw [upd_ne (fun (z : a = D) => fr_not h0 (z ▸ h) t)]; exact e.h a u n t h
  · rw [upd_ne (ne_of_none h hi)]; exact e.s a u h
  · rw [upd_ne (fun z => hb z.symm)]; exact e1
end
/-! ### calls of built-ins -/
section
variable {K : PySem.W.Frag} {b : Bg} {i j : Int}
theorem cb_lenL {x : DV} {ds : List PyData} (l : LstR x ds) : CbD K b (fun xs H Q => ∃ p ys, xs = [.ref p] ∧ (SqL K H p ys ∨ SqT K H p ys) ∧ Q (.int ys.length) H) [x] (fun r => r = dint ds.length) := fun H0 I H vs k rs Q q => by
  cases rs with
  | cons r1 rr =>
    cases rr
    obtain ⟨a, xs, rfl, hs, hd⟩ := l.read k.s r1
    exact ⟨a, xs, rfl, .inl hs, q _ _ I H rfl k.re (by rw [dpa_len hd]; exact Dp.int _)⟩
theorem cb_lenT {ds : List PyData} : CbD K b (fun xs H Q => ∃ p ys, xs = [.ref p] ∧ (SqL K H p ys ∨ SqT K H p ys) ∧ Q (.int ys.length) H) [.dat (.tuple ds)] (fun r => r = dint ds.length) := fun H0 I H vs k rs Q q => by
  cases rs with
  | cons r1 rr =>
    cases rr
    obtain ⟨a, xs, rfl, hs, hd⟩ := tup_read k.s r1
    exact ⟨a, xs, rfl, .inr hs, q _ _ I H rfl k.re (by rw [dpa_len hd]; exact Dp.int _)⟩
theorem cb_tupleL {x : DV} {ds : List PyData} (l : LstR x ds) : CbD K b (TF.rTupleF K) [x] (fun r => r = .dat (.tuple ds)) := fun H0 I H vs k rs Q q => by
  cases rs with
  | cons r1 rr =>
    cases rr
    obtain ⟨a, xs, rfl, hs, hd⟩ := l.read k.s r1
    exact ⟨a, xs, rfl, .inl ⟨hs, newT_res k hd fun v I' H' x2 d => q _ v I' H' rfl x2 d⟩⟩
theorem cb_tupleT {ds : List PyData} : CbD K b (TF.rTupleF K) [.dat (.tuple ds)] (fun r => r = .dat (.tuple ds)) := fun H0 I H vs k rs Q q => by
  cases rs with
  | cons r1 rr =>
    cases rr
    obtain ⟨a, xs, e, hs, hd⟩ := tup_read k.s r1
    subst e
    exact ⟨a, xs, rfl, .inr ⟨hs, q _ _ I H rfl k.re r1⟩⟩
theorem cb_listL {x : DV} {ds : List PyData} (l : LstR x ds) : CbD K b (fun xs H Q => ∃ p ys, xs = [.ref p] ∧ (SqL K H p ys ∨ SqT K H p ys) ∧ ∀ l, H l = none → Q (.ref l) (upd H l (.lst ys))) [x] (fun r => r = .own ds) := fun H0 I H vs k rs Q q => by
  cases rs with
  | cons r1 rr =>
    cases rr
    obtain ⟨a, xs, rfl, hs, hd⟩ := l.read k.s r1
    exact ⟨a, xs, rfl, .inl hs, fun p hp => q _ _ _ _ rfl (k.newH hp) ⟨p, xs, rfl, fr_none hp, k.inone hp, k.nb hp, upd_same, hd⟩⟩
theorem cb_listT {ds : List PyData} : CbD K b (fun xs H Q => ∃ p ys, xs = [.ref p] ∧ (SqL K H p ys ∨ SqT K H p ys) ∧ ∀ l, H l = none → Q (.ref l) (upd H l (.lst ys))) [.dat (.tuple ds)] (fun r => r = .own ds) := fun H0 I H vs k rs Q q => by
  cases rs with
  | cons r1 rr =>
    cases rr
    obtain ⟨a, xs, rfl, hs, hd⟩ := tup_read k.s r1
    exact ⟨a, xs, rfl, .inr hs, fun p hp => q _ _ _ _ rfl (k.newH hp) ⟨p, xs, rfl, fr_none hp, k.inone hp, k.nb hp, upd_same, hd⟩⟩
theorem cb_abs : CbD K b (fun xs H Q => ∃ i, xs = [.int i] ∧ Q (.int (if i < 0 then -i else i)) H) [dint i] (fun r => r = dint (if i < 0 then -i else i)) := fun H0 I H vs k rs Q q => by
  cases rs with
  | cons r1 rr =>
    cases rr
    rw [int_read r1]
    exact ⟨i, rfl, q _ _ I H rfl k.re (Dp.int _)⟩
theorem cb_min : CbD K b (fun xs H Q => ∃ i j, xs = [.int i, .int j] ∧ Q (.int (if j < i then j else i)) H) [dint i, dint j] (fun r => r = dint (if j < i then j else i)) := fun H0 I H vs k rs Q q => by
  cases rs with
  | cons r1 rr =>
    cases rr with
    | cons r2 rr =>
      cases rr
      rw [int_read r1, int_read r2]
      exact ⟨i, j, rfl, q _ _ I H rfl k.re (Dp.int _)⟩
theorem cb_max : CbD K b (fun xs H Q => ∃ i j, xs = [.int i, .int j] ∧ Q (.int (if j > i then j else i)) H) [dint i, dint j] (fun r => r = dint (if j > i then j else i)) := fun H0 I H vs k rs Q q => by
  cases rs with
  | cons r1 rr =>
    cases rr with
    | cons r2 rr =>
      cases rr
      rw [int_read r1, int_read r2]
      exact ⟨i, j, rfl, q _ _ I H rfl k.re (Dp.int _)⟩
theorem cb_sum {x : DV} {ns : List Int} (l : LstR x (ns.map .int)) : CbD K b (rSum K) [x] (fun r => r = dint ns.sum) := fun H0 I H vs k rs Q q => by
  cases rs with
  | cons r1 rr =>
    cases rr
    obtain ⟨a, xs, rfl, hs, hd⟩ := l.read k.s r1
    rw [dpa_ints hd] at hs
    exact ⟨a, ns, rfl, hs, q _ _ I H rfl k.re (Dp.int _)⟩
theorem cb_all {x : DV} {ns : List Bool} (l : LstR x (ns.map .bool)) : CbD K b (rAll K) [x] (fun r => r = dbl (ns.all id)) := fun H0 I H vs k rs Q q => by
  cases rs with
  | cons r1 rr =>
    cases rr
    obtain ⟨a, xs, rfl, hs, hd⟩ := l.read k.s r1
    rw [dpa_bools hd] at hs
    exact ⟨a, ns, rfl, hs, q _ _ I H rfl k.re (Dp.bl _)⟩
theorem cb_any {x : DV} {ns : List Bool} (l : LstR x (ns.map .bool)) : CbD K b (rAny K) [x] (fun r => r = dbl (ns.any id)) := fun H0 I H vs k rs Q q => by
  cases rs with
  | cons r1 rr =>
    cases rr
    obtain ⟨a, xs, rfl, hs, hd⟩ := l.read k.s r1
    rw [dpa_bools hd] at hs
    exact ⟨a, ns, rfl, hs, q _ _ I H rfl k.re (Dp.bl _)⟩
/-- t + u of tuples -/
theorem od_cat {ds es : List PyData} (hl : ds.length + es.length ≤ 100000) : OpD K b (TF.rCatF K) (.dat (.tuple ds)) (.dat (.tuple es)) (fun x => x = .dat (.tuple (ds ++ es))) := fun H0 I H v w k r1 r2 Q q => by
  obtain ⟨a, xs, e1, hs, hd⟩ := tup_read k.s r1
  obtain ⟨c, ys, e2, ht, he⟩ := tup_read k.s r2
  subst e1 e2
  have l1 := dpa_len hd
  have l2 := dpa_len he
  refine ⟨a, c, xs, ys, rfl, rfl, hs, ht, Nat.le_trans (by omega) (by decide : 100000 ≤ sizeLine), fun z => ?_, fun _ z => ?_, fun _ _ => newT_res k (dpa_app hd he) fun v I' H' x2 d => q _ v I' H' rfl x2 d⟩
  · subst z
    cases hd
    exact q _ _ I H rfl k.re r2
  · subst z
    cases he
    rw [List.append_nil] at q
    exact q _ _ I H rfl k.re r1
theorem dpa_rep {I : Hp} {xs : List V} {ds : List PyData} (h : DpAll K I xs ds) : ∀ n : Nat, DpAll K I (List.replicate n xs).flatten (List.replicate n ds).flatten
  | 0 => .nil
  | n + 1 => by
    rw [List.replicate_succ, List.replicate_succ, List.flatten_cons, List.flatten_cons]
    exact dpa_app h (dpa_rep h n)
/-- t * n -/
theorem od_rep {ds : List PyData} {n : Int} (h0 : ds ≠ []) (hl : ds.length ≤ 1000) (n0 : -1000 ≤ n) (n1 : n ≤ 1000) : OpD K b (TF.rRepF K) (.dat (.tuple ds)) (dint n) (fun x => x = .dat (.tuple (List.replicate n.toNat ds).flatten)) := fun H0 I H v w k r1 r2 Q q => by
  obtain ⟨a, xs, e1, hs, hd⟩ := tup_read k.s r1
  subst e1
  have l1 := dpa_len hd
  refine ⟨a, n, xs, rfl, int_read r2, hs, fun z => h0 ?_, n0, n1, by omega, fun z => ?_, fun z => ?_, fun _ => newT_res k (dpa_rep hd _) fun v I' H' x2 d => q _ v I' H' rfl x2 d⟩
  · subst z
    exact List.eq_nil_of_length_eq_zero l1.symm
  · have ez : (List.replicate n.toNat ds).flatten = [] := by
      rw [show n.toNat = 0 by omega]
      rfl
    exact newT_res k .nil fun v I' H' x2 d => q (.dat (.tuple [])) v I' H' (by rw [ez]) x2 d
  · subst z
    refine q (.dat (.tuple ds)) _ I H ?_ k.re r1
    simp
/-- t[lo:hi] -/
def cutD (ds : List PyData) (lo hi : Option Int) : List PyData := (ds.drop (HT.sIx ds.length 0 lo)).take (HT.sIx ds.length ds.length hi - HT.sIx ds.length 0 lo)
end
/-! ### what is walked -/
/-- how an item is told: as plain data; as a new pair of plain data -/
abbrev Rel := Hp → Hp → V → PyData → Prop
def DpR (K : PySem.W.Frag) : Rel := fun I _ v d => Dp K I v d
def PairR (K : PySem.W.Frag) : Rel := fun I H v d => ∃ T x1 x2 d1 d2, v = .ref T ∧ H T = some (.tup [x1, x2]) ∧ d = .tuple [d1, d2] ∧ Dp K I x1 d1 ∧ Dp K I x2 d2
section
variable (K : PySem.W.Frag) (b : Bg) (Rl : Rel)
def IterOk (J : It) (I : Hp) (ds : List PyData) : Prop := ∃ G Y, Walk J ds.length G Y ∧ (∀ H, Same I H → G H) ∧
  ∀ (i : Nat) (I2 H : Hp) (x : V) (H' : Hp) (d : PyData), Same I I2 → Ok K b I2 H → Y i H x H' → ds[i]? = some d → ∃ I3, Ext K b I2 H I3 H' ∧ Rl I3 H' x d
def ItD (I0 H0 : Hp) (wi : TI) (δ : Env) (A : List PyData → Prop) : Prop := ∀ (σ : St) (I H : Hp), Ext K b I0 H0 I H → EnvR K b H0 I H σ δ → ∀ R : It → Hp → Prop,
  (∀ ds J I' H', A ds → Ext K b I H I' H' → IterOk K b Rl J I' ds → R J H') → wi σ H R
/-- the datum d goes to the target g: δ becomes δ' -/
def TgD (g : TG) (is : List Nat) (d : PyData) (δ δ' : Env) : Prop := ∀ (H0 I H : Hp) (σ : St) (v : V), Ok K b I H → EnvR K b H0 I H σ δ → Rl I H v d → ∀ Q : St → Hp → Prop,
  (∀ σ', EnvR K b H0 I H σ' δ' → (∀ j, j ∉ is → σ'[j]? = σ[j]?) → σ'.length = σ.length → Q σ' H) → g v σ H Q
end
section
variable {K : PySem.W.Frag} {b : Bg} {I0 H0 : Hp} {δ : Env} {te : TE}
theorem itd_list {A : List PyData → Prop} (h : EvD K b I0 H0 te δ (fun x => ∃ ds, x = .dat (.list ds) ∧ A ds)) : ItD K b (DpR K) I0 H0 (iList K te) δ A := fun σ I H k n R q =>
  h σ I H k n _ fun r v I1 H1 p x rs => by
    obtain ⟨ds, rfl, p⟩ := p
    have hr : Dp K I1 v (.list ds) := rs
    cases hr with
    | @lst a xs _ hs hd =>
      refine ⟨a, rfl, ⟨xs, sl_mono x.s hs⟩, q ds _ I1 H1 p x ⟨fun H => SqL K H a xs, YAt xs, ?_, fun H e => sl_mono e hs, fun i I2 H x H' d e k2 y hd' => ?_⟩⟩
      · rw [← dpa_len hd]
        exact walk_list
      · obtain ⟨rfl, y⟩ := y
        obtain ⟨u, e1, e2⟩ := dpa_get hd hd'
        rw [y] at e1
        cases e1
        exact ⟨I2, k2.re, dp_mono e e2⟩
theorem itd_tup {A : List PyData → Prop} (h : EvD K b I0 H0 te δ (fun x => ∃ ds, x = .dat (.tuple ds) ∧ A ds)) : ItD K b (DpR K) I0 H0 (iTup K te) δ A := fun σ I H k n R q =>
  h σ I H k n _ fun r v I1 H1 p x rs => by
    obtain ⟨ds, rfl, p⟩ := p
    have hr : Dp K I1 v (.tuple ds) := rs
    cases hr with
    | @tup a xs _ hs hd =>
      refine ⟨a, rfl, ⟨xs, st_mono x.s hs⟩, q ds _ I1 H1 p x ⟨fun H => SqT K H a xs, YAt xs, ?_, fun H e => st_mono e hs, fun i I2 H x H' d e k2 y hd' => ?_⟩⟩
      · rw [← dpa_len hd]
        exact walk_tup
      · obtain ⟨rfl, y⟩ := y
        obtain ⟨u, e1, e2⟩ := dpa_get hd hd'
        rw [y] at e1
        cases e1
        exact ⟨I2, k2.re, dp_mono e e2⟩
def rangeD (lo : Int) (n : Nat) : List PyData := (List.range n).map fun (k : Nat) => .int (lo + (k : Int))
theorem rangeD_len (lo : Int) (n : Nat) : (rangeD lo n).length = n := by simp [rangeD]
theorem rangeD_get {lo : Int} {n i : Nat} {d : PyData} (h : (rangeD lo n)[i]? = some d) : i < n ∧ d = .int (lo + i) := by
  unfold rangeD at h
  rw [List.getElem?_map] at h
  cases q : (List.range n)[i]? with
  | none => rw [q] at h; cases h
  | some j =>
    rw [q] at h
    obtain ⟨h1, h2⟩ := List.getElem?_eq_some_iff.mp q
    rw [List.getElem_range] at h2
    rw [List.length_range] at h1
    subst h2
    exact ⟨h1, (Option.some.inj h).symm⟩
theorem range_ok {lo : Int} {n : Nat} {I : Hp} : IterOk K b (DpR K) (Itr lo n) I (rangeD lo n) := by
  refine ⟨_, _, by rw [rangeD_len]; exact walk_range, fun _ _ => True.intro, fun i I2 H x H' d e k2 y hd => ?_⟩
  obtain ⟨rfl, rfl⟩ := y
  obtain ⟨_, rfl⟩ := rangeD_get hd
  exact ⟨I2, k2.re, Dp.int _⟩
theorem itd_rng1 {ta : TA} {A : Int → Prop} (h : EvA K b I0 H0 ta δ (fun rs => ∃ n, rs = [dint n] ∧ n < 2 ^ 62 ∧ -(2 ^ 62) ≤ n ∧ A n)) : ItD K b (DpR K) I0 H0 (iRng1 ta) δ (fun ds => ∃ n, ds = rangeD 0 n.toNat ∧ A n) := fun σ I H k n R q =>
  h σ I H k n _ fun rs vs I1 H1 p x r => by
    obtain ⟨m, rfl, h1, h2, p⟩ := p
    cases r with
    | cons r1 rr =>
      cases rr
      rw [int_read r1]
      exact ⟨m, rfl, h2, h1, q _ _ I1 H1 ⟨m, rfl, p⟩ x range_ok⟩
theorem itd_rng2 {ta : TA} {A : Int → Int → Prop} (h : EvA K b I0 H0 ta δ (fun rs => ∃ m n, rs = [dint m, dint n] ∧ (-(2 ^ 62) ≤ m ∧ m < 2 ^ 62 ∧ -(2 ^ 62) ≤ n ∧ n < 2 ^ 62) ∧ A m n)) : ItD K b (DpR K) I0 H0 (iRng2 ta) δ (fun ds => ∃ m n, ds = rangeD m (n - m).toNat ∧ A m n) := fun σ I H k n R q =>
  h σ I H k n _ fun rs vs I1 H1 p x r => by
    obtain ⟨m, n', rfl, hb, p⟩ := p
    cases r with
    | cons r1 rr =>
      cases rr with
      | cons r2 rr =>
        cases rr
        rw [int_read r1, int_read r2]
        exact ⟨m, n', rfl, hb, q _ _ I1 H1 ⟨m, n', rfl, p⟩ x range_ok⟩
def zipD (ds es : List PyData) : List PyData := List.zipWith (fun d e => .tuple [d, e]) ds es
theorem walk_zipT {a c : Addr} {xs ys : List V} {n : Nat} (hn : n = min xs.length ys.length) : Walk (ItzT K a c) n (fun H => SqT K H a xs ∧ SqT K H c ys) (YPair (fun i => xs[i]?) (fun i => ys[i]?)) := by
  subst hn
  refine ⟨fun i _ hi q => ?_, fun _ q => ⟨xs, ys, q.1, q.2, by omega⟩, fun i H v H' _ q y => ?_⟩
  · have h1 : i < xs.length := by omega
    have h2 : i < ys.length := by omega
    exact ⟨xs, ys, xs[i], ys[i], q.1, q.2, by simp [h1], by simp [h2]⟩
  · obtain ⟨T, x, z, h1, h2, h3, h4, h5⟩ := y
    exact ⟨T, x, z, h1, h2, h3, h4 xs q.1, h5 ys q.2⟩
/-- zip of two tuples -/
theorem itd_zipT {ta : TA} {A : List PyData → List PyData → Prop} (h : EvA K b I0 H0 ta δ (fun rs => ∃ ds es, rs = [.dat (.tuple ds), .dat (.tuple es)] ∧ A ds es)) : ItD K b (PairR K) I0 H0 (iZipA K ta) δ (fun zs => ∃ ds es, zs = zipD ds es ∧ A ds es) := fun σ I H k n R q =>
  h σ I H k n _ fun rs vs I1 H1 p x r => by
    obtain ⟨ds, es, rfl, p⟩ := p
    cases r with
    | cons r1 rr =>
      cases rr with
      | cons r2 rr =>
        cases rr
        have r1 : Dp K I1 _ (.tuple ds) := r1
        have r2 : Dp K I1 _ (.tuple es) := r2
        cases r1 with
        | @tup a xs _ hs hd =>
          cases r2 with
          | @tup c ys _ ht he =>
            refine ⟨a, c, xs, ys, rfl, .inr ⟨st_mono x.s hs, st_mono x.s ht, q _ _ I1 H1 ⟨ds, es, rfl, p⟩ x ⟨fun H => SqT K H a xs ∧ SqT K H c ys, YPair (fun i => xs[i]?) (fun i => ys[i]?), walk_zipT ?_, fun H e => ⟨st_mono e hs, st_mono e ht⟩, fun i I2 H x H' d e k2 y hz => ?_⟩⟩⟩
            · unfold zipD
              rw [List.length_zipWith, dpa_len hd, dpa_len he]
            · obtain ⟨T, x1, x2, rfl, nT, rfl, g1, g2⟩ := y
              unfold zipD at hz
              rw [List.getElem?_zipWith] at hz
              cases q1 : ds[i]? with
              | none => rw [q1] at hz; cases hz
              | some d1 =>
                cases q2 : es[i]? with
                | none => rw [q1, q2] at hz; cases hz
                | some d2 =>
                  rw [q1, q2] at hz
                  cases hz
                  obtain ⟨u1, e1, f1⟩ := dpa_get hd q1
                  obtain ⟨u2, e2, f2⟩ := dpa_get he q2
                  have g1 : xs[i]? = some x1 := g1
                  have g2 : ys[i]? = some x2 := g2
                  rw [g1] at e1
                  rw [g2] at e2
                  cases e1
                  cases e2
                  exact ⟨I2, k2.newH nT, T, x1, x2, d1, d2, rfl, upd_same, rfl, dp_mono e f1, dp_mono e f2⟩
theorem tg_name {i : Nat} {d : PyData} (hi : i < δ.length) : TgD K b (DpR K) (gName i) [i] d δ (δ.set i (some (.dat d))) := fun H0 I H σ v k n hd Q q =>
  q _ (n.setD hi (r := .dat d) hd (fun _ z => by cases z)) (fun j hj => List.getElem?_set_ne (fun z => hj (by simp [z]))) List.length_set
/-- a, b out of a new pair -/
theorem tg_pair {i j : Nat} {d e : PyData} (hi : i < δ.length) (hj : j < δ.length) : TgD K b (PairR K) (gTup K 2 (gCons (gName i) (gCons (gName j) gNil))) [i, j] (.tuple [d, e]) δ ((δ.set i (some (.dat d))).set j (some (.dat e))) := fun H0 I H σ v k n hd Q q => by
  obtain ⟨T, v1, v2, d1, d2, rfl, hT, ed, h1, h2⟩ := hd
  cases ed
  refine ⟨T, [v1, v2], rfl, .inl (.inl hT), rfl, v1, [v2], rfl, v2, [], rfl, rfl, q _ ?_ (fun m hm => ?_) ?_⟩
  · exact (n.setD hi (r := .dat d) h1 (fun _ z => by cases z)).setD (by rw [List.length_set]; exact hj) (r := .dat e) h2 (fun _ z => by cases z)
  · have n1 : m ≠ i := fun z => hm (by simp [z])
    have n2 : m ≠ j := fun z => hm (by simp [z])
    rw [List.getElem?_set_ne (fun z => n2 z.symm), List.getElem?_set_ne (fun z => n1 z.symm)]
  · rw [List.length_set, List.length_set]
/-- a, b out of a pair that is plain -/
theorem tg_pairD {i j : Nat} {d e : PyData} (hi : i < δ.length) (hj : j < δ.length) : TgD K b (DpR K) (gTup K 2 (gCons (gName i) (gCons (gName j) gNil))) [i, j] (.tuple [d, e]) δ ((δ.set i (some (.dat d))).set j (some (.dat e))) := fun H0 I H σ v k n hd Q q => by
  have hd : Dp K I v (.tuple [d, e]) := hd
  cases hd with
  | @tup a xs _ hs ha =>
    cases ha with
    | @cons v1 _ _ _ h1 ha =>
      cases ha with
      | @cons v2 _ _ _ h2 ha =>
        cases ha
        refine ⟨a, [v1, v2], rfl, st_mono k.s hs, rfl, v1, [v2], rfl, v2, [], rfl, rfl, q _ ?_ (fun m hm => ?_) ?_⟩
        · exact (n.setD hi (r := .dat d) h1 (fun _ z => by cases z)).setD (by rw [List.length_set]; exact hj) (r := .dat e) h2 (fun _ z => by cases z)
        · have n1 : m ≠ i := fun z => hm (by simp [z])
          have n2 : m ≠ j := fun z => hm (by simp [z])
          rw [List.getElem?_set_ne (fun z => n2 z.symm), List.getElem?_set_ne (fun z => n1 z.symm)]
        · rw [List.length_set, List.length_set]
def enumD (ds : List PyData) : List PyData := ds.zipIdx.map fun p => .tuple [.int (p.2 : Int), p.1]
theorem walk_enumT {a : Addr} {xs : List V} : Walk (TF.IteT K a) xs.length (fun H => SqT K H a xs) (YPair (fun i => some (.int (i : Nat))) (fun i => xs[i]?)) := by
  refine ⟨fun i _ hi q => ⟨xs, xs[i], q, by simp [hi]⟩, fun _ q => ⟨xs, q, Nat.le_refl _⟩, fun i H v H' _ q y => ?_⟩
  obtain ⟨T, x, h1, h2, h3, h4⟩ := y
  exact ⟨T, .int (i : Nat), x, h1, h2, h3, rfl, h4 xs q⟩
/-- enumerate of a tuple -/
theorem itd_enumT {ta : TA} {A : List PyData → Prop} (h : EvA K b I0 H0 ta δ (fun rs => ∃ ds, rs = [.dat (.tuple ds)] ∧ A ds)) : ItD K b (PairR K) I0 H0 (TF.iEnumT K ta) δ (fun zs => ∃ ds, zs = enumD ds ∧ A ds) := fun σ I H k n R q =>
  h σ I H k n _ fun rs vs I1 H1 p x r => by
    obtain ⟨ds, rfl, p⟩ := p
    cases r with
    | cons r1 rr =>
      cases rr
      have r1 : Dp K I1 _ (.tuple ds) := r1
      cases r1 with
      | @tup a xs _ hs hd =>
        refine ⟨a, xs, rfl, st_mono x.s hs, q _ _ I1 H1 ⟨ds, rfl, p⟩ x ⟨fun H => SqT K H a xs, YPair (fun i => some (.int (i : Nat))) (fun i => xs[i]?), ?_, fun H e => st_mono e hs, fun i I2 H x H' d e k2 y hz => ?_⟩⟩
        · unfold enumD
          rw [List.length_map, List.length_zipIdx, ← dpa_len hd]
          exact walk_enumT
        · obtain ⟨T, x1, x2, rfl, nT, rfl, g1, g2⟩ := y
          have g1 : some (V.int (i : Nat)) = some x1 := g1
          have g2 : xs[i]? = some x2 := g2
          cases g1
          unfold enumD at hz
          rw [List.getElem?_map, List.getElem?_zipIdx] at hz
          cases q1 : ds[i]? with
          | none => rw [q1] at hz; cases hz
          | some d1 =>
            rw [q1] at hz
            have hz := (Option.some.inj hz).symm
            subst hz
            obtain ⟨u1, e1, f1⟩ := dpa_get hd q1
            rw [g2] at e1
            cases e1
            refine ⟨I2, k2.newH nT, T, _, x2, .int (i : Int), d1, rfl, upd_same, ?_, .int _, dp_mono e f1⟩
            simp
end
/-! ### comprehensions -/
theorem wipe_get {σ : St} {i : Nat} : ∀ {vs : List Nat}, i ∈ vs → i < σ.length → (wipe σ vs)[i]? = some none
  | [], h, _ => by cases h
  | v :: vs, h, hl => by
    unfold wipe
    by_cases z : v = i
    · subst z
      exact List.getElem?_set_self (by rw [wipe_length]; exact hl)
    · rw [List.getElem?_set_ne z]
      exact wipe_get ((List.mem_cons.mp h).resolve_left (fun q => z q.symm)) hl
theorem wipe_eq {σ τ : St} {vs : List Nat} (hl : τ.length = σ.length) (h : ∀ j, j ∉ vs → τ[j]? = σ[j]?) : wipe τ vs = wipe σ vs := by
  refine List.ext_getElem? fun i => ?_
  by_cases hi : i ∈ vs
  · by_cases hs : i < σ.length
    · rw [wipe_get hi hs, wipe_get hi (by omega)]
    · rw [List.getElem?_eq_none (by rw [wipe_length]; omega), List.getElem?_eq_none (by rw [wipe_length]; omega)]
  · rw [wipe_out hi, wipe_out hi]
    exact h i hi
theorem EnvR.wipe {K : PySem.W.Frag} {b : Bg} {H0 I H : Hp} {σ : St} {δ : Env} (n : EnvR K b H0 I H σ δ) {vs : List Nat} (hv : ∀ v ∈ vs, δ[v]? = some none) : EnvR K b H0 I H (L2.wipe σ vs) δ := by
  have nin : ∀ (i : Nat) (r : DV), δ[i]? = some (some r) → i ∉ vs := fun i r h z => by
    rw [hv i z] at h
    cases h
  refine ⟨by rw [wipe_length]; exact n.len, fun i r h => ?_, fun i j a ds es h1 h2 h3 h4 => ?_⟩
  · rw [wipe_out (nin i r h)]
    exact n.at_ i r h
  · rw [wipe_out (nin i _ h1)] at h2
    rw [wipe_out (nin j _ h3)] at h4
    exact n.nd i j a ds es h1 h2 h3 h4
theorem paired_snoc {α β : Type} {F : α → β → Prop} : ∀ {l : List α} {m : List β} {x : α} {y : β}, Paired F l m → F x y → Paired F (l ++ [x]) (m ++ [y])
  | _, _, _, _, .nil, h => .cons h .nil
  | _, _, _, _, .cons r t, h => .cons r (paired_snoc t h)
section
variable {K : PySem.W.Frag} {b : Bg} {I0 H0 : Hp} {δ : Env}
theorem ev_lc {β : Type} {Rl : Rel} {wi : TI} {g : TG} {tt : TT} {te : TE} {vs is : List Nat} {A : List β → Prop} {gI : β → PyData} {δf : β → Env} {f : β → Bool} {Pe : β → PyData → Prop} (it : ItD K b Rl I0 H0 wi δ (fun x => ∃ l, x = l.map gI ∧ A l)) (hv : ∀ v ∈ vs, δ[v]? = some none) (his : ∀ v ∈ is, v ∈ vs)
    (hl : ∀ l, A l → l.length ≤ 100000) (tg : ∀ x, TgD K b Rl g is (gI x) δ (δf x)) (hT : ∀ l, A l → ∀ x ∈ l, EvT K b I0 H0 tt (δf x) (fun c => c = f x))
    (body : ∀ l, A l → ∀ x ∈ l, f x = true → EvD K b I0 H0 te (δf x) (fun r => ∃ y, r = .dat y ∧ Pe x y)) :
    EvD K b I0 H0 (tLc wi g tt te vs) δ (fun x => ∃ ys, x = .own ys ∧ ∃ l, A l ∧ Paired Pe (l.filter f) ys) := fun σ I H k n Q q =>
  it σ I H k n _ fun ds J I1 H1 p x ok => fun D hD => by
    obtain ⟨G, Y, w, hG, hY⟩ := ok
    obtain ⟨l, e, p⟩ := p
    subst e
    have hlen := hl l p
    have nDb : D ≠ b.a := x.ok.nb hD
    refine lc_it w (fun i Hk => ∃ Ik acc ys, Ext K b I1 H1 Ik Hk ∧ Ik D = none ∧ Hk D = some (.lst acc) ∧ DpAll K Ik acc ys ∧ Paired Pe ((l.take i).filter f) ys) ?_ (fun i Hk _ ⟨Ik, acc, ys, e, _⟩ => hG Hk (e.i.trans e.s)) ?_ ?_
    · exact ⟨I1, [], [], x.ok.newH hD, x.ok.inone hD, upd_same, .nil, .nil⟩
    · rintro i v Hk Hk' hi ⟨Ik, acc, ys, e, iD, aD, hd, hp⟩ hy
      have hi' : i < l.length := by rw [List.length_map] at hi; exact hi
      have hd1 : l[i]? = some l[i] := List.getElem?_eq_getElem hi'
      have hmem : l[i] ∈ l := List.getElem_mem hi'
      generalize l[i] = d at hd1 hmem
      obtain ⟨I3, e3, d3⟩ := hY i Ik Hk v Hk' (gI d) e.i e.ok hy (by rw [List.getElem?_map, hd1]; rfl)
      have e13 := e.trans e3
      have n3 : EnvR K b H0 I3 Hk' (wipe σ vs) δ := ((n.ext x).ext e13).wipe hv
      have tk : l.take (i + 1) = l.take i ++ [d] := by
        rw [List.take_add_one, hd1]
        rfl
      refine tg d H0 I3 Hk' _ v e3.ok n3 d3 _ fun σ2 n2 out hl => ⟨?_, ?_⟩
      · rw [wipe_eq (σ := wipe σ vs) (τ := σ2) hl (fun j hj => out j (fun z => hj (his j z)))]
        refine wipe_eq (wipe_length _ _) fun j hj => wipe_out hj
      · refine hT l p d hmem σ2 I3 Hk' (k.trans (x.trans e13)) n2 _ fun c I4 H4 pc e4 => ?_
        subst pc
        have e14 := e13.trans e4
        have aD3 : Hk' D = some (.lst acc) := e3.h D _ nDb lst_tbl aD
        have iD4 : I4 D = none := e4.n D _ (e3.n D _ iD aD lst_tbl) aD3 lst_tbl
        have aD4 : H4 D = some (.lst acc) := e4.h D _ nDb lst_tbl aD3
        have hd4 := dpa_mono (e3.i.trans e4.i) hd
        cases hf : f d with
        | false =>
          refine ⟨I4, acc, ys, e14, iD4, aD4, hd4, ?_⟩
          rw [tk, List.filter_append]
          have z : [d].filter f = [] := by simp [hf]
          rw [z, List.append_nil]
          exact hp
        | true =>
          refine body l p d hmem hf σ2 I4 H4 (k.trans (x.trans e14)) (n2.ext e4) _ fun r y I5 H5 pr e5 rs => ?_
          obtain ⟨yd, rfl, py⟩ := pr
          have iD5 : I5 D = none := e5.n D _ iD4 aD4 lst_tbl
          have aD5 : H5 D = some (.lst acc) := e5.h D _ nDb lst_tbl aD4
          refine ⟨acc, aD5, ?_, I5, acc ++ [y], ys ++ [yd], (e14.trans e5).mut (fr_none hD) iD5 nDb aD5, iD5, upd_same, dpa_app (dpa_mono e5.i hd4) (.cons rs .nil), ?_⟩
          · have l1 := dpa_len hd
            have l2 := hp.length
            have l3 : ((l.take i).filter f).length ≤ (l.take i).length := List.length_filter_le _ _
            rw [List.length_take] at l3
            exact Nat.lt_of_lt_of_le (by omega : acc.length < 100000) (by decide : 100000 ≤ sizeLine)
          · rw [tk, List.filter_append]
            have z : [d].filter f = [d] := by simp [hf]
            rw [z]
            exact paired_snoc hp py
    · rintro Hk ⟨Ik, acc, ys, e, iD, aD, hd, hp⟩
      rw [List.length_map, List.take_length] at hp
      exact q _ _ Ik Hk ⟨ys, rfl, l, p, hp⟩ (x.trans e) ⟨D, acc, rfl, x.free (fr_none hD), iD, nDb, aD, hd⟩
theorem et_yes : EvT K b I0 H0 tYes δ (fun c => c = true) := fun σ I H k n Q q => q true I H rfl k.re
end
end DL

set_option Elab.async false
set_option linter.all false
set_option maxRecDepth 100000
set_option maxHeartbeats 4000000
namespace DL
open PySem PySem.Spec PyProof.Rows L2
/-! ### statements -/
section
variable (K : PySem.W.Frag) (b : Bg) (I0 H0 : Hp)
def SvD (ts : TS) (δ : Env) (N : Env → Prop) (R : DV → Prop) (Bk Ct : Env → Prop) : Prop := ∀ (σ : L2.St) (I H : Hp), Ext K b I0 H0 I H → EnvR K b H0 I H σ δ → ∀ D : Ends,
  (∀ δ' σ' I' H', N δ' → Ext K b I0 H0 I' H' → Same I I' → EnvR K b H0 I' H' σ' δ' → D.nx σ' H') →
  (∀ r v I' H', R r → Ext K b I0 H0 I' H' → Res K b H0 I' H' v r → D.rt v H') →
  (∀ δ' σ' I' H', Bk δ' → Ext K b I0 H0 I' H' → Same I I' → EnvR K b H0 I' H' σ' δ' → D.bk σ' H') →
  (∀ δ' σ' I' H', Ct δ' → Ext K b I0 H0 I' H' → Same I I' → EnvR K b H0 I' H' σ' δ' → D.ct σ' H') → ts D σ H
end
section
variable {K : PySem.W.Frag} {b : Bg} {I0 H0 : Hp} {δ δ' : Env} {N N' Bk Ct : Env → Prop} {R : DV → Prop} {te : TE} {t u : TS} {P : DV → Prop}
theorem SvD.mono {N2 B2 C2 : Env → Prop} {R2 : DV → Prop} (h : SvD K b I0 H0 t δ N R Bk Ct) (hn : ∀ d, N d → N2 d) (hr : ∀ r, R r → R2 r) (hb : ∀ d, Bk d → B2 d) (hc : ∀ d, Ct d → C2 d) : SvD K b I0 H0 t δ N2 R2 B2 C2 :=
  fun σ I H e n D h1 h2 h3 h4 => h σ I H e n D (fun d σ' I' H' p => h1 d σ' I' H' (hn d p)) (fun r v I' H' p => h2 r v I' H' (hr r p)) (fun d σ' I' H' p => h3 d σ' I' H' (hb d p)) (fun d σ' I' H' p => h4 d σ' I' H' (hc d p))
theorem sv_nil (h : N δ) : SvD K b I0 H0 tNext δ N R Bk Ct := fun σ I H e n D h1 _ _ _ => h1 δ σ I H h e (Same.refl I) n
theorem sv_seq (h1 : SvD K b I0 H0 t δ N' R Bk Ct) (h2 : ∀ δ', N' δ' → SvD K b I0 H0 u δ' N R Bk Ct) : SvD K b I0 H0 (tSeq t u) δ N R Bk Ct := fun σ I H e n D a1 a2 a3 a4 =>
  h1 σ I H e n _ (fun d σ' I' H' p e' s' n' => h2 d p σ' I' H' e' n' D (fun d σ2 I2 H2 p e2 s2 n2 => a1 d σ2 I2 H2 p e2 (s'.trans s2) n2) a2 (fun d σ2 I2 H2 p e2 s2 n2 => a3 d σ2 I2 H2 p e2 (s'.trans s2) n2) (fun d σ2 I2 H2 p e2 s2 n2 => a4 d σ2 I2 H2 p e2 (s'.trans s2) n2)) a2 a3 a4
/-- .. where the first ends in one known state -/
theorem sv_seq1 (h1 : SvD K b I0 H0 t δ (fun x => x = δ') R Bk Ct) (h2 : SvD K b I0 H0 u δ' N R Bk Ct) : SvD K b I0 H0 (tSeq t u) δ N R Bk Ct := sv_seq h1 fun _ e => e ▸ h2
theorem sv_asg {i : Nat} (h : EvD K b I0 H0 te δ P) (hi : i < δ.length) (hN : ∀ r, P r → (∀ ds, r ≠ .bor ds) ∧ N (δ.set i (some r))) : SvD K b I0 H0 (tAsg te (gName i)) δ N R Bk Ct := fun σ I H e n D a1 _ _ _ =>
  h σ I H e n _ fun r v I' H' p x rs => by
    refine a1 _ _ I' H' (hN r p).2 (e.trans x) x.i ((n.ext x).set hi (rs.since (free_of e)) fun a ds er ev j es hj hd => ?_)
    subst er
    subst ev
    obtain ⟨a', xs, ea, h0, hi', hb, ha, hdd⟩ := rs
    cases ea
    intro z
    obtain ⟨w, e1, e2⟩ := n.at_ j _ hd
    rw [z] at e1
    cases e1
    obtain ⟨a'', xs', ea, h0', hi'', hb', ha', hdd'⟩ := e2
    cases ea
    exact fr_lst h0 ha'
/-- x = e, the worth known -/
theorem sv_set {i : Nat} {r : DV} (h : EvD K b I0 H0 te δ (fun x => x = r)) (hi : i < δ.length := by exact Nat.le_of_ble_eq_true rfl) (hr : ∀ ds, r ≠ .bor ds := by intro _ z; cases z) : SvD K b I0 H0 (tAsg te (gName i)) δ (fun x => x = δ.set i (some r)) R Bk Ct :=
  sv_asg h hi fun x e => by rw [e]; exact ⟨hr, rfl⟩
theorem sv_tgt {g : TG} {is : List Nat} {d : PyData} (h : EvD K b I0 H0 te δ (fun x => x = .dat d)) (hg : TgD K b (DpR K) g is d δ δ') : SvD K b I0 H0 (tAsg te g) δ (fun x => x = δ') R Bk Ct := fun σ I H e n D a1 _ _ _ =>
  h σ I H e n _ fun r v I' H' p x rs => by
    subst p
    exact hg H0 I' H' σ v x.ok (n.ext x) rs _ fun σ' n' _ _ => a1 _ _ I' H' rfl (e.trans x) x.i n'
theorem sv_par {i j : Nat} {ta : TA} {r s : DV} (h : EvA K b I0 H0 ta δ (fun x => x = [r, s])) (hi : i < δ.length) (hj : j < δ.length) (h1 : ∀ ds, r ≠ .own ds) (h2 : ∀ ds, s ≠ .own ds) : SvD K b I0 H0 (tPar i j ta) δ (fun x => x = (δ.set i (some r)).set j (some s)) R Bk Ct := fun σ I H e n D a1 _ _ _ =>
  h σ I H e n _ fun rs vs I' H' p x ra => by
    subst p
    cases ra with
    | cons q1 ra =>
      cases ra with
      | cons q2 ra =>
        cases ra
        exact ⟨_, _, rfl, a1 _ _ I' H' rfl (e.trans x) x.i (((n.ext x).setD hi (q1.since (free_of e)) h1).setD (by rw [List.length_set]; exact hj) (q2.since (free_of e)) h2)⟩
theorem sv_ret (h : EvD K b I0 H0 te δ P) (hR : ∀ r, P r → R r) : SvD K b I0 H0 (tRet te) δ N R Bk Ct := fun σ I H e n D _ a2 _ _ =>
  h σ I H e n _ fun r v I' H' p x rs => a2 r v I' H' (hR r p) (e.trans x) (rs.since (free_of e))
theorem sv_retO {i : Nat} {ds : List PyData} (h : δ[i]? = some (some (.own ds))) (hR : R (.own ds)) : SvD K b I0 H0 (tRet (tVar i)) δ N R Bk Ct := fun σ I H e n D _ a2 _ _ => by
  obtain ⟨v, e1, e2⟩ := n.at_ i _ h
  exact ⟨v, e1, a2 _ _ I H hR e e2⟩
theorem sv_retN (hR : R (.dat .none)) : SvD K b I0 H0 tRetN δ N R Bk Ct := fun σ I H e n D _ a2 _ _ => a2 _ _ I H hR e Dp.non
theorem sv_expr (h : EvD K b I0 H0 te δ P) (hN : N δ) : SvD K b I0 H0 (tDrop te) δ N R Bk Ct := fun σ I H e n D a1 _ _ _ =>
  h σ I H e n _ fun r v I' H' p x rs => a1 _ _ I' H' hN (e.trans x) x.i (n.ext x)
theorem sv_if {c : TT} {A : Bool → Prop} (h : EvT K b I0 H0 c δ A) (h1 : A true → SvD K b I0 H0 t δ N R Bk Ct) (h2 : A false → SvD K b I0 H0 u δ N R Bk Ct) : SvD K b I0 H0 (tIfS c t u) δ N R Bk Ct := fun σ I H e n D a1 a2 a3 a4 =>
  h σ I H e n _ fun c I' H' p x => by
    cases c with
    | true => exact h1 p σ I' H' (e.trans x) (n.ext x) D (fun d σ2 I2 H2 p e2 s2 n2 => a1 d σ2 I2 H2 p e2 (x.i.trans s2) n2) a2 (fun d σ2 I2 H2 p e2 s2 n2 => a3 d σ2 I2 H2 p e2 (x.i.trans s2) n2) (fun d σ2 I2 H2 p e2 s2 n2 => a4 d σ2 I2 H2 p e2 (x.i.trans s2) n2)
    | false => exact h2 p σ I' H' (e.trans x) (n.ext x) D (fun d σ2 I2 H2 p e2 s2 n2 => a1 d σ2 I2 H2 p e2 (x.i.trans s2) n2) a2 (fun d σ2 I2 H2 p e2 s2 n2 => a3 d σ2 I2 H2 p e2 (x.i.trans s2) n2) (fun d σ2 I2 H2 p e2 s2 n2 => a4 d σ2 I2 H2 p e2 (x.i.trans s2) n2)
theorem sv_break (h : Bk δ) : SvD K b I0 H0 tBreak δ N R Bk Ct := fun σ I H e n D _ _ a3 _ => a3 δ σ I H h e (Same.refl I) n
theorem sv_cont (h : Ct δ) : SvD K b I0 H0 tCont δ N R Bk Ct := fun σ I H e n D _ _ _ a4 => a4 δ σ I H h e (Same.refl I) n
/-- a for over plain data: J by the turn -/
theorem sv_for {Rl : Rel} {wi : TI} {g : TG} {tb : TS} {A : List PyData → Prop} (it : ItD K b Rl I0 H0 wi δ A)
    (body : ∀ ds, A ds → ∃ J : Nat → Env → Prop, J 0 δ ∧ (∀ (k : Nat) d δk, ds[k]? = some d → J k δk → ∃ δ' is, TgD K b Rl g is d δk δ' ∧ SvD K b I0 H0 tb δ' (J (k + 1)) R N (J (k + 1))) ∧ ∀ δn, J ds.length δn → N δn) :
    SvD K b I0 H0 (tFor wi g tb) δ N R Bk Ct := fun σ I H e n D a1 a2 a3 a4 =>
  it σ I H e n _ fun ds Jt I1 H1 p x ok => by
    obtain ⟨G, Y, w, hG, hY⟩ := ok
    obtain ⟨J, j0, js, jn⟩ := body ds p
    refine for_it w (fun k σ' H' => ∃ I' δk, J k δk ∧ Ext K b I0 H0 I' H' ∧ Same I1 I' ∧ EnvR K b H0 I' H' σ' δk) ⟨I1, δ, j0, e.trans x, Same.refl _, n.ext x⟩ (fun k σ' H' _ ⟨I', δk, _, e', s', _⟩ => hG H' (s'.trans e'.s)) ?_ ?_
    · rintro k v σ' H' H'' hk ⟨I', δk, jk, e', s', n'⟩ y
      have hd1 : ds[k]? = some ds[k] := List.getElem?_eq_getElem hk
      generalize ds[k] = d at hd1
      obtain ⟨I3, e3, d3⟩ := hY k I' H' v H'' d s' e'.ok y hd1
      obtain ⟨δ', is, tg, sb⟩ := js k d δk hd1 jk
      refine tg H0 I3 H'' σ' v e3.ok (n'.ext e3) d3 _ fun σ2 n2 _ _ => ?_
      have s3 : Same I1 I3 := s'.trans e3.i
      exact sb σ2 I3 H'' (e'.trans e3) n2 _ (fun d σ4 I4 H4 p4 e4 s4 n4 => ⟨I4, d, p4, e4, s3.trans s4, n4⟩) a2 (fun d σ4 I4 H4 p4 e4 s4 n4 => a1 d σ4 I4 H4 p4 e4 ((x.i.trans s3).trans s4) n4) (fun d σ4 I4 H4 p4 e4 s4 n4 => ⟨I4, d, p4, e4, s3.trans s4, n4⟩)
    · rintro σ' H' ⟨I', δn, jk, e', s', n'⟩
      exact a1 δn σ' I' H' (jn δn jk) e' (x.i.trans s') n'
/-- fewer slots are known from here on -/
theorem sv_less (hl : δ'.length = δ.length) (hs : ∀ (i : Nat) (r : DV), δ'[i]? = some (some r) → δ[i]? = some (some r)) (h : SvD K b I0 H0 t δ' N R Bk Ct) : SvD K b I0 H0 t δ N R Bk Ct := fun σ I H e n D a1 a2 a3 a4 =>
  h σ I H e (n.less hl hs) D a1 a2 a3 a4
/-- a list of this def's own becomes plain -/
theorem sv_frz {i : Nat} {ds : List PyData} (hi : δ[i]? = some (some (.own ds))) (hbor : ∀ (j : Nat) es, δ[j]? ≠ some (some (.bor es))) (h : SvD K b I0 H0 t (δ.set i (some (.dat (.list ds)))) N R Bk Ct) : SvD K b I0 H0 t δ N R Bk Ct := fun σ I H e n D a1 a2 a3 a4 => by
  obtain ⟨v, e1, e2⟩ := n.at_ i _ hi
  obtain ⟨a, xs, rfl, h0, hn, hb, ha, hd⟩ := e2
  have ex : Ext K b I0 H0 (upd I a (.lst xs)) H := e.frz h0 hn hb ha
  have sm : Same I (upd I a (.lst xs)) := fun c o h => by rw [upd_ne (ne_of_none h hn)]; exact h
  have hlt : i < δ.length := (List.getElem?_eq_some_iff.mp hi).1
  have en : EnvR K b H0 (upd I a (.lst xs)) H σ (δ.set i (some (.dat (.list ds)))) := by
    refine ⟨by rw [List.length_set]; exact n.len, fun j r hj => ?_, fun j k c ds' es h1 h2 h3 h4 => ?_⟩
    · by_cases z : i = j
      · subst z
        rw [List.getElem?_set_self hlt] at hj
        cases hj
        exact ⟨_, e1, Dp.lst (.inl (.inl upd_same)) (dpa_mono sm hd)⟩
      · rw [List.getElem?_set_ne z] at hj
        obtain ⟨w, g1, g2⟩ := n.at_ j r hj
        refine ⟨w, g1, ?_⟩
        cases r with
        | dat d => exact dp_mono sm g2
        | raw u => exact g2
        | bag => exact g2
        | dct own kvs =>
          obtain ⟨c, ys, rfl, q0, qn, qb, qa, qd⟩ := g2
          have nc : c ≠ a := fun zz => by
            subst zz
            rw [ha] at qa
            cases qa
          exact ⟨c, ys, rfl, q0, by rw [upd_ne nc]; exact qn, qb, qa, dctR_mono sm qd⟩
        | own es =>
          obtain ⟨c, ys, rfl, q0, qn, qb, qa, qd⟩ := g2
          have nc : c ≠ a := fun zz => by
            subst zz
            exact z (n.nd i j c ds es hi e1 hj g1)
          exact ⟨c, ys, rfl, q0, by rw [upd_ne nc]; exact qn, qb, qa, dpa_mono sm qd⟩
        | bor es => exact absurd hj (hbor j es)
    · by_cases zj : i = j
      · subst zj
        rw [List.getElem?_set_self hlt] at h1
        cases h1
      · by_cases zk : i = k
        · subst zk
          rw [List.getElem?_set_self hlt] at h3
          cases h3
        · rw [List.getElem?_set_ne zj] at h1
          rw [List.getElem?_set_ne zk] at h3
          exact n.nd j k c ds' es h1 h2 h3 h4
  exact h σ _ H ex en D (fun d σ2 I2 H2 p e2 s2 n2 => a1 d σ2 I2 H2 p e2 (sm.trans s2) n2) a2 (fun d σ2 I2 H2 p e2 s2 n2 => a3 d σ2 I2 H2 p e2 (sm.trans s2) n2) (fun d σ2 I2 H2 p e2 s2 n2 => a4 d σ2 I2 H2 p e2 (sm.trans s2) n2)
end
/-! ### what a def promises of data -/
/-- an exception's fields -/
abbrev XD := Addr → List (Str × V) → Prop
def spD {α : Type} (K : PySem.W.Frag) (args : α → List DV) (ok : α → Prop) (out : α → DV → Prop) (exc : α → XD) : Sp := fun vs H Q E => ∃ a b I, Ok K b I H ∧ ResA K b H I H vs (args a) ∧ ok a ∧
  (∀ r v I' H', out a r → Ext K b I H I' H' → Res K b H I' H' v r → Q v H') ∧
  (∀ C fs d I' H', exc a C fs → Ext K b I H I' H' → I' d = none → H' d = some (.xd fs) → E (.ref C) (some d) H')
abbrev noX {α : Type} : α → XD := fun _ _ _ => False
section
variable {K : PySem.W.Frag} {b : Bg} {I0 H0 : Hp} {δ : Env} {P : DV → Prop}
def envOf (N : List Str) (rs : List DV) : Env := rs.map some ++ List.replicate (N.length - rs.length) none
theorem resA_len {I H : Hp} : ∀ {vs : List V} {rs : List DV}, ResA K b H0 I H vs rs → vs.length = rs.length
  | _, _, .nil => rfl
  | _, _, .cons _ r => congrArg Nat.succ (resA_len r)
theorem resA_get {I H : Hp} : ∀ {vs : List V} {rs : List DV} {i : Nat} {r : DV}, ResA K b H0 I H vs rs → rs[i]? = some r → ∃ v, vs[i]? = some v ∧ Res K b H0 I H v r
  | _, _, _, _, .nil, h => by simp at h
  | _, _, 0, _, .cons q _, h => by
    cases Option.some.inj h
    exact ⟨_, rfl, q⟩
  | _, _, i + 1, _, .cons _ t, h => resA_get (i := i) t h
theorem env_start {N : List Str} {I H : Hp} {vs : List V} {rs : List DV} (h : ResA K b H I H vs rs) : EnvR K b H I H (start N vs) (envOf N rs) := by
  have hl := resA_len h
  have at_ : ∀ (i : Nat) (r : DV), (envOf N rs)[i]? = some (some r) → ∃ v, (start N vs)[i]? = some (some v) ∧ Res K b H I H v r := fun i r hi => by
    unfold envOf at hi
    unfold L2.start
    by_cases z : i < rs.length
    · rw [List.getElem?_append_left (by rw [List.length_map]; exact z), List.getElem?_map] at hi
      cases q : rs[i]? with
      | none => rw [q] at hi; cases hi
      | some r' =>
        rw [q] at hi
        cases hi
        obtain ⟨v, e1, e2⟩ := resA_get h q
        refine ⟨v, ?_, e2⟩
        rw [List.getElem?_append_left (by rw [List.length_map]; omega), List.getElem?_map, e1]
        rfl
    · rw [List.getElem?_append_right (by rw [List.length_map]; omega), List.getElem?_replicate] at hi
      split at hi <;> cases hi
  refine ⟨?_, at_, fun i j a ds es h1 h2 _ _ => ?_⟩
  · unfold L2.start envOf
    simp only [List.length_append, List.length_map, List.length_replicate]
    omega
  · obtain ⟨v, e1, a', xs, rfl, h0, _, _, ha, _⟩ := at_ i _ h1
    exact (fr_lst h0 ha).elim
def NoOwn (rs : List DV) : Prop := ∀ r ∈ rs, (∀ ds, r ≠ .own ds) ∧ ∀ kvs, r ≠ .dct true kvs
theorem noOwn_nil : NoOwn [] := fun _ h => by cases h
theorem noOwn_cons {r : DV} {rs : List DV} (h : ∀ ds, r ≠ .own ds) (t : NoOwn rs) (hd2 : ∀ kvs, r ≠ .dct true kvs := by intro _ z; cases z) : NoOwn (r :: rs) := fun x hx => by
  rcases List.mem_cons.mp hx with e | e
  · rw [e]; exact ⟨h, hd2⟩
  · exact t x e
theorem resA_now {I H H1 : Hp} : ∀ {vs : List V} {rs : List DV}, ResA K b H I H1 vs rs → NoOwn rs → ResA K b H1 I H1 vs rs
  | _, _, .nil, _ => .nil
  | _, r :: rs, .cons q1 t, p2 => by
    refine .cons ?_ (resA_now t fun r hr => p2 r (List.mem_cons_of_mem _ hr))
    cases r with
    | own ds => exact absurd rfl ((p2 _ (List.mem_cons_self ..)).1 ds)
    | dct own kvs =>
      cases own with
      | true => exact absurd rfl ((p2 _ (List.mem_cons_self ..)).2 kvs)
      | false =>
        obtain ⟨a, es, rfl, _, z⟩ := q1
        exact ⟨a, es, rfl, (fun z => by cases z), z⟩
    | dat d => exact q1
    | bor ds => exact q1
    | raw u => exact q1
    | bag => exact q1
/-- f(e, ..) by its promise -/
theorem ev_call {α : Type} {args : α → List DV} {ok : α → Prop} {out : α → DV → Prop} {exc : α → XD} {E : XK} {ta : TA} {A : List DV → Prop} (ha : EvA K b I0 H0 ta δ A)
    (hp : ∀ rs, A rs → ∃ a, rs = args a ∧ ok a ∧ NoOwn rs ∧ (∀ r, out a r → P r) ∧ ∀ C fs, exc a C fs → False) : EvD K b I0 H0 (tCall (spD K args ok out exc) [] E ta) δ P := fun σ I H k n Q q =>
  ha σ I H k n _ fun rs vs I1 H1 p x r => by
    obtain ⟨a, rfl, p1, p2, p3, p4⟩ := hp rs p
    rw [List.append_nil]
    exact ⟨a, b, I1, x.ok, resA_now r p2, p1, fun r v I' H' o x2 rs' => q r v I' H' (p3 r o) (x.trans x2) (rs'.since (free_of x)), fun C fs d I' H' he _ _ _ => (p4 C fs he).elim⟩
/-- .. all told -/
theorem ev_call1 {α : Type} {args : α → List DV} {ok : α → Prop} {out : α → DV → Prop} {E : XK} {ta : TA} (a : α) (ha : EvA K b I0 H0 ta δ (fun x => x = args a)) (hp : ok a) (ho : ∀ r, out a r → P r) (hn : NoOwn (args a)) :
    EvD K b I0 H0 (tCall (spD K args ok out noX) [] E ta) δ P := ev_call ha fun _ e => ⟨a, e, hp, e ▸ hn, ho, fun _ _ h => h⟩
/-- f(.., k = e, ..) -/
theorem ev_callN {α : Type} {n m : Nat} {gV : List V → List V → List V} {gD : List DV → List DV → List DV} {args : α → List DV} {ok : α → Prop} {out : α → DV → Prop} {E : XK} {ta tk : TA} {rs zs : List DV} (a : α) (ha : EvA K b I0 H0 ta δ (fun x => x = rs)) (hk : EvA K b I0 H0 tk δ (fun x => x = zs))
    (hg : ∀ (H0 I H : Hp) vs ws, ResA K b H0 I H vs rs → ResA K b H0 I H ws zs → vs.length = n ∧ ws.length = m ∧ ResA K b H0 I H (gV vs ws) (args a)) (hp : ok a) (ho : ∀ r, out a r → P r) (hn : NoOwn (args a)) :
    EvD K b I0 H0 (tCallN n m (spD K args ok out noX) gV E ta tk) δ P := fun σ I H k n Q q =>
  ha σ I H k n _ fun rs vs I1 H1 p x r => hk σ I1 H1 (k.trans x) (n.ext x) _ fun zs ws I2 H2 p2 x2 r2 => by
    subst p
    subst p2
    obtain ⟨l1, l2, r3⟩ := hg H I2 H2 vs ws (r.ext x2) (r2.since (free_of x))
    exact ⟨l1, l2, a, b, I2, x2.ok, resA_now r3 hn, hp, fun r v I' H' o x3 rs' => q r v I' H' (ho r o) ((x.trans x2).trans x3) (rs'.since (free_of (x.trans x2))), fun C fs d I' H' he _ _ _ => he.elim⟩
end
section
variable {P : Program} {w : World} {K : PySem.W.Frag} {mg : Str → Option Value} {base : Heap}
/-- a def keeps its promise of data (nothing is raised) -/
theorem fn_ok {α : Type} {x qual : Str} {st : Stmt} {f : Addr} {fd : FuncData} {N ps : List Str} {k : Nat} {args : α → List DV} {ok : α → Prop} {out : α → DV → Prop} (F : Fun K x qual st f fd) (S : FnScope N ps (defScope st)) (len : ∀ a, ok a → (args a).length = ps.length)
    (hbody : ∀ (cdv : Value) (A : Around) (outer : List PySem.Env) (s : Shared) (H : Hp) (E : XK), Room k (A.deeper (envOfC qual (defScope st) s.heap.objs.size f cdv)) →
      ∃ t, PSs (cxOf CX0 P w K mg base N qual (defScope st) f cdv A outer s H E).nox (defBody st) t ∧ ∀ b I a, ok a → SvD K b I H t (envOf N (args a)) (fun _ => out a (.dat .none)) (out a) (fun _ => False) (fun _ => False)) :
    FnOk P w K mg base CX0 (k + 1) f fd ps (spD K args ok out noX) := by
  refine F.ok S (fun vs H Q E h => ?_) (fun cdv A outer s H vs Q E hr h => ?_)
  · obtain ⟨a, b, I, _, r, p, _⟩ := h
    rw [resA_len r]
    exact len a p
  · obtain ⟨a, b, I, k, r, p, q, _⟩ := h
    obtain ⟨t, ht, hs⟩ := hbody cdv A outer s H E hr
    exact ⟨t, ht, hs b I a p _ I H k.re (env_start r) _ (fun δ' σ' I' H' o e _ _ => q _ _ I' H' o e Dp.non) (fun r v I' H' o e rs => q r v I' H' o e rs) (fun _ _ _ _ z => z.elim) (fun _ _ _ _ z => z.elim)⟩
end
end DL

set_option Elab.async false
set_option linter.all false
set_option maxRecDepth 100000
set_option maxHeartbeats 4000000
namespace DL
open PySem PySem.Spec PyProof.Rows L2
/-! ### isinstance of plain data -/
def tyN : PyData → String
  | .none => "NoneType"
  | .bool _ => "bool"
  | .int _ => "int"
  | .str _ => "str"
  | .list _ => "list"
  | .tuple _ => "tuple"
  | .dict _ => "dict"
theorem dp_ty {K : PySem.W.Frag} {H : Hp} {v : V} {d : PyData} (h : Dp K H v d) : TyX K H v (.type (tyN d)) := by
  cases h with
  | non => exact .base .non
  | bl b => exact .base (.bl b)
  | int i => exact .base (.int i)
  | str x => exact .base (.str x)
  | lst q r =>
    rcases q with (q | ⟨o, q⟩) | ⟨o, its, n, q, c, _⟩
    · exact .base (.lst q)
    · exact .base (.frz q)
    · exact .kList q c
  | tup q r =>
    rcases q with (q | ⟨o, q⟩) | ⟨o, its, n, q, c, _⟩
    · exact .base (.tup q)
    · exact .fTuple q
    · exact .kTuple q c
theorem cb_isi {K : PySem.W.Frag} {b : Bg} {d : PyData} {n : String} {c : Bool} (h : kitB (tyN d) n = some c) : CbD K b (rIsi K) [.dat d, .raw (.ty n)] (fun r => r = dbl c) := fun H0 I H vs k rs Q q => by
  cases rs with
  | cons r1 rr =>
    cases rr with
    | cons r2 rr =>
      cases rr
      have e : _ = V.ty n := r2
      subst e
      exact ⟨_, _, _, _, c, rfl, .ty n, dp_ty (dp_mono k.s r1), kit_ty h, q _ _ I H rfl k.re (Dp.bl c)⟩
/-! ### is None -/
theorem dp_isN {K : PySem.W.Frag} {I : Hp} {v : V} {d : PyData} (h : Dp K I v d) : decide (v = V.non) = decide (tyN d = "NoneType") := by
  cases h <;> simp [tyN]
/-! ### keywords alone -/
section
variable {X : Cx} {CX : CXT} {k n : Nat} {f : Addr} {fd : FuncData} {ps ks : List Str} {sp : Sp} {E : XK} {x : Str} {p pos : Pos} {kws : List Keyword} {tk : TA} {g : List Value → List Value → List Value} {gV : List V → List V → List V}
theorem pe_callK0 (F : FnOk X.prog X.w X.K X.mg X.base CX k f fd ps sp) (hr : Room k X.A) (hg : Gl X x) (hm : X.mg x = some (.ref f)) (hk : PySem.W.keepIn X.K (.ref f) = true) (hb : KBn X.K fd ps 0 ks g gV) (hx : Passes CX X E) (hkw : PK X kws tk)
    (hall : (backToKw pos (keywordEach kws X.env)).all (·.1.isSome) = true := by rfl) (hks : (backToKw pos (keywordEach kws X.env)).filterMap (·.1) = ks := by rfl) (hdb : (x == ("__debug__" : Str)) = false := by decide)
    (hpl : ((backTo pos (starEach [] X.env)).any (·.1) || (backToKw pos (keywordEach kws X.env)).any (·.1.isNone)) = false := by rfl) :
    PE X (.Call (.Name x p) [] kws pos) (tCallN 0 ks.length sp gV E tNil tk) := by
  refine ⟨fun pins s σ H Q I h => ?_⟩
  refine wpAny_Call_Name_kw (ld_glob I hg hm ?_ hdb)
  refine PySem.W.callWith_KW0 (h₀ := X.base) I.ok.mod.kin hk hall ?_ hpl
  refine thn (hkw.run pos pins s σ H _ I h) fun ws s2 ⟨zs, H2, I2, rz, l1, l2, q2⟩ => ⟨I2.kIn, ?_⟩
  rw [hks]
  exact run_fnN (us := []) (vs := []) F hr hb hx I2 .nil rz rfl l2 q2
end
/-- how keywords bind, all parameters given -/
theorem kbn_mk {K : PySem.W.Frag} {x qual : Str} {st : Stmt} {f : Addr} {fd : FuncData} {ps ks : List Str} {n : Nat} (F : Fun K x qual st f fd) (g : {α : Type} → List α → List α → List α)
    (h : ∀ (kV doc pm : Value) (an : Option Addr) (cdv ct : Value) (us ws : List Value), us.length = n → ws.length = ks.length → bindArgs (PySem.W.fnOf x qual (defArgs st) (defBody st) (defScope st) .none kV doc pm an cdv ct) ⟨us, ks.zip ws⟩ = pure (ps.zip (g us ws)))
    (rel : ∀ {vs : List V} {us : List Value} {zs : List V} {ws : List Value}, Vals vs us → Vals zs ws → Vals (g vs zs) (g us ws)) : KBn K fd ps n ks g g := by
  obtain ⟨oc, od, kV, doc, pm, an, cdv, ct, osl, rfl, lk, hcd⟩ := F.ex
  exact ⟨fun s us ws _ l1 l2 => .of_eq (h kV doc pm an cdv ct us ws l1 l2), rel⟩
/-- two keywords, exchanged -/
def kw21 {α : Type} (_ : List α) (zs : List α) : List α := match zs with
  | [a, c] => [c, a]
  | _ => []
theorem kw21_rel {vs : List V} {us : List Value} {zs : List V} {ws : List Value} (_ : Vals vs us) (h : Vals zs ws) : Vals (kw21 vs zs) (kw21 us ws) := by
  cases h with
  | nil => exact .nil
  | cons r t =>
    cases t with
    | nil => exact .nil
    | cons r2 t =>
      cases t with
      | nil => exact .cons r2 (.cons r .nil)
      | cons _ _ => exact .nil
def kw12 {α : Type} (_ : List α) (zs : List α) : List α := match zs with
  | [a, c] => [a, c]
  | _ => []
theorem kw12_rel {vs : List V} {us : List Value} {zs : List V} {ws : List Value} (_ : Vals vs us) (h : Vals zs ws) : Vals (kw12 vs zs) (kw12 us ws) := by
  cases h with
  | nil => exact .nil
  | cons r t =>
    cases t with
    | nil => exact .nil
    | cons r2 t =>
      cases t with
      | nil => exact .cons r (.cons r2 .nil)
      | cons _ _ => exact .nil
section
variable {K : PySem.W.Frag} {b : Bg} {I0 H0 : Hp} {δ : Env} {P : DV → Prop}
theorem ev_kw21 {α : Type} {args : α → List DV} {ok : α → Prop} {out : α → DV → Prop} {E : XK} {tk : TA} {r s : DV} (a : α) (hk : EvA K b I0 H0 tk δ (fun x => x = [s, r])) (he : args a = [r, s]) (hp : ok a) (ho : ∀ r, out a r → P r) (h1 : ∀ ds, r ≠ .own ds) (h2 : ∀ ds, s ≠ .own ds) (g1 : ∀ kvs, r ≠ .dct true kvs := by intro _ z; cases z) (g2 : ∀ kvs, s ≠ .dct true kvs := by intro _ z; cases z) :
    EvD K b I0 H0 (tCallN 0 2 (spD K args ok out noX) kw21 E tNil tk) δ P :=
  ev_callN (gD := kw21) a ea_nil hk (fun H0 I H vs ws r1 r2 => by
    cases r1
    cases r2 with
    | cons q1 r2 =>
      cases r2 with
      | cons q2 r2 =>
        cases r2
        rw [he]
        exact ⟨rfl, rfl, .cons q2 (.cons q1 .nil)⟩) hp ho (by rw [he]; exact noOwn_cons h1 (noOwn_cons h2 noOwn_nil g2) g1)
theorem ev_kw12 {α : Type} {args : α → List DV} {ok : α → Prop} {out : α → DV → Prop} {E : XK} {tk : TA} {r s : DV} (a : α) (hk : EvA K b I0 H0 tk δ (fun x => x = [r, s])) (he : args a = [r, s]) (hp : ok a) (ho : ∀ r, out a r → P r) (h1 : ∀ ds, r ≠ .own ds) (h2 : ∀ ds, s ≠ .own ds) (g1 : ∀ kvs, r ≠ .dct true kvs := by intro _ z; cases z) (g2 : ∀ kvs, s ≠ .dct true kvs := by intro _ z; cases z) :
    EvD K b I0 H0 (tCallN 0 2 (spD K args ok out noX) kw12 E tNil tk) δ P :=
  ev_callN (gD := kw12) a ea_nil hk (fun H0 I H vs ws r1 r2 => by
    cases r1
    cases r2 with
    | cons q1 r2 =>
      cases r2 with
      | cons q2 r2 =>
        cases r2
        rw [he]
        exact ⟨rfl, rfl, .cons q1 (.cons q2 .nil)⟩) hp ho (by rw [he]; exact noOwn_cons h1 (noOwn_cons h2 noOwn_nil g2) g1)
end
/-! ### the bag's turns -/
theorem Ext.bag {K : PySem.W.Frag} {b : Bg} {I H : Hp} {l : Addr} {ns : List Int} {p q m c : Int} (k : Ok K b I H) (hbl : ∃ xs, H b.a = some (.lst (.ref l :: xs))) (hl : SqL K I l (ns.map V.int)) (hp : 0 ≤ p) (hq : 0 ≤ q) (hm : 0 ≤ m) (hm2 : m < 2147483647) :
    Ext K b I H I (upd H b.a (.lst [.ref l, .int p, .int q, .int m, .int c])) := by
  obtain ⟨ib, pl, tb, l', ns', x, q', m', c', e, sl, r⟩ := k.b
  exact ⟨Same.refl I, fun a o n _ h => by rw [upd_ne n]; exact h, fun a o n _ _ => n, fun l0 xs h => (by obtain ⟨zs, hz⟩ := hbl; rw [hz] at h; cases h; exact ⟨_, upd_same⟩), fun a o h => by rw [upd_ne (ne_of_none h ib)]; exact k.s a o h, ib, pl, tabs_upd tb e, l, ns, p, q, m, c, upd_same, hl, hp, hq, hm, hm2⟩
end DL

set_option Elab.async false
set_option linter.all false
set_option maxRecDepth 100000
set_option maxHeartbeats 4000000
namespace DL
open PySem PySem.Spec PyProof.Rows L2 RZ
theorem ltr {a c : Nat} (h : Nat.ble (a + 1) c = true) : a < c := Nat.le_of_ble_eq_true h
theorem hv1 {p : Nat → Prop} {a : Nat} (h : p a) : ∀ v ∈ [a], p v := fun v hv => by
  rcases List.mem_cons.mp hv with e | e
  · rw [e]; exact h
  · cases e
theorem hv2 {p : Nat → Prop} {a c : Nat} (h : p a) (h2 : p c) : ∀ v ∈ [a, c], p v := fun v hv => by
  rcases List.mem_cons.mp hv with e | e
  · rw [e]; exact h
  · exact hv1 h2 v e
abbrev nums (ns : List Int) : PyData := .tuple (ns.map .int)
/-! ### the rules, K told -/
section
variable {X : Cx} (K : PySem.W.Frag)
theorem k_ix_list (h : X.K = K := by rfl) : IxR X (rIxL K) := h ▸ ix_list
theorem k_ix_tup (h : X.K = K := by rfl) : IxR X (rIxT K) := h ▸ ix_tup
theorem k_ix_seq (h : X.K = K := by rfl) : IxR X (rIx K) := h ▸ ix_seq
theorem k_len (h : X.K = K := by rfl) : CallR X (.builtin "len") (fun xs H Q => ∃ p ys, xs = [.ref p] ∧ (SqL K H p ys ∨ SqT K H p ys) ∧ Q (.int ys.length) H) := h ▸ call_len_seq
theorem k_tuple (h : X.K = K := by rfl) : CallR X (.type "tuple") (TF.rTupleF K) := h ▸ TF.call_tupleF
theorem k_list (h : X.K = K := by rfl) : CallR X (.type "list") (fun xs H Q => ∃ p ys, xs = [.ref p] ∧ (SqL K H p ys ∨ SqT K H p ys) ∧ ∀ l, H l = none → Q (.ref l) (upd H l (.lst ys))) := h ▸ call_list_of
theorem k_sum (hc : X.calm = true) (h : X.K = K := by rfl) : CallR X (.builtin "sum") (rSum K) := h ▸ cr_sum hc
theorem k_all (hc : X.calm = true) (h : X.K = K := by rfl) : CallR X (.builtin "all") (rAll K) := h ▸ cr_all hc
theorem k_any (hc : X.calm = true) (h : X.K = K := by rfl) : CallR X (.builtin "any") (rAny K) := h ▸ cr_any hc
theorem k_isi (h : X.K = K := by rfl) : CallR X (.builtin "isinstance") (rIsi K) := h ▸ call_isi
theorem k_catA (h : X.K = K := by rfl) : OpR X (binaryOp .Add) (TF.rCatF K) := h ▸ TF.op_catF
theorem k_repT (h : X.K = K := by rfl) : OpR X (binaryOp .Mult) (TF.rRepF K) := h ▸ TF.op_repF
theorem k_in (h : X.K = K := by rfl) : OpR X (compareOp .In) (rIn K false) := h ▸ op_in_seq
theorem k_notin (h : X.K = K := by rfl) : OpR X (compareOp .NotIn) (rIn K true) := h ▸ op_notIn_seq
theorem k_eqD (hu : X.A.units + 64 < cLine) (h : X.K = K := by rfl) : OpR X (compareOp .Eq) (rEqD K) := h ▸ op_eqD hu
theorem k_neD (hu : X.A.units + 64 < cLine) (h : X.K = K := by rfl) : OpR X (compareOp .NotEq) (rNeD K) := h ▸ op_neD hu
theorem k_sl_list (h : X.K = K := by rfl) : SlR X (rSlL K) := h ▸ sl_list
theorem k_sl_tup (h : X.K = K := by rfl) : SlR X (TF.rSlF K) := h ▸ TF.sl_tupF
end
section
variable {K : PySem.W.Frag} {b : Bg} {I0 H0 : Hp} {δ : Env} {ta te tb : TE} {P : DV → Prop}
theorem ItD.mono {Rl : Rel} {wi : TI} {A B : List PyData → Prop} (h : ItD K b Rl I0 H0 wi δ A) (m : ∀ x, A x → B x) : ItD K b Rl I0 H0 wi δ B := fun σ I H k n R q => h σ I H k n R fun ds J I' H' p => q ds J I' H' (m ds p)
theorem itd_zip1 {ta : TA} {ds es : List PyData} (h : EvA K b I0 H0 ta δ (fun rs => rs = [.dat (.tuple ds), .dat (.tuple es)])) : ItD K b (PairR K) I0 H0 (iZipA K ta) δ (fun x => x = zipD ds es) :=
  (itd_zipT (A := fun x y => x = ds ∧ y = es) (h.mono fun _ e => ⟨ds, es, e, rfl, rfl⟩)).mono fun _ ⟨x, y, e, e1, e2⟩ => by rw [e, e1, e2]
theorem itd_enum1 {ta : TA} {ds : List PyData} (h : EvA K b I0 H0 ta δ (fun rs => rs = [.dat (.tuple ds)])) : ItD K b (PairR K) I0 H0 (TF.iEnumT K ta) δ (fun x => x = enumD ds) :=
  (itd_enumT (A := fun x => x = ds) (h.mono fun _ e => ⟨ds, e, rfl⟩)).mono fun _ ⟨x, e, e1⟩ => by rw [e, e1]
theorem itd_tup1 {ds : List PyData} (h : EvD K b I0 H0 te δ (fun x => x = .dat (.tuple ds))) : ItD K b (DpR K) I0 H0 (iTup K te) δ (fun x => x = ds) :=
  itd_tup (A := fun x => x = ds) (h.mono fun _ e => ⟨ds, e, rfl⟩)
theorem itd_list1 {ds : List PyData} (h : EvD K b I0 H0 te δ (fun x => x = .dat (.list ds))) : ItD K b (DpR K) I0 H0 (iList K te) δ (fun x => x = ds) :=
  itd_list (A := fun x => x = ds) (h.mono fun _ e => ⟨ds, e, rfl⟩)
theorem itd_rngN {ta : TA} {n : Nat} (h : EvA K b I0 H0 ta δ (fun rs => rs = [dint n])) (hn : n ≤ 100000) : ItD K b (DpR K) I0 H0 (iRng1 ta) δ (fun x => x = rangeD 0 n) :=
  (itd_rng1 (A := fun x => x = (n : Int)) (h.mono fun _ e => ⟨n, e, by omega, by omega, rfl⟩)).mono fun _ ⟨x, e, e1⟩ => by
    subst e1
    rw [e]
    rfl
/-- a range whose end is drawn -/
theorem itd_rngR {ta : TA} {C : Int → Prop} (h : EvA K b I0 H0 ta δ (fun rs => ∃ n, rs = [dint n] ∧ C n)) (hn : ∀ n, C n → 0 ≤ n ∧ n ≤ 100000) : ItD K b (DpR K) I0 H0 (iRng1 ta) δ (fun x => ∃ n : Nat, x = rangeD 0 n ∧ C n) :=
  (itd_rng1 (A := C) (h.mono fun _ ⟨n, e, c⟩ => ⟨n, e, by have := hn n c; omega, by have := hn n c; omega, c⟩)).mono fun _ ⟨x, e, e1⟩ => ⟨x.toNat, e, by
    have := hn x e1
    rw [show ((x.toNat : Nat) : Int) = x by omega]
    exact e1⟩
theorem paired_mapL {α β γ : Type} {g : α → β} {F : β → γ → Prop} : ∀ {l : List α} {ys : List γ}, Paired F (l.map g) ys → Paired (fun x y => F (g x) y) l ys
  | [], _, h => by cases h; exact .nil
  | _ :: _, _, h => by
    cases h with
    | cons r t => exact .cons r (paired_mapL t)
theorem paired_fun {α β : Type} {f : α → β} : ∀ {l : List α} {ys : List β}, Paired (fun x y => y = f x) l ys → ys = l.map f
  | _, _, .nil => rfl
  | _, _, .cons r t => by rw [List.map_cons, ← paired_fun t, r]
theorem paired_len {α β : Type} {F : α → β → Prop} {l : List α} {ys : List β} (h : Paired F l ys) : l.length = ys.length := PySem.Paired.length h
/-- a comprehension over a list of things x that stand as data gI x; what each turn gives is in Pe x -/
theorem ev_lcR {β : Type} {Rl : Rel} {wi : TI} {g : TG} {te : TE} {vs is : List Nat} {A : List β → Prop} {gI : β → PyData} {δf : β → Env} {Pe : β → PyData → Prop} (it : ItD K b Rl I0 H0 wi δ (fun x => ∃ l, x = l.map gI ∧ A l)) (hv : ∀ v ∈ vs, δ[v]? = some none) (his : ∀ v ∈ is, v ∈ vs)
    (hl : ∀ l, A l → l.length ≤ 100000) (tg : ∀ x, TgD K b Rl g is (gI x) δ (δf x)) (body : ∀ l, A l → ∀ x ∈ l, EvD K b I0 H0 te (δf x) (fun r => ∃ y, r = .dat y ∧ Pe x y)) :
    EvD K b I0 H0 (tLc wi g tYes te vs) δ (fun r => ∃ ys, r = .own ys ∧ ∃ l, A l ∧ Paired Pe l ys) :=
  (ev_lc (f := fun _ => true) it hv his hl tg (fun _ _ _ _ => et_yes) fun l a x hx _ => body l a x hx).mono fun r ⟨ys, e, l, a, hp⟩ => by
    have z : l.filter (fun _ => true) = l := by simp
    rw [z] at hp
    exact ⟨ys, e, l, a, hp⟩
theorem ev_lcM {β : Type} {Rl : Rel} {wi : TI} {g : TG} {te : TE} {vs is : List Nat} {l : List β} {gI : β → PyData} {δf : β → Env} {f : β → PyData} (it : ItD K b Rl I0 H0 wi δ (fun x => x = l.map gI)) (hv : ∀ v ∈ vs, δ[v]? = some none) (his : ∀ v ∈ is, v ∈ vs)
    (hl : l.length ≤ 100000) (tg : ∀ x, TgD K b Rl g is (gI x) δ (δf x)) (body : ∀ x ∈ l, EvD K b I0 H0 te (δf x) (fun r => r = .dat (f x))) : EvD K b I0 H0 (tLc wi g tYes te vs) δ (fun r => r = .own (l.map f)) :=
  (ev_lcR (A := fun x => x = l) (Pe := fun x y => y = f x) (it.mono fun x e => ⟨l, e, rfl⟩) hv his (fun _ e => e ▸ hl) tg fun _ e x hx => (body x (e ▸ hx)).mono fun r e => ⟨_, e, rfl⟩).mono fun r ⟨ys, e, l', e2, hp⟩ => by
    subst e2
    rw [e, paired_fun hp]
/-! ### ints, some of them drawn -/
end
section
variable (K : PySem.W.Frag) (b : Bg) (I0 H0 : Hp)
def EvI (te : TE) (δ : Env) (C : Int → Prop) : Prop := EvD K b I0 H0 te δ (fun r => ∃ i, r = dint i ∧ C i)
end
section
variable {K : PySem.W.Frag} {b : Bg} {I0 H0 : Hp} {δ : Env} {ta te tb : TE} {P : DV → Prop} {A B C : Int → Prop}
theorem EvI.mono (h : EvI K b I0 H0 te δ A) (m : ∀ i, A i → B i) : EvI K b I0 H0 te δ B := EvD.mono h fun _ ⟨i, e, a⟩ => ⟨i, e, m i a⟩
theorem ei_of {i : Int} (h : EvD K b I0 H0 te δ (fun r => r = dint i)) : EvI K b I0 H0 te δ (fun x => x = i) := h.mono fun _ e => ⟨i, e, rfl⟩
theorem EvI.one {i : Int} (h : EvI K b I0 H0 te δ (fun x => x = i)) : EvD K b I0 H0 te δ (fun r => r = dint i) := EvD.mono h fun _ ⟨_, e, a⟩ => by rw [e, a]
theorem ei_I0 {g : Int → Int → Int} (ha : EvI K b I0 H0 ta δ A) (hb : EvI K b I0 H0 tb δ B) : EvI K b I0 H0 (tOp (rI0 fun i j => .int (g i j)) ta tb) δ (fun k => ∃ i j, A i ∧ B j ∧ k = g i j) :=
  ev_op ha hb fun x y ⟨i, e, a⟩ ⟨j, f, c⟩ => by
    subst e f
    exact fun H0 I H v w k r1 r2 Q q => od_I0 (fun K I => Dp.int _) H0 I H v w k r1 r2 Q fun z u I' H' p => q z u I' H' ⟨_, p, i, j, a, c, rfl⟩
theorem ei_I {C : Int → Int → Prop} {g : Int → Int → Int} (ha : EvI K b I0 H0 ta δ A) (hb : EvI K b I0 H0 tb δ B) (hc : ∀ i j, A i → B j → C i j) : EvI K b I0 H0 (tOp (rI C fun i j => .int (g i j)) ta tb) δ (fun k => ∃ i j, A i ∧ B j ∧ k = g i j) :=
  ev_op ha hb fun x y ⟨i, e, a⟩ ⟨j, f, c⟩ => by
    subst e f
    exact fun H0 I H v w k r1 r2 Q q => od_I (hc i j a c) (fun K I => Dp.int _) H0 I H v w k r1 r2 Q fun z u I' H' p => q z u I' H' ⟨_, p, i, j, a, c, rfl⟩
theorem ei_U {g : Int → Int} (ha : EvI K b I0 H0 ta δ A) : EvI K b I0 H0 (tUn (rU fun i => .int (g i)) ta) δ (fun k => ∃ i, A i ∧ k = g i) :=
  ev_un ha fun x ⟨i, e, a⟩ => by
    subst e
    exact fun H0 I H v k r1 Q q => ud_U (g := fun i => .int (g i)) (fun K I => Dp.int _) H0 I H v k r1 Q fun z u I' H' p => q z u I' H' ⟨_, p, i, a, rfl⟩
theorem ei_var {i : Nat} {n : Int} (h : δ[i]? = some (some (dint n))) : EvI K b I0 H0 (tVar i) δ (fun x => x = n) := ei_of (ev_var h)
theorem ei_int {n : Int} : EvI K b I0 H0 (tC (.int n)) δ (fun x => x = n) := ei_of ev_int
/-- comparisons of ints -/
theorem ev_cmp {g : Int → Int → Bool} {i j : Int} (ha : EvD K b I0 H0 ta δ (fun r => r = dint i)) (hb : EvD K b I0 H0 tb δ (fun r => r = dint j)) : EvD K b I0 H0 (tOp (rI0 fun i j => .bl (g i j)) ta tb) δ (fun r => r = dbl (g i j)) :=
  ev_op ha hb fun x y e f => by
    subst e f
    exact od_I0 fun K I => Dp.bl _
theorem ev_i2 {g : Int → Int → Int} {i j : Int} (ha : EvD K b I0 H0 ta δ (fun r => r = dint i)) (hb : EvD K b I0 H0 tb δ (fun r => r = dint j)) : EvD K b I0 H0 (tOp (rI0 fun i j => .int (g i j)) ta tb) δ (fun r => r = dint (g i j)) :=
  ev_op ha hb fun x y e f => by
    subst e f
    exact od_I0 fun K I => Dp.int _
theorem ev_i2c {C : Int → Int → Prop} {g : Int → Int → Int} {i j : Int} (ha : EvD K b I0 H0 ta δ (fun r => r = dint i)) (hb : EvD K b I0 H0 tb δ (fun r => r = dint j)) (hc : C i j) : EvD K b I0 H0 (tOp (rI C fun i j => .int (g i j)) ta tb) δ (fun r => r = dint (g i j)) :=
  ev_op ha hb fun x y e f => by
    subst e f
    exact od_I hc fun K I => Dp.int _
theorem ev_ixL {x : DV} {ds : List PyData} {d : PyData} {i : Int} (ha : EvD K b I0 H0 ta δ (fun r => r = x)) (l : LstR x ds) (hb : EvD K b I0 H0 tb δ (fun r => r = dint i)) (h0 : 0 ≤ i) (h : ds[i.toNat]? = some d) : EvD K b I0 H0 (tOp (rIxL K) ta tb) δ (fun r => r = .dat d) :=
  ev_op ha hb fun x y e f => by
    subst e f
    exact ixL_ l h0 h rfl
theorem ev_ixT {ds : List PyData} {d : PyData} {i : Int} (ha : EvD K b I0 H0 ta δ (fun r => r = .dat (.tuple ds))) (hb : EvD K b I0 H0 tb δ (fun r => r = dint i)) (h0 : 0 ≤ i) (h : ds[i.toNat]? = some d) : EvD K b I0 H0 (tOp (rIxT K) ta tb) δ (fun r => r = .dat d) :=
  ev_op ha hb fun x y e f => by
    subst e f
    exact ixT_ h0 h rfl
/-- an item of a list or a tuple (ix_seq) -/
theorem ev_ix {ds : List PyData} {d e : PyData} {i : Int} (ht : e = .list ds ∨ e = .tuple ds) (ha : EvD K b I0 H0 ta δ (fun r => r = .dat e)) (hb : EvD K b I0 H0 tb δ (fun r => r = dint i)) (h0 : 0 ≤ i) (h : ds[i.toNat]? = some d) : EvD K b I0 H0 (tOp (rIx K) ta tb) δ (fun r => r = .dat d) :=
  ev_op ha hb fun x y e f => by
    subst e f
    intro H0 I H v w k r1 r2 Q q
    rcases ht with rfl | rfl
    · exact .inl (ixL_ (P := fun r => r = .dat d) (.inr (.inr rfl)) h0 h rfl H0 I H v w k r1 r2 Q q)
    · exact .inr (.inl (ixT_ (P := fun r => r = .dat d) h0 h rfl H0 I H v w k r1 r2 Q q))
theorem ev_len {x : DV} {ds : List PyData} (ha : EvD K b I0 H0 ta δ (fun r => r = x)) (l : LstR x ds ∨ x = .dat (.tuple ds)) : EvD K b I0 H0 (tCB (fun xs H Q => ∃ p ys, xs = [.ref p] ∧ (SqL K H p ys ∨ SqT K H p ys) ∧ Q (.int ys.length) H) (tCons ta tNil)) δ (fun r => r = dint ds.length) :=
  ev_cb (ea_cons1 ha ea_nil) fun rs e => by
    subst e
    rcases l with l | l
    · exact cb_lenL l
    · subst l
      exact cb_lenT
theorem ev_tupleOf {A : List PyData → Prop} (ha : EvD K b I0 H0 ta δ (fun r => ∃ ds, r = .own ds ∧ A ds)) : EvD K b I0 H0 (tCB (TF.rTupleF K) (tCons ta tNil)) δ (fun r => ∃ ds, r = .dat (.tuple ds) ∧ A ds) :=
  ev_cb (ea_cons (B := fun rs => ∃ ds, rs = [.own ds] ∧ A ds) ha ea_nil fun r rs ⟨ds, e, a⟩ f => ⟨ds, by rw [e, f], a⟩) fun rs ⟨ds, e, a⟩ => by
    subst e
    exact fun H0 I H vs k rs Q q => cb_tupleL (.inl rfl) H0 I H vs k rs Q fun z u I' H' p => q z u I' H' ⟨ds, p, a⟩
theorem ev_tupleOf1 {ds : List PyData} (ha : EvD K b I0 H0 ta δ (fun r => r = .own ds)) : EvD K b I0 H0 (tCB (TF.rTupleF K) (tCons ta tNil)) δ (fun r => r = .dat (.tuple ds)) :=
  ev_cb (ea_cons1 ha ea_nil) fun rs e => by
    subst e
    exact cb_tupleL (.inl rfl)
theorem ev_isi {d : PyData} {n : String} {c : Bool} (ha : EvD K b I0 H0 ta δ (fun r => r = .dat d)) (h : kitB (tyN d) n = some c) : EvD K b I0 H0 (tCB (rIsi K) (tCons ta (tCons (tC (.ty n)) tNil))) δ (fun r => r = dbl c) :=
  ev_cb (ea_cons1 ha (ea_cons1 ev_raw ea_nil)) fun rs e => by
    subst e
    exact cb_isi h
theorem ev_isN {d : PyData} (ha : EvD K b I0 H0 ta δ (fun r => r = .dat d)) : EvD K b I0 H0 (tOp (fun x y H Q => y = .non ∧ Q (.bl (decide (x = .non))) H) ta (tC .non)) δ (fun r => r = dbl (decide (tyN d = "NoneType"))) :=
  ev_op ha ev_non fun x y e f => by
    subst e f
    intro H0 I H v w k r1 r2 Q q
    refine ⟨non_read r2, q _ _ I H rfl k.re ?_⟩
    rw [dp_isN r1]
    exact Dp.bl _
theorem ev_eqD {d e : PyData} (ha : EvD K b I0 H0 ta δ (fun r => r = .dat d)) (hb : EvD K b I0 H0 tb δ (fun r => r = .dat e)) (h1 : SeqAt.shaped d = true) (h2 : SeqAt.shaped e = true) : EvD K b I0 H0 (tOp (rEqD K) ta tb) δ (fun r => r = dbl (PyData.eqv d e)) :=
  ev_op ha hb fun x y e f => by
    subst e f
    exact od_eq h1 h2
/-- != of bools -/
theorem ev_neB {x y : Bool} (ha : EvD K b I0 H0 ta δ (fun r => r = dbl x)) (hb : EvD K b I0 H0 tb δ (fun r => r = dbl y)) : EvD K b I0 H0 (tOp rNe ta tb) δ (fun r => r = dbl (!decide (x = y))) :=
  ev_op ha hb fun _ _ e f => by
    subst e f
    intro H0 I H v w k r1 r2 Q q
    rw [bl_read r1, bl_read r2]
    refine ⟨rfl, q _ _ I H rfl k.re ?_⟩
    have z : decide (V.bl x = V.bl y) = decide (x = y) := by cases x <;> cases y <;> rfl
    rw [z]
    exact Dp.bl _
theorem ev_neI {x y : Int} (ha : EvD K b I0 H0 ta δ (fun r => r = dint x)) (hb : EvD K b I0 H0 tb δ (fun r => r = dint y)) : EvD K b I0 H0 (tOp rNe ta tb) δ (fun r => r = dbl (!decide (x = y))) :=
  ev_op ha hb fun _ _ e f => by
    subst e f
    intro H0 I H v w k r1 r2 Q q
    rw [int_read r1, int_read r2]
    refine ⟨rfl, q _ _ I H rfl k.re ?_⟩
    have z : decide (V.int x = V.int y) = decide (x = y) := by
      by_cases e : x = y
      · subst e; simp
      · rw [decide_eq_false e, decide_eq_false (fun z => e (V.int.inj z))]
    rw [z]
    exact Dp.bl _
theorem ev_eqI {x y : Int} (ha : EvD K b I0 H0 ta δ (fun r => r = dint x)) (hb : EvD K b I0 H0 tb δ (fun r => r = dint y)) : EvD K b I0 H0 (tOp rEq ta tb) δ (fun r => r = dbl (decide (x = y))) :=
  ev_op ha hb fun _ _ e f => by
    subst e f
    intro H0 I H v w k r1 r2 Q q
    rw [int_read r1, int_read r2]
    refine ⟨rfl, q _ _ I H rfl k.re ?_⟩
    have z : decide (V.int x = V.int y) = decide (x = y) := by
      by_cases e : x = y
      · subst e; simp
      · rw [decide_eq_false e, decide_eq_false (fun z => e (V.int.inj z))]
    rw [z]
    exact Dp.bl _
def isSc : PyData → Bool
  | .bool _ => true
  | .int _ => true
  | .str _ => true
  | _ => false
theorem ev_eqS {d : PyData} (hd : isSc d = true) (ha : EvD K b I0 H0 ta δ (fun r => r = .dat d)) (hb : EvD K b I0 H0 tb δ (fun r => r = .dat d)) : EvD K b I0 H0 (tOp rEq ta tb) δ (fun r => r = dbl true) :=
  ev_op ha hb fun _ _ e f => by
    subst e f
    intro H0 I H v w k r1 r2 Q q
    have r1 : Dp K I v d := r1
    have r2 : Dp K I w d := r2
    cases r1 with
    | bl c => cases r2; exact ⟨rfl, q _ _ I H rfl k.re (by rw [decide_eq_true rfl]; exact Dp.bl _)⟩
    | int c => cases r2; exact ⟨rfl, q _ _ I H rfl k.re (by rw [decide_eq_true rfl]; exact Dp.bl _)⟩
    | str c => cases r2; exact ⟨rfl, q _ _ I H rfl k.re (by rw [decide_eq_true rfl]; exact Dp.bl _)⟩
    | non => cases hd
    | lst _ _ => cases hd
    | tup _ _ => cases hd
section
variable {N Bk Ct : Env → Prop} {R : DV → Prop} {t u : TS} {c : TT}
/-- an if that is not taken -/
theorem sv_skip (h : EvT K b I0 H0 c δ (fun x => x = false)) (hu : SvD K b I0 H0 u δ N R Bk Ct) : SvD K b I0 H0 (tSeq (tIfS c t tNext) u) δ N R Bk Ct :=
  sv_seq1 (δ' := δ) (sv_if h (fun e => by cases e) fun _ => sv_nil rfl) hu
/-- an if that is taken, and returns -/
theorem sv_goes (h : EvT K b I0 H0 c δ (fun x => x = true)) (ht : SvD K b I0 H0 t δ (fun _ => False) R Bk Ct) : SvD K b I0 H0 (tSeq (tIfS c t tNext) u) δ N R Bk Ct :=
  sv_seq (N' := fun _ => False) (sv_if h (fun _ => ht) fun e => by cases e) fun _ z => z.elim
end
theorem rangeD_map (n : Nat) : rangeD 0 n = (List.range n).map fun (k : Nat) => PyData.int ((0 : Int) + (k : Int)) := rfl
end
end DL

set_option Elab.async false
set_option linter.all false
set_option maxRecDepth 100000
set_option maxHeartbeats 4000000
namespace DL
open PySem PySem.Spec PyProof.Rows L2 RZ
/-! ### rows of numbers as data -/
theorem canLay_nums (ns : List Int) : PyData.canLayAll0 (ns.map .int) = true := by
  induction ns with
  | nil => rfl
  | cons n ns ih =>
    rw [List.map_cons, PyData.canLayAll0, ih]
    simp [PyData.canLay0]
theorem depth_nums (ns : List Int) : PyData.depthAll (ns.map .int) = 0 := by
  induction ns with
  | nil => simp [PyData.depthAll]
  | cons n ns ih => simp [PyData.depthAll, PyData.depth, ih]
theorem shaped_nums (ns : List Int) : SeqAt.shaped (nums ns) = true := by
  unfold SeqAt.shaped
  simp only [PyData.canLay0, PyData.depth, canLay_nums, depth_nums]
  rfl
theorem eqv_nums : ∀ xs ys : List Int, PyData.eqv (nums xs) (nums ys) = decide (xs = ys) := by
  have go : ∀ xs ys : List Int, PyData.eqvAll (xs.map .int) (ys.map .int) = decide (xs = ys) := by
    intro xs
    induction xs with
    | nil =>
      intro ys
      cases ys with
      | nil => simp [PyData.eqvAll]
      | cons y ys => simp [PyData.eqvAll]
    | cons x xs ih =>
      intro ys
      cases ys with
      | nil => simp [PyData.eqvAll]
      | cons y ys =>
        rw [List.map_cons, List.map_cons, PyData.eqvAll, ih, PyData.eqv]
        by_cases h : x = y
        · subst h; simp
        · simp [h]
  intro xs ys
  rw [PyData.eqv, go]
/-- data of at most so many lists or tuples, one in another -/
def Flat : Nat → PyData → Prop
  | 0, _ => False
  | n + 1, d => match d with
    | .none => True
    | .bool _ => True
    | .int _ => True
    | .str _ => True
    | .list ds => ds.length ≤ 100000 ∧ ∀ x ∈ ds, Flat n x
    | .tuple ds => ds.length ≤ 100000 ∧ ∀ x ∈ ds, Flat n x
    | .dict _ => False
theorem flat_nums {n : Nat} {ns : List Int} (h : ns.length ≤ 100000) : Flat (n + 2) (nums ns) := ⟨by rw [List.length_map]; exact h, fun x hx => by
  obtain ⟨i, _, rfl⟩ := List.mem_map.mp hx
  exact True.intro⟩
theorem flat_int {n : Nat} {i : Int} : Flat (n + 1) (.int i) := True.intro
theorem flat_bool {n : Nat} {i : Bool} : Flat (n + 1) (.bool i) := True.intro
theorem flat_str {n : Nat} {i : Str} : Flat (n + 1) (.str i) := True.intro
theorem flat_none {n : Nat} : Flat (n + 1) .none := True.intro
theorem flat_l {n : Nat} {ds : List PyData} (hl : ds.length ≤ 100000) (h : ∀ x ∈ ds, Flat n x) : Flat (n + 1) (.list ds) := ⟨hl, h⟩
theorem flat_t {n : Nat} {ds : List PyData} (hl : ds.length ≤ 100000) (h : ∀ x ∈ ds, Flat n x) : Flat (n + 1) (.tuple ds) := ⟨hl, h⟩
theorem all_nil {p : PyData → Prop} : ∀ x ∈ ([] : List PyData), p x := fun _ h => by cases h
theorem all_cons {p : PyData → Prop} {d : PyData} {ds : List PyData} (h : p d) (t : ∀ x ∈ ds, p x) : ∀ x ∈ d :: ds, p x := fun x hx => by
  rcases List.mem_cons.mp hx with e | e
  · rw [e]; exact h
  · exact t x e
/-! ### lists of a def's own, changed -/
def noBor (δ : Env) : Bool := δ.all fun x => match x with
  | some (.bor _) => false
  | some (.dct false _) => false
  | _ => true
theorem noBor_at {δ : Env} (h : noBor δ = true) : ∀ (j : Nat) es, δ[j]? ≠ some (some (.bor es)) := fun j es e => by
  have hm := List.mem_of_getElem? e
  have := List.all_eq_true.mp h _ hm
  cases this
section
variable {K : PySem.W.Frag} {b : Bg} {I0 H0 : Hp} {δ : Env} {N Bk Ct : Env → Prop} {R : DV → Prop} {te ti : TE} {t u : TS} {P : DV → Prop}
/-- the list of slot i is changed -/
theorem EnvR.own {I H : Hp} {σ : L2.St} {i : Nat} {a : Addr} {ds es : List PyData} {ys : List V} (n : EnvR K b H0 I H σ δ) (hbor : noBor δ = true) (hi : δ[i]? = some (some (.own ds))) (hs : σ[i]? = some (some (.ref a))) (h0 : Fr H0 a) (hn : I a = none) (hb : a ≠ b.a) (hd : DpAll K I ys es) :
    EnvR K b H0 I (upd H a (.lst ys)) σ (δ.set i (some (.own es))) := by
  have hlt : i < δ.length := (List.getElem?_eq_some_iff.mp hi).1
  refine ⟨by rw [List.length_set]; exact n.len, fun j r hj => ?_, fun j k c ds' es' h1 h2 h3 h4 => ?_⟩
  · by_cases z : i = j
    · subst z
      rw [List.getElem?_set_self hlt] at hj
      cases hj
      exact ⟨_, hs, a, ys, rfl, h0, hn, hb, upd_same, hd⟩
    · rw [List.getElem?_set_ne z] at hj
      obtain ⟨w, g1, g2⟩ := n.at_ j r hj
      refine ⟨w, g1, ?_⟩
      cases r with
      | dat d => exact g2
      | raw u => exact g2
      | bag => exact g2
      | dct own kvs =>
        obtain ⟨c, zs, rfl, q0, qn, qb, qa, qd⟩ := g2
        obtain ⟨_, f1, f2⟩ := n.at_ i _ hi
        rw [hs] at f1
        cases f1
        obtain ⟨_, _, f3, _, _, _, f4, _⟩ := f2
        cases f3
        have nc : c ≠ a := fun zz => by
          subst zz
          rw [f4] at qa
          cases qa
        exact ⟨c, zs, rfl, q0, qn, qb, by rw [upd_ne nc]; exact qa, qd⟩
      | own es' =>
        obtain ⟨c, zs, rfl, q0, qn, qb, qa, qd⟩ := g2
        have nc : c ≠ a := fun zz => by
          subst zz
          exact z (n.nd i j c ds es' hi hs hj g1)
        exact ⟨c, zs, rfl, q0, qn, qb, by rw [upd_ne nc]; exact qa, qd⟩
      | bor es' => exact absurd hj (noBor_at hbor j es')
  · have fix : ∀ (m : Nat) xs, (δ.set i (some (.own es)))[m]? = some (some (.own xs)) → ∃ xs', δ[m]? = some (some (.own xs')) := fun m xs e => by
      by_cases z : i = m
      · subst z
        exact ⟨ds, hi⟩
      · rw [List.getElem?_set_ne z] at e
        exact ⟨xs, e⟩
    obtain ⟨x1, e1⟩ := fix j ds' h1
    obtain ⟨x2, e2⟩ := fix k es' h3
    exact n.nd j k c x1 x2 e1 h2 e2 h4
theorem sv_append {i : Nat} {ds : List PyData} {A : PyData → Prop} (hi : δ[i]? = some (some (.own ds))) (hbor : noBor δ = true) (hl : ds.length < 100000) (he : EvD K b I0 H0 te δ (fun r => ∃ d, r = .dat d ∧ A d)) (hN : ∀ d, A d → N (δ.set i (some (.own (ds ++ [d]))))) :
    SvD K b I0 H0 (tDrop (tBM K "list" rAppend (tVar i) (tCons te tNil))) δ N R Bk Ct := fun σ I H e n D a1 _ _ _ => by
  obtain ⟨v, e1, e2⟩ := n.at_ i _ hi
  obtain ⟨a, xs, rfl, h0, hn, hb, ha, hd⟩ := e2
  refine ⟨.ref a, e1, .inl ⟨rfl, _, .inl (.inl ha)⟩, he σ I H e n _ fun r v I' H' p x rs => ?_⟩
  obtain ⟨d, rfl, p⟩ := p
  have hn' : I' a = none := x.n a _ hn ha lst_tbl
  have ha' : H' a = some (.lst xs) := x.h a _ hb lst_tbl ha
  refine ⟨a, xs, v, rfl, rfl, ha', Nat.lt_of_lt_of_le (by rw [dpa_len hd]; exact hl) (by decide : 100000 ≤ sizeLine), ?_⟩
  exact a1 _ σ I' _ (hN d p) ((e.trans x).mut h0 hn' hb ha') x.i ((n.ext x).own hbor hi e1 h0 hn' hb (dpa_app (dpa_mono x.i hd) (.cons rs .nil)))
/-- xs[k] = e -/
theorem sv_setitem {i : Nat} {ds : List PyData} {k : Int} {A : PyData → Prop} (hi : δ[i]? = some (some (.own ds))) (hbor : noBor δ = true) (hk0 : 0 ≤ k) (hk : k < ds.length) (he : EvD K b I0 H0 te δ (fun r => ∃ d, r = .dat d ∧ A d)) (hti : EvD K b I0 H0 ti δ (fun r => r = dint k))
    (hN : ∀ d, A d → N (δ.set i (some (.own (ds.set k.toNat d))))) : SvD K b I0 H0 (tAsg te (gSub (tVar i) ti rSetL)) δ N R Bk Ct := fun σ I H e n D a1 _ _ _ =>
  he σ I H e n _ fun r v I1 H1 p x rs => by
    obtain ⟨d, rfl, p⟩ := p
    obtain ⟨w, e1, e2⟩ := (n.ext x).at_ i _ hi
    obtain ⟨a, xs, rfl, h0, hn, hb, ha, hd⟩ := e2
    refine ⟨.ref a, e1, hti σ I1 H1 (e.trans x) (n.ext x) _ fun r2 v2 I2 H2 p2 x2 rs2 => ?_⟩
    subst p2
    rw [int_read rs2]
    have hn' : I2 a = none := x2.n a _ hn ha lst_tbl
    have ha' : H2 a = some (.lst xs) := x2.h a _ hb lst_tbl ha
    have hl : xs.length = ds.length := dpa_len hd
    refine ⟨a, xs, k, k.toNat, rfl, rfl, ha', ?_, ?_⟩
    · unfold ixN
      rw [if_pos hk0, if_pos (by omega)]
    · exact a1 _ σ I2 _ (hN d p) ((e.trans (x.trans x2)).mut h0 hn' hb ha') (x.i.trans x2.i) (((n.ext x).ext x2).own hbor hi e1 h0 hn' hb (dpa_set (dp_mono x2.i rs) _ (dpa_mono x2.i hd)))
/-- the law's own turns: of all slots only the bag is known -/
theorem sv_bag {n : Nat} (hl : δ.length = n + 2) (hb : δ[1]? = some (some .bag)) (h : SvD K b I0 H0 t (none :: some .bag :: List.replicate n none) N R Bk Ct) : SvD K b I0 H0 t δ N R Bk Ct :=
  sv_less (by rw [hl]; simp) (fun i r e => by
    match i with
    | 0 => cases e
    | 1 => cases e; exact hb
    | i + 2 =>
      have e : (List.replicate n (none : Option DV))[i]? = some (some r) := e
      rw [List.getElem?_replicate] at e
      split at e <;> cases e) h
theorem itd_rng0 {ta : TA} {n : Nat} (h : EvA K b I0 H0 ta δ (fun rs => rs = [dint n])) (hn : n ≤ 100000) : ItD K b (DpR K) I0 H0 (iRng1 ta) δ (fun x => x = rangeD 0 n) := itd_rngN h hn
end
/-- what is left of a law, run from its bag on -/
theorem law_run {K : PySem.W.Frag} {b : Bg} {I H : Hp} {σ : L2.St} {δ : Env} {t : TS} {D : Ends} (k : Ok K b I H) (n : EnvR K b H I H σ δ) (h : SvD K b I H t δ (fun _ => False) (fun r => r = dbl true) (fun _ => False) (fun _ => False)) (hq : ∀ H', D.rt (.bl true) H') : t D σ H :=
  h σ I H k.re n D (fun _ _ _ _ z => z.elim) (fun r v I' H' e _ rs => by
    subst e
    rw [bl_read rs]
    exact hq H') (fun _ _ _ _ z => z.elim) fun _ _ _ _ z => z.elim
theorem cut_ints (ns : List Int) (lo hi : Option Int) : ∃ ms : List Int, cutV (ns.map V.int) lo hi = ms.map V.int := by
  unfold cutV
  rw [← List.map_drop, ← List.map_take]
  exact ⟨_, rfl⟩
end DL

set_option Elab.async false
set_option linter.all false
set_option maxRecDepth 100000
set_option maxHeartbeats 4000000
namespace DL
open PySem PySem.Spec PyProof.Rows L2 RZ
/-! ### draws -/
abbrev aTake (n : Int) : List DV := [.bag, dint n]
abbrev okTake (n : Int) : Prop := 0 < n ∧ n < 10000000000000000000000000000000000000000000000000000000000000000000000000000000000000000000000000000000000000000000000000000000000000000000000000000000000000000000000000000000000000000000000000000000000000000000000000000000000000000000000000000000000000000000000000000000000000000000000000000000000000000000000
abbrev outTake (n : Int) (r : DV) : Prop := ∃ i, r = dint i ∧ 0 ≤ i ∧ i < n
abbrev aPick (ds : List PyData) : List DV := [.bag, .dat (.list ds)]
abbrev okPick (ds : List PyData) : Prop := 0 < ds.length ∧ ds.length ≤ 1000
abbrev outPick (ds : List PyData) (r : DV) : Prop := ∃ d, d ∈ ds ∧ r = .dat d
theorem noOwn_bag {r : DV} (h : ∀ ds, r ≠ .own ds) (g : ∀ kvs, r ≠ .dct true kvs := by intro _ z; cases z) : NoOwn [.bag, r] := noOwn_cons (fun _ z => by cases z) (noOwn_cons h noOwn_nil g)
section
variable {K : PySem.W.Frag} {b : Bg} {I0 H0 : Hp} {δ : Env} {ta te tb tn : TE} {P : DV → Prop} {E : XK} {i : Nat} {n : Int}
theorem ev_take (hb : δ[i]? = some (some .bag)) (hn : EvD K b I0 H0 tn δ (fun r => r = dint n)) (h : okTake n) : EvI K b I0 H0 (tCall (spD K aTake okTake outTake noX) [] E (tCons (tVar i) (tCons tn tNil))) δ (fun k => 0 ≤ k ∧ k < n) :=
  ev_call1 n (ea_cons1 (ev_var hb) (ea_cons1 hn ea_nil)) h (fun r e => e) (noOwn_bag fun _ z => by cases z)
theorem ev_pick {A : List PyData → Prop} {B : PyData → Prop} (hb : δ[i]? = some (some .bag)) (hn : EvD K b I0 H0 tn δ (fun r => ∃ ds, r = .dat (.list ds) ∧ A ds)) (h : ∀ ds, A ds → okPick ds ∧ ∀ d ∈ ds, B d) :
    EvD K b I0 H0 (tCall (spD K aPick okPick outPick noX) [] E (tCons (tVar i) (tCons tn tNil))) δ (fun r => ∃ d, r = .dat d ∧ B d) :=
  ev_call (A := fun rs => ∃ ds, rs = [.bag, .dat (.list ds)] ∧ A ds) (ea_cons (ev_var hb) (ea_cons hn ea_nil (B := fun rs => ∃ ds, rs = [.dat (.list ds)] ∧ A ds) fun r rs ⟨ds, e, a⟩ f => ⟨ds, by rw [e, f], a⟩) fun r rs e ⟨ds, f, a⟩ => ⟨ds, by rw [e, f], a⟩) fun rs ⟨ds, e, a⟩ =>
    ⟨ds, e, (h ds a).1, e ▸ noOwn_bag (fun _ z => by cases z), fun r ⟨d, hd, f⟩ => ⟨d, f, (h ds a).2 d hd⟩, fun _ _ z => z⟩
/-! ### lists of ints, some drawn -/
theorem ea_nilI : EvA K b I0 H0 tNil δ (fun rs => ∃ ns : List Int, rs = ns.map (fun i => dint i) ∧ ns = []) := ea_nil.mono fun _ e => ⟨[], e, rfl⟩
theorem ea_consI {tr : TA} {C : Int → Prop} {D : List Int → Prop} (ha : EvI K b I0 H0 ta δ C) (hr : EvA K b I0 H0 tr δ (fun rs => ∃ ns : List Int, rs = ns.map (fun i => dint i) ∧ D ns)) :
    EvA K b I0 H0 (tCons ta tr) δ (fun rs => ∃ ns : List Int, rs = ns.map (fun i => dint i) ∧ ∃ i ms, ns = i :: ms ∧ C i ∧ D ms) :=
  ea_cons ha hr fun r rs ⟨i, e, c⟩ ⟨ms, f, d⟩ => ⟨i :: ms, by rw [e, f]; rfl, i, ms, rfl, c, d⟩
theorem ev_lstI {t : TA} {D : List Int → Prop} (h : EvA K b I0 H0 t δ (fun rs => ∃ ns : List Int, rs = ns.map (fun i => dint i) ∧ D ns)) (hl : ∀ ns, D ns → ns.length ≤ 100000) : EvD K b I0 H0 (tLst t) δ (fun r => ∃ ns : List Int, r = .own (ns.map .int) ∧ D ns) :=
  (ev_lst (A := fun ds => ∃ ns : List Int, ds = ns.map .int ∧ D ns) (h.mono fun rs ⟨ns, e, d⟩ => ⟨ns.map .int, by rw [e, List.map_map]; rfl, by rw [List.length_map]; exact hl ns d, ns, rfl, d⟩)).mono fun r ⟨ds, e, ns, f, d⟩ => ⟨ns, by rw [e, f], d⟩
theorem ev_tupI {t : TA} {D : List Int → Prop} (h : EvA K b I0 H0 t δ (fun rs => ∃ ns : List Int, rs = ns.map (fun i => dint i) ∧ D ns)) (hl : ∀ ns, D ns → ns.length ≤ 100000) : EvD K b I0 H0 (TF.tTupF t) δ (fun r => ∃ ns : List Int, r = .dat (nums ns) ∧ D ns) :=
  (ev_tup (A := fun ds => ∃ ns : List Int, ds = ns.map .int ∧ D ns) (h.mono fun rs ⟨ns, e, d⟩ => ⟨ns.map .int, by rw [e, List.map_map]; rfl, by rw [List.length_map]; exact hl ns d, ns, rfl, d⟩)).mono fun r ⟨ds, e, ns, f, d⟩ => ⟨ns, by rw [e, f], d⟩
/-- one of some ints, drawn -/
theorem ev_pickI {t : TA} {D : List Int → Prop} (hb : δ[i]? = some (some .bag)) (h : EvA K b I0 H0 t δ (fun rs => ∃ ns : List Int, rs = ns.map (fun i => dint i) ∧ D ns)) (hl : ∀ ns, D ns → 0 < ns.length ∧ ns.length ≤ 1000) :
    EvI K b I0 H0 (tCall (spD K aPick okPick outPick noX) [] E (tCons (tVar i) (tCons (tLst t) tNil))) δ (fun k => ∃ ns, D ns ∧ k ∈ ns) :=
  (ev_pick (A := fun ds => ∃ ns : List Int, ds = ns.map .int ∧ D ns) (B := fun d => ∃ k : Int, d = .int k ∧ ∃ ns, D ns ∧ k ∈ ns) hb
    (ev_frz ((ev_lstI h fun ns d => by have := (hl ns d).2; omega).mono fun r ⟨ns, e, d⟩ => ⟨_, e, ns, rfl, d⟩)) fun ds ⟨ns, e, d⟩ => by
      subst e
      refine ⟨⟨by rw [List.length_map]; exact (hl ns d).1, by rw [List.length_map]; exact (hl ns d).2⟩, fun x hx => ?_⟩
      obtain ⟨k, hk, rfl⟩ := List.mem_map.mp hx
      exact ⟨k, rfl, ns, d, hk⟩).mono fun r ⟨d, e, k, f, p⟩ => ⟨k, by rw [e, f], p⟩
theorem paired_ints {β : Type} {C : β → Int → Prop} : ∀ {l : List β} {ys : List PyData}, Paired (fun x y => ∃ k : Int, y = .int k ∧ C x k) l ys → ∃ ns : List Int, ys = ns.map .int ∧ Paired C l ns
  | _, _, .nil => ⟨[], rfl, .nil⟩
  | _, _, .cons ⟨k, e, c⟩ t => by
    obtain ⟨ns, f, p⟩ := paired_ints t
    exact ⟨k :: ns, by rw [e, f]; rfl, .cons c p⟩
/-- a comprehension of ints -/
theorem ev_lcI {β : Type} {Rl : Rel} {wi : TI} {g : TG} {te : TE} {vs is : List Nat} {A : List β → Prop} {gI : β → PyData} {δf : β → Env} {C : β → Int → Prop} (it : ItD K b Rl I0 H0 wi δ (fun x => ∃ l, x = l.map gI ∧ A l)) (hv : ∀ v ∈ vs, δ[v]? = some none) (his : ∀ v ∈ is, v ∈ vs)
    (hl : ∀ l, A l → l.length ≤ 100000) (tg : ∀ x, TgD K b Rl g is (gI x) δ (δf x)) (body : ∀ l, A l → ∀ x ∈ l, EvI K b I0 H0 te (δf x) (C x)) :
    EvD K b I0 H0 (tLc wi g tYes te vs) δ (fun r => ∃ ds, r = .own ds ∧ ∃ ns : List Int, ds = ns.map .int ∧ ∃ l, A l ∧ Paired C l ns) :=
  (ev_lcR (Pe := fun x y => ∃ k : Int, y = .int k ∧ C x k) it hv his hl tg fun l a x hx => EvD.mono (body l a x hx) fun r ⟨k, e, c⟩ => ⟨.int k, e, k, rfl, c⟩).mono fun r ⟨ys, e, l, a, hp⟩ => by
    obtain ⟨ns, f, p⟩ := paired_ints hp
    exact ⟨ys, e, ns, f, l, a, p⟩
/-- tuple([.. for ..]) of ints -/
theorem ev_tlcI {β : Type} {Rl : Rel} {wi : TI} {g : TG} {te : TE} {vs is : List Nat} {A : List β → Prop} {gI : β → PyData} {δf : β → Env} {C : β → Int → Prop} (it : ItD K b Rl I0 H0 wi δ (fun x => ∃ l, x = l.map gI ∧ A l)) (hv : ∀ v ∈ vs, δ[v]? = some none) (his : ∀ v ∈ is, v ∈ vs)
    (hl : ∀ l, A l → l.length ≤ 100000) (tg : ∀ x, TgD K b Rl g is (gI x) δ (δf x)) (body : ∀ l, A l → ∀ x ∈ l, EvI K b I0 H0 te (δf x) (C x)) :
    EvD K b I0 H0 (tCB (TF.rTupleF K) (tCons (tLc wi g tYes te vs) tNil)) δ (fun r => ∃ ns : List Int, r = .dat (nums ns) ∧ ∃ l, A l ∧ Paired C l ns) :=
  (ev_tupleOf (ev_lcI it hv his hl tg body)).mono fun r ⟨ds, e, ns, f, p⟩ => ⟨ns, by rw [e, f], p⟩
end
section
variable {K : PySem.W.Frag} {b : Bg} {I0 H0 : Hp} {δ : Env} {te : TE} {C : Int → Prop}
/-- range(e), e drawn; the turns' numbers -/
theorem itd_rngC (h : EvI K b I0 H0 te δ C) (hn : ∀ n, C n → 0 ≤ n ∧ n ≤ 100000) : ItD K b (DpR K) I0 H0 (iRng1 (tCons te tNil)) δ (fun x => ∃ l : List Nat, x = l.map (fun (k : Nat) => PyData.int ((0 : Int) + (k : Int))) ∧ ∃ n : Nat, l = List.range n ∧ C n) :=
  (itd_rngR (C := C) (ea_cons h ea_nil fun r rs ⟨n, e, c⟩ f => ⟨n, by rw [e, f], c⟩) hn).mono fun x ⟨n, e, c⟩ => ⟨List.range n, by rw [e, rangeD_map], n, rfl, c⟩
/-- the ints of a tuple -/
theorem itd_nums {D : List Int → Prop} (h : EvD K b I0 H0 te δ (fun r => ∃ ns : List Int, r = .dat (nums ns) ∧ D ns)) : ItD K b (DpR K) I0 H0 (iTup K te) δ (fun x => ∃ l : List Int, x = l.map PyData.int ∧ D l) :=
  itd_tup (A := fun ds => ∃ ns : List Int, ds = ns.map .int ∧ D ns) (h.mono fun r ⟨ns, e, d⟩ => ⟨_, e, ns, rfl, d⟩)
theorem itd_nums1 {ns : List Int} (h : EvD K b I0 H0 te δ (fun r => r = .dat (nums ns))) : ItD K b (DpR K) I0 H0 (iTup K te) δ (fun x => ∃ l : List Int, x = l.map PyData.int ∧ l = ns) :=
  itd_nums (h.mono fun r e => ⟨ns, e, rfl⟩)
end
end DL

set_option Elab.async false
set_option linter.all false
set_option maxRecDepth 100000
set_option maxHeartbeats 4000000
namespace DL
open PySem PySem.Spec PyProof.Rows L2
/-! ### try: .. except A as n: .. except B as n: .. (every exception of the body meets a clause) -/
abbrev Cls := Value × (Addr → Value → Option Addr → TS)
/-- behind a suite its name is gone -/
def endsN (i : Nat) (D : Ends) : Ends := ⟨fun σ H => D.nx (σ.set i none) H, D.rt, fun σ H => D.bk (σ.set i none) H, fun σ H => D.ct (σ.set i none) H⟩
def wNs (K : PySem.W.Frag) (i : Nat) (D : Ends) : List Cls → WX
  | [] => fun _ _ _ _ => False
  | cl :: more => fun k dd σ H => ∃ y, PySem.W.exmOne K k cl.1 = some y ∧ (y = true → ∀ x, H x = none → cl.2 x k dd (endsN i D) (σ.set i (some (.ref x))) H) ∧ (y = false → wNs K i D more k dd σ H)
/-- the clauses as they stand in the text, each with its class and its suite's reading -/
inductive ClsOk (X : Cx) (n : Str) : List ExceptHandler → List Cls → Prop
  | nil : ClsOk X n [] []
  | cons {nm : Str} {c : Value} {r : Addr → Value → Option Addr → TS} {st : Stmt} {sts : List Stmt} {q1 q2 : Pos} {hs : List ExceptHandler} {cs : List Cls} (named : Names X nm c)
      (suite : ∀ (x : Addr) (o : Obj) (k : Value) (dd : Option Addr) (ps : List (Addr × Obj)), Zc k dd o → (∃ vs, o.data = .fields vs) → PSs (X.suite x ((x, o) :: ps)) (st :: sts) (r x k dd)) (more : ClsOk X n hs cs) :
      ClsOk X n (.ExceptHandler (some (.Name nm q1)) (some n) (st :: sts) q2 :: hs) ((c, r) :: cs)
section
variable {X : Cx} {n : Str} {i : Nat}
theorem clauses {D : Ends} {ground : Heap} {pins : List (Addr × Obj)} {σ : L2.St} {H : Hp} {k : Value} {dd : Option Addr} {x : Addr} {s : Shared} {ho : Heap} (ok : X.Ok) (nod : X.N.Nodup) (at_ : X.N[i]? = some n) (loc : X.env.kindOf n = some .local)
    (stands : ∀ hh : Heap, HandSPX.FlyingZ ground (X.env :: X.outer) x (Zc k dd) hh → s.heap.UpToSlots hh → Inv X pins σ H { s with heap := hh }) (free : H x = none) (offL : x ≠ X.env.locals) (offF : x ∉ X.fs)
    (fly : HandSPX.FlyingZ ground (X.env :: X.outer) x (Zc k dd) ho) (grew : s.heap.UpToSlots ho) {hs : List ExceptHandler} {cs : List Cls} (h : ClsOk X n hs cs) : wNs X.K i D cs k dd σ H →
    wpAny (model X.prog X.w) X.A (handleBy (.ref x) X.env hs) (SP X pins D) X.xe { s with heap := ho } := by
  induction h with
  | nil => exact fun z => z.elim
  | @cons nm c r st sts q1 q2 hs' cs' named suite more ih =>
    rintro ⟨y, hy, yes, no⟩
    obtain ⟨o1, v1, got1, zc1, dat1⟩ := fly.there
    have inv1 := stands ho fly grew
    have insuite := inv1.suite got1 dat1 free offL offF
    have isCls : PySem.W.Looks (model X.prog X.w) ho (typeOf (.ref x)) k := fun _ _ _ _ keep q => wpAny_typeOf_ref (keep _ _ got1) (by rw [zc1.1]; exact q)
    refine wpAny_handleBy_cons (codeAny_handlers_test ?_) (by intro e; cases e)
    have named' : ∀ {Q E : Value → Shared → Prop}, Q c { s with heap := ho } → wpAny (model X.prog X.w) (X.A.mark (some (.ref x))) (eval (.Name nm q1) X.env) Q E { s with heap := ho } := by
      rcases named with ⟨g1, g2, g3⟩
      rcases g3 with g3 | ⟨g3, g4, g5⟩
      · exact fun q => ld_glob (X := X.suite x ((x, o1) :: (X.pn ++ pins))) insuite g1 g3 q g2
      · exact fun q => ld_blt (X := X.suite x ((x, o1) :: (X.pn ++ pins))) insuite g1 g3 g4 q g5 g2
    refine named' ((PySem.W.exm_one (M := model X.prog X.w) inv1.kIn isCls hy).here ?_)
    match y, yes, no with
    | false, _, no => exact ih (no rfl)
    | true, yes, _ =>
      refine codeAny_handlers_suite_as (HandSPX.lands_againZ fly fun h2 fly2 grew2 => ?_)
      obtain ⟨o2, v2, got2, zc2, dat2⟩ := fly2.there
      have insuite2 := (stands h2 fly2 (grew.trans grew2)).suite got2 dat2 free offL offF
      refine store_ok (X := X.suite x ((x, o2) :: (X.pn ++ pins))) (v := .ref x) insuite2 nod at_ (.inl loc) rfl (fun s2 inv2 => ?_) (.inr loc)
      refine wpAny_mono ((suite x o2 k dd (X.pn ++ pins) zc2 ⟨_, dat2⟩).run [] s2 _ H _ inv2 (yes rfl x free)) (fun fl s3 hsp => ?_) fun _ _ z => z.elim
      have off : ∀ {τ : L2.St} {G : Hp} {Q : Shared → Prop}, Inv (X.suite x ((x, o2) :: (X.pn ++ pins))) [] τ G s3 → (∀ s4, Inv X pins (τ.set i none) G s4 → Q s4) → wpAny (model X.prog X.w) X.A (do bindName X.env n .none; unbindBehindTheSuite X.env n q2) (fun _ s4 => Q s4) X.xe s3 :=
        fun iv go => gone_ok (iv.unsuite ok) nod at_ loc go
      match fl, hsp with
      | .next, ⟨_, _, iv, q⟩ => exact off iv fun _ j => ⟨_, _, j, q⟩
      | .brk, ⟨_, _, iv, q⟩ => exact off iv fun _ j => ⟨_, _, j, q⟩
      | .cont, ⟨_, _, iv, q⟩ => exact off iv fun _ j => ⟨_, _, j, q⟩
      | .ret _, ⟨_, _, _, iv, rv, q⟩ => exact off iv fun _ j => ⟨_, _, _, j, rv, q⟩
/-- THE RULE -/
theorem ps_tryN {body : List Stmt} {hd : ExceptHandler} {hs : List ExceptHandler} {cs : List Cls} {pos : Pos} {tb : WX → TS} (nod : X.N.Nodup) (at_ : X.N[i]? = some n) (loc : X.env.kindOf n = some .local) (hcs : ClsOk X n (hd :: hs) cs)
    (hb : ∀ (W : WX) (ps : List (Addr × Obj)) (xe : Value → Shared → Prop), Takes (X.tr ps xe) W → PassesOwn (model X.prog X.w) X.A X.env xe → PSs (X.tr ps xe) body (tb W)) (stk : X.stack = X.env :: X.outer := by rfl) (frm : X.env.frame = some X.env.locals := by rfl) :
    PS X (.Try body (hd :: hs) [] [] pos) (fun D σ H => tb (wNs X.K i D cs) D σ H) := by
  refine ⟨fun pins s σ H D I h => wpAny_Try_except ?_⟩
  have ok := I.ok
  refine wpAny_mono ((hb _ (X.pn ++ pins) (fun e t => wpAny (model X.prog X.w) X.A (noteFrame e X.env) (fun _ t2 => wpAny (model X.prog X.w) X.A (setFlight e none) (fun _ t3 => wpAny (model X.prog X.w) X.A (handleBy e X.env (hd :: hs)) (SP X pins D) X.xe t3) X.xe t2) X.xe t) ?_ PassesOwn.looking).run [] s σ H D (I.toTry _) h) ?_ fun _ _ z => z
  · rintro _ s1 ⟨x, ground, s0, ps, τ, G, k, dd, rfl, inv0, nb, up, sky, free, os, ag, w⟩
    have inv := inv0.ofTry ok
    rw [show (X.tr (X.pn ++ pins) _).stack = X.env :: X.outer from stk] at sky
    have fr : X.A.frames = some (X.env :: X.outer) := by rw [ok.frames, stk]
    refine Sky.land Zc.steady fr frm sky fun h3 fly up3 => ?_
    obtain ⟨o3, v3, got3, _, dat3⟩ := fly.there
    have off : x ∉ frs (X.env :: X.outer) := fun hm => by
      obtain ⟨_, o', e', hn⟩ := fly.2.2.1.mem hm
      rw [got3] at e'
      exact hn _ (Option.some.inj e' ▸ dat3)
    refine clauses ok nod at_ loc (fun hh f u => inv.landed nb f.1 (up.trans u) os ag) free (fun z => off (List.mem_filterMap.mpr ⟨X.env, List.mem_cons_self, by rw [frm, z]⟩)) (fun hm => ?_) fly up3 hcs w
    obtain ⟨e, he, q⟩ := List.mem_filterMap.mp hm
    exact off (List.mem_filterMap.mpr ⟨e, List.mem_cons_of_mem _ he, q⟩)
  · intro fl s1 hsp
    match fl, hsp with
    | .next, ⟨_, _, iv, q⟩ => exact wpAny_execs_nil ⟨_, _, iv.ofTry ok, q⟩
    | .brk, ⟨_, _, iv, q⟩ => exact ⟨_, _, iv.ofTry ok, q⟩
    | .cont, ⟨_, _, iv, q⟩ => exact ⟨_, _, iv.ofTry ok, q⟩
    | .ret _, ⟨_, _, _, iv, rv, q⟩ => exact ⟨_, _, _, iv.ofTry ok, rv, q⟩
end
end DL

set_option Elab.async false
set_option linter.all false
set_option maxRecDepth 100000
set_option maxHeartbeats 4000000
namespace DL
open PySem PySem.Spec PyProof.Rows L2
/-! ### exceptions of the program's own, told by their class and fields -/
/-- what is wished of an exception: X tells which may come -/
def XW (K : PySem.W.Frag) (b : Bg) (I H : Hp) (E : XK) (X : XD) : Prop := ∀ C fs d I' H', X C fs → Ext K b I H I' H' → I' d = none → H' d = some (.xd fs) → E (.ref C) (some d) H'
theorem XW.ext {K : PySem.W.Frag} {b : Bg} {I H I' H' : Hp} {E : XK} {X : XD} (x : XW K b I H E X) (e : Ext K b I H I' H') : XW K b I' H' E X := fun C fs d I2 H2 p e2 => x C fs d I2 H2 p (e.trans e2)
/-- the promise of an exception's own __init__ with m arguments -/
def spInit (C : Addr) (m : Nat) (mk : List V → List (Str × V)) : Sp := fun vs H Q _ => ∃ a ws, vs = .ref a :: ws ∧ ws.length = m ∧ H a = some (exo a C none) ∧
  ∀ dx H', H dx = none → dx ≠ a → H' a = some (exo a C (some dx)) → H' dx = some (exd dx (mk ws)) → (∀ c, c ≠ a → c ≠ dx → H' c = H c) → Q .non H'
/-- a class of the program's own over ValueError, its __init__ -/
structure XCls (K : PySem.W.Frag) (mg : Str → Option Value) (x : Str) (C : Addr) : Prop where
  g : mg x = some (.ref C)
  o : OexC K C
  f : XfC K C
section
variable {P : Program} {w : World} {K : PySem.W.Frag} {mg : Str → Option Value} {base : Heap}
/-- def __init__(self, x): self.word = '..'; self.x = x -/
theorem ok_init1 {qual x : Str} {st : Stmt} {f C : Addr} {fd : FuncData} {wd : Str} {j : Nat} {p1 p2 p3 p4 p5 p6 p7 p8 : Pos} (F : Fun K "__init__" qual st f fd) (sc : FnScope ["self", x] ["self", x] (defScope st)) (T : OexC K C) (n1 : PySem.W.findIn K (.ref C) "word" = some none) (n2 : PySem.W.findIn K (.ref C) x = some none)
    (hb : defBody st = [.Assign [.Attribute (.Name "self" p1) "word" p2] (.Constant (.str wd) j p3) p4, .Assign [.Attribute (.Name "self" p5) x p6] (.Name x p7) p8]) (v0 : Vis (defScope st) "self") (v1 : Vis (defScope st) x)
    (d1 : (x == ("__debug__" : Str)) = false) (d2 : (x == ("__classdict__" : Str)) = false) : FnOk P w K mg base CX0 1 f fd ["self", x] (spInit C 1 fun vs => [(x, vs.getD 0 .non), ("word", .str wd)]) := by
  refine F.ok sc (fun vs H Q E h => ?_) (fun cdv A outer s H vs Q E hr h => ?_)
  · obtain ⟨a, ws, rfl, hl, _⟩ := h
    show ws.length + 1 = 2
    omega
  · obtain ⟨a, ws, rfl, hl, ha, q⟩ := h
    obtain ⟨v, rfl⟩ : ∃ v, ws = [v] := by
      match ws, hl with
      | [v], _ => exact ⟨v, rfl⟩
    rw [hb]
    refine ⟨_, pss_cons (ps_ost (pv 0 (hv := v0)) pe_str) (pss_one (ps_ost (pv 0 (hv := v0)) (pv 1 (hv := v1) (hd := d1) (hcd := d2)))), ?_⟩
    refine ⟨.ref a, rfl, a, C, rfl, T, n1, .inl ⟨ha, fun dx nd ne => ?_⟩⟩
    refine ⟨v, rfl, .ref a, rfl, a, C, rfl, T, n2, .inr ⟨dx, [("word", .str wd)], upd_same, ?_, (by simp), ?_⟩⟩
    · rw [upd_ne ne, upd_same]
    · refine q dx _ nd ne ?_ upd_same fun c h1 h2 => ?_
      · rw [upd_ne ne.symm, upd_same]
      · rw [upd_ne h2, upd_ne h1, upd_ne h2]
/-- the same with two fields -/
theorem ok_init2 {qual x y : Str} {st : Stmt} {f C : Addr} {fd : FuncData} {wd : Str} {j : Nat} {p1 p2 p3 p4 p5 p6 p7 p8 p9 pa pb pc : Pos} (F : Fun K "__init__" qual st f fd) (sc : FnScope ["self", x, y] ["self", x, y] (defScope st)) (T : OexC K C) (n1 : PySem.W.findIn K (.ref C) "word" = some none) (n2 : PySem.W.findIn K (.ref C) x = some none) (n3 : PySem.W.findIn K (.ref C) y = some none)
    (hb : defBody st = [.Assign [.Attribute (.Name "self" p1) "word" p2] (.Constant (.str wd) j p3) p4, .Assign [.Attribute (.Name "self" p5) x p6] (.Name x p7) p8, .Assign [.Attribute (.Name "self" p9) y pa] (.Name y pb) pc]) (v0 : Vis (defScope st) "self") (v1 : Vis (defScope st) x) (v2 : Vis (defScope st) y)
    (d1 : (x == ("__debug__" : Str)) = false) (d2 : (x == ("__classdict__" : Str)) = false) (d3 : (y == ("__debug__" : Str)) = false) (d4 : (y == ("__classdict__" : Str)) = false) :
    FnOk P w K mg base CX0 1 f fd ["self", x, y] (spInit C 2 fun vs => [(y, vs.getD 1 .non), (x, vs.getD 0 .non), ("word", .str wd)]) := by
  refine F.ok sc (fun vs H Q E h => ?_) (fun cdv A outer s H vs Q E hr h => ?_)
  · obtain ⟨a, ws, rfl, hl, _⟩ := h
    show ws.length + 1 = 3
    omega
  · obtain ⟨a, ws, rfl, hl, ha, q⟩ := h
    obtain ⟨v, u, rfl⟩ : ∃ v u, ws = [v, u] := by
      match ws, hl with
      | [v, u], _ => exact ⟨v, u, rfl⟩
    rw [hb]
    refine ⟨_, pss_cons (ps_ost (pv 0 (hv := v0)) pe_str) (pss_cons (ps_ost (pv 0 (hv := v0)) (pv 1 (hv := v1) (hd := d1) (hcd := d2))) (pss_one (ps_ost (pv 0 (hv := v0)) (pv 2 (hv := v2) (hd := d3) (hcd := d4))))), ?_⟩
    refine ⟨.ref a, rfl, a, C, rfl, T, n1, .inl ⟨ha, fun dx nd ne => ?_⟩⟩
    refine ⟨v, rfl, .ref a, rfl, a, C, rfl, T, n2, .inr ⟨dx, [("word", .str wd)], upd_same, ?_, (by simp), ?_⟩⟩
    · rw [upd_ne ne, upd_same]
    · refine ⟨u, rfl, .ref a, rfl, a, C, rfl, T, n3, .inr ⟨dx, [(x, v), ("word", .str wd)], ?_, upd_same, (by simp), ?_⟩⟩
      · rw [upd_ne ne.symm, upd_same]
      · refine q dx _ nd ne ?_ upd_same fun c h1 h2 => ?_
        · rw [upd_ne ne.symm, upd_ne ne.symm, upd_same]
        · rw [upd_ne h2, upd_ne h2, upd_ne h1, upd_ne h2]
end
section
variable {K : PySem.W.Frag} {b : Bg} {I0 H0 : Hp} {δ : Env} {N Bk Ct : Env → Prop} {R : DV → Prop} {P : DV → Prop} {E : XK}
/-- raise C(e, ..) -/
theorem sv_raise {C : Addr} {m : Nat} {mk : List V → List (Str × V)} {ta : TA} {X : XD} {rs : List DV} {vs : List V} (ha : EvA K b I0 H0 ta δ (fun x => x = rs)) (hv : ∀ (H0 I H : Hp) ws, ResA K b H0 I H ws rs → ws = vs) (hl : vs.length = m) (hm : m ≤ 1000) (xw : XW K b I0 H0 E X) (hx : X C (mk vs)) :
    SvD K b I0 H0 (fun _ σ H => tMkO C (spInit C m mk) [] ta σ H fun cls d H' => E cls d H') δ N R Bk Ct := fun σ I H e n D _ _ _ _ =>
  ha σ I H e n _ fun rs' ws I1 H1 p x r => by
    subst p
    have ew := hv _ _ _ _ r
    subst ew
    refine ⟨by omega, fun a na => ?_⟩
    rw [List.append_nil]
    refine ⟨a, ws, rfl, hl, upd_same, fun dx H' nd ne h1 h2 h3 => ⟨rfl, dx, mk ws, h1, h2, ?_, ?_⟩⟩
    · rw [upd_ne ne] at nd
      exact nd
    · have nd' : H1 dx = none := by rw [upd_ne ne] at nd; exact nd
      have eG : upd (del H' a) dx (.xd (mk ws)) = upd H1 dx (.xd (mk ws)) := by
        funext c
        by_cases z : c = dx
        · rw [z, upd_same, upd_same]
        · rw [upd_ne z, upd_ne z]
          by_cases z2 : c = a
          · rw [z2, del_same, na]
          · rw [del_ne z2, h3 c z2 z, upd_ne z2]
      rw [eG]
      exact xw C (mk ws) dx I1 _ hx ((e.trans x).trans (x.ok.newH nd')) (x.ok.inone nd') upd_same
/-- f(e, ..) that may raise -/
theorem ev_callX {α : Type} {args : α → List DV} {ok : α → Prop} {out : α → DV → Prop} {exc : α → XD} {X : XD} {ta : TA} {A : List DV → Prop} (xw : XW K b I0 H0 E X) (ha : EvA K b I0 H0 ta δ A)
    (hp : ∀ rs, A rs → ∃ a, rs = args a ∧ ok a ∧ NoOwn rs ∧ (∀ r, out a r → P r) ∧ ∀ C fs, exc a C fs → X C fs) : EvD K b I0 H0 (tCall (spD K args ok out exc) [] E ta) δ P := fun σ I H k n Q q =>
  ha σ I H k n _ fun rs vs I1 H1 p x r => by
    obtain ⟨a, rfl, p1, p2, p3, p4⟩ := hp rs p
    rw [List.append_nil]
    exact ⟨a, b, I1, x.ok, resA_now r p2, p1, fun r v I' H' o x2 rs' => q r v I' H' (p3 r o) (x.trans x2) (rs'.since (free_of x)), fun C fs d I' H' he x2 h1 h2 => xw C fs d I' H' (p4 C fs he) ((k.trans x).trans x2) h1 h2⟩
theorem ev_callX1 {α : Type} {args : α → List DV} {ok : α → Prop} {out : α → DV → Prop} {exc : α → XD} {X : XD} {ta : TA} (xw : XW K b I0 H0 E X) (a : α) (ha : EvA K b I0 H0 ta δ (fun x => x = args a)) (hp : ok a) (hn : NoOwn (args a)) (ho : ∀ r, out a r → P r) (hx : ∀ C fs, exc a C fs → X C fs) :
    EvD K b I0 H0 (tCall (spD K args ok out exc) [] E ta) δ P := ev_callX xw ha fun _ e => ⟨a, e, hp, e ▸ hn, ho, hx⟩
end
section
variable {P : Program} {w : World} {K : PySem.W.Frag} {mg : Str → Option Value} {base : Heap}
/-- a def that may raise -/
theorem fn_okX {α : Type} {x qual : Str} {st : Stmt} {f : Addr} {fd : FuncData} {N ps : List Str} {k : Nat} {args : α → List DV} {ok : α → Prop} {out : α → DV → Prop} {exc : α → XD} (F : Fun K x qual st f fd) (S : FnScope N ps (defScope st)) (len : ∀ a, ok a → (args a).length = ps.length)
    (hbody : ∀ (cdv : Value) (A : Around) (outer : List PySem.Env) (s : Shared) (H : Hp) (E : XK), Room k (A.deeper (envOfC qual (defScope st) s.heap.objs.size f cdv)) →
      ∃ t, PSs (cxOf (L2.CX P w) P w K mg base N qual (defScope st) f cdv A outer s H E) (defBody st) t ∧ ∀ b I a, ok a → XW K b I H E (exc a) → SvD K b I H t (envOf N (args a)) (fun _ => out a (.dat .none)) (out a) (fun _ => False) (fun _ => False)) :
    FnOk P w K mg base (L2.CX P w) (k + 1) f fd ps (spD K args ok out exc) := by
  refine F.okX S (fun vs H Q E h => ?_) (fun cdv A outer s H vs Q E hr h => ?_)
  · obtain ⟨a, b, I, _, r, p, _⟩ := h
    rw [resA_len r]
    exact len a p
  · obtain ⟨a, b, I, k, r, p, q, xw⟩ := h
    obtain ⟨t, ht, hs⟩ := hbody cdv A outer s H E hr
    exact ⟨t, ht, hs b I a p (fun C fs d I' H' hx e h1 h2 => xw C fs d I' H' hx e h1 h2) _ I H k.re (env_start r) _ (fun δ' σ' I' H' o e _ _ => q _ _ I' H' o e Dp.non) (fun r v I' H' o e rs => q r v I' H' o e rs) (fun _ _ _ _ z => z.elim) (fun _ _ _ _ z => z.elim)⟩
end
/-- in a def that may raise: what a callee raises goes on -/
theorem passX {P : Program} {w : World} {K : PySem.W.Frag} {mg : Str → Option Value} {base : Heap} {N : List Str} {q : Str} {sc : Scope} {f : Addr} {cdv : Value} {A : Around} {outer : List PySem.Env} {s : Shared} {H : Hp} {E : XK} :
    Passes (L2.CX P w) (cxOf (L2.CX P w) P w K mg base N q sc f cdv A outer s H E) E := passes_call (X := cxOf (L2.CX P w) P w K mg base N q sc f cdv A outer s H E) (takes_of rfl rfl rfl rfl) fun _ _ _ _ h => h
end DL

set_option Elab.async false
set_option linter.all false
set_option maxRecDepth 100000
set_option maxHeartbeats 4000000
namespace DL
open PySem PySem.Spec PyProof.Rows L2
/-! ### told(lambda: ..) -/
/-- what the def that calls the lambda makes of it: r0 where nothing is raised, After where an exception of the class C with the fields fs is caught -/
def TTx (r0 : V) (After : Addr → List (Str × V) → Hp → VK → Prop) : (XK → Hp → VK → Prop) → Hp → VK → Prop := fun tl H Q =>
  tl (fun cls d H' => ∃ C dd fs, cls = .ref C ∧ d = some dd ∧ H' dd = some (.xd fs) ∧ After C fs H' Q) H fun _ H' => Q r0 H'
/-- .. where its value is a part of what is told -/
def TTv (mk : V → Hp → VK → Prop) (After : Addr → List (Str × V) → Hp → VK → Prop) : (XK → Hp → VK → Prop) → Hp → VK → Prop := fun tl H Q =>
  tl (fun cls d H' => ∃ C dd fs, cls = .ref C ∧ d = some dd ∧ H' dd = some (.xd fs) ∧ After C fs H' Q) H fun v H' => mk v H' Q
section
variable {K : PySem.W.Frag} {b : Bg} {I0 H0 : Hp} {δ δ' : Env} {P Pb : DV → Prop} {t : XK → TE} {T : List (Addr × Str)} {After : Addr → List (Str × V) → Hp → VK → Prop}
theorem ext_tab {I H H1 : Hp} (k : Ok K b I H) (x : LamX.ExtN H H1) (t : LamX.Tabs b.T H1) : Ext K b I H I H1 := by
  obtain ⟨n, pl, tb, l, ns, x', q, m, c, e, sl, r⟩ := k.b
  exact ⟨Same.refl I, fun a o _ t h => x a o h t, fun a o n _ _ => n, fun l0 xs h => ⟨xs, x _ _ h lst_tbl⟩, fun a o h => x a o (k.s a o h) (plain_tbl (pl a o h)), n, pl, t, l, ns, x', q, m, c, x _ _ e lst_tbl, sl, r⟩
/-- slots of plain worth, seen from another heap -/
theorem EnvR.plain {I H : Hp} {σ : L2.St} (n : EnvR K b H0 I H σ δ) (hl : δ'.length = δ.length) (hs : ∀ (i : Nat) (r : DV), δ'[i]? = some (some r) → δ[i]? = some (some r) ∧ ∀ ds, r ≠ .own ds) (hK : ∀ (i : Nat) kvs, δ'[i]? ≠ some (some (.dct true kvs))) : EnvR K b H I H σ δ' :=
  ⟨n.len.trans hl.symm, fun i r e => by
    obtain ⟨v, e1, e2⟩ := n.at_ i r (hs i r e).1
    refine ⟨v, e1, ?_⟩
    cases r with
    | own ds => exact absurd rfl ((hs i _ e).2 ds)
    | dat d => exact e2
    | bor ds => exact e2
    | raw u => exact e2
    | dct own kvs =>
      cases own with
      | true => exact absurd e (hK i kvs)
      | false =>
        obtain ⟨a, es, rfl, _, z⟩ := e2
        exact ⟨a, es, rfl, (fun z => by cases z), z⟩
    | bag => exact e2, fun i j a ds es e => absurd rfl ((hs i _ e).2 ds)⟩
/-- told(lambda: ..), the value thrown away -/
theorem ev_lam {r0 : V} {d0 : PyData} {X : XD} (hT : b.T = T) (hl : δ'.length = δ.length) (hs : ∀ (i : Nat) (r : DV), δ'[i]? = some (some r) → δ[i]? = some (some r) ∧ ∀ ds, r ≠ .own ds) (hK : ∀ (i : Nat) kvs, δ'[i]? ≠ some (some (.dct true kvs))) (h0 : ∀ I, Dp K I r0 d0) (hP : P (.dat d0) ∨ ∀ r, ¬ Pb r)
    (body : ∀ I1 H1 E, XW K b I1 H1 E X → EvD K b I1 H1 (t E) δ' Pb)
    (exc : ∀ C fs, X C fs → ∀ (I' H' : Hp) (Q : VK), Ok K b I' H' → (∀ r v I'' H'', P r → Ext K b I' H' I'' H'' → Res K b H' I'' H'' v r → Q v H'') → After C fs H' Q) :
    EvD K b I0 H0 (LamX.tLam T (TTx r0 After) t) δ P := fun σ I H k n Q q => by
  subst hT
  refine ⟨k.b.2.2.1, fun H1 x tt => ?_⟩
  have e1 := ext_tab k.ok x tt
  refine body I H1 _ (fun C fs d I' H' hx e2 _ hd => ⟨C, d, fs, rfl, rfl, hd, exc C fs hx I' H' Q e2.ok fun r v I2 H2 p e3 rs => q r v I2 H2 p ((e1.trans e2).trans e3) (rs.since (free_of (e1.trans e2)))⟩) σ I H1 e1.re ((n.ext e1).plain hl hs hK) _ fun r v I' H' p e2 rs => ?_
  rcases hP with hP | hP
  · exact q (.dat d0) r0 I' H' hP (e1.trans e2) (h0 I')
  · exact (hP r p).elim
end
/-- around a body the slots have their number -/
theorem takes_len {X : Cx} {W : WX} (tk : Takes X W) : Takes X (fun cls d σ H => σ.length = X.N.length → W cls d σ H) := fun u s' ⟨a, B, sI, pins, σ, H, cls, d, e, I, nb, up, sky, na, os, ag, w⟩ =>
  tk u s' ⟨a, B, sI, pins, σ, H, cls, d, e, I, nb, up, sky, na, os, ag, w I.len⟩
end DL

set_option Elab.async false
set_option linter.all false
set_option maxRecDepth 100000
set_option maxHeartbeats 4000000
namespace DL
open PySem PySem.Spec PyProof.Rows L2 RZ
section
variable {X : Cx} (K : PySem.W.Frag)
theorem k_pi_tup {tg e : Expr} {te : TE} (he : PE X e te) (h : X.K = K := by rfl) : PI X tg e (iTup K te) := h ▸ pi_tup he
theorem k_pi_list {tg e : Expr} {te : TE} (he : PE X e te) (h : X.K = K := by rfl) : PI X tg e (iList K te) := h ▸ pi_list he
theorem k_get (h : X.K = K := by rfl) : PGet X (TF.rGetL K) := h ▸ TF.get_list
theorem k_count {o e : Expr} {to te : TE} {apos cpos : Pos} (ho : PE X o to) (he : PE X e te) (h : X.K = K := by rfl) (hbase : attributeBase o "count" X.env (eval o X.env) = eval o X.env := by rfl) (hline : (apos.endLine == cpos.line) = true := by rfl)
    (few : ((backTo cpos (starEach [e] X.env)).all (fun x => !x.1) && (backToKw cpos (keywordEach [] X.env)).all (fun x => x.1.isSome) && decide ([e].length + ([] : List Keyword).length + (if ([] : List Keyword).isEmpty then 0 else 1) < 30)) = true := by rfl)
    (one : starEach [e] X.env = [(false, eval e X.env)] := by rfl) : PE X (.Call (.Attribute o "count" apos) [e] [] cpos) (TF.tCount K to te) := h ▸ TF.pe_count ho he hbase hline few one
end
theorem gc_int {mg : Str → Option Value} {x : Str} {i : Int} (h : ∃ tk, mg x = some (.int i tk)) : ∃ u, mg x = some u ∧ RelV (.int i) u := by
  obtain ⟨tk, e⟩ := h
  exact ⟨_, e, tk, rfl⟩
/-- no tuple of the module has a dict of its own -/
def KT (K : PySem.W.Frag) : Prop := ∀ a o, K.lookup a = some o → o.cls = .type "tuple" → o.dict = none
def ktB (K : PySem.W.Frag) : Bool := K.all fun p => !decide (p.2.cls = .type "tuple") || p.2.dict.isNone
theorem mem_lk : ∀ {K : List (Addr × Obj)} {a : Addr} {o : Obj}, K.lookup a = some o → (a, o) ∈ K
  | [], _, _, h => by cases h
  | (c, u) :: K, a, o, h => by
    rw [List.lookup_cons] at h
    by_cases z : a = c
    · subst z
      rw [show (a == a) = true by simp] at h
      cases h
      exact List.mem_cons_self ..
    · have z' : (a == c) = false := by simp [z]
      rw [z'] at h
      exact List.mem_cons_of_mem _ (mem_lk h)
theorem kt_by {K : PySem.W.Frag} (h : ktB K = true) : KT K := fun a o e c => by
  have m := mem_lk e
  have := List.all_eq_true.mp h _ m
  simp only [c, decide_true, Bool.not_true, Bool.false_or] at this
  exact Option.isNone_iff_eq_none.mp this
section
variable (K : PySem.W.Frag) (b : Bg) (I0 H0 : Hp)
/-- a slice's bound -/
def EvO (to : TO) (δ : Env) (P : Option Int → Prop) : Prop := ∀ (σ : L2.St) (I H : Hp), Ext K b I0 H0 I H → EnvR K b H0 I H σ δ → ∀ Q : Option Int → Hp → Prop,
  (∀ o I' H', P o → Ext K b I H I' H' → Q o H') → to σ H Q
end
section
variable {K : PySem.W.Frag} {b : Bg} {I0 H0 : Hp} {δ : Env} {ta te tb ti : TE} {P : DV → Prop} {N Bk Ct : Env → Prop} {R : DV → Prop}
theorem eo_none : EvO K b I0 H0 tNoPart δ (fun o => o = none) := fun σ I H e n Q q => q none I H rfl e.re
theorem eo_some {C : Int → Prop} (h : EvI K b I0 H0 te δ C) : EvO K b I0 H0 (tPart te) δ (fun o => ∃ i, o = some i ∧ C i) := fun σ I H e n Q q =>
  h σ I H e n _ fun r v I' H' ⟨i, er, c⟩ x rs => by
    subst er
    exact ⟨i, int_read rs, q _ I' H' ⟨i, rfl, c⟩ x⟩
theorem dpa_cut {I : Hp} {xs : List V} {ds : List PyData} (lo hi : Option Int) (h : DpAll K I xs ds) : DpAll K I (cutV xs lo hi) (cutD ds lo hi) := by
  unfold cutV cutD
  rw [dpa_len h]
  exact dpa_take _ (dpa_drop _ h)
theorem cutD_whole {ds : List PyData} {lo hi : Option Int} (h : HT.sIx ds.length 0 lo = 0 ∧ HT.sIx ds.length ds.length hi = ds.length) : cutD ds lo hi = ds := by
  unfold cutD
  rw [h.1, h.2]
  simp
/-- t[lo:hi] -/
theorem ev_slT {ds : List PyData} {tl th : TO} {A B : Option Int → Prop} (h : EvD K b I0 H0 te δ (fun r => r = .dat (.tuple ds))) (hl : EvO K b I0 H0 tl δ A) (hh : EvO K b I0 H0 th δ B) : EvD K b I0 H0 (tSl (TF.rSlF K) te tl th) δ (fun r => ∃ lo hi, A lo ∧ B hi ∧ r = .dat (.tuple (cutD ds lo hi))) := fun σ I H e n Q q =>
  h σ I H e n _ fun r v I1 H1 p x rs => hl σ I1 H1 (e.trans x) (n.ext x) _ fun lo I2 H2 pl x2 => hh σ I2 H2 (e.trans (x.trans x2)) (n.ext (x.trans x2)) _ fun hi I3 H3 ph x3 => by
    subst p
    have rs3 := (rs.ext x2).ext x3
    have x13 := (x.trans x2).trans x3
    obtain ⟨a, xs, ev, hs, hd⟩ := tup_read x3.s rs3
    subst ev
    refine ⟨a, xs, rfl, hs, fun z => ?_, fun _ => newT_res x3.ok (dpa_cut lo hi hd) fun v I' H' x4 d => q _ v I' H' ⟨lo, hi, pl, ph, rfl⟩ (x13.trans x4) d⟩
    rw [dpa_len hd] at z
    exact q _ _ I3 H3 ⟨lo, hi, pl, ph, rfl⟩ x13 (by rw [cutD_whole z]; exact rs3)
/-- of a row of numbers -/
def cutN (ns : List Int) (lo hi : Option Int) : List Int := (ns.drop (HT.sIx ns.length 0 lo)).take (HT.sIx ns.length ns.length hi - HT.sIx ns.length 0 lo)
theorem cutD_nums (ns : List Int) (lo hi : Option Int) : cutD (ns.map .int) lo hi = (cutN ns lo hi).map .int := by
  unfold cutD cutN
  rw [List.length_map, List.map_take, List.map_drop]
theorem cutN_len (ns : List Int) (lo hi : Option Int) : (cutN ns lo hi).length ≤ ns.length := by
  unfold cutN
  rw [List.length_take, List.length_drop]
  omega
theorem cutN_take {ns : List Int} {k : Nat} : cutN ns none (some (k : Int)) = ns.take k := by
  unfold cutN
  rw [HT.sIx_none, HT.sIx_nat, List.drop_zero, Nat.sub_zero, Nat.min_def]
  split
  · rfl
  · rw [List.take_length, List.take_of_length_le (by omega)]
theorem ev_slN {ns : List Int} {tl th : TO} {A B : Option Int → Prop} (h : EvD K b I0 H0 te δ (fun r => r = .dat (nums ns))) (hl : EvO K b I0 H0 tl δ A) (hh : EvO K b I0 H0 th δ B) : EvD K b I0 H0 (tSl (TF.rSlF K) te tl th) δ (fun r => ∃ lo hi, A lo ∧ B hi ∧ r = .dat (nums (cutN ns lo hi))) :=
  (ev_slT h hl hh).mono fun r ⟨lo, hi, a, c, e⟩ => ⟨lo, hi, a, c, by rw [e, cutD_nums]⟩
/-- rows of numbers of which the length alone is told -/
def EvN (K : PySem.W.Frag) (b : Bg) (I0 H0 : Hp) (te : TE) (δ : Env) (D : List Int → Prop) : Prop := EvD K b I0 H0 te δ (fun r => ∃ ns : List Int, r = .dat (nums ns) ∧ D ns)
theorem EvN.mono {D D' : List Int → Prop} (h : EvN K b I0 H0 te δ D) (m : ∀ ns, D ns → D' ns) : EvN K b I0 H0 te δ D' := EvD.mono h fun _ ⟨ns, e, d⟩ => ⟨ns, e, m ns d⟩
theorem en_of {ns : List Int} (h : EvD K b I0 H0 te δ (fun r => r = .dat (nums ns))) : EvN K b I0 H0 te δ (fun x => x = ns) := h.mono fun _ e => ⟨ns, e, rfl⟩
theorem en_var {i : Nat} {ns : List Int} (h : δ[i]? = some (some (.dat (nums ns)))) : EvN K b I0 H0 (tVar i) δ (fun x => x = ns) := en_of (ev_var h)
theorem en_sl {ns : List Int} {tl th : TO} {A B : Option Int → Prop} (h : EvD K b I0 H0 te δ (fun r => r = .dat (nums ns))) (hl : EvO K b I0 H0 tl δ A) (hh : EvO K b I0 H0 th δ B) : EvN K b I0 H0 (tSl (TF.rSlF K) te tl th) δ (fun x => x.length ≤ ns.length) :=
  (ev_slN h hl hh).mono fun r ⟨lo, hi, _, _, e⟩ => ⟨_, e, cutN_len _ _ _⟩
theorem en_cat {D D' : List Int → Prop} (ha : EvN K b I0 H0 ta δ D) (hb : EvN K b I0 H0 tb δ D') (hl : ∀ ns ms, D ns → D' ms → ns.length + ms.length ≤ 100000) : EvN K b I0 H0 (tOp (TF.rCatF K) ta tb) δ (fun x => ∃ ns ms, D ns ∧ D' ms ∧ x = ns ++ ms) :=
  ev_op ha hb fun x y ⟨ns, e, d⟩ ⟨ms, f, d'⟩ => by
    subst e f
    exact fun H0 I H v w k r1 r2 Q q => od_cat (by rw [List.length_map, List.length_map]; exact hl ns ms d d') H0 I H v w k r1 r2 Q fun z u I' H' p => q z u I' H' ⟨ns ++ ms, by rw [p, nums, List.map_append], ns, ms, d, d', rfl⟩
theorem en_tup {t : TA} {D : List Int → Prop} (h : EvA K b I0 H0 t δ (fun rs => ∃ ns : List Int, rs = ns.map (fun i => dint i) ∧ D ns)) (hl : ∀ ns, D ns → ns.length ≤ 100000) : EvN K b I0 H0 (TF.tTupF t) δ D := ev_tupI h hl
theorem flat_rep (n : Nat) (x : PyData) : (List.replicate n [x]).flatten = List.replicate n x := by
  induction n with
  | zero => rfl
  | succ n ih => rw [List.replicate_succ, List.replicate_succ, List.flatten_cons, ih]; rfl
/-- (k,) * n -/
theorem en_rep {C D : Int → Prop} (ha : EvN K b I0 H0 ta δ (fun x => ∃ k, x = [k] ∧ C k)) (hb : EvI K b I0 H0 tb δ D) (hn : ∀ n, D n → -1000 ≤ n ∧ n ≤ 1000) : EvN K b I0 H0 (tOp (TF.rRepF K) ta tb) δ (fun x => ∃ k n, C k ∧ D n ∧ x = List.replicate n.toNat k) :=
  ev_op ha hb fun x y ⟨ns, e, k, e2, c⟩ ⟨n, f, d⟩ => by
    subst e f e2
    exact fun H0 I H v w k' r1 r2 Q q => od_rep (by simp) (by simp) (hn n d).1 (hn n d).2 H0 I H v w k' r1 r2 Q fun z u I' H' p => q z u I' H' ⟨List.replicate n.toNat k, by rw [p, List.map_cons, List.map_nil, flat_rep, nums, List.map_replicate], k, n, c, d, rfl⟩
/-- [k] * n -/
theorem ev_repL {ds : List PyData} {n : Int} (ha : EvD K b I0 H0 ta δ (fun r => r = .own ds)) (hb : EvD K b I0 H0 tb δ (fun r => r = dint n)) (hl : ds.length ≤ 1) (n0 : 0 ≤ n) (n1 : n ≤ 100000) : EvD K b I0 H0 (tOp rRep ta tb) δ (fun r => r = .own (List.replicate n.toNat ds).flatten) :=
  ev_op ha hb fun x y e f => by
    subst e f
    intro H0 I H v w k r1 r2 Q q
    obtain ⟨a, xs, rfl, h0, hi, hb, ha, hd⟩ := r1
    have l1 := dpa_len hd
    refine ⟨a, n, xs, rfl, int_read r2, ha, by omega, by omega, ?_, fun p hp => q _ _ _ _ rfl (k.newH hp) ⟨p, _, rfl, fr_none hp, k.inone hp, k.nb hp, upd_same, dpa_rep hd _⟩⟩
    have z : xs.length * n.toNat ≤ 1 * n.toNat := Nat.mul_le_mul_right _ (by omega)
    exact Nat.le_trans (by omega) (by decide : 100000 ≤ sizeLine)
/-- xs[k] op= e -/
theorem sv_augS {i : Nat} {ds : List PyData} {k x y : Int} {f : Int → Int → Int} (hi : δ[i]? = some (some (.own ds))) (hbor : noBor δ = true) (hk0 : 0 ≤ k) (hk : ds[k.toNat]? = some (.int x)) (hti : EvD K b I0 H0 ti δ (fun r => r = dint k)) (he : EvD K b I0 H0 te δ (fun r => r = dint y))
    (hN : N (δ.set i (some (.own (ds.set k.toNat (.int (f x y))))))) : SvD K b I0 H0 (tAugS (tVar i) ti te (TF.rGetL K) (ipI f) rSetL) δ N R Bk Ct := fun σ I H e n D a1 _ _ _ => by
  obtain ⟨w, e1, e2⟩ := n.at_ i _ hi
  obtain ⟨a, xs, rfl, h0, hn, hb, ha, hd⟩ := e2
  refine ⟨.ref a, e1, hti σ I H e n _ fun r1 v1 I1 H1 p1 x1 rs1 => ?_⟩
  subst p1
  rw [int_read rs1]
  have ha1 : H1 a = some (.lst xs) := x1.h a _ hb lst_tbl ha
  obtain ⟨u, g1, g2⟩ := dpa_get hd hk
  cases g2
  refine ⟨a, xs, k, _, rfl, rfl, .inl (.inl ha1), hk0, g1, he σ I1 H1 (e.trans x1) (n.ext x1) _ fun r2 v2 I2 H2 p2 x2 rs2 => ?_⟩
  subst p2
  rw [int_read rs2]
  have hn2 : I2 a = none := x2.n a _ (x1.n a _ hn ha lst_tbl) ha1 lst_tbl
  have ha2 : H2 a = some (.lst xs) := x2.h a _ hb lst_tbl ha1
  have hlt : k.toNat < xs.length := (List.getElem?_eq_some_iff.mp g1).1
  refine ⟨x, y, rfl, rfl, a, xs, k, k.toNat, rfl, rfl, ha2, ?_, ?_⟩
  · unfold ixN
    rw [if_pos hk0, if_pos (by omega)]
  · exact a1 _ σ I2 _ hN ((e.trans (x1.trans x2)).mut h0 hn2 hb ha2) (x1.i.trans x2.i) (((n.ext x1).ext x2).own hbor hi e1 h0 hn2 hb (dpa_set (.int _) _ (dpa_mono (x1.i.trans x2.i) hd)))
/-- t.count(k) -/
theorem ev_count {ns : List Int} {k : Int} (kt : KT K) (ha : EvD K b I0 H0 ta δ (fun r => r = .dat (nums ns))) (hb : EvD K b I0 H0 tb δ (fun r => r = dint k)) : EvD K b I0 H0 (TF.tCount K ta tb) δ (fun r => r = dint (ns.count k : Nat)) := fun σ I H e n Q q =>
  ha σ I H e n _ fun r v I1 H1 p x rs => by
    subst p
    have rs' : Dp K I1 v (nums ns) := rs
    cases rs' with
    | @tup a xs _ hs hd =>
      have ex := dpa_ints hd
      subst ex
      have nd : TF.Nd K H1 a := by
        rcases hs with (hs | ⟨o, hs⟩) | ⟨o, its, m, q1, q2, _⟩
        · exact absurd (x.b.2.1 a _ hs) (fun z => z)
        · exact .inl ⟨o, _, x.s a _ hs, x.b.2.1 a _ hs⟩
        · exact .inr ⟨o, q1, kt a o q1 q2⟩
      refine ⟨a, ns, rfl, st_mono x.s hs, nd, hb σ I1 H1 (e.trans x) (n.ext x) _ fun r2 v2 I2 H2 p2 x2 rs2 => ?_⟩
      subst p2
      rw [int_read rs2]
      exact ⟨k, rfl, st_mono (x2.i.trans x2.s) hs, q _ _ I2 H2 rfl (x.trans x2) (Dp.int _)⟩
/-- i < j < k -/
theorem ev_chainI {g1 g2 : Int → Int → Bool} {tc : TE} {i j k : Int} (ha : EvD K b I0 H0 ta δ (fun r => r = dint i)) (hb : EvD K b I0 H0 tb δ (fun r => r = dint j)) (hc : EvD K b I0 H0 tc δ (fun r => r = dint k)) :
    EvD K b I0 H0 (tChain (rI0 fun i j => .bl (g1 i j)) (rI0 fun i j => .bl (g2 i j)) ta tb tc) δ (fun r => r = dbl (g1 i j && g2 j k)) :=
  ev_chain (A := fun _ => True) ha hb hc fun x y e f => by
    subst e f
    intro H0 I H v w k' r1 r2 Q q
    refine od_I0 (d := .bool (g1 i j)) (g := fun i j => .bl (g1 i j)) (fun K I => Dp.bl _) H0 I H v w k' r1 r2 Q fun z u I' H' p => q z u I' H' ⟨g1 i j, p, fun e => by rw [e]; rfl, fun e z f => ?_⟩
    subst f
    rw [e, Bool.true_and]
    exact od_I0 fun K I => Dp.bl _
/-- == of an int and a text, or of two texts -/
theorem ev_eqIS {i : Int} {s : Str} (ha : EvD K b I0 H0 ta δ (fun r => r = dint i)) (hb : EvD K b I0 H0 tb δ (fun r => r = dstr s)) : EvD K b I0 H0 (tOp rEq ta tb) δ (fun r => r = dbl false) :=
  ev_op ha hb fun _ _ e f => by
    subst e f
    intro H0 I H v w k r1 r2 Q q
    rw [int_read r1, str_read r2]
    exact ⟨rfl, q _ _ I H rfl k.re (by rw [decide_eq_false (fun z => by cases z)]; exact Dp.bl _)⟩
end
/-- in a lambda: what the called def raises goes on -/
theorem passLam {X : Cx} {A : Around} {outer : List PySem.Env} {s : Shared} {H : Hp} {E : XK} {scope : Scope} {f c' : Addr} : Passes (L2.CX X.prog X.w) (LamX.lamCx X A outer s H E scope f c') E := passes_call (takes_of rfl rfl rfl rfl) fun _ _ _ _ h => h
end DL
namespace DL
open PySem PySem.Spec PyProof.Rows L2 RZ
theorem pe_weak {X : Cx} {e : Expr} {te : TE} (h : PE X e te) : PE X e (fun σ H Q => ∃ QQ : VK, (∀ v H1, QQ v H1 → Q v H1) ∧ te σ H QQ) :=
  ⟨fun pins s σ H Q I ⟨QQ, m, h'⟩ => wpAny_mono (h.run pins s σ H QQ I h') (fun v s1 ⟨x, H1, I1, r1, q1⟩ => ⟨x, H1, I1, r1, m x H1 q1⟩) fun _ _ z => z⟩
section
variable {K : PySem.W.Frag} {b : Bg} {I0 H0 : Hp} {δ : Env} {ta tb : TE} {P : DV → Prop}
/-- xs + ys of lists -/
theorem ev_catL {x : DV} {A B : List PyData → Prop} (ha : EvD K b I0 H0 ta δ (fun r => ∃ ds, (r = .own ds ∨ r = .bor ds) ∧ A ds)) (hb : EvD K b I0 H0 tb δ (fun r => ∃ ds, r = .own ds ∧ B ds)) (hl : ∀ ds es, A ds → B es → ds.length + es.length ≤ 100000) :
    EvD K b I0 H0 (tOp rCat ta tb) δ (fun r => ∃ ds, r = .own ds ∧ ∃ xs ys, A xs ∧ B ys ∧ ds = xs ++ ys) :=
  ev_op ha hb fun x y ⟨ds, e, a⟩ ⟨es, f, c⟩ => by
    subst f
    intro H0 I H v w k r1 r2 Q q
    obtain ⟨d, ys, rfl, g0, gi, gb, ga, gd⟩ := r2
    have h1 : ∃ p xs, v = .ref p ∧ H p = some (.lst xs) ∧ DpAll K I xs ds := by
      rcases e with rfl | rfl
      · obtain ⟨p, xs, rfl, _, _, _, hp, hd⟩ := r1
        exact ⟨p, xs, rfl, hp, hd⟩
      · obtain ⟨p, xs, rfl, hp, _, _, hd⟩ := r1
        exact ⟨p, xs, rfl, hp, hd⟩
    obtain ⟨p, xs, rfl, hp, hd⟩ := h1
    have l1 := dpa_len hd
    have l2 := dpa_len gd
    have l3 := hl ds es a c
    exact ⟨p, d, xs, ys, rfl, rfl, hp, ga, Nat.le_trans (by omega) (by decide : 100000 ≤ sizeLine), fun n hn => q _ _ _ _ ⟨ds ++ es, rfl, ds, es, a, c, rfl⟩ (k.newH hn) ⟨n, _, rfl, fr_none hn, k.inone hn, k.nb hn, upd_same, dpa_app hd gd⟩⟩
/-- keywords, the def may raise elsewhere -/
theorem ev_kw21X {α : Type} {args : α → List DV} {ok : α → Prop} {out : α → DV → Prop} {exc : α → XD} {E : XK} {tk : TA} {r s : DV} (a : α) (hk : EvA K b I0 H0 tk δ (fun x => x = [s, r])) (he : args a = [r, s]) (hp : ok a) (ho : ∀ r, out a r → P r) (hx : ∀ C fs, ¬ exc a C fs) (h1 : ∀ ds, r ≠ .own ds) (h2 : ∀ ds, s ≠ .own ds) (g1 : ∀ kvs, r ≠ .dct true kvs := by intro _ z; cases z) (g2 : ∀ kvs, s ≠ .dct true kvs := by intro _ z; cases z) :
    EvD K b I0 H0 (tCallN 0 2 (spD K args ok out exc) kw21 E tNil tk) δ P := fun σ I H k n Q q =>
  hk σ I H k n _ fun zs ws I2 H2 p2 x2 r2 => by
    subst p2
    cases r2 with
    | @cons u1 _ _ _ q1 r2 =>
      cases r2 with
      | @cons u2 _ _ _ q2 r2 =>
        cases r2
        have r3 : ResA K b H I2 H2 [u2, u1] (args a) := by
          rw [he]
          exact .cons q2 (.cons q1 .nil)
        exact ⟨rfl, rfl, a, b, I2, x2.ok, resA_now r3 (by rw [he]; exact noOwn_cons h1 (noOwn_cons h2 noOwn_nil g2) g1), hp, fun r v I' H' o x3 rs' => q r v I' H' (ho r o) (x2.trans x3) (rs'.since (free_of x2)), fun C fs d I' H' he' _ _ _ => (hx C fs he').elim⟩
end
/-- fewer slots, none of them a list of its own -/
inductive LessP : Env → Env → Prop
  | nil : LessP [] []
  | no {x : Option DV} {t' t : Env} : LessP t' t → LessP (none :: t') (x :: t)
  | dat {d : PyData} {t' t : Env} : LessP t' t → LessP (some (.dat d) :: t') (some (.dat d) :: t)
  | bag {t' t : Env} : LessP t' t → LessP (some .bag :: t') (some .bag :: t)
theorem LessP.len : ∀ {δ' δ : Env}, LessP δ' δ → δ'.length = δ.length
  | _, _, .nil => rfl
  | _, _, .no h => congrArg Nat.succ h.len
  | _, _, .dat h => congrArg Nat.succ h.len
  | _, _, .bag h => congrArg Nat.succ h.len
theorem LessP.hK : ∀ {δ' δ : Env}, LessP δ' δ → ∀ (i : Nat) (kvs : List (PyData × PyData)), δ'[i]? ≠ some (some (.dct true kvs))
  | _, _, .nil, _, _, e => by cases e
  | _, _, .no h, 0, _, e => by cases e
  | _, _, .no h, i + 1, r, e => h.hK i r e
  | _, _, .dat h, 0, _, e => by cases e
  | _, _, .dat h, i + 1, r, e => h.hK i r e
  | _, _, .bag h, 0, _, e => by cases e
  | _, _, .bag h, i + 1, r, e => h.hK i r e
theorem LessP.hs : ∀ {δ' δ : Env}, LessP δ' δ → ∀ (i : Nat) (r : DV), δ'[i]? = some (some r) → δ[i]? = some (some r) ∧ ∀ ds, r ≠ .own ds
  | _, _, .nil, _, _, e => by cases e
  | _, _, .no h, 0, _, e => by cases e
  | _, _, .no h, i + 1, r, e => h.hs i r e
  | _, _, .dat h, 0, _, e => by
    cases e
    exact ⟨rfl, fun _ z => by cases z⟩
  | _, _, .dat h, i + 1, r, e => h.hs i r e
  | _, _, .bag h, 0, _, e => by
    cases e
    exact ⟨rfl, fun _ z => by cases z⟩
  | _, _, .bag h, i + 1, r, e => h.hs i r e
section
variable {K : PySem.W.Frag} {b : Bg} {I0 H0 : Hp} {δ δ' : Env} {N Bk Ct : Env → Prop} {R P Pb : DV → Prop} {t : TS}
/-- some slots are let go -/
theorem sv_drop (l : LessP δ' δ) (h : SvD K b I0 H0 t δ' N R Bk Ct) : SvD K b I0 H0 t δ N R Bk Ct := sv_less l.len (fun i r e => (l.hs i r e).1) h
/-- told(lambda: ..), slots let go -/
theorem ev_lamP {te : XK → TE} {T : List (Addr × Str)} {After : Addr → List (Str × V) → Hp → VK → Prop} {r0 : V} {d0 : PyData} {X : XD} (l : LessP δ' δ) (hT : b.T = T) (h0 : ∀ I, Dp K I r0 d0) (hP : P (.dat d0) ∨ ∀ r, ¬ Pb r)
    (body : ∀ I1 H1 E, XW K b I1 H1 E X → EvD K b I1 H1 (te E) δ' Pb)
    (exc : ∀ C fs, X C fs → ∀ (I' H' : Hp) (Q : VK), Ok K b I' H' → (∀ r v I'' H'', P r → Ext K b I' H' I'' H'' → Res K b H' I'' H'' v r → Q v H'') → After C fs H' Q) :
    EvD K b I0 H0 (LamX.tLam T (TTx r0 After) te) δ P := ev_lam hT l.len l.hs l.hK h0 hP body exc
end
/-! ### what is asked of a class of errors, all at once -/
def clsB (K : PySem.W.Frag) (C fI : Addr) (q : Str) (cd : Value) (bm : List Value) (fs : List Str) : Bool :=
  PySem.HandSPX.refsVE bm && (decide (PySem.W.findIn K (.ref C) "__setattr__" = some (some (.builtin "object.__setattr__"))) && (decide (PySem.W.subIn K (.ref C) (.type "BaseException") = some true) && (decide (PySem.W.typeIn K (.ref C) = some (.type "type")) && (PySem.W.keepIn K (.ref C) && (xfB K C &&
    (decide (PySem.W.typeIn K (.ref fI) = some (.type "function")) && (PySem.W.keepIn K (.ref fI) && (PySem.W.codeIn K cd q && fs.all fun f => decide (PySem.W.findIn K (.ref C) f = some none)))))))))
structure ClsF (K : PySem.W.Frag) (C fI : Addr) (q : Str) (cd : Value) (fs : List Str) : Prop where
  o : OexC K C
  f : XfC K C
  ti : PySem.W.typeIn K (.ref fI) = some (.type "function")
  kI : PySem.W.keepIn K (.ref fI) = true
  cI : PySem.W.codeIn K cd q = true
  nf : ∀ f ∈ fs, PySem.W.findIn K (.ref C) f = some none
theorem clsB_ok {K : PySem.W.Frag} {C fI : Addr} {q : Str} {cd : Value} {bm : List Value} {fs : List Str} (h : clsB K C fI q cd bm fs = true)
    (hc : ∃ nm q N bs sn sub ab col dd k0 k1 k2 k3 k5, K.lookup C = some (excClassObj nm q C N bs bm true sn sub ab col dd k0 k1 k2 k3 k5 "ValueError.__new__")) : ClsF K C fI q cd fs := by
  obtain ⟨h1, h⟩ := Bool.and_eq_true_iff.mp h
  obtain ⟨h2, h⟩ := Bool.and_eq_true_iff.mp h
  obtain ⟨h3, h⟩ := Bool.and_eq_true_iff.mp h
  obtain ⟨h4, h⟩ := Bool.and_eq_true_iff.mp h
  obtain ⟨h5, h⟩ := Bool.and_eq_true_iff.mp h
  obtain ⟨h6, h⟩ := Bool.and_eq_true_iff.mp h
  obtain ⟨h7, h⟩ := Bool.and_eq_true_iff.mp h
  obtain ⟨h8, h⟩ := Bool.and_eq_true_iff.mp h
  obtain ⟨h9, h⟩ := Bool.and_eq_true_iff.mp h
  obtain ⟨nm, q', N, bs, sn, sub, ab, col, dd, k0, k1, k2, k3, k5, e⟩ := hc
  exact ⟨⟨⟨nm, q', N, bs, bm, sn, sub, ab, col, dd, k0, k1, k2, k3, k5, e, h1⟩, of_decide_eq_true h2, of_decide_eq_true h3, of_decide_eq_true h4, h5⟩, xfB_ok h6, of_decide_eq_true h7, h8, h9, fun f hf => of_decide_eq_true (List.all_eq_true.mp h f hf)⟩
end DL

set_option Elab.async false
set_option linter.all false
set_option maxRecDepth 100000
set_option maxHeartbeats 4000000
namespace DL
open PySem PySem.Spec PyProof.Rows L2 RZ
/-! ### what may be a list or a tuple -/
theorem pi_or {X : Cx} {tg iter : Expr} {wi wj : TI} (h : PI X tg iter wi) (h' : PI X tg iter wj) : PI X tg iter (fun σ H R => wi σ H R ∨ wj σ H R) :=
  ⟨fun pins s σ H R I q => q.elim (h.run pins s σ H R I) (h'.run pins s σ H R I)⟩
section
variable {X : Cx} (K : PySem.W.Frag)
theorem k_enum {e : Expr} {ta : TA} {p pos tpos : Pos} {elts : List Expr} {kk : Nat} (hg : Gl X "enumerate") (hm : X.mg "enumerate" = none) (ha : PA X [e] ta) (h : X.K = K := by rfl) (hs : starEach [e] X.env = [(false, eval e X.env)] := by rfl) :
    PI X (.Tuple elts kk tpos) (.Call (.Name "enumerate" p) [e] [] pos) (fun σ H R => iEnum K ta σ H R ∨ TF.iEnumT K ta σ H R) := h ▸ pi_or (pi_enum hg hm ha hs) (TF.pi_enumT hg hm ha hs)
theorem k_bm {o e : Expr} {es : List Expr} {to : TE} {t : TA} {name : Str} {apos cpos : Pos} {T id : String} {r : V → List V → Hp → VK → Prop} (pa : PlainAttrs T) (slot : Slot T name id) (hty : typeOf (.builtin id) = pure (.type "method_descriptor")) (hm : MtR X id r) (ho : PE X o to) (ha : PA X (e :: es) t) (h : X.K = K := by rfl)
    (hbase : attributeBase o name X.env (eval o X.env) = eval o X.env := by rfl)
    (hfew : ((backTo cpos (starEach (e :: es) X.env)).all (fun x => !x.1) && (backToKw cpos (keywordEach [] X.env)).all (fun x => x.1.isSome) && decide ((e :: es).length + ([] : List Keyword).length + (if ([] : List Keyword).isEmpty then 0 else 1) < 30)) = true := by rfl)
    (hline : (apos.endLine == cpos.line) = true := by rfl) (hs : starEach (e :: es) X.env = (false, eval e X.env) :: starEach es X.env := by rfl) (hplain : (backTo cpos (starEach es X.env)).any (·.1) = false := by rfl) :
    PE X (.Call (.Attribute o name apos) (e :: es) [] cpos) (tBM K T r to t) := h ▸ pe_bm pa slot hty hm ho ha hbase hfew hline hs hplain
theorem k_pi_seq {tg e : Expr} {te : TE} (he : PE X e te) (h : X.K = K := by rfl) : PI X tg e (fun σ H R => iList K te σ H R ∨ iTup K te σ H R) := h ▸ pi_or (pi_list he) (pi_tup he)
end
/-- a list or a tuple -/
def SeqD (d : PyData) (ds : List PyData) : Prop := d = .list ds ∨ d = .tuple ds
section
variable {K : PySem.W.Frag} {b : Bg} {I0 H0 : Hp} {δ : Env} {ta te tb ti : TE} {P : DV → Prop} {N Bk Ct : Env → Prop} {R : DV → Prop}
theorem itd_seq {d : PyData} {ds : List PyData} (hd : SeqD d ds) (h : EvD K b I0 H0 te δ (fun r => r = .dat d)) : ItD K b (DpR K) I0 H0 (fun σ H R => iList K te σ H R ∨ iTup K te σ H R) δ (fun x => x = ds) := fun σ I H k n R q => by
  rcases hd with rfl | rfl
  · exact .inl (itd_list1 h σ I H k n R q)
  · exact .inr (itd_tup1 h σ I H k n R q)
/-- enumerate of a list -/
theorem itd_enumL {ta : TA} {ds : List PyData} (h : EvA K b I0 H0 ta δ (fun rs => rs = [.dat (.list ds)])) : ItD K b (PairR K) I0 H0 (iEnum K ta) δ (fun zs => zs = enumD ds) := fun σ I H k n R q =>
  h σ I H k n _ fun rs vs I1 H1 p x r => by
    subst p
    cases r with
    | cons r1 rr =>
      cases rr
      have r1 : Dp K I1 _ (.list ds) := r1
      cases r1 with
      | @lst a xs _ hs hd =>
        refine ⟨a, xs, rfl, sl_mono x.s hs, q _ _ I1 H1 rfl x ⟨fun H => SqL K H a xs, YPair (fun i => some (.int (i : Nat))) (fun i => xs[i]?), ?_, fun H e => sl_mono e hs, fun i I2 H x H' d e k2 y hz => ?_⟩⟩
        · unfold enumD
          rw [List.length_map, List.length_zipIdx, ← dpa_len hd]
          exact walk_enum
        · obtain ⟨T, x1, x2, rfl, nT, rfl, g1, g2⟩ := y
          have g1 : some (V.int (i : Nat)) = some x1 := g1
          have g2 : xs[i]? = some x2 := g2
          cases g1
          unfold enumD at hz
          rw [List.getElem?_map, List.getElem?_zipIdx] at hz
          cases q1 : ds[i]? with
          | none => rw [q1] at hz; cases hz
          | some d1 =>
            rw [q1] at hz
            have hz := (Option.some.inj hz).symm
            subst hz
            obtain ⟨u1, e1, f1⟩ := dpa_get hd q1
            rw [g2] at e1
            cases e1
            refine ⟨I2, k2.newH nT, T, _, x2, .int (i : Int), d1, rfl, upd_same, ?_, .int _, dp_mono e f1⟩
            simp
theorem itd_enumS {ta : TA} {d : PyData} {ds : List PyData} (hd : SeqD d ds) (h : EvA K b I0 H0 ta δ (fun rs => rs = [.dat d])) : ItD K b (PairR K) I0 H0 (fun σ H R => iEnum K ta σ H R ∨ TF.iEnumT K ta σ H R) δ (fun x => x = enumD ds) := fun σ I H k n R q => by
  rcases hd with rfl | rfl
  · exact .inl (itd_enumL h σ I H k n R q)
  · exact .inr (itd_enum1 h σ I H k n R q)
/-! ### in -/
theorem dpa_strs {I : Hp} : ∀ {vs : List V} {ns : List Str}, DpAll K I vs (ns.map .str) → vs = ns.map V.str
  | [], [], _ => rfl
  | _ :: _, n :: ns, .cons q r => by
    cases q
    rw [dpa_strs r]
    rfl
theorem inV_ints (k : Int) (ns : List Int) : inV (.int k) (ns.map V.int) = decide (k ∈ ns) := by
  unfold inV
  induction ns with
  | nil => rfl
  | cons n ns ih =>
    rw [List.map_cons, List.any_cons, ih]
    by_cases h : n = k
    · subst h; simp [eqV]
    · have h' : ¬ k = n := fun z => h z.symm
      simp [eqV, h, h']
theorem inV_strs (k : Str) (ns : List Str) : inV (.str k) (ns.map V.str) = decide (k ∈ ns) := by
  unfold inV
  induction ns with
  | nil => rfl
  | cons n ns ih =>
    rw [List.map_cons, List.any_cons, ih]
    by_cases h : n = k
    · subst h; simp [eqV]
    · have h' : ¬ k = n := fun z => h z.symm
      simp [eqV, h, h']
theorem all_flatI (ns : List Int) : (ns.map V.int).all flatV = true := by simp [flatV]
theorem all_flatS (ns : List Str) : (ns.map V.str).all flatV = true := by simp [flatV]
/-- k in a tuple of ints -/
theorem ev_inI {k : Int} {ns : List Int} {neg : Bool} (ha : EvD K b I0 H0 ta δ (fun r => r = dint k)) (hb : EvD K b I0 H0 tb δ (fun r => r = .dat (nums ns))) : EvD K b I0 H0 (tOp (rIn K neg) ta tb) δ (fun r => r = dbl (if neg then !decide (k ∈ ns) else decide (k ∈ ns))) :=
  ev_op ha hb fun x y e f => by
    subst e f
    intro H0 I H v w kk r1 r2 Q q
    obtain ⟨a, xs, rfl, hs, hd⟩ := tup_read kk.s r2
    have ex := dpa_ints hd
    subst ex
    rw [int_read r1]
    refine ⟨a, _, rfl, .inr hs, rfl, all_flatI ns, q _ _ I H rfl kk.re ?_⟩
    rw [inV_ints]
    exact Dp.bl _
/-- a text in a list or tuple of texts -/
theorem ev_inS {k : Str} {ns : List Str} {neg : Bool} {x : DV} (hx : LstR x (ns.map .str) ∨ x = .dat (.tuple (ns.map .str))) (ha : EvD K b I0 H0 ta δ (fun r => r = dstr k)) (hb : EvD K b I0 H0 tb δ (fun r => r = x)) : EvD K b I0 H0 (tOp (rIn K neg) ta tb) δ (fun r => r = dbl (if neg then !decide (k ∈ ns) else decide (k ∈ ns))) :=
  ev_op ha hb fun x' y e f => by
    subst e f
    intro H0 I H v w kk r1 r2 Q q
    have h : ∃ a xs, w = .ref a ∧ (SqL K H a xs ∨ SqT K H a xs) ∧ DpAll K I xs (ns.map .str) := by
      rcases hx with hx | hx
      · obtain ⟨a, xs, e, hs, hd⟩ := hx.read kk.s r2
        exact ⟨a, xs, e, .inl hs, hd⟩
      · subst hx
        obtain ⟨a, xs, e, hs, hd⟩ := tup_read kk.s r2
        exact ⟨a, xs, e, .inr hs, hd⟩
    obtain ⟨a, xs, rfl, hs, hd⟩ := h
    have ex := dpa_strs hd
    subst ex
    rw [str_read r1]
    refine ⟨a, _, rfl, hs, rfl, all_flatS ns, q _ _ I H rfl kk.re ?_⟩
    rw [inV_strs]
    exact Dp.bl _
/-- == of texts -/
theorem ev_eqStr {x y : Str} (ha : EvD K b I0 H0 ta δ (fun r => r = dstr x)) (hb : EvD K b I0 H0 tb δ (fun r => r = dstr y)) : EvD K b I0 H0 (tOp rEq ta tb) δ (fun r => r = dbl (decide (x = y))) :=
  ev_op ha hb fun _ _ e f => by
    subst e f
    intro H0 I H v w k r1 r2 Q q
    rw [str_read r1, str_read r2]
    refine ⟨rfl, q _ _ I H rfl k.re ?_⟩
    have z : decide (V.str x = V.str y) = decide (x = y) := by
      by_cases e : x = y
      · subst e; simp
      · rw [decide_eq_false e, decide_eq_false (fun z => e (V.str.inj z))]
    rw [z]
    exact Dp.bl _
/-! ### list(range(n)), slices of lists, extend -/
theorem ev_lstRg {n : Nat} (h : EvD K b I0 H0 te δ (fun r => r = dint n)) (hn : n ≤ 100000) : EvD K b I0 H0 (tLstRg (tRg1 te)) δ (fun r => r = .own ((List.range n).map fun (k : Nat) => .int (k : Int))) := fun σ I H k e Q q =>
  h σ I H k e _ fun r v I1 H1 p x rs => by
    subst p
    refine ⟨n, int_read rs, RgOk.of_le (by omega) (by omega) (by omega) (by omega), fun a na => ?_⟩
    refine q _ _ I1 _ rfl (x.trans (x.ok.newH na)) ⟨a, _, rfl, x.free (fr_none na), x.ok.inone na, x.ok.nb na, upd_same, ?_⟩
    have z : rgV 0 (n : Int) = ((List.range n).map fun (k : Nat) => (k : Int)).map V.int := by
      unfold rgV
      rw [List.map_map]
      simp
    rw [z]
    have z2 : (List.range n).map (fun (k : Nat) => PyData.int (k : Int)) = ((List.range n).map fun (k : Nat) => (k : Int)).map .int := by
      rw [List.map_map]
      rfl
    rw [z2]
    exact dpa_ofInts _
theorem ev_slL {A : List PyData → Prop} {tl th : TO} {B C : Option Int → Prop} (h : EvD K b I0 H0 te δ (fun r => ∃ ds, LstR r ds ∧ A ds)) (hl : EvO K b I0 H0 tl δ B) (hh : EvO K b I0 H0 th δ C) : EvD K b I0 H0 (tSl (rSlL K) te tl th) δ (fun r => ∃ ds, r = .own ds ∧ ∃ es lo hi, A es ∧ B lo ∧ C hi ∧ ds = cutD es lo hi) := fun σ I H e n Q q =>
  h σ I H e n _ fun r v I1 H1 ⟨ds, hr, a⟩ x rs => hl σ I1 H1 (e.trans x) (n.ext x) _ fun lo I2 H2 pl x2 => hh σ I2 H2 (e.trans (x.trans x2)) (n.ext (x.trans x2)) _ fun hi I3 H3 ph x3 => by
    have rs3 := (rs.ext x2).ext x3
    have x13 := (x.trans x2).trans x3
    obtain ⟨p, xs, rfl, hs, hd⟩ := hr.read x3.s rs3
    exact ⟨p, xs, rfl, hs, fun c nc => q _ _ _ _ ⟨_, rfl, ds, lo, hi, a, pl, ph, rfl⟩ (x13.trans (x3.ok.newH nc)) ⟨c, _, rfl, x13.free (fr_none nc), x3.ok.inone nc, x3.ok.nb nc, upd_same, dpa_cut lo hi hd⟩⟩
/-- xs.extend([..]) -/
theorem sv_extend {i : Nat} {ds : List PyData} {A : List PyData → Prop} (hi : δ[i]? = some (some (.own ds))) (hbor : noBor δ = true) (hl : ∀ es, A es → ds.length + es.length ≤ 100000) (he : EvD K b I0 H0 te δ (fun r => ∃ es, r = .own es ∧ A es)) (hN : ∀ es, A es → N (δ.set i (some (.own (ds ++ es))))) :
    SvD K b I0 H0 (tDrop (tBM K "list" rExtend (tVar i) (tCons te tNil))) δ N R Bk Ct := fun σ I H e n D a1 _ _ _ => by
  obtain ⟨v, e1, e2⟩ := n.at_ i _ hi
  obtain ⟨a, xs, rfl, h0, hn, hb, ha, hd⟩ := e2
  refine ⟨.ref a, e1, .inl ⟨rfl, _, .inl (.inl ha)⟩, he σ I H e n _ fun r v I' H' p x rs => ?_⟩
  obtain ⟨es, rfl, p⟩ := p
  obtain ⟨c, ys, rfl, g0, gn, gb, gc, gd⟩ := rs
  have hn' : I' a = none := x.n a _ hn ha lst_tbl
  have ha' : H' a = some (.lst xs) := x.h a _ hb lst_tbl ha
  have l1 := dpa_len hd
  have l2 := dpa_len gd
  have l3 := hl es p
  exact ⟨a, c, xs, ys, rfl, rfl, ha', gc, Nat.le_trans (by omega) (by decide : 100000 ≤ sizeLine), a1 _ σ I' _ (hN es p) ((e.trans x).mut h0 hn' hb ha') x.i ((n.ext x).own hbor hi e1 h0 hn' hb (dpa_app (dpa_mono x.i hd) gd))⟩
/-! ### a list emptied by draws -/
theorem erase_perm : ∀ (l : List Int) (k : Nat) (h : k < l.length), (l[k] :: l.eraseIdx k).Perm l
  | x :: l, 0, _ => List.Perm.refl _
  | x :: l, k + 1, h => by
    have ih := erase_perm l k (Nat.lt_of_succ_lt_succ h)
    exact (List.Perm.swap ..).trans (ih.cons x)
/-- a list that no slot holds changes -/
theorem EnvR.other {I H : Hp} {σ : L2.St} {D : Addr} {o : HO} (n : EnvR K b H0 I H σ δ) (hbor : noBor δ = true) (hD : ∀ (i : Nat) ds, δ[i]? = some (some (.own ds)) → σ[i]? ≠ some (some (.ref D))) (hK : ∀ (i : Nat) kvs, δ[i]? ≠ some (some (.dct true kvs)) := by intro i kvs; first | (rcases i with _ | _ | _ | _ | i <;> (intro z; first | cases z | (simp at z))) | simp) : EnvR K b H0 I (upd H D o) σ δ :=
  ⟨n.len, fun j r hj => by
    obtain ⟨w, g1, g2⟩ := n.at_ j r hj
    refine ⟨w, g1, ?_⟩
    cases r with
    | dat d => exact g2
    | raw u => exact g2
    | bag => exact g2
    | dct own kvs =>
      cases own with
      | true => exact absurd hj (hK j kvs)
      | false =>
        have hm := List.mem_of_getElem? hj
        have := List.all_eq_true.mp hbor _ hm
        cases this
    | own es =>
      obtain ⟨c, zs, rfl, q0, qn, qb, qa, qd⟩ := g2
      have nc : c ≠ D := fun z => by
        subst z
        exact hD j es hj g1
      exact ⟨c, zs, rfl, q0, qn, qb, by rw [upd_ne nc]; exact qa, qd⟩
    | bor es => exact absurd hj (noBor_at hbor j es), n.nd⟩
theorem perm_erase {outs rest ns : List Int} {k : Nat} (h : (outs ++ rest).Perm ns) (hk : k < rest.length) : (outs ++ [rest[k]] ++ rest.eraseIdx k).Perm ns := by
  refine List.Perm.trans ?_ h
  rw [List.append_assoc]
  refine List.Perm.append_left _ ?_
  exact erase_perm rest k hk
theorem erase_map {rest : List Int} {k : Nat} : (rest.map V.int).eraseIdx k = (rest.eraseIdx k).map V.int := by
  induction rest generalizing k with
  | nil => rfl
  | cons x rest ih =>
    cases k with
    | zero => rfl
    | succ k => rw [List.map_cons, List.eraseIdx_cons_succ, List.eraseIdx_cons_succ, ih]; rfl
theorem seqIx {k : Int} {n : Nat} (h0 : 0 ≤ k) (h1 : k < (n : Int)) : seqIndex? k n = some k.toNat := by
  unfold seqIndex?
  have z : ¬ k < 0 := by omega
  simp [z, h0, h1]
theorem sv_shuf {E : XK} {ns : List Int} (hl : ns.length ≤ 1000) (hR : ∀ ms : List Int, ms.Perm ns → R (.own (ms.map .int))) :
    SvD K b I0 H0 (tRet (tLc (iList K (tVar 1)) (gName 3) tYes (tBM K "list" rPopAt (tVar 2) (tCons (tCall (spD K aTake okTake outTake noX) [] E (tCons (tVar 0) (tCons (tCB (fun xs H Q => ∃ p ys, xs = [.ref p] ∧ (SqL K H p ys ∨ SqT K H p ys) ∧ Q (.int ys.length) H) (tCons (tVar 2) tNil)) tNil))) tNil)) [3]))
      [some .bag, some (.dat (.list (ns.map .int))), some (.own (ns.map .int)), none] N R Bk Ct := fun σ I H e n D a1 a2 a3 a4 => by
  obtain ⟨v1, g1, r1⟩ := n.at_ 1 _ rfl
  obtain ⟨v2, g2, r2⟩ := n.at_ 2 _ rfl
  have r1 : Dp K I v1 (.list (ns.map .int)) := r1
  cases r1 with
  | @lst a1' xs _ hs hd =>
    obtain ⟨L, ys, rfl, h0, hn, hb, hL, hdL⟩ := r2
    have ey := dpa_ints hdL
    subst ey
    refine ⟨_, g1, a1', rfl, ⟨xs, sl_mono e.s hs⟩, fun Dl hD => ?_⟩
    have nDb : Dl ≠ b.a := e.ok.nb hD
    have nLD : L ≠ Dl := ne_of_none hL hD
    have w : Walk (Itl K a1') ns.length (fun H => SqL K H a1' xs) (YAt xs) := by
      have := dpa_len hd
      rw [List.length_map] at this
      rw [← this]
      exact walk_list
    refine lc_it w (fun i Hk => ∃ (Ik : Hp) (outs rest : List Int), Ext K b I0 H0 Ik Hk ∧ Same I Ik ∧ EnvR K b H0 Ik Hk σ [some .bag, some (.dat (.list (ns.map .int))), some (.own (rest.map .int)), none] ∧ Ik Dl = none ∧ Hk Dl = some (.lst (outs.map V.int)) ∧ (outs ++ rest).Perm ns ∧ outs.length = i) ?_ (fun i Hk _ ⟨Ik, outs, rest, ek, sm, _⟩ => sl_mono (sm.trans ek.s) hs) ?_ ?_
    · exact ⟨I, [], ns, e.trans (e.ok.newH hD), Same.refl I, n.ext (e.ok.newH hD), e.ok.inone hD, upd_same, List.Perm.refl _, rfl⟩
    · rintro i x Hk Hk' hi ⟨Ik, outs, rest, ek, sm, nk, iD, aD, pm, ol⟩ ⟨eH, hx⟩
      subst eH
      have xi : ∃ d, (ns.map PyData.int)[i]? = some (.int d) := by
        refine ⟨ns[i], ?_⟩
        rw [List.getElem?_map, List.getElem?_eq_getElem hi]
        rfl
      obtain ⟨d, hdi⟩ := xi
      obtain ⟨u, e1, e2⟩ := dpa_get hd hdi
      rw [hx] at e1
      cases e1
      have rl : rest.length + i = ns.length := by
        have := pm.length_eq
        rw [List.length_append] at this
        omega
      have sl : σ.length = 4 := n.len
      have nw : EnvR K b H0 Ik Hk' (wipe σ [3]) [some .bag, some (.dat (.list (ns.map .int))), some (.own (rest.map .int)), none] := nk.wipe (hv1 rfl)
      have n2 : EnvR K b H0 Ik Hk' ((wipe σ [3]).set 3 (some x)) [some .bag, some (.dat (.list (ns.map .int))), some (.own (rest.map .int)), some (dint d)] :=
        nw.setD (i := 3) (r := dint d) (ltr rfl) (dp_mono sm e2) (fun _ z => by cases z)
      refine ⟨?_, ?_⟩
      · refine (wipe_eq (by rw [List.length_set]) fun j hj => ?_).trans (wipe_eq (wipe_length _ _) fun j hj => wipe_out hj)
        exact List.getElem?_set_ne (fun z => hj (by rw [← z]; exact List.mem_cons_self ..))
      · dsimp only [tYes]
        rw [if_pos rfl]
        obtain ⟨v2', g2', r2'⟩ := n2.at_ 2 _ rfl
        obtain ⟨L', ys', rfl, h0', hn', hb', hL', hdL'⟩ := r2'
        have ey' := dpa_ints hdL'
        subst ey'
        refine ⟨_, g2', .inl ⟨rfl, _, .inl (.inl hL')⟩, ?_⟩
        have take := ev_take (K := K) (b := b) (I0 := I0) (H0 := H0) (E := E) (i := 0) (n := (rest.length : Int)) (δ := [some .bag, some (.dat (.list (ns.map .int))), some (.own (rest.map .int)), some (dint d)]) rfl ((ev_len (ds := rest.map .int) (ev_varB (i := 2) rfl) (.inl (.inr (.inl rfl)))).to (s := dint (rest.length : Int)) (by rw [List.length_map])) ⟨by omega, by omega⟩
        refine take _ Ik Hk' ek n2 _ fun r v I3 H3 ⟨k, er, hk0, hk1⟩ x3 rs => ?_
        subst er
        have ev := int_read rs
        subst ev
        have aD3 : H3 Dl = some (.lst (outs.map V.int)) := x3.h Dl _ nDb lst_tbl aD
        have iD3 : I3 Dl = none := x3.n Dl _ iD aD lst_tbl
        have hL3 : H3 L' = some (.lst (rest.map V.int)) := x3.h L' _ hb' lst_tbl hL'
        have iL3 : I3 L' = none := x3.n L' _ hn' hL' lst_tbl
        have g3 : ((wipe σ [3]).set 3 (some x))[2]? = σ[2]? := by
          rw [List.getElem?_set_ne (by decide), wipe_out (by decide)]
        have eL : L' = L := by
          rw [g3, g2] at g2'
          cases g2'
          rfl
        have nL : L' ≠ Dl := eL ▸ nLD
        have hk : k.toNat < rest.length := by omega
        refine ⟨L', rest.map V.int, k, k.toNat, .int rest[k.toNat], rfl, rfl, hL3, by omega, by omega, ?_, ?_, ?_⟩
        · rw [List.length_map]
          exact seqIx hk0 hk1
        · rw [List.getElem?_map, List.getElem?_eq_getElem hk]
          rfl
        · have e4 : Ext K b I0 H0 I3 (upd H3 L' (.lst ((rest.map V.int).eraseIdx k.toNat))) := (ek.trans x3).mut h0' iL3 hb' hL3
          have aD4 : upd H3 L' (.lst ((rest.map V.int).eraseIdx k.toNat)) Dl = some (.lst (outs.map V.int)) := by rw [upd_ne nL.symm]; exact aD3
          have hsL : σ[2]? = some (some (.ref L')) := by rw [g2, eL]
          have n4 := (nk.ext x3).own (i := 2) (a := L') (ys := (rest.map V.int).eraseIdx k.toNat) (es := (rest.eraseIdx k.toNat).map .int) rfl rfl hsL h0' iL3 hb' (by rw [erase_map]; exact dpa_ofInts _)
          refine ⟨outs.map V.int, aD4, Nat.lt_of_lt_of_le (by rw [List.length_map]; omega : _ < 100000) (by decide : 100000 ≤ sizeLine), I3, outs ++ [rest[k.toNat]], rest.eraseIdx k.toNat, e4.mut (e.free (fr_none hD)) iD3 nDb aD4, sm.trans x3.i, n4.other rfl (fun j ds hj => ?_), iD3, ?_, perm_erase pm hk, by rw [List.length_append, ol]; rfl⟩
          · match j, hj with
            | 0, h => cases h
            | 1, h => cases h
            | 2, _ => rw [hsL]; exact fun z => nL (V.ref.inj (Option.some.inj (Option.some.inj z)))
            | 3, h => cases h
            | j + 4, h => cases h
          · rw [upd_same, List.map_append]
            rfl
    · rintro Hk ⟨Ik, outs, rest, ek, sm, nk, iD, aD, pm, ol⟩
      have hr : rest = [] := by
        have := pm.length_eq
        rw [List.length_append] at this
        exact List.eq_nil_of_length_eq_zero (by omega)
      subst hr
      rw [List.append_nil] at pm
      exact a2 _ _ Ik Hk (hR outs pm) ek ⟨Dl, _, rfl, e.free (fr_none hD), iD, nDb, aD, dpa_ofInts _⟩
end
/-- fewer slots, lists of its own among them -/
inductive LessO : Env → Env → Prop
  | nil : LessO [] []
  | no {x : Option DV} {t' t : Env} : LessO t' t → LessO (none :: t') (x :: t)
  | keep {x : DV} {t' t : Env} : LessO t' t → LessO (some x :: t') (some x :: t)
theorem LessO.len : ∀ {δ' δ : Env}, LessO δ' δ → δ'.length = δ.length
  | _, _, .nil => rfl
  | _, _, .no h => congrArg Nat.succ h.len
  | _, _, .keep h => congrArg Nat.succ h.len
theorem LessO.hs : ∀ {δ' δ : Env}, LessO δ' δ → ∀ (i : Nat) (r : DV), δ'[i]? = some (some r) → δ[i]? = some (some r)
  | _, _, .nil, _, _, e => by cases e
  | _, _, .no h, 0, _, e => by cases e
  | _, _, .no h, i + 1, r, e => h.hs i r e
  | _, _, .keep h, 0, _, e => e
  | _, _, .keep h, i + 1, r, e => h.hs i r e
section
variable {K : PySem.W.Frag} {b : Bg} {I0 H0 : Hp} {δ δ' : Env} {N Bk Ct : Env → Prop} {R P : DV → Prop} {t : TS} {ta tb : TE}
theorem sv_dropO (l : LessO δ' δ) (h : SvD K b I0 H0 t δ' N R Bk Ct) : SvD K b I0 H0 t δ N R Bk Ct := sv_less l.len l.hs h
/-- t + u of tuples, the second drawn -/
theorem ev_catD {xs : List PyData} {B : List PyData → Prop} (ha : EvD K b I0 H0 ta δ (fun r => r = .dat (.tuple xs))) (hb : EvD K b I0 H0 tb δ (fun r => ∃ ys, r = .dat (.tuple ys) ∧ B ys)) (hl : ∀ ys, B ys → xs.length + ys.length ≤ 100000) : EvD K b I0 H0 (tOp (TF.rCatF K) ta tb) δ (fun r => ∃ ys, B ys ∧ r = .dat (.tuple (xs ++ ys))) :=
  ev_op ha hb fun x y e ⟨ys, f, c⟩ => by
    subst e f
    exact fun H0 I H v w k r1 r2 Q q => od_cat (hl ys c) H0 I H v w k r1 r2 Q fun z u I' H' p => q z u I' H' ⟨ys, c, p⟩
end
/-! ### a tuple of texts among the module's names -/
def strsB : List Value → List Str → Bool
  | [], [] => true
  | .str x _ :: vs, y :: ys => decide (x = y) && strsB vs ys
  | _, _ => false
theorem strsB_ok : ∀ {vs : List Value} {ys : List Str}, strsB vs ys = true → Vals (ys.map V.str) vs
  | [], [], _ => .nil
  | .str x t :: vs, y :: ys, h => by
    unfold strsB at h
    obtain ⟨h1, h2⟩ := Bool.and_eq_true_iff.mp h
    have e := of_decide_eq_true h1
    subst e
    exact .cons ⟨t, rfl⟩ (strsB_ok h2)
  | [], _ :: _, h => by unfold strsB at h; cases h
  | .none :: _, _, h => by unfold strsB at h; cases h
  | .bool _ :: _, _, h => by unfold strsB at h; cases h
  | .int _ _ :: _, _, h => by unfold strsB at h; cases h
  | .ref _ :: _, _, h => by unfold strsB at h; cases h
  | .str _ _ :: _, [], h => by unfold strsB at h; cases h
  | .bytes _ _ :: _, _, h => by unfold strsB at h; cases h
  | .float _ _ :: _, _, h => by unfold strsB at h; cases h
  | .type _ :: _, _, h => by unfold strsB at h; cases h
  | .builtin _ :: _, _, h => by unfold strsB at h; cases h
def strTupB (K : PySem.W.Frag) (a : Addr) (ss : List Str) : Bool := match K.lookup a with
  | some ⟨.type "tuple", _, .seq vs _, _⟩ => decide (vs.size ≤ 1000) && strsB vs.toList ss
  | _ => false
theorem dpa_ofStrs {K : PySem.W.Frag} {I : Hp} : ∀ (ss : List Str), DpAll K I (ss.map V.str) (ss.map .str)
  | [] => .nil
  | s :: ss => .cons (.str s) (dpa_ofStrs ss)
theorem strTup_ok {K : PySem.W.Frag} {a : Addr} {ss : List Str} (h : strTupB K a ss = true) : ∀ I, Dp K I (.ref a) (.tuple (ss.map .str)) := fun I => by
  unfold strTupB at h
  split at h
  · rename_i dd vs n sl e
    obtain ⟨h1, h2⟩ := Bool.and_eq_true_iff.mp h
    exact .tup (.inr ⟨_, vs, n, e, rfl, rfl, Nat.le_trans (of_decide_eq_true h1) (by decide : 1000 ≤ sizeLine), strsB_ok h2⟩) (dpa_ofStrs ss)
  · cases h
theorem ev_gd {K : PySem.W.Frag} {b : Bg} {I0 H0 : Hp} {δ : Env} {v : V} {d : PyData} (h : ∀ I, Dp K I v d) : EvD K b I0 H0 (tC v) δ (fun r => r = .dat d) := fun σ I H e n Q q => q _ _ I H rfl e.re (h I)
/-- is not None -/
theorem ev_notN {K : PySem.W.Frag} {b : Bg} {I0 H0 : Hp} {δ : Env} {ta : TE} {d : PyData} (ha : EvD K b I0 H0 ta δ (fun r => r = .dat d)) : EvD K b I0 H0 (tOp (fun x y H Q => y = .non ∧ Q (.bl (!decide (x = .non))) H) ta (tC .non)) δ (fun r => r = dbl (!decide (tyN d = "NoneType"))) :=
  ev_op ha ev_non fun x y e f => by
    subst e f
    intro H0 I H v w k r1 r2 Q q
    refine ⟨non_read r2, q _ _ I H rfl k.re ?_⟩
    rw [dp_isN r1]
    exact Dp.bl _
/-- no list stands among the module's names -/
def KL (K : PySem.W.Frag) : Prop := ∀ a o, K.lookup a = some o → o.cls ≠ .type "list"
def klB (K : PySem.W.Frag) : Bool := K.all fun p => !decide (p.2.cls = .type "list")
theorem kl_by {K : PySem.W.Frag} (h : klB K = true) : KL K := fun a o e c => by
  have := List.all_eq_true.mp h _ (mem_lk e)
  simp [c] at this
section
variable {K : PySem.W.Frag} {b : Bg} {I0 H0 : Hp} {δ : Env} {ta tb te : TE} {P : DV → Prop}
/-- a list as it stands -/
theorem LstR.lst {I H H1 : Hp} {r : DV} {v : V} {ds : List PyData} (kl : KL K) (k : Ok K b I H) (l : LstR r ds) (h : Res K b H1 I H v r) : ∃ a xs, v = .ref a ∧ H a = some (.lst xs) ∧ DpAll K I xs ds := by
  rcases l with rfl | rfl | rfl
  · obtain ⟨a, xs, rfl, _, _, _, ha, hd⟩ := h
    exact ⟨a, xs, rfl, ha, hd⟩
  · obtain ⟨a, xs, rfl, ha, _, _, hd⟩ := h
    exact ⟨a, xs, rfl, ha, hd⟩
  · have h : Dp K I v (.list ds) := h
    cases h with
    | @lst a xs _ q r =>
      rcases q with (q | ⟨o, q⟩) | ⟨o, its, n, q1, q2, _⟩
      · exact ⟨a, xs, rfl, k.s a _ q, r⟩
      · exact absurd (k.b.2.1 a _ q) (fun z => z)
      · exact absurd q2 (kl a o q1)
/-- xs + ys of any lists -/
theorem ev_catA {A B : List PyData → Prop} (kl : KL K) (ha : EvD K b I0 H0 ta δ (fun r => ∃ ds, LstR r ds ∧ A ds)) (hb : EvD K b I0 H0 tb δ (fun r => ∃ ds, LstR r ds ∧ B ds)) (hl : ∀ ds es, A ds → B es → ds.length + es.length ≤ 100000) :
    EvD K b I0 H0 (tOp rCat ta tb) δ (fun r => ∃ ds, r = .own ds ∧ ∃ xs ys, A xs ∧ B ys ∧ ds = xs ++ ys) :=
  ev_op ha hb fun x y ⟨ds, e, a⟩ ⟨es, f, c⟩ => by
    intro H0 I H v w k r1 r2 Q q
    obtain ⟨p, xs, rfl, hp, hd⟩ := e.lst kl k r1
    obtain ⟨d, ys, rfl, gd, ge⟩ := f.lst kl k r2
    have l1 := dpa_len hd
    have l2 := dpa_len ge
    have l3 := hl ds es a c
    exact ⟨p, d, xs, ys, rfl, rfl, hp, gd, Nat.le_trans (by omega) (by decide : 100000 ≤ sizeLine), fun n hn => q _ _ _ _ ⟨ds ++ es, rfl, ds, es, a, c, rfl⟩ (k.newH hn) ⟨n, _, rfl, fr_none hn, k.inone hn, k.nb hn, upd_same, dpa_app hd ge⟩⟩
/-- tuple(xs) of any list -/
theorem ev_tupleL {x : DV} {ds : List PyData} (l : LstR x ds) (ha : EvD K b I0 H0 ta δ (fun r => r = x)) : EvD K b I0 H0 (tCB (TF.rTupleF K) (tCons ta tNil)) δ (fun r => r = .dat (.tuple ds)) :=
  ev_cb (ea_cons1 ha ea_nil) fun rs e => by
    subst e
    exact cb_tupleL l
/-- t[-1] -/
theorem ev_last {ds : List PyData} {d : PyData} (ha : EvD K b I0 H0 ta δ (fun r => r = .dat (.tuple ds))) (hb : EvD K b I0 H0 tb δ (fun r => r = dint (-1))) (h : ds[ds.length - 1]? = some d) : EvD K b I0 H0 (tOp (rIxT K) ta tb) δ (fun r => r = .dat d) :=
  ev_op ha hb fun x y e f => by
    subst e f
    intro H0 I H v w k r1 r2 Q q
    obtain ⟨a, xs, rfl, hs, hd⟩ := tup_read k.s r1
    obtain ⟨u, e1, e2⟩ := dpa_get hd h
    refine ⟨a, xs, -1, u, rfl, int_read r2, hs, ?_, q _ _ I H rfl k.re e2⟩
    have l1 := dpa_len hd
    have hlt : ds.length - 1 < xs.length := (List.getElem?_eq_some_iff.mp e1).1
    rw [← l1] at e1 hlt
    have z : ixN xs.length (-1) = some (xs.length - 1) := by
      unfold ixN
      rw [if_neg (by decide), if_pos (by omega)]
      congr 1
      omega
    unfold atI
    rw [z]
    exact e1
/-- what told makes of a text and of none -/
theorem ev_neN {d : PyData} {o : Bool} (h : (d = .str "none" ∧ o = false) ∨ (∃ k : Int, d = .int k) ∧ o = true) (ha : EvD K b I0 H0 ta δ (fun r => r = .dat d)) (hb : EvD K b I0 H0 tb δ (fun r => r = dstr "none")) : EvD K b I0 H0 (tOp rNe ta tb) δ (fun r => r = dbl o) :=
  ev_op ha hb fun _ _ e f => by
    subst e f
    intro H0 I H v w k r1 r2 Q q
    rcases h with ⟨rfl, rfl⟩ | ⟨⟨i, rfl⟩, rfl⟩
    · rw [str_read r1, str_read r2]
      exact ⟨rfl, q _ _ I H rfl k.re (by rw [decide_eq_true rfl]; exact Dp.bl _)⟩
    · rw [int_read r1, str_read r2]
      exact ⟨rfl, q _ _ I H rfl k.re (by rw [decide_eq_false (fun z => by cases z)]; exact Dp.bl _)⟩
end
end DL

set_option Elab.async false
set_option linter.all false
set_option maxRecDepth 100000
set_option maxHeartbeats 4000000
namespace Lw
open PySem PySem.Spec PyProof.Rows L2 DL
def topS (i : Nat) : Stmt := PySem.Challenge.pw_hidelater_k02_counts_and_stands_judged.main.body.getD i (.Pass ⟨0, 0, 0, 0⟩)
abbrev s_look_sizes : Stmt := topS 10
abbrev N_look_sizes : List Str := ["sizes", "cask", "size"]
theorem sc_look_sizes : FnScope N_look_sizes ["sizes"] (defScope s_look_sizes) := ⟨rfl, rfl, rfl, by decide +kernel, rfl, by decide +kernel, by decide +kernel⟩
abbrev s_look_counts : Stmt := topS 11
abbrev N_look_counts : List Str := ["sizes", "counts", "fault"]
theorem sc_look_counts : FnScope N_look_counts ["sizes", "counts"] (defScope s_look_counts) := ⟨rfl, rfl, rfl, by decide +kernel, rfl, by decide +kernel, by decide +kernel⟩
abbrev s_count_fault : Stmt := topS 12
abbrev N_count_fault : List Str := ["sizes", "counts", "cask", "many"]
theorem sc_count_fault : FnScope N_count_fault ["sizes", "counts"] (defScope s_count_fault) := ⟨rfl, rfl, rfl, by decide +kernel, rfl, by decide +kernel, by decide +kernel⟩
abbrev s_look_stand : Stmt := topS 13
abbrev N_look_stand : List Str := ["sizes", "stand", "free", "rank", "cask"]
theorem sc_look_stand : FnScope N_look_stand ["sizes", "stand"] (defScope s_look_stand) := ⟨rfl, rfl, rfl, by decide +kernel, rfl, by decide +kernel, by decide +kernel⟩
abbrev s_counts_of : Stmt := topS 14
abbrev N_counts_of : List Str := ["sizes", "stand", "cask"]
theorem sc_counts_of : FnScope N_counts_of ["sizes", "stand"] (defScope s_counts_of) := ⟨rfl, rfl, rfl, by decide +kernel, rfl, by decide +kernel, by decide +kernel⟩
abbrev s_room : Stmt := topS 15
abbrev N_room : List Str := ["sizes", "counts", "size", "many"]
theorem sc_room : FnScope N_room ["sizes", "counts"] (defScope s_room) := ⟨rfl, rfl, rfl, by decide +kernel, rfl, by decide +kernel, by decide +kernel⟩
abbrev s_law_open : Stmt := topS 17
abbrev N_law_open : List Str := ["_law_script"]
theorem sc_law_open : FnScope N_law_open ["_law_script"] (defScope s_law_open) := ⟨rfl, rfl, rfl, by decide +kernel, rfl, by decide +kernel, by decide +kernel⟩
abbrev s_law_take : Stmt := topS 18
abbrev N_law_take : List Str := ["_law_bag", "_law_sides", "_law_cell", "_law_side", "_law_mix"]
theorem sc_law_take : FnScope N_law_take ["_law_bag", "_law_sides"] (defScope s_law_take) := ⟨rfl, rfl, rfl, by decide +kernel, rfl, by decide +kernel, by decide +kernel⟩
abbrev s_law_pick : Stmt := topS 19
abbrev N_law_pick : List Str := ["_law_bag", "_law_row"]
theorem sc_law_pick : FnScope N_law_pick ["_law_bag", "_law_row"] (defScope s_law_pick) := ⟨rfl, rfl, rfl, by decide +kernel, rfl, by decide +kernel, by decide +kernel⟩
abbrev s_law_same : Stmt := topS 20
abbrev N_law_same : List Str := ["_law_found", "_law_due", "_law_at"]
theorem sc_law_same : FnScope N_law_same ["_law_found", "_law_due"] (defScope s_law_same) := ⟨rfl, rfl, rfl, by decide +kernel, rfl, by decide +kernel, by decide +kernel⟩
abbrev s_law_sizes : Stmt := topS 21
abbrev N_law_sizes : List Str := ["_law_bag", "_law_mcasks", "_law_most", "_law_mcask"]
theorem sc_law_sizes : FnScope N_law_sizes ["_law_bag", "_law_mcasks", "_law_most"] (defScope s_law_sizes) := ⟨rfl, rfl, rfl, by decide +kernel, rfl, by decide +kernel, by decide +kernel⟩
abbrev s_law_any_sizes : Stmt := topS 22
abbrev N_law_any_sizes : List Str := ["_law_bag"]
theorem sc_law_any_sizes : FnScope N_law_any_sizes ["_law_bag"] (defScope s_law_any_sizes) := ⟨rfl, rfl, rfl, by decide +kernel, rfl, by decide +kernel, by decide +kernel⟩
abbrev s_law_stand : Stmt := topS 23
abbrev N_law_stand : List Str := ["_law_bag", "_law_msizes", "_law_mmany", "_law_gone", "_law_found", "_law_held", "_law_k", "_law_place"]
theorem sc_law_stand : FnScope N_law_stand ["_law_bag", "_law_msizes", "_law_mmany", "_law_gone"] (defScope s_law_stand) := ⟨rfl, rfl, rfl, by decide +kernel, rfl, by decide +kernel, by decide +kernel⟩
abbrev s_law_held_by : Stmt := topS 24
abbrev N_law_held_by : List Str := ["_law_msizes", "_law_mstand", "_law_mcask", "_law_place"]
theorem sc_law_held_by : FnScope N_law_held_by ["_law_msizes", "_law_mstand"] (defScope s_law_held_by) := ⟨rfl, rfl, rfl, by decide +kernel, rfl, by decide +kernel, by decide +kernel⟩
abbrev s_law_load : Stmt := topS 25
abbrev N_law_load : List Str := ["_law_bag", "_law_msizes", "_law_size"]
theorem sc_law_load : FnScope N_law_load ["_law_bag", "_law_msizes"] (defScope s_law_load) := ⟨rfl, rfl, rfl, by decide +kernel, rfl, by decide +kernel, by decide +kernel⟩
abbrev s_law_full_load : Stmt := topS 26
abbrev N_law_full_load : List Str := ["_law_bag", "_law_msizes", "_law_how", "_law_size"]
theorem sc_law_full_load : FnScope N_law_full_load ["_law_bag", "_law_msizes"] (defScope s_law_full_load) := ⟨rfl, rfl, rfl, by decide +kernel, rfl, by decide +kernel, by decide +kernel⟩
abbrev s_law_counts_flaw : Stmt := topS 27
abbrev N_law_counts_flaw : List Str := ["_law_msizes", "_law_row", "_law_some", "_law_at"]
theorem sc_law_counts_flaw : FnScope N_law_counts_flaw ["_law_msizes", "_law_row"] (defScope s_law_counts_flaw) := ⟨rfl, rfl, rfl, by decide +kernel, rfl, by decide +kernel, by decide +kernel⟩
abbrev s_law_stand_flaw : Stmt := topS 28
abbrev N_law_stand_flaw : List Str := ["_law_msizes", "_law_row", "_law_mrank", "_law_place", "_law_held", "_law_here"]
theorem sc_law_stand_flaw : FnScope N_law_stand_flaw ["_law_msizes", "_law_row"] (defScope s_law_stand_flaw) := ⟨rfl, rfl, rfl, by decide +kernel, rfl, by decide +kernel, by decide +kernel⟩
abbrev s_law_told : Stmt := topS 29
abbrev N_law_told : List Str := ["_law_ask", "_law_found", "e"]
theorem sc_law_told : FnScope N_law_told ["_law_ask"] (defScope s_law_told) := ⟨rfl, rfl, rfl, by decide +kernel, rfl, by decide +kernel, by decide +kernel⟩
abbrev s_law : Stmt := topS 30
abbrev N_law : List Str := ["_law_script", "_law_bag", "_law_turn", "_law_msizes", "_law_row", "_law_at", "_law_some", "_law_due", "_law_found", "_law_odd", "_law_longer"]
theorem sc_law : FnScope N_law ["_law_script"] (defScope s_law) := ⟨rfl, rfl, rfl, by decide +kernel, rfl, by decide +kernel, by decide +kernel⟩
abbrev s_BadSizes : Stmt := topS 2
abbrev si_BadSizes : Stmt := inClass s_BadSizes 0
theorem sc_BadSizes : FnScope ["self", "cask"] ["self", "cask"] (defScope si_BadSizes) := ⟨rfl, rfl, rfl, by decide +kernel, rfl, by decide +kernel, by decide +kernel⟩
abbrev s_BadCounts : Stmt := topS 3
abbrev si_BadCounts : Stmt := inClass s_BadCounts 0
theorem sc_BadCounts : FnScope ["self", "cask"] ["self", "cask"] (defScope si_BadCounts) := ⟨rfl, rfl, rfl, by decide +kernel, rfl, by decide +kernel, by decide +kernel⟩
abbrev s_BadStand : Stmt := topS 4
abbrev si_BadStand : Stmt := inClass s_BadStand 0
theorem sc_BadStand : FnScope ["self", "rank"] ["self", "rank"] (defScope si_BadStand) := ⟨rfl, rfl, rfl, by decide +kernel, rfl, by decide +kernel, by decide +kernel⟩
structure Top (K : PySem.W.Frag) (mg : Str → Option Value) : Type where
  a_look_sizes : Addr
  fd_look_sizes : FuncData
  F_look_sizes : Fun K "look_sizes" "look_sizes" s_look_sizes a_look_sizes fd_look_sizes
  g_look_sizes : mg "look_sizes" = some (.ref a_look_sizes)
  b_look_sizes : Binds K fd_look_sizes ["sizes"] []
  a_look_counts : Addr
  fd_look_counts : FuncData
  F_look_counts : Fun K "look_counts" "look_counts" s_look_counts a_look_counts fd_look_counts
  g_look_counts : mg "look_counts" = some (.ref a_look_counts)
  b_look_counts : Binds K fd_look_counts ["sizes", "counts"] []
  a_count_fault : Addr
  fd_count_fault : FuncData
  F_count_fault : Fun K "count_fault" "count_fault" s_count_fault a_count_fault fd_count_fault
  g_count_fault : mg "count_fault" = some (.ref a_count_fault)
  b_count_fault : Binds K fd_count_fault ["sizes", "counts"] []
  a_look_stand : Addr
  fd_look_stand : FuncData
  F_look_stand : Fun K "look_stand" "look_stand" s_look_stand a_look_stand fd_look_stand
  g_look_stand : mg "look_stand" = some (.ref a_look_stand)
  b_look_stand : Binds K fd_look_stand ["sizes", "stand"] []
  a_counts_of : Addr
  fd_counts_of : FuncData
  F_counts_of : Fun K "counts_of" "counts_of" s_counts_of a_counts_of fd_counts_of
  g_counts_of : mg "counts_of" = some (.ref a_counts_of)
  b_counts_of : Binds K fd_counts_of ["sizes", "stand"] []
  a_room : Addr
  fd_room : FuncData
  F_room : Fun K "room" "room" s_room a_room fd_room
  g_room : mg "room" = some (.ref a_room)
  b_room : Binds K fd_room ["sizes", "counts"] []
  a_law_open : Addr
  fd_law_open : FuncData
  F_law_open : Fun K "_law_open" "_law_open" s_law_open a_law_open fd_law_open
  g_law_open : mg "_law_open" = some (.ref a_law_open)
  b_law_open : Binds K fd_law_open ["_law_script"] []
  a_law_take : Addr
  fd_law_take : FuncData
  F_law_take : Fun K "_law_take" "_law_take" s_law_take a_law_take fd_law_take
  g_law_take : mg "_law_take" = some (.ref a_law_take)
  b_law_take : Binds K fd_law_take ["_law_bag", "_law_sides"] []
  a_law_pick : Addr
  fd_law_pick : FuncData
  F_law_pick : Fun K "_law_pick" "_law_pick" s_law_pick a_law_pick fd_law_pick
  g_law_pick : mg "_law_pick" = some (.ref a_law_pick)
  b_law_pick : Binds K fd_law_pick ["_law_bag", "_law_row"] []
  a_law_same : Addr
  fd_law_same : FuncData
  F_law_same : Fun K "_law_same" "_law_same" s_law_same a_law_same fd_law_same
  g_law_same : mg "_law_same" = some (.ref a_law_same)
  b_law_same : Binds K fd_law_same ["_law_found", "_law_due"] []
  a_law_sizes : Addr
  fd_law_sizes : FuncData
  F_law_sizes : Fun K "_law_sizes" "_law_sizes" s_law_sizes a_law_sizes fd_law_sizes
  g_law_sizes : mg "_law_sizes" = some (.ref a_law_sizes)
  b_law_sizes : Binds K fd_law_sizes ["_law_bag", "_law_mcasks", "_law_most"] []
  a_law_any_sizes : Addr
  fd_law_any_sizes : FuncData
  F_law_any_sizes : Fun K "_law_any_sizes" "_law_any_sizes" s_law_any_sizes a_law_any_sizes fd_law_any_sizes
  g_law_any_sizes : mg "_law_any_sizes" = some (.ref a_law_any_sizes)
  b_law_any_sizes : Binds K fd_law_any_sizes ["_law_bag"] []
  a_law_stand : Addr
  fd_law_stand : FuncData
  F_law_stand : Fun K "_law_stand" "_law_stand" s_law_stand a_law_stand fd_law_stand
  g_law_stand : mg "_law_stand" = some (.ref a_law_stand)
  b_law_stand : Binds K fd_law_stand ["_law_bag", "_law_msizes", "_law_mmany", "_law_gone"] []
  a_law_held_by : Addr
  fd_law_held_by : FuncData
  F_law_held_by : Fun K "_law_held_by" "_law_held_by" s_law_held_by a_law_held_by fd_law_held_by
  g_law_held_by : mg "_law_held_by" = some (.ref a_law_held_by)
  b_law_held_by : Binds K fd_law_held_by ["_law_msizes", "_law_mstand"] []
  a_law_load : Addr
  fd_law_load : FuncData
  F_law_load : Fun K "_law_load" "_law_load" s_law_load a_law_load fd_law_load
  g_law_load : mg "_law_load" = some (.ref a_law_load)
  b_law_load : Binds K fd_law_load ["_law_bag", "_law_msizes"] []
  a_law_full_load : Addr
  fd_law_full_load : FuncData
  F_law_full_load : Fun K "_law_full_load" "_law_full_load" s_law_full_load a_law_full_load fd_law_full_load
  g_law_full_load : mg "_law_full_load" = some (.ref a_law_full_load)
  b_law_full_load : Binds K fd_law_full_load ["_law_bag", "_law_msizes"] []
  a_law_counts_flaw : Addr
  fd_law_counts_flaw : FuncData
  F_law_counts_flaw : Fun K "_law_counts_flaw" "_law_counts_flaw" s_law_counts_flaw a_law_counts_flaw fd_law_counts_flaw
  g_law_counts_flaw : mg "_law_counts_flaw" = some (.ref a_law_counts_flaw)
  b_law_counts_flaw : Binds K fd_law_counts_flaw ["_law_msizes", "_law_row"] []
  a_law_stand_flaw : Addr
  fd_law_stand_flaw : FuncData
  F_law_stand_flaw : Fun K "_law_stand_flaw" "_law_stand_flaw" s_law_stand_flaw a_law_stand_flaw fd_law_stand_flaw
  g_law_stand_flaw : mg "_law_stand_flaw" = some (.ref a_law_stand_flaw)
  b_law_stand_flaw : Binds K fd_law_stand_flaw ["_law_msizes", "_law_row"] []
  a_law_told : Addr
  fd_law_told : FuncData
  F_law_told : Fun K "_law_told" "_law_told" s_law_told a_law_told fd_law_told
  g_law_told : mg "_law_told" = some (.ref a_law_told)
  b_law_told : Binds K fd_law_told ["_law_ask"] []
  a_law : Addr
  fd_law : FuncData
  F_law : Fun K "law" "law" s_law a_law fd_law
  g_law : mg "law" = some (.ref a_law)
  b_law : Binds K fd_law ["_law_script"] []
  kt : KT K
  kl : KL K
  m_enumerate : mg "enumerate" = none
  m_len : mg "len" = none
  m_list : mg "list" = none
  m_tuple : mg "tuple" = none
  m_range : mg "range" = none
  m_zip : mg "zip" = none
  m_isinstance : mg "isinstance" = none
  m_bool : mg "bool" = none
  m_int : mg "int" = none
  m_str : mg "str" = none
  m_all : mg "all" = none
  c_MOST_CASKS : ∃ tk, mg "MOST_CASKS" = some (.int (6) tk)
  c_MOST_SIZE : ∃ tk, mg "MOST_SIZE" = some (.int (40) tk)
  c_MOST_DROPS : ∃ tk, mg "MOST_DROPS" = some (.int (60) tk)
  c_GONE : ∃ tk, mg "GONE" = some (.int (-1) tk)
  C_BadSizes : Addr
  g_BadSizes : mg "BadSizes" = some (.ref C_BadSizes)
  o_BadSizes : OexC K C_BadSizes
  f_BadSizes : XfC K C_BadSizes
  fi_BadSizes : Addr
  fdi_BadSizes : FuncData
  Fi_BadSizes : Fun K "__init__" "BadSizes.__init__" si_BadSizes fi_BadSizes fdi_BadSizes
  ii_BadSizes : PySem.W.findIn K (.ref C_BadSizes) "__init__" = some (some (.ref fi_BadSizes))
  ti_BadSizes : PySem.W.typeIn K (.ref fi_BadSizes) = some (.type "function")
  bi_BadSizes : Binds K fdi_BadSizes ["self", "cask"] []
  n_BadSizes_word : PySem.W.findIn K (.ref C_BadSizes) "word" = some none
  n_BadSizes_cask : PySem.W.findIn K (.ref C_BadSizes) "cask" = some none
  C_BadCounts : Addr
  g_BadCounts : mg "BadCounts" = some (.ref C_BadCounts)
  o_BadCounts : OexC K C_BadCounts
  f_BadCounts : XfC K C_BadCounts
  fi_BadCounts : Addr
  fdi_BadCounts : FuncData
  Fi_BadCounts : Fun K "__init__" "BadCounts.__init__" si_BadCounts fi_BadCounts fdi_BadCounts
  ii_BadCounts : PySem.W.findIn K (.ref C_BadCounts) "__init__" = some (some (.ref fi_BadCounts))
  ti_BadCounts : PySem.W.typeIn K (.ref fi_BadCounts) = some (.type "function")
  bi_BadCounts : Binds K fdi_BadCounts ["self", "cask"] []
  n_BadCounts_word : PySem.W.findIn K (.ref C_BadCounts) "word" = some none
  n_BadCounts_cask : PySem.W.findIn K (.ref C_BadCounts) "cask" = some none
  C_BadStand : Addr
  g_BadStand : mg "BadStand" = some (.ref C_BadStand)
  o_BadStand : OexC K C_BadStand
  f_BadStand : XfC K C_BadStand
  fi_BadStand : Addr
  fdi_BadStand : FuncData
  Fi_BadStand : Fun K "__init__" "BadStand.__init__" si_BadStand fi_BadStand fdi_BadStand
  ii_BadStand : PySem.W.findIn K (.ref C_BadStand) "__init__" = some (some (.ref fi_BadStand))
  ti_BadStand : PySem.W.typeIn K (.ref fi_BadStand) = some (.type "function")
  bi_BadStand : Binds K fdi_BadStand ["self", "rank"] []
  n_BadStand_word : PySem.W.findIn K (.ref C_BadStand) "word" = some none
  n_BadStand_rank : PySem.W.findIn K (.ref C_BadStand) "rank" = some none
  e_BadSizes_BadCounts : PySem.W.exmOne K (.ref C_BadSizes) (.ref C_BadCounts) = some false
  e_BadSizes_BadStand : PySem.W.exmOne K (.ref C_BadSizes) (.ref C_BadStand) = some false
  e_BadCounts_BadCounts : PySem.W.exmOne K (.ref C_BadCounts) (.ref C_BadCounts) = some true
  e_BadCounts_BadStand : PySem.W.exmOne K (.ref C_BadCounts) (.ref C_BadStand) = some false
  e_BadStand_BadCounts : PySem.W.exmOne K (.ref C_BadStand) (.ref C_BadCounts) = some false
  e_BadStand_BadStand : PySem.W.exmOne K (.ref C_BadStand) (.ref C_BadStand) = some true
  k_law : Addr
  P_law : Addr
  L_law : ∃ (oc : Value) (od : Option Addr) (kV doc pm : Value) (an : Option Addr) (ct : Value) (osl : Array (Option Value)), fd_law = PySem.W.fnOf "law" "law" (defArgs s_law) (defBody s_law) (defScope s_law) .none kV doc pm an (.ref k_law) ct ∧ K.lookup a_law = some ⟨oc, od, .func fd_law, osl⟩ ∧ PySem.W.codeIn K (.ref k_law) "law" = true
section
variable {P : Program} {w : World} {K : PySem.W.Frag} {mg : Str → Option Value} {base : Heap}
abbrev mk_BadSizes (vs : List V) : List (Str × V) := [("cask", vs.getD 0 .non), ("word", .str "bad sizes")]
theorem init_BadSizes (T : Top K mg) : FnOk P w K mg base CX0 1 T.fi_BadSizes T.fdi_BadSizes ["self", "cask"] (spInit T.C_BadSizes 1 mk_BadSizes) := ok_init1 T.Fi_BadSizes sc_BadSizes T.o_BadSizes T.n_BadSizes_word T.n_BadSizes_cask rfl (Or.inl rfl) (Or.inl rfl) (by decide) (by decide)
abbrev mk_BadCounts (vs : List V) : List (Str × V) := [("cask", vs.getD 0 .non), ("word", .str "bad counts")]
theorem init_BadCounts (T : Top K mg) : FnOk P w K mg base CX0 1 T.fi_BadCounts T.fdi_BadCounts ["self", "cask"] (spInit T.C_BadCounts 1 mk_BadCounts) := ok_init1 T.Fi_BadCounts sc_BadCounts T.o_BadCounts T.n_BadCounts_word T.n_BadCounts_cask rfl (Or.inl rfl) (Or.inl rfl) (by decide) (by decide)
abbrev mk_BadStand (vs : List V) : List (Str × V) := [("rank", vs.getD 0 .non), ("word", .str "bad stand")]
theorem init_BadStand (T : Top K mg) : FnOk P w K mg base CX0 1 T.fi_BadStand T.fdi_BadStand ["self", "rank"] (spInit T.C_BadStand 1 mk_BadStand) := ok_init1 T.Fi_BadStand sc_BadStand T.o_BadStand T.n_BadStand_word T.n_BadStand_rank rfl (Or.inl rfl) (Or.inl rfl) (by decide) (by decide)
/-! ### sizes, counts, stands -/
structure Sz (ms : List Int) : Prop where
  lo : 1 ≤ ms.length
  hi : ms.length ≤ 6
  all : ∀ m ∈ ms, 1 ≤ m ∧ m ≤ 40
theorem Sz.at_ {ms : List Int} (h : Sz ms) {k : Nat} (hk : k < ms.length) : 1 ≤ ms.getD k 0 ∧ ms.getD k 0 ≤ 40 := by
  rw [List.getD_eq_getElem?_getD, List.getElem?_eq_getElem hk]
  exact h.all _ (List.getElem_mem hk)
def firstBad (p : Nat → Bool) (n : Nat) : PyData := match (List.range n).find? p with
  | none => .str "none"
  | some k => .int (k : Int)
theorem firstBad_at {p : Nat → Bool} {n k : Nat} (h : ∀ j, j < k → p j = false) (hk : p k = true) (hn : k < n) : firstBad p n = .int (k : Int) := by
  have z : (List.range n).find? p = some k := by
    rw [List.find?_range_eq_some]
    exact ⟨hk, List.mem_range.mpr hn, fun j hj => by rw [h j hj]; rfl⟩
  unfold firstBad
  rw [z]
theorem firstBad_no {p : Nat → Bool} {n : Nat} (h : ∀ j, j < n → p j = false) : firstBad p n = .str "none" := by
  have z : (List.range n).find? p = none := by
    rw [List.find?_eq_none]
    intro x hx
    rw [h x (List.mem_range.mp hx)]
    decide
  unfold firstBad
  rw [z]
def badC (ms cs : List Int) (k : Nat) : Bool := !(decide (0 ≤ cs.getD k 0) && decide (cs.getD k 0 ≤ ms.getD k 0))
def flawC (ms cs : List Int) : PyData := if cs.length = ms.length then firstBad (badC ms cs) cs.length else .int (-1)
def badS (ms st : List Int) (k : Nat) : Bool := !(decide (-1 ≤ st.getD k 0) && decide (st.getD k 0 < (ms.length : Int))) || (decide (0 ≤ st.getD k 0) && decide (ms.getD (st.getD k 0).toNat 0 ≤ ((st.take k).count (st.getD k 0) : Int)))
def flawS (ms st : List Int) : PyData := if 60 < st.length then .int (-1) else firstBad (badS ms st) st.length
theorem flaw_cases (p : Nat → Bool) (n : Nat) : firstBad p n = .str "none" ∨ ∃ k : Int, firstBad p n = .int k := by
  unfold firstBad
  cases (List.range n).find? p with
  | none => exact .inl rfl
  | some k => exact .inr ⟨_, rfl⟩
abbrev aMs (ms : List Int) : List DV := [.dat (nums ms)]
abbrev aPair (p : List Int × List Int) : List DV := [.dat (nums p.1), .dat (nums p.2)]
abbrev okPair (p : List Int × List Int) : Prop := Sz p.1 ∧ p.2.length ≤ 1000
theorem noOwn_ms (ms : List Int) : NoOwn (aMs ms) := noOwn_cons (fun _ z => by cases z) noOwn_nil
theorem noOwn_pair (p : List Int × List Int) : NoOwn (aPair p) := noOwn_cons (fun _ z => by cases z) (noOwn_cons (fun _ z => by cases z) noOwn_nil)
theorem zip_nums (xs ys : List Int) : zipD (xs.map .int) (ys.map .int) = (xs.zip ys).map (fun p => PyData.tuple [.int p.1, .int p.2]) := by
  unfold zipD
  induction xs generalizing ys with
  | nil => rfl
  | cons x xs ih =>
    cases ys with
    | nil => rfl
    | cons y ys => exact congrArg _ (ih ys)
theorem enum_get {ns : List Int} {k : Nat} {d : PyData} (h : (enumD (ns.map .int))[k]? = some d) : k < ns.length ∧ d = .tuple [.int (k : Int), .int (ns.getD k 0)] := by
  unfold enumD at h
  rw [List.getElem?_map, List.getElem?_zipIdx, List.getElem?_map] at h
  cases q : ns[k]? with
  | none => rw [q] at h; cases h
  | some m =>
    rw [q] at h
    have hk := (List.getElem?_eq_some_iff.mp q).1
    refine ⟨hk, ?_⟩
    rw [List.getD_eq_getElem?_getD, q]
    have h := (Option.some.inj h).symm
    subst h
    simp
theorem enum_len (ns : List Int) : (enumD (ns.map .int)).length = ns.length := by
  unfold enumD
  rw [List.length_map, List.length_zipIdx, List.length_map]
theorem nums_at {xs : List Int} {k : Int} (h0 : 0 ≤ k) (h : k.toNat < xs.length) : (xs.map PyData.int)[k.toNat]? = some (.int (xs.getD k.toNat 0)) := by
  rw [List.getElem?_map, List.getElem?_eq_getElem h, List.getD_eq_getElem?_getD, List.getElem?_eq_getElem h]
  rfl
theorem getD_at {xs : List Int} {k : Nat} (h : k < xs.length) : xs[k]? = some (xs.getD k 0) := by
  rw [List.getD_eq_getElem?_getD, List.getElem?_eq_getElem h]
  rfl
theorem take_count {st : List Int} {k : Nat} (h : k < st.length) (c : Int) : (st.take (k + 1)).count c = (st.take k).count c + if st.getD k 0 = c then 1 else 0 := by
  rw [List.take_add_one, getD_at h, List.count_append]
  simp [List.count_singleton]
theorem ok_look_sizes (T : Top K mg) : FnOk P w K mg base CX0 1 T.a_look_sizes T.fd_look_sizes ["sizes"] (spD K aMs Sz (fun _ r => r = .dat .none) noX) := by
  refine fn_ok T.F_look_sizes sc_look_sizes (fun a _ => rfl) fun cdv A outer s H E hr => ⟨_, (pss_cons (ps_if (pt_not (pt_chain op_le op_le pe_int (pe_callB (k_len K) (by rfl) T.m_len PySem.boot_len (pa_cons (pv 0) pa_nil)) (C8.pe_gc (by rfl) (gc_int T.c_MOST_CASKS)))) (pss_one (ps_never)) pss_nil)
      (pss_one (ps_for PassesOwn.never rfl (TF.pi_enumT (by rfl) T.m_enumerate (pa_cons (pv 0) pa_nil)) (pg_tup rfl (pgs_cons (pg_name (i := 1) sc_look_sizes.nd rfl (by first | exact Or.inl rfl | exact Or.inr rfl)) (pgs_cons (pg_name (i := 2) sc_look_sizes.nd rfl (by first | exact Or.inl rfl | exact Or.inr rfl)) pgs_nil))) (pss_one (ps_if (pt_not (pt_chain op_le op_le pe_int (pv 2) (C8.pe_gc (by rfl) (gc_int T.c_MOST_SIZE)))) (pss_one (ps_never)) pss_nil))))), fun b I ms hp => ?_⟩
  have l1 := hp.lo
  have l2 := hp.hi
  refine sv_skip (et_not1 (et_test1 ((ev_chainI ev_int (ev_len (ev_var rfl) (.inr rfl)) ev_int).to (s := dbl true) ?_))) (sv_for (itd_enum1 (ea_cons1 (ev_var rfl) ea_nil)) fun ds e => ⟨fun _ δ => ∃ x y, δ = [some (.dat (nums ms)), x, y], ⟨_, _, rfl⟩, ?_, fun _ _ => rfl⟩)
  · rw [List.length_map]
    have h1 : decide ((1 : Int) ≤ (ms.length : Int)) = true := decide_eq_true (by omega)
    have h2 : decide ((ms.length : Int) ≤ 6) = true := decide_eq_true (by omega)
    rw [h1, h2]
    rfl
  · rintro k d δk hd ⟨x, y, rfl⟩
    subst e
    obtain ⟨hk, rfl⟩ := enum_get hd
    have hm := hp.at_ hk
    refine ⟨_, _, tg_pair (ltr rfl) (ltr rfl), sv_if (et_not1 (et_test1 ((ev_chainI ev_int (ev_var rfl) ev_int).to (s := dbl true) ?_))) (fun z => by cases z) fun _ => sv_nil ⟨_, _, rfl⟩⟩
    have h1 : decide ((1 : Int) ≤ ms.getD k 0) = true := decide_eq_true hm.1
    have h2 : decide (ms.getD k 0 ≤ 40) = true := decide_eq_true hm.2
    rw [h1, h2]
    rfl
abbrev excC (T : Top K mg) (p : List Int × List Int) : XD := fun C fs => ∃ k : Int, flawC p.1 p.2 = .int k ∧ C = T.C_BadCounts ∧ fs = mk_BadCounts [.int k]
abbrev excS (T : Top K mg) (p : List Int × List Int) : XD := fun C fs => ∃ k : Int, flawS p.1 p.2 = .int k ∧ C = T.C_BadStand ∧ fs = mk_BadStand [.int k]
theorem one_int {H0 I H : Hp} {ws : List V} {b : Bg} {i : Int} (h : ResA K b H0 I H ws [dint i]) : ws = [.int i] := by
  cases h with
  | cons r1 r =>
    cases r
    rw [int_read r1]
theorem flawC_cases (ms cs : List Int) : flawC ms cs = .str "none" ∨ ∃ k : Int, flawC ms cs = .int k := by
  unfold flawC
  split
  · exact flaw_cases _ _
  · exact .inr ⟨_, rfl⟩
def cfault (ms cs : List Int) : PyData := match flawC ms cs with
  | .int k => .int k
  | _ => .none
theorem cfault_int {ms cs : List Int} {k : Int} (h : flawC ms cs = .int k) : cfault ms cs = .int k := by
  unfold cfault
  rw [h]
theorem cfault_no {ms cs : List Int} (h : flawC ms cs = .str "none") : cfault ms cs = .none := by
  unfold cfault
  rw [h]
theorem ok_count_fault (T : Top K mg) : FnOk P w K mg base CX0 1 T.a_count_fault T.fd_count_fault ["sizes", "counts"] (spD K aPair okPair (fun p r => r = .dat (cfault p.1 p.2)) noX) := by
  refine fn_ok T.F_count_fault sc_count_fault (fun a _ => rfl) fun cdv A outer s H E hr => ⟨_, (pss_cons (ps_if (pt_cmpR op_ne (pe_callB (k_len K) (by rfl) T.m_len PySem.boot_len (pa_cons (pv 1) pa_nil)) (pe_callB (k_len K) (by rfl) T.m_len PySem.boot_len (pa_cons (pv 0) pa_nil)) (nomark _)) (pss_one (ps_ret (pe_un un_neg pe_int))) pss_nil)
      (pss_cons (ps_for PassesOwn.never rfl (TF.pi_enumT (by rfl) T.m_enumerate (pa_cons (pv 1) pa_nil)) (pg_tup rfl (pgs_cons (pg_name (i := 2) sc_count_fault.nd rfl (by first | exact Or.inl rfl | exact Or.inr rfl)) (pgs_cons (pg_name (i := 3) sc_count_fault.nd rfl (by first | exact Or.inl rfl | exact Or.inr rfl)) pgs_nil))) (pss_one (ps_if (pt_not (pt_chain op_le op_le pe_int (pv 3) (pe_ix (k_ix_tup K) (pv 0) (pv 2) (fun _ _ => rfl)))) (pss_one (ps_ret (pv 2))) pss_nil)))
      (pss_one (ps_ret pe_non)))), fun b I p hp => ?_⟩
  obtain ⟨ms, cs⟩ := p
  have hz : Sz ms := hp.1
  have hl : cs.length ≤ 1000 := hp.2
  have l1 := hz.lo
  have l2 := hz.hi
  by_cases hc : cs.length = ms.length
  · have hf : flawC ms cs = firstBad (badC ms cs) cs.length := if_pos hc
    refine sv_skip (et_test1 ((ev_neI (ev_len (ev_var rfl) (.inr rfl)) (ev_len (ev_var rfl) (.inr rfl))).to (s := dbl false) ?_)) (sv_seq (N' := fun _ => cfault ms cs = .none) (sv_for (itd_enum1 (ea_cons1 (ev_var rfl) ea_nil)) fun ds e => ⟨fun k δ => (∃ x y, δ = [some (.dat (nums ms)), some (.dat (nums cs)), x, y]) ∧ ∀ j, j < k → badC ms cs j = false, ⟨⟨_, _, rfl⟩, fun _ z => by omega⟩, ?_, ?_⟩) fun δ' h => ?_)
    · rw [List.length_map, List.length_map, hc]
      simp
    · rintro k d δk hd ⟨⟨x, y, rfl⟩, hb⟩
      subst e
      obtain ⟨hk, rfl⟩ := enum_get hd
      have hk2 : k < ms.length := hc ▸ hk
      refine ⟨_, _, tg_pair (ltr rfl) (ltr rfl), sv_if (et_not1 (et_test1 (ev_chainI ev_int (ev_var rfl) (ev_ixT (ev_var rfl) (ev_var rfl) (by omega) (nums_at (by omega) hk2))))) (fun z => ?_) fun z => sv_nil ⟨⟨_, _, rfl⟩, fun j hj => ?_⟩⟩
      · have bad : badC ms cs k = true := by
          unfold badC
          rw [z]
          rfl
        exact sv_ret (ev_var rfl) fun r e => by
          rw [e, cfault_int (k := k) (by rw [hf]; exact firstBad_at hb bad hk)]
      · rcases Nat.lt_succ_iff_lt_or_eq.mp hj with h | h
        · exact hb j h
        · subst h
          unfold badC
          rw [z]
          rfl
    · rintro δn ⟨_, hb⟩
      subst e
      rw [enum_len] at hb
      exact cfault_no (by rw [hf]; exact firstBad_no hb)
    · exact sv_ret ev_non fun r e => by rw [e, h]
  · have hf : flawC ms cs = .int (-1) := if_neg hc
    refine sv_goes (et_test1 ((ev_neI (ev_len (ev_var rfl) (.inr rfl)) (ev_len (ev_var rfl) (.inr rfl))).to (s := dbl true) ?_)) (sv_ret (ev_un ev_int fun x e => by subst e; exact ud_U (d := .int (-1)) (fun K I => Dp.int _)) fun r e => ?_)
    · rw [List.length_map, List.length_map]
      have z : ¬ ((cs.length : Int) = (ms.length : Int)) := by omega
      simp [z]
    · rw [e]
      exact congrArg DV.dat (cfault_int hf).symm
theorem ok_look_counts (T : Top K mg) : FnOk P w K mg base (L2.CX P w) 3 T.a_look_counts T.fd_look_counts ["sizes", "counts"] (spD K aPair okPair (fun p r => flawC p.1 p.2 = .str "none" ∧ r = .dat .none) (excC T)) := by
  have G_look_sizes := ok_look_sizes (P := P) (w := w) (base := base) T
  have G_count_fault := ok_count_fault (P := P) (w := w) (base := base) T
  refine fn_okX T.F_look_counts sc_look_counts (fun a _ => rfl) fun cdv A outer s H E hr => ⟨_, (pss_cons (ps_expr (pe_call G_look_sizes (hr.mono (by omega)) (by rfl) T.g_look_sizes T.F_look_sizes.kp T.b_look_sizes .nil pass0 (pa_cons (pv 0) pa_nil)))
      (pss_cons (ps_set (i := 2) sc_look_counts.nd rfl (by first | exact Or.inl rfl | exact Or.inr rfl) (pe_call G_count_fault (hr.mono (by omega)) (by rfl) T.g_count_fault T.F_count_fault.kp T.b_count_fault .nil pass0 (pa_cons (pv 0) (pa_cons (pv 1) pa_nil))))
      (pss_one (ps_if (pt_cmpR op_notN (pv 2) pe_non (nomark _)) (pss_one (ps_raise rfl (takes_of rfl rfl rfl rfl) (pmk_oex T.o_BadCounts T.ii_BadCounts T.ti_BadCounts (init_BadCounts T) (hr.mono (by omega)) T.bi_BadCounts .nil pass0 (by rfl) T.g_BadCounts (pa_cons (pv 2) pa_nil)))) pss_nil)))), fun b I p hp xw => ?_⟩
  obtain ⟨ms, cs⟩ := p
  have hz : Sz ms := hp.1
  refine sv_seq1 (sv_expr (ev_call1 (P := fun _ => True) ms (ea_cons1 (ev_var rfl) ea_nil) hz (fun _ _ => True.intro) (noOwn_ms _)) rfl) ?_
  refine sv_seq1 (sv_set (r := .dat (cfault ms cs)) (ev_call1 (P := fun r => r = .dat (cfault ms cs)) (ms, cs) (ea_cons1 (ev_var rfl) (ea_cons1 (ev_var rfl) ea_nil)) hp (fun r h => h) (noOwn_pair _))) ?_
  rcases flawC_cases ms cs with hf | ⟨k, hf⟩
  · rw [cfault_no hf]
    exact sv_if (et_test1 ((ev_notN (d := .none) (ev_var rfl)).to (s := dbl false) rfl)) (fun z => by cases z) fun _ => sv_nil ⟨hf, rfl⟩
  · rw [cfault_int hf]
    exact sv_if (et_test1 ((ev_notN (d := .int k) (ev_var rfl)).to (s := dbl true) rfl)) (fun _ => sv_raise (rs := [dint k]) (vs := [.int k]) (ea_cons1 (ev_var rfl) ea_nil) (fun _ _ _ _ h => one_int h) rfl (by decide) xw ⟨k, hf, rfl, rfl⟩) (fun z => by cases z)
/-! ### stands -/
def freeAt (ms st : List Int) (k : Nat) : List Int := (List.range ms.length).map fun c => ms.getD c 0 - ((st.take k).count (c : Int) : Int)
theorem freeAt_len (ms st : List Int) (k : Nat) : (freeAt ms st k).length = ms.length := by
  unfold freeAt
  rw [List.length_map, List.length_range]
theorem freeAt_get {ms st : List Int} {k c : Nat} (h : c < ms.length) : (freeAt ms st k).getD c 0 = ms.getD c 0 - ((st.take k).count (c : Int) : Int) := by
  unfold freeAt
  rw [List.getD_eq_getElem?_getD, List.getElem?_map, List.getElem?_eq_getElem (show c < (List.range ms.length).length by rw [List.length_range]; exact h), List.getElem_range]
  rfl
theorem list_ext0 {xs ys : List Int} (hl : xs.length = ys.length) (h : ∀ c, c < xs.length → xs.getD c 0 = ys.getD c 0) : xs = ys := by
  refine List.ext_getElem hl fun c h1 h2 => ?_
  have := h c h1
  rw [List.getD_eq_getElem?_getD, List.getD_eq_getElem?_getD, List.getElem?_eq_getElem h1, List.getElem?_eq_getElem h2] at this
  exact this
theorem freeAt_0 (ms st : List Int) : freeAt ms st 0 = ms := list_ext0 (freeAt_len _ _ _) fun c hc => by
  rw [freeAt_len] at hc
  rw [freeAt_get hc]
  simp
theorem freeAt_out {ms st : List Int} {k : Nat} (hk : k < st.length) (h : ∀ c : Nat, c < ms.length → st.getD k 0 ≠ (c : Int)) : freeAt ms st (k + 1) = freeAt ms st k := list_ext0 (by rw [freeAt_len, freeAt_len]) fun c hc => by
  rw [freeAt_len] at hc
  rw [freeAt_get hc, freeAt_get hc, take_count hk, if_neg (h c hc)]
  simp
theorem freeAt_in {ms st : List Int} {k c : Nat} (hk : k < st.length) (hc : c < ms.length) (h : st.getD k 0 = (c : Int)) : freeAt ms st (k + 1) = (freeAt ms st k).set c ((freeAt ms st k).getD c 0 - 1) := list_ext0 (by rw [List.length_set, freeAt_len, freeAt_len]) fun j hj => by
  rw [freeAt_len] at hj
  rw [freeAt_get hj, take_count hk, h]
  by_cases z : c = j
  · subst z
    rw [List.getD_eq_getElem?_getD (l := List.set _ _ _), List.getElem?_set_self (by rw [freeAt_len]; exact hc), freeAt_get hc, if_pos rfl]
    simp
    omega
  · rw [List.getD_eq_getElem?_getD (l := List.set _ _ _), List.getElem?_set_ne z, ← List.getD_eq_getElem?_getD, freeAt_get hj, if_neg (by omega)]
    simp
theorem ok_look_stand (T : Top K mg) : FnOk P w K mg base (L2.CX P w) 3 T.a_look_stand T.fd_look_stand ["sizes", "stand"] (spD K aPair okPair (fun p r => flawS p.1 p.2 = .str "none" ∧ r = .dat .none) (excS T)) := by
  have G_look_sizes := ok_look_sizes (P := P) (w := w) (base := base) T
  refine fn_okX T.F_look_stand sc_look_stand (fun a _ => rfl) fun cdv A outer s H E hr => ⟨_, (pss_cons (ps_expr (pe_call G_look_sizes (hr.mono (by omega)) (by rfl) T.g_look_sizes T.F_look_sizes.kp T.b_look_sizes .nil pass0 (pa_cons (pv 0) pa_nil)))
      (pss_cons (ps_if (pt_cmpR op_gt (pe_callB (k_len K) (by rfl) T.m_len PySem.boot_len (pa_cons (pv 1) pa_nil)) (C8.pe_gc (by rfl) (gc_int T.c_MOST_DROPS)) (nomark _)) (pss_one (ps_raise rfl (takes_of rfl rfl rfl rfl) (pmk_oex T.o_BadStand T.ii_BadStand T.ti_BadStand (init_BadStand T) (hr.mono (by omega)) T.bi_BadStand .nil pass0 (by rfl) T.g_BadStand (pa_cons (pe_un un_neg pe_int) pa_nil)))) pss_nil)
      (pss_cons (ps_set (i := 2) sc_look_stand.nd rfl (by first | exact Or.inl rfl | exact Or.inr rfl) (pe_callTy (k_list K) (by rfl) T.m_list (by decide +kernel) (pa_cons (pv 0) pa_nil)))
      (pss_one (ps_for (passes_of rfl) rfl (TF.pi_enumT (by rfl) T.m_enumerate (pa_cons (pv 1) pa_nil)) (pg_tup rfl (pgs_cons (pg_name (i := 3) sc_look_stand.nd rfl (by first | exact Or.inl rfl | exact Or.inr rfl)) (pgs_cons (pg_name (i := 4) sc_look_stand.nd rfl (by first | exact Or.inl rfl | exact Or.inr rfl)) pgs_nil))) (pss_cons (ps_if (pt_cmpR op_eq (pv 4) (C8.pe_gc (by rfl) (gc_int T.c_GONE)) (nomark _)) (pss_one ps_continue) pss_nil)
      (pss_cons (ps_if (PW.pt (pw_or (pt_not (pt_chain op_le op_lt pe_int (pv 4) (pe_callB (k_len K) (by rfl) T.m_len PySem.boot_len (pa_cons (pv 0) pa_nil)))) (pw_or1 (pt_cmpR op_eq (pe_ix (k_ix_list K) (pv 2) (pv 4) (fun _ _ => rfl)) pe_int (nomark _))))) (pss_one (ps_raise rfl (takes_of rfl rfl rfl rfl) (pmk_oex T.o_BadStand T.ii_BadStand T.ti_BadStand (init_BadStand T) (hr.mono (by omega)) T.bi_BadStand .nil pass0 (by rfl) T.g_BadStand (pa_cons (pv 3) pa_nil)))) pss_nil)
      (pss_one (ps_augS (pv 2) (pv 4) (k_get K) pe_int ip_sub set_list))))))))), fun b I p hp xw => ?_⟩
  obtain ⟨ms, st⟩ := p
  have hz : Sz ms := hp.1
  have hl : st.length ≤ 1000 := hp.2
  refine sv_seq1 (sv_expr (ev_call1 (P := fun _ => True) ms (ea_cons1 (ev_var rfl) ea_nil) hz (fun _ _ => True.intro) (noOwn_ms _)) rfl) ?_
  by_cases hc : 60 < st.length
  · have hf : flawS ms st = .int (-1) := if_pos hc
    refine sv_goes (et_test1 ((ev_cmp (ev_len (ev_var rfl) (.inr rfl)) ev_int).to (s := dbl true) ?_)) ?_
    · rw [List.length_map]
      have z : decide ((st.length : Int) > 60) = true := decide_eq_true (by omega)
      rw [z]
    · exact sv_raise (rs := [dint (-1)]) (vs := [.int (-1)]) (ea_cons1 (ev_un ev_int fun x e => by subst e; exact ud_U (fun K I => Dp.int _)) ea_nil) (fun _ _ _ _ h => one_int h) rfl (by decide) xw ⟨-1, hf, rfl, rfl⟩
  · have hf : flawS ms st = firstBad (badS ms st) st.length := if_neg hc
    refine sv_skip (et_test1 ((ev_cmp (ev_len (ev_var rfl) (.inr rfl)) ev_int).to (s := dbl false) ?_)) ?_
    · rw [List.length_map]
      have z : decide ((st.length : Int) > 60) = false := decide_eq_false (by omega)
      rw [z]
    refine sv_seq1 (sv_set (r := .own ((freeAt ms st 0).map .int)) (ev_cb (ea_cons1 (ev_var rfl) ea_nil) fun rs e => by
      subst e
      rw [freeAt_0]
      exact cb_listT)) ?_
    refine sv_for (itd_enum1 (ea_cons1 (ev_var rfl) ea_nil)) fun ds e => ⟨fun k δ => (∃ x y, δ = [some (.dat (nums ms)), some (.dat (nums st)), some (.own ((freeAt ms st k).map .int)), x, y]) ∧ (∀ j, j < k → badS ms st j = false) ∧ ∀ c : Nat, c < ms.length → ((st.take k).count (c : Int) : Int) ≤ ms.getD c 0, ⟨⟨_, _, rfl⟩, fun _ z => by omega, fun c hc' => ?_⟩, ?_, ?_⟩
    · have := (hz.at_ hc').1
      rw [List.take_zero, List.count_nil]
      omega
    · rintro k d δk hd ⟨⟨x, y, rfl⟩, hb, hcn⟩
      subst e
      obtain ⟨hk', rfl⟩ := enum_get hd
      have hk : k < st.length := hk'
      refine ⟨_, _, tg_pair (ltr rfl) (ltr rfl), ?_⟩
      have next : badS ms st k = false → ∀ j, j < k + 1 → badS ms st j = false := fun z j hj => by
        rcases Nat.lt_succ_iff_lt_or_eq.mp hj with h | h
        · exact hb j h
        · rw [h]; exact z
      have raised : badS ms st k = true → excS T (ms, st) T.C_BadStand (mk_BadStand [.int (k : Int)]) := fun z => ⟨k, by show flawS ms st = _; rw [hf]; exact firstBad_at hb z hk, rfl, rfl⟩
      by_cases hg : st.getD k 0 = -1
      · refine sv_goes (et_test1 ((ev_eqI (ev_var rfl) ev_int).to (s := dbl true) (by rw [hg]; rfl))) (sv_cont ⟨⟨some (dint k), some (dint (st.getD k 0)), ?_⟩, next ?_, fun c hc' => ?_⟩)
        · rw [freeAt_out hk (fun c _ => by omega)]
          rfl
        · unfold badS
          rw [hg]
          have z : decide ((-1 : Int) < (ms.length : Int)) = true := decide_eq_true (by omega)
          rw [z]
          rfl
        · rw [take_count hk, if_neg (by omega)]
          have := hcn c hc'
          omega
      refine sv_skip (et_test1 ((ev_eqI (ev_var rfl) ev_int).to (s := dbl false) (by rw [decide_eq_false hg]))) ?_
      by_cases hin : 0 ≤ st.getD k 0 ∧ st.getD k 0 < (ms.length : Int)
      · obtain ⟨c, ec⟩ := Int.eq_ofNat_of_zero_le hin.1
        have hcl : c < ms.length := by omega
        have t1 : EvT K b I H (tNot (tTest (tChain (rI0 fun i j => .bl (decide (i ≤ j))) (rI0 fun i j => .bl (decide (i < j))) (tC (.int 0)) (tVar 4) (tCB (fun xs H Q => ∃ p ys, xs = [.ref p] ∧ (SqL K H p ys ∨ SqT K H p ys) ∧ Q (.int ys.length) H) (tCons (tVar 0) tNil))))) [some (.dat (nums ms)), some (.dat (nums st)), some (.own ((freeAt ms st k).map .int)), some (dint k), some (dint (st.getD k 0))] (fun x => x = false) := by
          refine et_not1 (et_test1 ((ev_chainI ev_int (ev_var rfl) (ev_len (ev_var rfl) (.inr rfl))).to (s := dbl true) ?_))
          rw [List.length_map, decide_eq_true hin.1, decide_eq_true hin.2]
          rfl
        have fg : ((freeAt ms st k).map PyData.int)[(st.getD k 0).toNat]? = some (.int (ms.getD c 0 - ((st.take k).count (c : Int) : Int))) := by
          rw [nums_at hin.1 (by rw [freeAt_len]; omega), show (st.getD k 0).toNat = c by omega, freeAt_get hcl]
        have t2 : EvT K b I H (tTest (tOp rEq (tOp (rIxL K) (tVar 2) (tVar 4)) (tC (.int 0)))) [some (.dat (nums ms)), some (.dat (nums st)), some (.own ((freeAt ms st k).map .int)), some (dint k), some (dint (st.getD k 0))] (fun x => x = decide (ms.getD c 0 - ((st.take k).count (c : Int) : Int) = 0)) :=
          et_test1 (ev_eqI (ev_ixL (ev_varB rfl) (.inr (.inl rfl)) (ev_var rfl) hin.1 fg) ev_int)
        have cnt := hcn c hcl
        have bd : badS ms st k = decide (ms.getD c 0 ≤ ((st.take k).count (c : Int) : Int)) := by
          unfold badS
          rw [show (st.getD k 0).toNat = c by omega, decide_eq_true hin.1, decide_eq_true hin.2, decide_eq_true (show (-1 : Int) ≤ st.getD k 0 by omega), ec]
          simp
        by_cases hfull : ms.getD c 0 - ((st.take k).count (c : Int) : Int) = 0
        · refine sv_goes ((et_or1 t1 fun _ => t2).mono fun x e => ?_) ?_
          · rw [e, decide_eq_true hfull]
            rfl
          · exact sv_raise (rs := [dint k]) (vs := [.int k]) (ea_cons1 (ev_var rfl) ea_nil) (fun _ _ _ _ h => one_int h) rfl (by decide) xw (raised (by rw [bd]; exact decide_eq_true (by omega)))
        · refine sv_skip ((et_or1 t1 fun _ => t2).mono fun x e => ?_) ?_
          · rw [e, decide_eq_false hfull]
            rfl
          · refine sv_augS (i := 2) rfl rfl hin.1 fg (ev_var rfl) ev_int ⟨⟨some (dint k), some (dint (st.getD k 0)), ?_⟩, next (by rw [bd]; exact decide_eq_false (by omega)), fun c' hc' => ?_⟩
            · rw [freeAt_in hk hcl ec, freeAt_get hcl, List.map_set, show (st.getD k 0).toNat = c by omega]
              rfl
            · rw [take_count hk, ec]
              have := hcn c' hc'
              by_cases z : (c : Int) = (c' : Int)
              · have z2 : c = c' := by omega
                subst z2
                rw [if_pos rfl]
                omega
              · rw [if_neg z]
                omega
      · refine sv_goes ((et_or1 (x := true) (y := true) ((et_not1 (et_test1 (ev_chainI ev_int (ev_var rfl) (ev_len (ev_var rfl) (.inr rfl))))).mono fun x e => ?_) fun z => by cases z).mono fun x e => by rw [e]; rfl) ?_
        · rw [e, List.length_map]
          by_cases h0 : 0 ≤ st.getD k 0
          · have h1 : ¬ st.getD k 0 < (ms.length : Int) := fun z => hin ⟨h0, z⟩
            rw [decide_eq_false h1, Bool.and_false]
            rfl
          · rw [decide_eq_false h0]
            rfl
        · refine sv_raise (rs := [dint k]) (vs := [.int k]) (ea_cons1 (ev_var rfl) ea_nil) (fun _ _ _ _ h => one_int h) rfl (by decide) xw (raised ?_)
          unfold badS
          by_cases h0 : 0 ≤ st.getD k 0
          · have h1 : ¬ st.getD k 0 < (ms.length : Int) := fun z => hin ⟨h0, z⟩
            rw [decide_eq_false h1, Bool.and_false]
            rfl
          · have h1 : ¬ (-1 ≤ st.getD k 0) := fun z => hg (by omega)
            rw [decide_eq_false h1]
            rfl
    · rintro δn ⟨_, hb, _⟩
      subst e
      rw [enum_len] at hb
      exact ⟨by show flawS ms st = _; rw [hf]; exact firstBad_no hb, rfl⟩
def countsOf (ms st : List Int) : List Int := (List.range ms.length).map fun (c : Nat) => (st.count (c : Int) : Int)
theorem ok_counts_of (T : Top K mg) : FnOk P w K mg base (L2.CX P w) 4 T.a_counts_of T.fd_counts_of ["sizes", "stand"] (spD K aPair okPair (fun p r => flawS p.1 p.2 = .str "none" ∧ r = .dat (nums (countsOf p.1 p.2))) (excS T)) := by
  have G_look_stand := ok_look_stand (P := P) (w := w) (base := base) T
  refine fn_okX T.F_counts_of sc_counts_of (fun a _ => rfl) fun cdv A outer s H E hr => ⟨_, (pss_cons (ps_expr (pe_call G_look_stand (hr.mono (by omega)) (by rfl) T.g_look_stand T.F_look_stand.kp T.b_look_stand .nil passX (pa_cons (pv 0) (pa_cons (pv 1) pa_nil))))
      (pss_one (ps_ret (pe_callTy (k_tuple K) (by rfl) T.m_tuple (by decide +kernel) (pa_cons (pe_lc (own := [("cask", 2)]) (g := gName 2) (tt := tYes) rfl sc_counts_of.nd (pi_range1 (by rfl) T.m_range (pa_cons (pe_callB (k_len K) (by rfl) T.m_len PySem.boot_len (pa_cons (pv 0) pa_nil)) pa_nil)) (blkOk_by (own := [("cask", 2)]) (N := N_counts_of) (sc := defScope s_counts_of) (by decide +kernel)) (fun _ _ _ _ _ => (pg_name (i := 2) sc_counts_of.nd rfl (by first | exact Or.inl rfl | exact Or.inr rfl))) (fun _ _ _ _ _ => pts_nil) (fun _ _ _ _ _ => (k_count K (pv 1) (pv 2)))) pa_nil))))), fun b I p hp xw => ?_⟩
  obtain ⟨ms, st⟩ := p
  have hz : Sz ms := hp.1
  have l2 := hz.hi
  by_cases hfl : flawS ms st = .str "none"
  · refine sv_seq1 (sv_expr (ev_callX1 (P := fun _ => True) xw (ms, st) (ea_cons1 (ev_var rfl) (ea_cons1 (ev_var rfl) ea_nil)) hp (noOwn_pair _) (fun _ _ => True.intro) fun _ _ h => h) rfl) ?_
    refine sv_ret (ev_tupleOf1 (ev_lcM (l := List.range ms.length) (f := fun c => .int (st.count (c : Int) : Nat)) (itd_rngN (n := ms.length) (ea_cons1 ((ev_len (ev_var rfl) (.inr rfl)).to (by rw [List.length_map])) ea_nil) (by omega)) (hv1 rfl) (by decide) (by rw [List.length_range]; omega) (fun x => tg_name (ltr rfl)) fun c hc => ?_)) fun r e => ⟨hfl, ?_⟩
    · exact (ev_count T.kt (ev_var rfl) (ev_var rfl)).to (by rw [Int.zero_add])
    · rw [e]
      simp only [countsOf, nums, List.map_map]
      rfl
  · refine sv_seq (N' := fun _ => False) (fun σ I1 H1 e n D a1 a2 a3 a4 => ?_) fun _ z => z.elim
    exact ev_callX1 (P := fun _ => False) xw (ms, st) (ea_cons1 (ev_var rfl) (ea_cons1 (ev_var rfl) ea_nil)) hp (noOwn_pair _) (fun _ z => hfl z.1) (fun _ _ h => h) σ I1 H1 e n _ fun _ _ _ _ z => z.elim
theorem ok_room (T : Top K mg) : FnOk P w K mg base (L2.CX P w) 4 T.a_room T.fd_room ["sizes", "counts"] (spD K aPair okPair (fun p r => flawC p.1 p.2 = .str "none" ∧ r = .dat (nums ((p.1.zip p.2).map fun q => q.1 - q.2))) (excC T)) := by
  have G_look_counts := ok_look_counts (P := P) (w := w) (base := base) T
  refine fn_okX T.F_room sc_room (fun a _ => rfl) fun cdv A outer s H E hr => ⟨_, (pss_cons (ps_expr (pe_call G_look_counts (hr.mono (by omega)) (by rfl) T.g_look_counts T.F_look_counts.kp T.b_look_counts .nil passX (pa_cons (pv 0) (pa_cons (pv 1) pa_nil))))
      (pss_one (ps_ret (pe_callTy (k_tuple K) (by rfl) T.m_tuple (by decide +kernel) (pa_cons (pe_lc (own := [("size", 2), ("many", 3)]) (g := gTup K 2 (gCons (gName 2) (gCons (gName 3) gNil))) (tt := tYes) rfl sc_room.nd (RZ.pi_zipA (by rfl) T.m_zip (pa_cons (pv 0) (pa_cons (pv 1) pa_nil))) (blkOk_by (own := [("size", 2), ("many", 3)]) (N := N_room) (sc := defScope s_room) (by decide +kernel)) (fun _ _ _ _ _ => (pg_tup rfl (pgs_cons (pg_name (i := 2) sc_room.nd rfl (by first | exact Or.inl rfl | exact Or.inr rfl)) (pgs_cons (pg_name (i := 3) sc_room.nd rfl (by first | exact Or.inl rfl | exact Or.inr rfl)) pgs_nil)))) (fun _ _ _ _ _ => pts_nil) (fun _ _ _ _ _ => (pe_op op_sub (pv 2) (pv 3)))) pa_nil))))), fun b I p hp xw => ?_⟩
  obtain ⟨ms, st⟩ := p
  have hz : Sz ms := hp.1
  have l2 := hz.hi
  by_cases hfl : flawC ms st = .str "none"
  · refine sv_seq1 (sv_expr (ev_callX1 (P := fun _ => True) xw (ms, st) (ea_cons1 (ev_var rfl) (ea_cons1 (ev_var rfl) ea_nil)) hp (noOwn_pair _) (fun _ _ => True.intro) fun _ _ h => h) rfl) ?_
    refine sv_ret (ev_tupleOf1 (ev_lcM (l := ms.zip st) (f := fun q => .int (q.1 - q.2)) ((itd_zip1 (ea_cons1 (ev_var rfl) (ea_cons1 (ev_var rfl) ea_nil))).mono fun x e => e.trans (zip_nums _ _)) (hv2 rfl rfl) (by decide) (by rw [List.length_zip]; omega) (fun x => tg_pair (ltr rfl) (ltr rfl)) fun x hx => ev_i2 (ev_var rfl) (ev_var rfl))) fun r e => ⟨hfl, ?_⟩
    rw [e]
    simp only [nums, List.map_map]
    rfl
  · refine sv_seq (N' := fun _ => False) (fun σ I1 H1 e n D a1 a2 a3 a4 => ?_) fun _ z => z.elim
    exact ev_callX1 (P := fun _ => False) xw (ms, st) (ea_cons1 (ev_var rfl) (ea_cons1 (ev_var rfl) ea_nil)) hp (noOwn_pair _) (fun _ z => hfl z.1) (fun _ _ h => h) σ I1 H1 e n _ fun _ _ _ _ z => z.elim
/-! ### the law's draws -/
theorem ok_law_take (T : Top K mg) : FnOk P w K mg base CX0 1 T.a_law_take T.fd_law_take ["_law_bag", "_law_sides"] (spD K aTake okTake outTake noX) := by
  refine T.F_law_take.ok sc_law_take (fun vs H Q E h => ?_) (fun cdv A outer s H vs Q E hr h => ?_)
  · obtain ⟨n, b, I, _, r, _⟩ := h
    rw [resA_len r]
    rfl
  · obtain ⟨n, ⟨b, bT⟩, I, k, r, hn, qq, _⟩ := h
    cases r with
    | cons r1 r =>
      cases r with
      | cons r2 r =>
        cases r
        have e2 := int_read r2
        subst e2
        have e1 : _ = V.ref b := r1
        subst e1
        obtain ⟨ib, ipl, itb, l, ns, p, q, m, c, hb, hl, hp, hq, hm, hm2⟩ := k.b
        have sl : SqL K H l (ns.map V.int) := sl_mono k.s hl
        have fin : ∀ i H', 0 ≤ i → i < n → Ext K ⟨b, bT⟩ I H I H' → Q (.int i) H' := fun i H' h0 h1 e => qq _ _ I H' ⟨i, rfl, h0, h1⟩ e (Dp.int i)
        have n0 := hn.1
        have nd : ∀ i : Int, CDivW i n := fun i => wide_div (b := 1040) n0 (by
          have h1 : n.natAbs < 10000000000000000000000000000000000000000000000000000000000000000000000000000000000000000000000000000000000000000000000000000000000000000000000000000000000000000000000000000000000000000000000000000000000000000000000000000000000000000000000000000000000000000000000000000000000000000000000000000000000000000000000 := by
            have := hn.2
            omega
          exact Nat.lt_trans h1 (by decide +kernel)) (by decide) (by decide)
        refine ⟨_, (C8.pss_cut (ps_if (PW.pt (pw_and (pt_cmpR op_lt (pe_ix (k_ix_list K) (pv 0) pe_int (fun _ _ => rfl)) (pv 1) (nomark _)) (pw_and1 (pt_cmpR op_lt (pe_ix (k_ix_list K) (pv 0) pe_int (fun _ _ => rfl)) (pe_callB (k_len K) (by rfl) T.m_len PySem.boot_len (pa_cons (pe_ix (k_ix_list K) (pv 0) pe_int (fun _ _ => rfl)) pa_nil)) (nomark _))))) (pss_cons (ps_set (i := 2) sc_law_take.nd rfl (by first | exact Or.inl rfl | exact Or.inr rfl) (pe_ix (k_ix_seq K) (pe_ix (k_ix_list K) (pv 0) pe_int (fun _ _ => rfl)) (pe_ix (k_ix_list K) (pv 0) pe_int (fun _ _ => rfl)) (fun _ _ => rfl)))
      (pss_cons (ps_asg (pe_op op_add (pe_ix (k_ix_list K) (pv 0) pe_int (fun _ _ => rfl)) pe_int) (pg_sub (pv 0) pe_int set_list))
      (pss_cons (ps_asg pe_int (pg_sub (pv 0) pe_int set_list))
      (pss_one (ps_if (pt_cmpR op_ge (pv 2) (pe_op op_pow pe_int pe_int) (nomark _)) (pss_one (ps_asg (pv 2) (pg_sub (pv 0) pe_int set_list))) (pss_one (ps_asg (pe_op op_mod (pe_op op_add (pe_op op_add (pe_op op_mul (pe_ix (k_ix_list K) (pv 0) pe_int (fun _ _ => rfl)) pe_int) (pe_op op_mul (pe_op op_mod (pv 2) pe_int) pe_int)) pe_int) pe_int) (pg_sub (pv 0) pe_int set_list)))))))) pss_nil)
      (pss_cons (ps_if (pt_cmpR op_ge (pe_ix (k_ix_list K) (pv 0) pe_int (fun _ _ => rfl)) (pv 1) (nomark _)) (pss_cons (ps_set (i := 3) sc_law_take.nd rfl (by first | exact Or.inl rfl | exact Or.inr rfl) (pe_op op_mod (pe_ix (k_ix_list K) (pv 0) pe_int (fun _ _ => rfl)) (pv 1)))
      (pss_cons (ps_asg (pe_op op_fdivW (pe_ix (k_ix_list K) (pv 0) pe_int (fun _ _ => rfl)) (pv 1)) (pg_sub (pv 0) pe_int set_list))
      (pss_one (ps_ret (pv 3))))) pss_nil)
      (pss_cons (ps_asg (pe_op op_add (pe_ix (k_ix_list K) (pv 0) pe_int (fun _ _ => rfl)) pe_int) (pg_sub (pv 0) pe_int set_list))
      (pss_cons (ps_set (i := 4) sc_law_take.nd rfl (by first | exact Or.inl rfl | exact Or.inr rfl) (pe_ix (k_ix_list K) (pv 0) pe_int (fun _ _ => rfl)))
      (pss_cons (ps_asg (pe_op op_mod (pe_op op_add (pe_op op_add (pe_op op_add (pe_op op_mul (pe_op op_mod (pe_op op_mul (pv 4) (pv 4)) pe_int) pe_int) (pe_op op_mul (pv 4) pe_int)) (pe_op op_mul pe_int (pe_ix (k_ix_list K) (pv 0) pe_int (fun _ _ => rfl)))) pe_int) pe_int) (pg_sub (pv 0) pe_int set_list))
      (pss_one (ps_ret (pe_op op_mod (pe_op op_add (pe_op op_fdivW (pe_ix (k_ix_list K) (pv 0) pe_int (fun _ _ => rfl)) pe_int) (pe_op op_mul (pe_op op_mod (pe_ix (k_ix_list K) (pv 0) pe_int (fun _ _ => rfl)) pe_int) pe_int)) (pv 1))))))))), ?_⟩
        refine ⟨fun σ' H' => ∃ x2 p q m, σ' = [some (.ref b), some (.int n), x2, none, none] ∧ Ext K ⟨b, bT⟩ I H I H' ∧ H' b = some (.lst [.ref l, .int p, .int q, .int m, .int c]) ∧ 0 ≤ p ∧ 0 ≤ q ∧ 0 ≤ m ∧ m < 2147483647, ?_, ?_⟩
        · refine ⟨.ref b, rfl, b, _, 2, .int q, rfl, rfl, .inl (.inl hb), rfl, .int n, rfl, q, n, rfl, rfl, _, rfl, ite2 (fun h1 => ?_) (fun h1 => ?_)⟩
          · refine ⟨.ref b, rfl, b, _, 1, .int p, rfl, rfl, .inl (.inl hb), rfl, .ref b, rfl, b, _, 0, .ref l, rfl, rfl, .inl (.inl hb), rfl, l, _, rfl, .inl sl, p, _, rfl, rfl, _, rfl, ite2 (fun h2 => ?_) (fun h2 => ?_)⟩
            · have h2' : p < (ns.map V.int).length := of_decide_eq_true h2
              rw [List.length_map] at h2'
              have hpn : p.toNat < ns.length := by omega
              have gz : (ns.map V.int)[p.toNat]? = some (.int ns[p.toNat]) := by
                rw [List.getElem?_map, List.getElem?_eq_getElem hpn]
                rfl
              generalize ns[p.toNat] = z at gz
              have hb1 : upd H b (.lst [.ref l, .int (p + 1), .int q, .int m, .int c]) b = some (.lst [.ref l, .int (p + 1), .int q, .int m, .int c]) := upd_same
              have hb2 : upd (upd H b (.lst [.ref l, .int (p + 1), .int q, .int m, .int c])) b (.lst [.ref l, .int (p + 1), .int 0, .int m, .int c]) b = some (.lst [.ref l, .int (p + 1), .int 0, .int m, .int c]) := upd_same
              refine ⟨.ref b, rfl, b, _, 0, .ref l, rfl, rfl, .inl (.inl hb), rfl, .ref b, rfl, b, _, 1, .int p, rfl, rfl, .inl (.inl hb), rfl, .inl ⟨l, _, p, .int z, rfl, rfl, sl, at_of (j := p.toNat) (by omega) gz, ?_⟩⟩
              refine ⟨.ref b, rfl, b, _, 1, .int p, rfl, rfl, .inl (.inl hb), rfl, p, 1, rfl, rfl, .ref b, rfl, b, _, 1, 1, rfl, rfl, hb, rfl, ?_⟩
              refine ⟨.ref b, rfl, b, _, 2, 2, rfl, rfl, hb1, rfl, ?_⟩
              refine ⟨.int z, rfl, 10, 18, rfl, rfl, ⟨by decide, by decide, by decide⟩, z, _, rfl, rfl, _, rfl, ite2 (fun h3 => ?_) (fun h3 => ?_)⟩
              · have hz : (10 : Int) ^ (18 : Int).toNat ≤ z := of_decide_eq_true h3
                have hz0 : 0 ≤ z := Int.le_trans (by decide) hz
                refine ⟨.int z, rfl, .ref b, rfl, b, _, 2, 2, rfl, rfl, hb2, rfl, ?_⟩
                refine ⟨some (.int z), p + 1, z, m, rfl, ?_, upd_same, by omega, hz0, hm, hm2⟩
                rw [upd_upd, upd_upd]
                exact Ext.bag k ⟨_, hb⟩ hl (by omega) hz0 hm hm2
              · refine ⟨.ref b, rfl, b, _, 3, .int m, rfl, rfl, .inl (.inl hb2), rfl, m, 48271, rfl, rfl, .inl ⟨by omega, by omega⟩, .int z, rfl, z, 2147483629, rfl, rfl, (show (0 : Int) < 2147483629 by decide), _, 69621, rfl, rfl, .inl ⟨by omega, by omega⟩, _, _, rfl, rfl, _, 12345, rfl, rfl, _, 2147483647, rfl, rfl, (show (0 : Int) < 2147483647 by decide), .ref b, rfl, b, _, 3, 3, rfl, rfl, hb2, rfl, ?_⟩
                refine ⟨some (.int z), p + 1, 0, _, rfl, ?_, upd_same, by omega, by omega, Int.emod_nonneg _ (by decide), Int.emod_lt_of_pos _ (by decide)⟩
                rw [upd_upd, upd_upd]
                exact Ext.bag k ⟨_, hb⟩ hl (by omega) (by omega) (Int.emod_nonneg _ (by decide)) (Int.emod_lt_of_pos _ (by decide))
            · exact ⟨none, p, q, m, rfl, k.re, hb, hp, hq, hm, hm2⟩
          · exact iteF ⟨none, p, q, m, rfl, k.re, hb, hp, hq, hm, hm2⟩
        · rintro σ' H' ⟨x2, p, q, m, rfl, e, hb, hp, hq, hm, hm2⟩
          refine ⟨.ref b, rfl, b, _, 2, .int q, rfl, rfl, .inl (.inl hb), rfl, .int n, rfl, q, n, rfl, rfl, _, rfl, ite2 (fun h1 => ?_) (fun h1 => ?_)⟩
          · refine ⟨.ref b, rfl, b, _, 2, .int q, rfl, rfl, .inl (.inl hb), rfl, .int n, rfl, q, n, rfl, rfl, n0, ?_⟩
            refine ⟨.ref b, rfl, b, _, 2, .int q, rfl, rfl, .inl (.inl hb), rfl, .int n, rfl, q, n, rfl, rfl, nd q, .ref b, rfl, b, _, 2, 2, rfl, rfl, hb, rfl, ?_⟩
            exact ⟨_, rfl, fin _ _ (Int.emod_nonneg _ (by omega)) (Int.emod_lt_of_pos _ n0) (e.trans (Ext.bag e.ok ⟨_, hb⟩ hl hp (Int.ediv_nonneg hq (by omega)) hm hm2))⟩
          · have hb1 : upd H' b (.lst [.ref l, .int p, .int q, .int m, .int (c + 1)]) b = some (.lst [.ref l, .int p, .int q, .int m, .int (c + 1)]) := upd_same
            refine ⟨.ref b, rfl, b, _, 4, .int c, rfl, rfl, .inl (.inl hb), rfl, c, 1, rfl, rfl, .ref b, rfl, b, _, 4, 4, rfl, rfl, hb, rfl, ?_⟩
            refine ⟨.ref b, rfl, b, _, 3, .int m, rfl, rfl, .inl (.inl hb1), rfl, ?_⟩
            refine ⟨.int m, rfl, .int m, rfl, m, m, rfl, rfl, .inl ⟨by omega, by omega⟩, _, 2147483629, rfl, rfl, (show (0 : Int) < 2147483629 by decide), _, 5, rfl, rfl, .inl ⟨by omega, by omega⟩, .int m, rfl, m, 16811, rfl, rfl, .inl ⟨by omega, by omega⟩, _, _, rfl, rfl, .ref b, rfl, b, _, 4, .int (c + 1), rfl, rfl, .inl (.inl hb1), rfl, 7919, c + 1, rfl, rfl, .inl ⟨by decide, by decide⟩, _, _, rfl, rfl, _, 2531011, rfl, rfl, _, 2147483647, rfl, rfl, (show (0 : Int) < 2147483647 by decide), .ref b, rfl, b, _, 3, 3, rfl, rfl, hb1, rfl, ?_⟩
            have m0 : 0 ≤ ((m * m % 2147483629 * 5 + m * 16811 + 7919 * (c + 1) + 2531011) % 2147483647) := Int.emod_nonneg _ (by decide)
            have m1 : ((m * m % 2147483629 * 5 + m * 16811 + 7919 * (c + 1) + 2531011) % 2147483647) < 2147483647 := Int.emod_lt_of_pos _ (by decide)
            have hb3 : upd (upd H' b (.lst [.ref l, .int p, .int q, .int m, .int (c + 1)])) b (.lst [.ref l, .int p, .int q, .int ((m * m % 2147483629 * 5 + m * 16811 + 7919 * (c + 1) + 2531011) % 2147483647), .int (c + 1)]) b = some (.lst [.ref l, .int p, .int q, .int ((m * m % 2147483629 * 5 + m * 16811 + 7919 * (c + 1) + 2531011) % 2147483647), .int (c + 1)]) := upd_same
            have ee : Ext K ⟨b, bT⟩ I H I (upd (upd H' b (.lst [.ref l, .int p, .int q, .int m, .int (c + 1)])) b (.lst [.ref l, .int p, .int q, .int ((m * m % 2147483629 * 5 + m * 16811 + 7919 * (c + 1) + 2531011) % 2147483647), .int (c + 1)])) := by
              rw [upd_upd]
              exact e.trans (Ext.bag e.ok ⟨_, hb⟩ hl hp hq m0 m1)
            refine ⟨.ref b, rfl, b, _, 3, .int ((m * m % 2147483629 * 5 + m * 16811 + 7919 * (c + 1) + 2531011) % 2147483647), rfl, rfl, .inl (.inl hb3), rfl, _, 61, rfl, rfl, wide_div (b := 10) (by decide) (by decide) (by decide) (by decide), .ref b, rfl, b, _, 3, .int ((m * m % 2147483629 * 5 + m * 16811 + 7919 * (c + 1) + 2531011) % 2147483647), rfl, rfl, .inl (.inl hb3), rfl, _, 8191, rfl, rfl, (show (0 : Int) < 8191 by decide), _, 31, rfl, rfl, .inl ⟨by omega, by omega⟩, _, _, rfl, rfl, .int n, rfl, _, n, rfl, rfl, n0, ?_⟩
            exact fin _ _ (Int.emod_nonneg _ (by omega)) (Int.emod_lt_of_pos _ n0) ee
theorem ok_law_pick (T : Top K mg) : FnOk P w K mg base CX0 2 T.a_law_pick T.fd_law_pick ["_law_bag", "_law_row"] (spD K aPick okPick outPick noX) := by
  have G_law_take := ok_law_take (P := P) (w := w) (base := base) T
  refine fn_ok T.F_law_pick sc_law_pick (fun a _ => rfl) fun cdv A outer s H E hr => ⟨_, (pss_one (ps_ret (pe_ix (k_ix_list K) (pv 1) (pe_call G_law_take (hr.mono (by omega)) (by rfl) T.g_law_take T.F_law_take.kp T.b_law_take .nil pass0 (pa_cons (pv 0) (pa_cons (pe_callB (k_len K) (by rfl) T.m_len PySem.boot_len (pa_cons (pv 1) pa_nil)) pa_nil))) (fun _ _ => rfl)))), fun b I ds hp => ?_⟩
  refine sv_ret (ev_op (ev_var rfl) (ev_call1 (P := fun r => ∃ i, r = dint i ∧ 0 ≤ i ∧ i < (ds.length : Int)) (ds.length : Int) (ea_cons1 (ev_var rfl) (ea_cons1 (ev_len (ev_var rfl) (.inl (.inr (.inr rfl)))) ea_nil)) ⟨by have := hp.1; omega, by have := hp.2; omega⟩ (fun r h => h) (noOwn_cons (fun _ z => by cases z) (noOwn_cons (fun _ z => by cases z) noOwn_nil))) fun x y e ⟨i, f, h0, h1⟩ => ?_) fun r e => e
  subst e f
  have hi : i.toNat < ds.length := by omega
  exact ixL_ (.inr (.inr rfl)) h0 (List.getElem?_eq_getElem hi) ⟨_, List.getElem_mem hi, rfl⟩
abbrev aSame (d : PyData) : List DV := [.dat d, .dat d]
theorem noOwn_same (d : PyData) : NoOwn (aSame d) := noOwn_cons (fun _ z => by cases z) (noOwn_cons (fun _ z => by cases z) noOwn_nil)
theorem same_all {b : Bg} {I0 H0 : Hp} {d : PyData} {ds : List PyData} {n : Nat} {E : XK} (hd : d = .list ds ∨ d = .tuple ds) (hl : ds.length ≤ 100000) (hf : ∀ x ∈ ds, Flat n x) :
    EvD K b I0 H0 (tCB (rAll K) (tCons (tLc (iRng1 (tCons (tCB (fun xs H Q => ∃ p ys, xs = [.ref p] ∧ (SqL K H p ys ∨ SqT K H p ys) ∧ Q (.int ys.length) H) (tCons (tVar 1) tNil)) tNil)) (gName 2) tYes
      (tCall (spD K aSame (Flat n) (fun _ r => r = dbl true) noX) [] E (tCons (tOp (rIx K) (tVar 0) (tVar 2)) (tCons (tOp (rIx K) (tVar 1) (tVar 2)) tNil))) [2]) tNil)) [some (.dat d), some (.dat d), none] (fun r => r = dbl true) :=
  ev_cb (ea_cons1 (ev_lcM (l := List.range ds.length) (f := fun _ => .bool true) (itd_rngN (ea_cons1 (ev_len (ev_var rfl) (by rcases hd with e | e <;> rw [e]; exact .inl (.inr (.inr rfl)); exact .inr rfl)) ea_nil) hl) (hv1 rfl) (by decide) (by rw [List.length_range]; exact hl) (fun x => tg_name (ltr rfl)) fun k hk => by
    have hk' : k < ds.length := List.mem_range.mp hk
    have hg : ds[((0 : Int) + (k : Int)).toNat]? = some ds[k] := by
      rw [show ((0 : Int) + (k : Int)).toNat = k by omega]
      exact List.getElem?_eq_getElem hk'
    exact ev_call1 ds[k] (ea_cons1 (ev_ix hd (ev_var rfl) (ev_var rfl) (by omega) hg) (ea_cons1 (ev_ix hd (ev_var rfl) (ev_var rfl) (by omega) hg) ea_nil)) (hf _ (List.getElem_mem hk')) (fun r e => e) (noOwn_same _)) ea_nil) fun rs e => by
    subst e
    have z : (List.range ds.length).map (fun _ => PyData.bool true) = ((List.range ds.length).map fun _ => true).map .bool := by
      rw [List.map_map]
      rfl
    rw [z]
    have z2 : ((List.range ds.length).map fun _ => true).all id = true := by simp
    exact fun H0 I H vs k rs Q q => cb_all (.inl rfl) H0 I H vs k rs Q fun z u I' H' p => q z u I' H' (by rw [p, z2])
theorem ok_law_same (T : Top K mg) : ∀ n : Nat, FnOk P w K mg base CX0 n T.a_law_same T.fd_law_same ["_law_found", "_law_due"] (spD K aSame (Flat n) (fun _ r => r = dbl true) noX)
  | 0 => ⟨fun vs H Q E ⟨_, _, _, _, _, h, _⟩ => h.elim, fun A outer s H args us vs Q E _ _ _ _ ⟨_, _, _, _, _, h, _⟩ => h.elim⟩
  | n + 1 => by
    have G_law_same := ok_law_same T n
    refine fn_ok T.F_law_same sc_law_same (fun a _ => rfl) fun cdv A outer s H E hr => ⟨_, (pss_cons (ps_if (pt_cmpR op_isN (pv 1) pe_non (nomark _)) (pss_one (ps_ret (pe_cmpR op_isN (pv 0) pe_non (nomark _)))) pss_nil)
      (pss_cons (ps_if (pt_val (pe_callB (k_isi K) (by rfl) T.m_isinstance (by decide +kernel) (pa_cons (pv 1) (pa_cons (pe_bltn (v := .ty "bool") (u := .type "bool") (by rfl) T.m_bool (by decide +kernel) rfl) pa_nil)))) (pss_one (ps_ret (pe_and (pe_callB (k_isi K) (by rfl) T.m_isinstance (by decide +kernel) (pa_cons (pv 0) (pa_cons (pe_bltn (v := .ty "bool") (u := .type "bool") (by rfl) T.m_bool (by decide +kernel) rfl) pa_nil))) (pe_one (pe_cmpR op_eq (pv 0) (pv 1) (nomark _)))))) pss_nil)
      (pss_cons (ps_if (pt_val (pe_callB (k_isi K) (by rfl) T.m_isinstance (by decide +kernel) (pa_cons (pv 1) (pa_cons (pe_bltn (v := .ty "int") (u := .type "int") (by rfl) T.m_int (by decide +kernel) rfl) pa_nil)))) (pss_one (ps_ret (pe_and (pe_callB (k_isi K) (by rfl) T.m_isinstance (by decide +kernel) (pa_cons (pv 0) (pa_cons (pe_bltn (v := .ty "int") (u := .type "int") (by rfl) T.m_int (by decide +kernel) rfl) pa_nil))) (pe_and (pe_not (pe_callB (k_isi K) (by rfl) T.m_isinstance (by decide +kernel) (pa_cons (pv 0) (pa_cons (pe_bltn (v := .ty "bool") (u := .type "bool") (by rfl) T.m_bool (by decide +kernel) rfl) pa_nil)))) (pe_one (pe_cmpR op_eq (pv 0) (pv 1) (nomark _))))))) pss_nil)
      (pss_cons (ps_if (pt_val (pe_callB (k_isi K) (by rfl) T.m_isinstance (by decide +kernel) (pa_cons (pv 1) (pa_cons (pe_bltn (v := .ty "str") (u := .type "str") (by rfl) T.m_str (by decide +kernel) rfl) pa_nil)))) (pss_one (ps_ret (pe_and (pe_callB (k_isi K) (by rfl) T.m_isinstance (by decide +kernel) (pa_cons (pv 0) (pa_cons (pe_bltn (v := .ty "str") (u := .type "str") (by rfl) T.m_str (by decide +kernel) rfl) pa_nil))) (pe_one (pe_cmpR op_eq (pv 0) (pv 1) (nomark _)))))) pss_nil)
      (pss_cons (ps_if (PW.pt (pw_or (pt_cmpR op_ne (pe_callB (k_isi K) (by rfl) T.m_isinstance (by decide +kernel) (pa_cons (pv 1) (pa_cons (pe_bltn (v := .ty "tuple") (u := .type "tuple") (by rfl) T.m_tuple (by decide +kernel) rfl) pa_nil))) (pe_callB (k_isi K) (by rfl) T.m_isinstance (by decide +kernel) (pa_cons (pv 0) (pa_cons (pe_bltn (v := .ty "tuple") (u := .type "tuple") (by rfl) T.m_tuple (by decide +kernel) rfl) pa_nil))) (nomark _)) (pw_or1 (pt_cmpR op_ne (pe_callB (k_isi K) (by rfl) T.m_isinstance (by decide +kernel) (pa_cons (pv 1) (pa_cons (pe_bltn (v := .ty "list") (u := .type "list") (by rfl) T.m_list (by decide +kernel) rfl) pa_nil))) (pe_callB (k_isi K) (by rfl) T.m_isinstance (by decide +kernel) (pa_cons (pv 0) (pa_cons (pe_bltn (v := .ty "list") (u := .type "list") (by rfl) T.m_list (by decide +kernel) rfl) pa_nil))) (nomark _))))) (pss_one (ps_ret pe_bl)) pss_nil)
      (pss_cons (ps_if (pt_cmpR op_ne (pe_callB (k_len K) (by rfl) T.m_len PySem.boot_len (pa_cons (pv 0) pa_nil)) (pe_callB (k_len K) (by rfl) T.m_len PySem.boot_len (pa_cons (pv 1) pa_nil)) (nomark _)) (pss_one (ps_ret pe_bl)) pss_nil)
      (pss_one (ps_ret (pe_callB (k_all K rfl) (by rfl) T.m_all (by decide +kernel) (pa_cons (pe_lc (own := [("_law_at", 2)]) (g := gName 2) (tt := tYes) rfl sc_law_same.nd (pi_range1 (by rfl) T.m_range (pa_cons (pe_callB (k_len K) (by rfl) T.m_len PySem.boot_len (pa_cons (pv 1) pa_nil)) pa_nil)) (blkOk_by (own := [("_law_at", 2)]) (N := N_law_same) (sc := defScope s_law_same) (by decide +kernel)) (fun _ _ _ _ _ => (pg_name (i := 2) sc_law_same.nd rfl (by first | exact Or.inl rfl | exact Or.inr rfl))) (fun _ _ _ _ _ => pts_nil) (fun _ _ _ _ _ => (pe_call G_law_same (hr.mono (by omega)) (by rfl) T.g_law_same T.F_law_same.kp T.b_law_same .nil pass0 (pa_cons (pe_ix (k_ix_seq K) (pv 0) (pv 2) (fun _ _ => rfl)) (pa_cons (pe_ix (k_ix_seq K) (pv 1) (pv 2) (fun _ _ => rfl)) pa_nil))))) pa_nil)))))))))), fun b I d hp => ?_⟩
    have V0 : ∀ δ : DL.Env, δ[0]? = some (some (.dat d)) → EvD K b I H (tVar 0) δ (fun x => x = .dat d) := fun δ h => ev_var h
    have V1 : ∀ δ : DL.Env, δ[1]? = some (some (.dat d)) → EvD K b I H (tVar 1) δ (fun x => x = .dat d) := fun δ h => ev_var h
    cases d with
    | none => exact sv_goes (et_test1 ((ev_isN (V1 _ rfl)).to rfl)) (sv_ret (ev_isN (V0 _ rfl)) fun r e => e)
    | bool c => exact sv_skip (et_test1 ((ev_isN (V1 _ rfl)).to rfl)) (sv_goes (et_B1 (ev_isi (V1 _ rfl) (by dsimp only [tyN]; decide +kernel))) (sv_ret (ev_andV (A := fun x => x = true) ((ev_isi (V0 _ rfl) (c := true) (by dsimp only [tyN]; decide +kernel)).mono fun r e => ⟨_, e, rfl⟩) (fun _ => ev_eqS rfl (V0 _ rfl) (V1 _ rfl)) fun z => by cases z) fun r e => e))
    | int c => exact sv_skip (et_test1 ((ev_isN (V1 _ rfl)).to rfl)) (sv_skip (et_B1 (ev_isi (V1 _ rfl) (by dsimp only [tyN]; decide +kernel))) (sv_goes (et_B1 (ev_isi (V1 _ rfl) (by dsimp only [tyN]; decide +kernel))) (sv_ret (ev_andV (A := fun x => x = true) ((ev_isi (V0 _ rfl) (c := true) (by dsimp only [tyN]; decide +kernel)).mono fun r e => ⟨_, e, rfl⟩) (fun _ => ev_andV (A := fun x => x = true) (ev_notV (A := fun x => x = false) ((ev_isi (V0 _ rfl) (c := false) (by dsimp only [tyN]; decide +kernel)).mono fun r e => ⟨_, e, rfl⟩) fun c e => by rw [e]; exact ⟨true, rfl, rfl⟩) (fun _ => ev_eqS rfl (V0 _ rfl) (V1 _ rfl)) fun z => by cases z) fun z => by cases z) fun r e => e)))
    | str c => exact sv_skip (et_test1 ((ev_isN (V1 _ rfl)).to rfl)) (sv_skip (et_B1 (ev_isi (V1 _ rfl) (by dsimp only [tyN]; decide +kernel))) (sv_skip (et_B1 (ev_isi (V1 _ rfl) (by dsimp only [tyN]; decide +kernel))) (sv_goes (et_B1 (ev_isi (V1 _ rfl) (by dsimp only [tyN]; decide +kernel))) (sv_ret (ev_andV (A := fun x => x = true) ((ev_isi (V0 _ rfl) (c := true) (by dsimp only [tyN]; decide +kernel)).mono fun r e => ⟨_, e, rfl⟩) (fun _ => ev_eqS rfl (V0 _ rfl) (V1 _ rfl)) fun z => by cases z) fun r e => e))))
    | list ds => exact sv_skip (et_test1 ((ev_isN (V1 _ rfl)).to rfl)) (sv_skip (et_B1 (ev_isi (V1 _ rfl) (by dsimp only [tyN]; decide +kernel))) (sv_skip (et_B1 (ev_isi (V1 _ rfl) (by dsimp only [tyN]; decide +kernel))) (sv_skip (et_B1 (ev_isi (V1 _ rfl) (by dsimp only [tyN]; decide +kernel))) (sv_skip ((et_or1 (x := false) (y := false) (et_test1 ((ev_neB (ev_isi (V1 _ rfl) (c := false) (by dsimp only [tyN]; decide +kernel)) (ev_isi (V0 _ rfl) (c := false) (by dsimp only [tyN]; decide +kernel))).to rfl)) fun _ => et_test1 ((ev_neB (ev_isi (V1 _ rfl) (c := true) (by dsimp only [tyN]; decide +kernel)) (ev_isi (V0 _ rfl) (c := true) (by dsimp only [tyN]; decide +kernel))).to rfl))) (sv_skip (et_test1 ((ev_neI (ev_len (V0 _ rfl) (.inl (.inr (.inr rfl)))) (ev_len (V1 _ rfl) (.inl (.inr (.inr rfl))))).to (by rw [decide_eq_true rfl]; rfl))) (sv_ret (same_all (.inl rfl) hp.1 hp.2) fun r e => e))))))
    | tuple ds => exact sv_skip (et_test1 ((ev_isN (V1 _ rfl)).to rfl)) (sv_skip (et_B1 (ev_isi (V1 _ rfl) (by dsimp only [tyN]; decide +kernel))) (sv_skip (et_B1 (ev_isi (V1 _ rfl) (by dsimp only [tyN]; decide +kernel))) (sv_skip (et_B1 (ev_isi (V1 _ rfl) (by dsimp only [tyN]; decide +kernel))) (sv_skip ((et_or1 (x := false) (y := false) (et_test1 ((ev_neB (ev_isi (V1 _ rfl) (c := true) (by dsimp only [tyN]; decide +kernel)) (ev_isi (V0 _ rfl) (c := true) (by dsimp only [tyN]; decide +kernel))).to rfl)) fun _ => et_test1 ((ev_neB (ev_isi (V1 _ rfl) (c := false) (by dsimp only [tyN]; decide +kernel)) (ev_isi (V0 _ rfl) (c := false) (by dsimp only [tyN]; decide +kernel))).to rfl))) (sv_skip (et_test1 ((ev_neI (ev_len (V0 _ rfl) (.inr rfl)) (ev_len (V1 _ rfl) (.inr rfl))).to (by rw [decide_eq_true rfl]; rfl))) (sv_ret (same_all (.inr rfl) hp.1 hp.2) fun r e => e))))))
    | dict kvs => exact hp.elim
section
variable {b : Bg} {I0 H0 : Hp} {δ : DL.Env} {E : XK}
theorem ev_same {n : Nat} {tf td : TE} {d : PyData} (hf : EvD K b I0 H0 tf δ (fun r => r = .dat d)) (hd : EvD K b I0 H0 td δ (fun r => r = .dat d)) (hF : Flat n d) :
    EvD K b I0 H0 (tCall (spD K aSame (Flat n) (fun _ r => r = dbl true) noX) [] E (tCons tf (tCons td tNil))) δ (fun r => r = dbl true) :=
  ev_call1 d (ea_cons1 hf (ea_cons1 hd ea_nil)) hF (fun r e => e) (noOwn_same _)
end
/-! ### the law -/
def spOpen (K : PySem.W.Frag) : Sp := fun vs H Q _ => ∃ (a : Addr) (ns : List Int), vs = [.ref a] ∧ SqL K H a (ns.map V.int) ∧
  ∀ (b l : Addr) (ms : List Int) (H' : Hp), (∀ c o, H c = some o → H' c = some o) → b ≠ l → H' b = some (.lst [.ref l, .int 0, .int 0, .int 9465, .int 0]) → H' l = some (.lst (ms.map V.int)) → Q (.ref b) H'
theorem ok_law_open (T : Top K mg) : FnOk P w K mg base CX0 1 T.a_law_open T.fd_law_open ["_law_script"] (spOpen K) := by
  refine T.F_law_open.ok sc_law_open (fun vs H Q E h => ?_) (fun cdv A outer s H vs Q E hr h => ?_)
  · obtain ⟨a, ns, rfl, _⟩ := h
    rfl
  · obtain ⟨a, ns, rfl, hS, q⟩ := h
    refine ⟨_, (pss_one (ps_ret (pe_lst (pa_cons (pe_callTy (k_list K) (by rfl) T.m_list (by decide +kernel) (pa_cons (pe_slice (k_sl_list K) (pv 0) po_none (po_some pe_int)) pa_nil)) (pa_cons pe_int (pa_cons pe_int (pa_cons pe_int (pa_cons pe_int pa_nil)))))))), ?_⟩
    obtain ⟨ms, hm⟩ := cut_ints ns none (some 63)
    refine ⟨.ref a, rfl, 63, rfl, a, _, rfl, hS, fun p hp => ⟨p, _, rfl, .inl (.inl (.inl upd_same)), fun l hl => ⟨(by show 5 ≤ sizeLine; decide), fun b hb => ?_⟩⟩⟩
    have nb : l ≠ b := fun z => by
      rw [← z, upd_same] at hb
      cases hb
    refine q b l ms _ (fun c o e => ?_) nb.symm upd_same ?_
    · have keep : ∀ {G : Hp} {d : Addr} {u : HO}, G d = none → G c = some o → upd G d u c = some o := fun n h => by rw [upd_ne (ne_of_none h n)]; exact h
      exact keep hb (keep hl (keep hp e))
    rw [upd_ne nb, upd_same, hm]
def spLaw (K : PySem.W.Frag) : Sp := fun vs H Q _ => ∃ (a : Addr) (ns : List Int), vs = [.ref a] ∧ SqL K H a (ns.map V.int) ∧ ns.length ≤ 63 ∧ ∀ H', Q (.bl true) H'
theorem bag_start {H : Hp} {b l : Addr} {T : List (Addr × Str)} {ms : List Int} {σ : L2.St} {n : Nat} (hn : b ≠ l) (hb : H b = some (.lst [.ref l, .int 0, .int 0, .int 9465, .int 0])) (hl : H l = some (.lst (ms.map V.int))) (ht : LamX.Tabs T H) (hs : σ[1]? = some (some (.ref b))) (hσ : σ.length = n + 2) :
    ∃ I, Ok K ⟨b, T⟩ I H ∧ EnvR K ⟨b, T⟩ H I H σ (none :: some .bag :: List.replicate n none) := by
  refine ⟨upd (fun _ => none) l (.lst (ms.map V.int)), ⟨fun a o h => ?_, ?_, fun a o h => ?_, ht, l, ms, 0, 0, 9465, 0, hb, .inl (.inl upd_same), by decide, by decide, by decide, by decide⟩, ⟨by rw [hσ]; simp, fun i r e => ?_, fun i j a ds es e => ?_⟩⟩
  · by_cases z : a = l
    · subst z
      rw [upd_same] at h
      rw [hl]
      exact h
    · rw [upd_ne z] at h
      cases h
  · rw [upd_ne hn]
  · by_cases z : a = l
    · subst z
      rw [upd_same] at h
      cases h
      exact True.intro
    · rw [upd_ne z] at h
      cases h
  · match i with
    | 0 => cases e
    | 1 => cases e; exact ⟨_, hs, rfl⟩
    | i + 2 =>
      have e : (List.replicate n (none : Option DV))[i]? = some (some r) := e
      rw [List.getElem?_replicate] at e
      split at e <;> cases e
  · match i with
    | 0 => cases e
    | 1 => cases e
    | i + 2 =>
      have e : (List.replicate n (none : Option DV))[i]? = some (some (.own ds)) := e
      rw [List.getElem?_replicate] at e
      split at e <;> cases e
/-! ### sizes and loads drawn -/
theorem paired_mem {α β : Type} {F : α → β → Prop} : ∀ {l : List α} {m : List β}, Paired F l m → ∀ y ∈ m, ∃ x ∈ l, F x y
  | _, _, .nil, y, h => by cases h
  | _, _, .cons r t, y, h => by
    rcases List.mem_cons.mp h with e | e
    · exact ⟨_, List.mem_cons_self .., e ▸ r⟩
    · obtain ⟨x, hx, f⟩ := paired_mem t y e
      exact ⟨x, List.mem_cons_of_mem _ hx, f⟩
abbrev aSizes (p : Int × Int) : List DV := [.bag, dint p.1, dint p.2]
abbrev okSizes (p : Int × Int) : Prop := 1 ≤ p.1 ∧ p.1 ≤ 1000 ∧ 1 ≤ p.2 ∧ p.2 ≤ 1000
abbrev outSizes (p : Int × Int) (r : DV) : Prop := ∃ ms : List Int, r = .dat (nums ms) ∧ 1 ≤ ms.length ∧ (ms.length : Int) ≤ p.1 ∧ ∀ m ∈ ms, 1 ≤ m ∧ m ≤ p.2
theorem ok_law_sizes (T : Top K mg) : FnOk P w K mg base CX0 2 T.a_law_sizes T.fd_law_sizes ["_law_bag", "_law_mcasks", "_law_most"] (spD K aSizes okSizes outSizes noX) := by
  have G_law_take := ok_law_take (P := P) (w := w) (base := base) T
  refine fn_ok T.F_law_sizes sc_law_sizes (fun a _ => rfl) fun cdv A outer s H E hr => ⟨_, (pss_one (ps_ret (pe_callTy (k_tuple K) (by rfl) T.m_tuple (by decide +kernel) (pa_cons (pe_lc (own := [("_law_mcask", 3)]) (g := gName 3) (tt := tYes) rfl sc_law_sizes.nd (pi_range1 (by rfl) T.m_range (pa_cons (pe_op op_add pe_int (pe_call G_law_take (hr.mono (by omega)) (by rfl) T.g_law_take T.F_law_take.kp T.b_law_take .nil pass0 (pa_cons (pv 0) (pa_cons (pv 1) pa_nil)))) pa_nil)) (blkOk_by (own := [("_law_mcask", 3)]) (N := N_law_sizes) (sc := defScope s_law_sizes) (by decide +kernel)) (fun _ _ _ _ _ => (pg_name (i := 3) sc_law_sizes.nd rfl (by first | exact Or.inl rfl | exact Or.inr rfl))) (fun _ _ _ _ _ => pts_nil) (fun _ _ _ _ _ => (pe_op op_add pe_int (pe_call G_law_take (hr.mono (by omega)) (by rfl) T.g_law_take T.F_law_take.kp T.b_law_take .nil pass0 (pa_cons (pv 0) (pa_cons (pv 2) pa_nil)))))) pa_nil)))), fun b I p hp => ?_⟩
  obtain ⟨h1, h2, h3, h4⟩ := hp
  refine sv_ret (ev_tlcI (C := fun _ k => 1 ≤ k ∧ k ≤ p.2) (itd_rngC ((ei_I0 ei_int (ev_take rfl (ev_var rfl) ⟨by omega, by omega⟩)).mono (B := fun n => 1 ≤ n ∧ n ≤ p.1) ?_) (fun n h => by omega)) (hv1 rfl) (by decide) ?_ (fun x => tg_name (ltr rfl)) fun l a x hx => (ei_I0 ei_int (ev_take rfl (ev_var rfl) ⟨by omega, by omega⟩)).mono ?_) ?_
  · rintro n ⟨i, j, rfl, hj, rfl⟩
    omega
  · rintro l ⟨n, rfl, hn⟩
    rw [List.length_range]
    omega
  · rintro n ⟨i, j, rfl, hj, rfl⟩
    omega
  · rintro r ⟨ns, rfl, l, ⟨n, rfl, hn⟩, hq⟩
    have hl := paired_len hq
    rw [List.length_range] at hl
    exact ⟨ns, rfl, by omega, by omega, fun m hm => by
      obtain ⟨_, _, h⟩ := paired_mem hq m hm
      exact h⟩
abbrev aBag (_ : Unit) : List DV := [.bag]
theorem noOwn_b : NoOwn [.bag] := noOwn_cons (fun _ z => by cases z) noOwn_nil
theorem ok_law_any_sizes (T : Top K mg) : FnOk P w K mg base CX0 3 T.a_law_any_sizes T.fd_law_any_sizes ["_law_bag"] (spD K aBag (fun _ => True) (fun _ r => ∃ ms, r = .dat (nums ms) ∧ Sz ms) noX) := by
  have G_law_pick := ok_law_pick (P := P) (w := w) (base := base) T
  have G_law_sizes := ok_law_sizes (P := P) (w := w) (base := base) T
  refine fn_ok T.F_law_any_sizes sc_law_any_sizes (fun a _ => rfl) fun cdv A outer s H E hr => ⟨_, (pss_one (ps_ret (pe_call G_law_sizes (hr.mono (by omega)) (by rfl) T.g_law_sizes T.F_law_sizes.kp T.b_law_sizes .nil pass0 (pa_cons (pv 0) (pa_cons pe_int (pa_cons (pe_call G_law_pick (hr.mono (by omega)) (by rfl) T.g_law_pick T.F_law_pick.kp T.b_law_pick .nil pass0 (pa_cons (pv 0) (pa_cons (pe_lst (pa_cons pe_int (pa_cons pe_int (pa_cons pe_int (pa_cons pe_int pa_nil))))) pa_nil))) pa_nil)))))), fun b I p hp => ?_⟩
  refine sv_ret (ev_call (A := fun rs => ∃ k : Int, rs = [.bag, dint 6, dint k] ∧ 1 ≤ k ∧ k ≤ 40) (ea_cons (ev_var rfl) (ea_cons (B := fun rs => ∃ k : Int, rs = [dint 6, dint k] ∧ 1 ≤ k ∧ k ≤ 40) ev_int (ea_cons (B := fun rs => ∃ k : Int, rs = [dint k] ∧ 1 ≤ k ∧ k ≤ 40) (ev_pickI rfl (ea_consI ei_int (ea_consI ei_int (ea_consI ei_int (ea_consI ei_int ea_nilI)))) ?_) ea_nil ?_) ?_) ?_) ?_) fun r h => h
  · rintro ns ⟨i, ms, rfl, _, i2, ms2, rfl, _, i3, ms3, rfl, _, i4, ms4, rfl, _, rfl⟩
    simp
  · rintro r rs ⟨k, rfl, ns, ⟨i, ms, rfl, rfl, i2, ms2, rfl, rfl, i3, ms3, rfl, rfl, i4, ms4, rfl, rfl, rfl⟩, hk⟩ rfl
    refine ⟨k, rfl, ?_⟩
    simp only [List.mem_cons, List.not_mem_nil, or_false] at hk
    omega
  · rintro r rs rfl ⟨k, rfl, h⟩
    exact ⟨k, rfl, h⟩
  · rintro r rs rfl ⟨k, rfl, h⟩
    exact ⟨k, rfl, h⟩
  · rintro rs ⟨k, rfl, h1, h2⟩
    refine ⟨(6, k), rfl, ⟨(by decide : (1 : Int) ≤ 6), (by decide : (6 : Int) ≤ 1000), h1, by show k ≤ 1000; omega⟩, noOwn_cons (fun _ z => by cases z) (noOwn_cons (fun _ z => by cases z) (noOwn_cons (fun _ z => by cases z) noOwn_nil)), ?_, fun _ _ z => z⟩
    rintro r ⟨ms, rfl, l1, l2, hm⟩
    have l2 : (ms.length : Int) ≤ 6 := l2
    exact ⟨ms, rfl, l1, by omega, fun m h => ⟨(hm m h).1, Int.le_trans (hm m h).2 h2⟩⟩
abbrev aLoad (ms : List Int) : List DV := [.bag, .dat (nums ms)]
abbrev okLoad (ms : List Int) : Prop := ms.length ≤ 1000 ∧ ∀ m ∈ ms, 1 ≤ m ∧ m ≤ 1000
abbrev outLoad (ms : List Int) (r : DV) : Prop := ∃ cs : List Int, r = .dat (nums cs) ∧ cs.length = ms.length ∧ ∀ k, k < ms.length → 0 ≤ cs.getD k 0 ∧ cs.getD k 0 ≤ ms.getD k 0
theorem paired_at {F : Int → Int → Prop} : ∀ {l m : List Int}, Paired F l m → ∀ k, k < l.length → F (l.getD k 0) (m.getD k 0)
  | _, _, .nil, k, h => by cases h
  | _, _, .cons r t, 0, h => r
  | _, _, .cons r t, k + 1, h => paired_at t k (Nat.lt_of_succ_lt_succ h)
theorem ok_law_load (T : Top K mg) : FnOk P w K mg base CX0 2 T.a_law_load T.fd_law_load ["_law_bag", "_law_msizes"] (spD K aLoad okLoad outLoad noX) := by
  have G_law_take := ok_law_take (P := P) (w := w) (base := base) T
  refine fn_ok T.F_law_load sc_law_load (fun a _ => rfl) fun cdv A outer s H E hr => ⟨_, (pss_one (ps_ret (pe_callTy (k_tuple K) (by rfl) T.m_tuple (by decide +kernel) (pa_cons (pe_lc (own := [("_law_size", 2)]) (g := gName 2) (tt := tYes) rfl sc_law_load.nd (k_pi_tup K (pv 1)) (blkOk_by (own := [("_law_size", 2)]) (N := N_law_load) (sc := defScope s_law_load) (by decide +kernel)) (fun _ _ _ _ _ => (pg_name (i := 2) sc_law_load.nd rfl (by first | exact Or.inl rfl | exact Or.inr rfl))) (fun _ _ _ _ _ => pts_nil) (fun _ _ _ _ _ => (pe_call G_law_take (hr.mono (by omega)) (by rfl) T.g_law_take T.F_law_take.kp T.b_law_take .nil pass0 (pa_cons (pv 0) (pa_cons (pe_op op_add (pv 2) pe_int) pa_nil))))) pa_nil)))), fun b I ms hp => ?_⟩
  refine sv_ret (ev_tlcI (C := fun m k => 0 ≤ k ∧ k ≤ m) (itd_nums1 (ev_var rfl)) (hv1 rfl) (by decide) (fun l e => by rw [e]; have := hp.1; omega) (fun x => tg_name (ltr rfl)) fun l a x hx => (ev_take rfl (ev_i2 (ev_var rfl) ev_int) ?_).mono ?_) ?_
  · subst a
    have := hp.2 x hx
    exact ⟨by omega, by omega⟩
  · intro k h
    exact ⟨h.1, by have := h.2; omega⟩
  · rintro r ⟨ns, rfl, l, rfl, hq⟩
    exact ⟨ns, rfl, (paired_len hq).symm, paired_at hq⟩
theorem ok_law_full_load (T : Top K mg) : FnOk P w K mg base CX0 3 T.a_law_full_load T.fd_law_full_load ["_law_bag", "_law_msizes"] (spD K aLoad okLoad outLoad noX) := by
  have G_law_take := ok_law_take (P := P) (w := w) (base := base) T
  have G_law_load := ok_law_load (P := P) (w := w) (base := base) T
  refine fn_ok T.F_law_full_load sc_law_full_load (fun a _ => rfl) fun cdv A outer s H E hr => ⟨_, (pss_cons (ps_set (i := 2) sc_law_full_load.nd rfl (by first | exact Or.inl rfl | exact Or.inr rfl) (pe_call G_law_take (hr.mono (by omega)) (by rfl) T.g_law_take T.F_law_take.kp T.b_law_take .nil pass0 (pa_cons (pv 0) (pa_cons pe_int pa_nil))))
      (pss_cons (ps_if (pt_cmpR op_eq (pv 2) pe_int (nomark _)) (pss_one (ps_ret (pe_callTy (k_tuple K) (by rfl) T.m_tuple (by decide +kernel) (pa_cons (pe_lc (own := [("_law_size", 3)]) (g := gName 3) (tt := tYes) rfl sc_law_full_load.nd (k_pi_tup K (pv 1)) (blkOk_by (own := [("_law_size", 3)]) (N := N_law_full_load) (sc := defScope s_law_full_load) (by decide +kernel)) (fun _ _ _ _ _ => (pg_name (i := 3) sc_law_full_load.nd rfl (by first | exact Or.inl rfl | exact Or.inr rfl))) (fun _ _ _ _ _ => pts_nil) (fun _ _ _ _ _ => (pe_op op_sub (pv 3) (pe_call G_law_take (hr.mono (by omega)) (by rfl) T.g_law_take T.F_law_take.kp T.b_law_take .nil pass0 (pa_cons (pv 0) (pa_cons pe_int pa_nil)))))) pa_nil)))) pss_nil)
      (pss_one (ps_ret (pe_call G_law_load (hr.mono (by omega)) (by rfl) T.g_law_load T.F_law_load.kp T.b_law_load .nil pass0 (pa_cons (pv 0) (pa_cons (pv 1) pa_nil))))))), fun b I ms hp => ?_⟩
  refine sv_seq (N' := fun δ' => ∃ k : Int, δ' = [some .bag, some (.dat (nums ms)), some (dint k), none]) (sv_asg (ev_take rfl ev_int (by decide)) (ltr rfl) ?_) ?_
  · rintro r ⟨k, rfl, _⟩
    exact ⟨(fun _ z => by cases z), k, rfl⟩
  rintro δ' ⟨k, rfl⟩
  refine sv_seq1 (sv_if (et_test1 (ev_eqI (ev_var rfl) ev_int)) (fun _ => ?_) fun _ => sv_nil rfl) (sv_ret (ev_call1 ms (ea_cons1 (ev_var rfl) (ea_cons1 (ev_var rfl) ea_nil)) hp (fun r h => h) (noOwn_bag fun _ z => by cases z)) fun r h => h)
  refine sv_ret (ev_tlcI (C := fun m k => m - 2 < k ∧ k ≤ m) (itd_nums1 (ev_var rfl)) (hv1 rfl) (by decide) (fun l e => by rw [e]; have := hp.1; omega) (fun x => tg_name (ltr rfl)) fun l a x hx => (ei_I0 (ei_var rfl) (ev_take rfl ev_int (by decide))).mono ?_) ?_
  · rintro n ⟨i, j, rfl, hj, rfl⟩
    omega
  · rintro r ⟨ns, rfl, l, rfl, hq⟩
    refine ⟨ns, rfl, (paired_len hq).symm, fun k hk => ?_⟩
    have h1 := paired_at hq k hk
    have h2 := hp.2 _ (show l.getD k 0 ∈ l by rw [List.getD_eq_getElem?_getD, List.getElem?_eq_getElem hk]; exact List.getElem_mem hk)
    exact ⟨by omega, h1.2⟩
/-! ### the law's own look at stands and counts -/
theorem ev_lenO {b : Bg} {I0 H0 : Hp} {δ : DL.Env} {ta : TE} {n : Nat} (ha : EvD K b I0 H0 ta δ (fun r => ∃ ys, r = .own ys ∧ ys.length = n)) : EvD K b I0 H0 (tCB (fun xs H Q => ∃ p ys, xs = [.ref p] ∧ (SqL K H p ys ∨ SqT K H p ys) ∧ Q (.int ys.length) H) (tCons ta tNil)) δ (fun r => r = dint n) :=
  ev_cb (ea_cons (B := fun rs => ∃ ys, rs = [.own ys] ∧ ys.length = n) ha ea_nil fun r rs ⟨ys, e, h⟩ f => ⟨ys, by rw [e, f], h⟩) fun rs ⟨ys, e, h⟩ => by
    subst e h
    exact cb_lenL (.inl rfl)
theorem filter_count (st : List Int) (c : Int) : (st.filter fun x => decide (x = c)).length = st.count c := by
  rw [List.count_eq_countP, List.countP_eq_length_filter]
  congr 1
/-- len([x for x in row if x == c]) -/
theorem ev_held {b : Bg} {I0 H0 : Hp} {δ : DL.Env} {te tc : TE} {st : List Int} {c : Int} {j : Nat} (ht : EvD K b I0 H0 te δ (fun r => r = .dat (nums st))) (hl : st.length ≤ 1000) (hj : δ[j]? = some none) (hc : ∀ x, EvD K b I0 H0 tc (δ.set j (some (dint x))) (fun r => r = dint c)) :
    EvD K b I0 H0 (tCB (fun xs H Q => ∃ p ys, xs = [.ref p] ∧ (SqL K H p ys ∨ SqT K H p ys) ∧ Q (.int ys.length) H) (tCons (tLc (iTup K te) (gName j) (tTest (tOp rEq (tVar j) tc)) (tVar j) [j]) tNil)) δ (fun r => r = dint (st.count c : Nat)) := by
  have hlt : j < δ.length := (List.getElem?_eq_some_iff.mp hj).1
  refine ev_lenO ((ev_lc (β := Int) (gI := PyData.int) (f := fun x => decide (x = c)) (Pe := fun x y => y = .int x) (A := fun l => l = st) (itd_nums1 ht) (hv1 hj) (fun v h => h) (fun l e => by rw [e]; omega) (fun x => tg_name hlt) (fun l e x hx => et_test1 (ev_eqI (ev_var (List.getElem?_set_self hlt)) (hc x))) fun l e x hx _ => (ev_var (List.getElem?_set_self hlt)).mono fun r e => ⟨_, e, rfl⟩).mono ?_)
  rintro r ⟨ys, rfl, l, rfl, hp⟩
  refine ⟨ys, rfl, ?_⟩
  rw [← paired_len hp, filter_count]
theorem ok_law_held_by (T : Top K mg) : FnOk P w K mg base CX0 1 T.a_law_held_by T.fd_law_held_by ["_law_msizes", "_law_mstand"] (spD K aPair (fun p => p.1.length ≤ 1000 ∧ p.2.length ≤ 1000) (fun p r => r = .dat (nums (countsOf p.1 p.2))) noX) := by
  refine fn_ok T.F_law_held_by sc_law_held_by (fun a _ => rfl) fun cdv A outer s H E hr => ⟨_, (pss_one (ps_ret (pe_callTy (k_tuple K) (by rfl) T.m_tuple (by decide +kernel) (pa_cons (pe_lc (own := [("_law_mcask", 2)]) (g := gName 2) (tt := tYes) rfl sc_law_held_by.nd (pi_range1 (by rfl) T.m_range (pa_cons (pe_callB (k_len K) (by rfl) T.m_len PySem.boot_len (pa_cons (pv 0) pa_nil)) pa_nil)) (blkOk_by (own := [("_law_mcask", 2)]) (N := N_law_held_by) (sc := defScope s_law_held_by) (by decide +kernel)) (fun _ _ _ _ _ => (pg_name (i := 2) sc_law_held_by.nd rfl (by first | exact Or.inl rfl | exact Or.inr rfl))) (fun _ _ _ _ _ => pts_nil) (fun _ _ _ _ _ => (pe_callB (k_len K) (by rfl) T.m_len PySem.boot_len (pa_cons (pe_lc (own := [("_law_place", 3)]) (g := gName 3)  rfl sc_law_held_by.nd (k_pi_tup K (pv 1)) (blkOk_by (own := [("_law_place", 3)]) (N := N_law_held_by) (by rfl)) (fun _ _ _ _ _ => (pg_name (i := 3) sc_law_held_by.nd rfl (by first | exact Or.inl rfl | exact Or.inr rfl))) (fun _ _ _ _ _ => (pts_one (pt_cmpR op_eq (pv 3) (pv 2) (nomark _)))) (fun _ _ _ _ _ => (pv 3))) pa_nil)))) pa_nil)))), fun b I p hp => ?_⟩
  obtain ⟨ms, st⟩ := p
  have l1 : ms.length ≤ 1000 := hp.1
  refine sv_ret (ev_tupleOf1 (ev_lcM (l := List.range ms.length) (f := fun c => .int (st.count (c : Int) : Nat)) (itd_rngN (n := ms.length) (ea_cons1 ((ev_len (ev_var rfl) (.inr rfl)).to (by rw [List.length_map])) ea_nil) (by omega)) (hv1 rfl) (by decide) (by rw [List.length_range]; omega) (fun x => tg_name (ltr rfl)) fun c hc => ?_)) fun r e => ?_
  · exact (ev_held (c := (0 : Int) + (c : Int)) (ev_var rfl) hp.2 rfl fun x => ev_var rfl).to (by rw [Int.zero_add])
  · rw [e]
    simp only [countsOf, nums, List.map_map]
    rfl
theorem shaped_lnums (ns : List Int) : SeqAt.shaped (.list (ns.map .int)) = true := by
  unfold SeqAt.shaped
  simp only [PyData.canLay0, PyData.depth, canLay_nums, depth_nums]
  rfl
theorem eqv_nil (ds : List PyData) : PyData.eqv (.list ds) (.list []) = decide (ds = []) := by
  rw [PyData.eqv]
  cases ds with
  | nil => simp [PyData.eqvAll]
  | cons d ds => simp [PyData.eqvAll]
theorem firstBad_filter (p : Nat → Bool) (n : Nat) : firstBad p n = match (List.range n).filter p with
    | [] => .str "none"
    | k :: _ => .int (k : Int) := by
  unfold firstBad
  rw [← List.head?_filter]
  cases (List.range n).filter p <;> rfl
theorem ok_law_counts_flaw (T : Top K mg) : FnOk P w K mg base CX0 1 T.a_law_counts_flaw T.fd_law_counts_flaw ["_law_msizes", "_law_row"] (spD K aPair okPair (fun p r => r = .dat (flawC p.1 p.2)) noX) := by
  refine fn_ok T.F_law_counts_flaw sc_law_counts_flaw (fun a _ => rfl) fun cdv A outer s H E hr => ⟨_, (pss_cons (ps_if (pt_cmpR op_ne (pe_callB (k_len K) (by rfl) T.m_len PySem.boot_len (pa_cons (pv 1) pa_nil)) (pe_callB (k_len K) (by rfl) T.m_len PySem.boot_len (pa_cons (pv 0) pa_nil)) (nomark _)) (pss_one (ps_ret (pe_un un_neg pe_int))) pss_nil)
      (pss_cons (ps_setLc (i := 2) (own := [("_law_at", 3)]) (g := gName 3)  rfl sc_law_counts_flaw.nd rfl rfl (sw_true rfl rfl rfl (by decide +kernel)) (pi_range1 (by rfl) T.m_range (pa_cons (pe_callB (k_len K) (by rfl) T.m_len PySem.boot_len (pa_cons (pv 1) pa_nil)) pa_nil)) (blkOk_by (own := [("_law_at", 3)]) (N := N_law_counts_flaw) (sc := defScope s_law_counts_flaw) (by decide +kernel)) (fun _ _ _ _ _ => (pg_name (i := 3) sc_law_counts_flaw.nd rfl (by first | exact Or.inl rfl | exact Or.inr rfl))) (fun _ _ _ _ _ => (pts_one (pt_not (pt_chain op_le op_le pe_int (pe_ix (k_ix_tup K) (pv 1) (pv 3) (fun _ _ => rfl)) (pe_ix (k_ix_tup K) (pv 0) (pv 3) (fun _ _ => rfl)))))) (fun _ _ _ _ _ => (pv 3)))
      (pss_one (ps_ret (pe_ifExp (pt_cmpR (k_eqD K hr.units) (pv 2) (pe_lst pa_nil) (nomark _)) pe_str (pe_ix (k_ix_list K) (pv 2) pe_int (fun _ _ => rfl))))))), fun b I p hp => ?_⟩
  obtain ⟨ms, cs⟩ := p
  have hz : Sz ms := hp.1
  have hl : cs.length ≤ 1000 := hp.2
  by_cases hc : cs.length = ms.length
  · have hf : flawC ms cs = firstBad (badC ms cs) cs.length := if_pos hc
    refine sv_skip (et_test1 ((ev_neI (ev_len (ev_var rfl) (.inr rfl)) (ev_len (ev_var rfl) (.inr rfl))).to (s := dbl false) ?_)) ?_
    · rw [List.length_map, List.length_map, hc]
      simp
    refine sv_seq (N' := fun δ' => δ' = [some (.dat (nums ms)), some (.dat (nums cs)), some (.own (((List.range cs.length).filter (badC ms cs)).map fun (k : Nat) => .int (k : Int))), none]) (sv_asg (ev_lc (β := Nat) (gI := fun (k : Nat) => PyData.int ((0 : Int) + (k : Int))) (f := badC ms cs) (Pe := fun (x : Nat) y => y = .int (x : Int)) (A := fun l => l = List.range cs.length) ((itd_rngN (n := cs.length) (ea_cons1 ((ev_len (ev_var rfl) (.inr rfl)).to (by rw [List.length_map])) ea_nil) (by omega)).mono fun x e => ⟨_, e, rfl⟩) (hv1 rfl) (by decide) (fun l e => by rw [e, List.length_range]; omega) (fun x => tg_name (ltr rfl)) (fun l e x hx => ?_) fun l e x hx _ => (ev_var rfl).mono fun r e => ⟨_, e, by rw [Int.zero_add]⟩) (ltr rfl) ?_) ?_
    · subst e
      have hx' : x < cs.length := List.mem_range.mp hx
      have hx2 : x < ms.length := hc ▸ hx'
      refine (et_not1 (et_test1 (ev_chainI ev_int (ev_ixT (ev_var rfl) (ev_var rfl) (by omega) (nums_at (by omega) (show ((0 : Int) + (x : Int)).toNat < cs.length by omega))) (ev_ixT (ev_var rfl) (ev_var rfl) (by omega) (nums_at (by omega) (show ((0 : Int) + (x : Int)).toNat < ms.length by omega)))))).mono fun c e => ?_
      rw [e, show ((0 : Int) + (x : Int)).toNat = x by omega]
      rfl
    · rintro r ⟨ys, rfl, l, rfl, hq⟩
      refine ⟨(fun _ z => by cases z), ?_⟩
      rw [paired_fun hq]
      rfl
    rintro δ' rfl
    refine sv_frz (i := 2) rfl (noBor_at rfl) ?_
    have ff := firstBad_filter (badC ms cs) cs.length
    generalize (List.range cs.length).filter (badC ms cs) = l at ff ⊢
    have hs : SeqAt.shaped (.list (l.map fun (k : Nat) => PyData.int (k : Int))) = true := by
      have := shaped_lnums (l.map fun (k : Nat) => (k : Int))
      rw [List.map_map] at this
      exact this
    refine sv_ret (ev_if (P := fun r => r = .dat (flawC ms cs)) (et_test1 ((ev_eqD (ev_var rfl) (ev_frz1 (ev_lst1 (ds := []) ea_nil (by decide))) hs (shaped_lnums [])).to (by rw [eqv_nil]))) (fun e => ev_str.to ?_) (fun e => (ev_ixL (d := flawC ms cs) (ev_var rfl) (.inr (.inr rfl)) ev_int (by decide) ?_))) fun r e => e
    · cases l with
      | nil => rw [hf, ff]
      | cons x l => simp at e
    · cases l with
      | nil => simp at e
      | cons x l => rw [hf, ff]; rfl
  · have hf : flawC ms cs = .int (-1) := if_neg hc
    refine sv_goes (et_test1 ((ev_neI (ev_len (ev_var rfl) (.inr rfl)) (ev_len (ev_var rfl) (.inr rfl))).to (s := dbl true) ?_)) (sv_ret (ev_un ev_int fun x e => by subst e; exact ud_U (d := .int (-1)) (fun K I => Dp.int _)) fun r e => ?_)
    · rw [List.length_map, List.length_map]
      have z : ¬ ((cs.length : Int) = (ms.length : Int)) := by omega
      simp [z]
    · rw [e]
      exact congrArg DV.dat hf.symm
/-! ### stands drawn -/
section
variable {b : Bg} {I0 H0 : Hp} {δ : DL.Env} {ta tb : TE}
theorem ev_catN {xs ys : List Int} (ha : EvD K b I0 H0 ta δ (fun r => r = .dat (nums xs))) (hb : EvD K b I0 H0 tb δ (fun r => r = .dat (nums ys))) (hl : xs.length + ys.length ≤ 100000) : EvD K b I0 H0 (tOp (TF.rCatF K) ta tb) δ (fun r => r = .dat (nums (xs ++ ys))) :=
  EvD.mono (en_cat (en_of ha) (en_of hb) fun ns ms e f => by rw [e, f]; exact hl) fun r ⟨ns, e, x, y, e1, e2, e3⟩ => by rw [e, e3, e1, e2]
theorem ev_u {g : Int → Int} {i : Int} (ha : EvD K b I0 H0 ta δ (fun r => r = dint i)) : EvD K b I0 H0 (tUn (rU fun i => .int (g i)) ta) δ (fun r => r = dint (g i)) :=
  ev_un ha fun x e => by
    subst e
    exact ud_U (g := fun i => .int (g i)) fun K I => Dp.int _
theorem ev_t1 {i : Int} (ha : EvD K b I0 H0 ta δ (fun r => r = dint i)) : EvD K b I0 H0 (TF.tTupF (tCons ta tNil)) δ (fun r => r = .dat (nums [i])) := ev_tup1 (ds := [.int i]) (ea_cons1 ha ea_nil) (by simp)
end
def GoodS (ms st : List Int) : Prop := ∀ k, k < st.length → badS ms st k = false
theorem goodS_nil (ms : List Int) : GoodS ms [] := fun k h => by cases h
theorem goodS_snoc {ms st : List Int} {p : Int} (h : GoodS ms st) (h1 : -1 ≤ p) (h2 : p < (ms.length : Int)) (h3 : 0 ≤ p → (st.count p : Int) < ms.getD p.toNat 0) : GoodS ms (st ++ [p]) := fun k hk => by
  rw [List.length_append] at hk
  by_cases z : k < st.length
  · have e1 : (st ++ [p]).getD k 0 = st.getD k 0 := by
      rw [List.getD_eq_getElem?_getD, List.getD_eq_getElem?_getD, List.getElem?_append_left z]
    have e2 : (st ++ [p]).take k = st.take k := List.take_append_of_le_length (Nat.le_of_lt z)
    have := h k z
    unfold badS at this ⊢
    rw [e1, e2]
    exact this
  · have hk' : k < st.length + 1 := hk
    have z' : k = st.length := by omega
    subst z'
    have e1 : (st ++ [p]).getD st.length 0 = p := by
      rw [List.getD_eq_getElem?_getD, List.getElem?_append_right (Nat.le_refl _)]
      simp
    have e2 : (st ++ [p]).take st.length = st := by
      rw [List.take_append_of_le_length (Nat.le_refl _), List.take_length]
    unfold badS
    rw [e1, e2, decide_eq_true h1, decide_eq_true h2]
    by_cases z0 : 0 ≤ p
    · rw [decide_eq_true z0, decide_eq_false (by have := h3 z0; omega)]
      rfl
    · rw [decide_eq_false z0]
      rfl
theorem countsOf_len (ms st : List Int) : (countsOf ms st).length = ms.length := by
  unfold countsOf
  rw [List.length_map, List.length_range]
theorem countsOf_get {ms st : List Int} {c : Nat} (h : c < ms.length) : (countsOf ms st).getD c 0 = (st.count (c : Int) : Int) := by
  unfold countsOf
  rw [List.getD_eq_getElem?_getD, List.getElem?_map, List.getElem?_eq_getElem (show c < (List.range ms.length).length by rw [List.length_range]; exact h), List.getElem_range]
  rfl
theorem countsOf_nil (ms : List Int) : countsOf ms [] = List.replicate ms.length 0 := list_ext0 (by rw [countsOf_len, List.length_replicate]) fun c hc => by
  rw [countsOf_len] at hc
  rw [countsOf_get hc, List.getD_eq_getElem?_getD, List.getElem?_replicate, if_pos hc]
  rfl
theorem countsOf_neg {ms st : List Int} {p : Int} (h : p < 0) : countsOf ms (st ++ [p]) = countsOf ms st := list_ext0 (by rw [countsOf_len, countsOf_len]) fun c hc => by
  rw [countsOf_len] at hc
  rw [countsOf_get hc, countsOf_get hc, List.count_append]
  have z : [p].count (c : Int) = 0 := by
    rw [List.count_singleton]
    have : (p == (c : Int)) = false := by simp; omega
    rw [this]
    rfl
  rw [z]
  rfl
theorem countsOf_in {ms st : List Int} {c : Nat} (hc : c < ms.length) : countsOf ms (st ++ [(c : Int)]) = (countsOf ms st).set c ((countsOf ms st).getD c 0 + 1) := list_ext0 (by rw [List.length_set, countsOf_len, countsOf_len]) fun j hj => by
  rw [countsOf_len] at hj
  rw [countsOf_get hj, List.count_append]
  by_cases z : c = j
  · subst z
    rw [List.getD_eq_getElem?_getD (l := List.set _ _ _), List.getElem?_set_self (by rw [countsOf_len]; exact hc), countsOf_get hc]
    simp
  · rw [List.getD_eq_getElem?_getD (l := List.set _ _ _), List.getElem?_set_ne z, ← List.getD_eq_getElem?_getD, countsOf_get hj, List.count_singleton]
    have : ((c : Int) == (j : Int)) = false := by simp; omega
    rw [this]
    simp
abbrev aStand (p : List Int × Int × Int) : List DV := [.bag, .dat (nums p.1), dint p.2.1, dint p.2.2]
abbrev okStand (p : List Int × Int × Int) : Prop := Sz p.1 ∧ (0 ≤ p.2.1 ∧ p.2.1 ≤ 1000) ∧ 0 ≤ p.2.2 ∧ p.2.2 ≤ 1
abbrev outStand (p : List Int × Int × Int) (r : DV) : Prop := ∃ st : List Int, r = .dat (nums st) ∧ (st.length : Int) ≤ p.2.1 ∧ GoodS p.1 st
theorem ok_law_stand (T : Top K mg) : FnOk P w K mg base CX0 2 T.a_law_stand T.fd_law_stand ["_law_bag", "_law_msizes", "_law_mmany", "_law_gone"] (spD K aStand okStand outStand noX) := by
  have G_law_take := ok_law_take (P := P) (w := w) (base := base) T
  refine fn_ok T.F_law_stand sc_law_stand (fun a _ => rfl) fun cdv A outer s H E hr => ⟨_, (pss_cons (ps_set (i := 4) sc_law_stand.nd rfl (by first | exact Or.inl rfl | exact Or.inr rfl) (TF.pe_tupF pa_nil))
      (pss_cons (ps_set (i := 5) sc_law_stand.nd rfl (by first | exact Or.inl rfl | exact Or.inr rfl) (pe_op op_rep (pe_lst (pa_cons pe_int pa_nil)) (pe_callB (k_len K) (by rfl) T.m_len PySem.boot_len (pa_cons (pv 1) pa_nil))))
      (pss_cons (ps_for PassesOwn.never rfl (pi_range1 (by rfl) T.m_range (pa_cons (pe_call G_law_take (hr.mono (by omega)) (by rfl) T.g_law_take T.F_law_take.kp T.b_law_take .nil pass0 (pa_cons (pv 0) (pa_cons (pe_op op_add (pv 2) pe_int) pa_nil))) pa_nil)) (pg_name (i := 6) sc_law_stand.nd rfl (by first | exact Or.inl rfl | exact Or.inr rfl)) (pss_cons (ps_set (i := 7) sc_law_stand.nd rfl (by first | exact Or.inl rfl | exact Or.inr rfl) (pe_op op_sub (pe_call G_law_take (hr.mono (by omega)) (by rfl) T.g_law_take T.F_law_take.kp T.b_law_take .nil pass0 (pa_cons (pv 0) (pa_cons (pe_op op_add (pe_callB (k_len K) (by rfl) T.m_len PySem.boot_len (pa_cons (pv 1) pa_nil)) (pv 3)) pa_nil))) (pv 3)))
      (pss_one (ps_if (pt_cmpR op_lt (pv 7) pe_int (nomark _)) (pss_one (ps_set (i := 4) sc_law_stand.nd rfl (by first | exact Or.inl rfl | exact Or.inr rfl) (pe_op (k_catA K) (pv 4) (TF.pe_tupF (pa_cons (pe_un un_neg pe_int) pa_nil))))) (pss_one (ps_if (pt_cmpR op_lt (pe_ix (k_ix_list K) (pv 5) (pv 7) (fun _ _ => rfl)) (pe_ix (k_ix_tup K) (pv 1) (pv 7) (fun _ _ => rfl)) (nomark _)) (pss_cons (ps_asg (pe_op op_add (pe_ix (k_ix_list K) (pv 5) (pv 7) (fun _ _ => rfl)) pe_int) (pg_sub (pv 5) (pv 7) set_list))
      (pss_one (ps_set (i := 4) sc_law_stand.nd rfl (by first | exact Or.inl rfl | exact Or.inr rfl) (pe_op (k_catA K) (pv 4) (TF.pe_tupF (pa_cons (pv 7) pa_nil)))))) pss_nil))))))
      (pss_one (ps_ret (pv 4)))))), fun b I p hp => ?_⟩
  obtain ⟨ms, many, gone⟩ := p
  have hz : Sz ms := hp.1
  have m0 : 0 ≤ many := hp.2.1.1
  have m1 : many ≤ 1000 := hp.2.1.2
  have g0 : 0 ≤ gone := hp.2.2.1
  have g1 : gone ≤ 1 := hp.2.2.2
  have l1 := hz.lo
  have l2 := hz.hi
  refine sv_seq1 (sv_set (r := .dat (nums [])) (ev_tup1 (ds := []) ea_nil)) ?_
  refine sv_seq1 (sv_set (r := .own ((countsOf ms []).map .int)) ((ev_repL (n := (ms.length : Int)) (ds := [.int 0]) (ev_lst1 (ds := [.int 0]) (ea_cons1 ev_int ea_nil)) ((ev_len (ev_var rfl) (.inr rfl)).to (by rw [List.length_map])) (by simp) (by omega) (by omega)).to ?_)) ?_
  · rw [flat_rep, countsOf_nil, List.map_replicate, Int.toNat_natCast]
  refine sv_seq (N' := fun δ => ∃ st c x y, δ = [some .bag, some (.dat (nums ms)), some (dint many), some (dint gone), some (.dat (nums st)), c, x, y] ∧ (st.length : Int) ≤ many ∧ GoodS ms st) (sv_for (itd_rngC (ev_take rfl (ev_i2 (ev_var rfl) ev_int) ⟨by show 0 < many + 1; omega, by show many + 1 < _; omega⟩) fun n h => by omega) fun ds e => ?_) ?_
  · obtain ⟨l, rfl, n, rfl, hn⟩ := e
    have hn' : (n : Int) < many + 1 := hn.2
    refine ⟨fun k δ => ∃ st x y, δ = [some .bag, some (.dat (nums ms)), some (dint many), some (dint gone), some (.dat (nums st)), some (.own ((countsOf ms st).map .int)), x, y] ∧ st.length ≤ k ∧ GoodS ms st, ⟨[], none, none, rfl, Nat.le_refl _, goodS_nil ms⟩, ?_, ?_⟩
    · rintro k d δk hd ⟨st, x, y, rfl, hst, hgood⟩
      have hk : k < n := by
        have := (List.getElem?_eq_some_iff.mp hd).1
        rw [List.length_map, List.length_range] at this
        exact this
      have hst' : st.length ≤ 1000 := by omega
      obtain ⟨_, ed⟩ := rangeD_get (lo := 0) (n := n) hd
      subst ed
      refine ⟨_, _, tg_name (ltr rfl), ?_⟩
      refine sv_seq (N' := fun δ => ∃ z q : Int, δ = [some .bag, some (.dat (nums ms)), some (dint many), some (dint gone), some (.dat (nums st)), some (.own ((countsOf ms st).map .int)), some (dint z), some (dint q)] ∧ -1 ≤ q ∧ q < (ms.length : Int)) (sv_asg (ei_I0 (ev_take (n := (ms.length : Int) + gone) rfl (ev_i2 ((ev_len (ev_var rfl) (.inr rfl)).to (s := dint (ms.length : Int)) (by rw [List.length_map])) (ev_var rfl)) ⟨by omega, by omega⟩) (ei_var rfl)) (ltr rfl) ?_) ?_
      · rintro r ⟨_, rfl, i, j, hi, rfl, rfl⟩
        exact ⟨(fun _ z => by cases z), _, _, rfl, by omega, by omega⟩
      rintro δ' ⟨z, q, rfl, hq1, hq2⟩
      refine sv_if (et_test1 (ev_cmp (ev_var rfl) ev_int)) (fun h => ?_) fun h => ?_
      · have hneg : q < 0 := of_decide_eq_true h.symm
        refine (sv_set (r := .dat (nums (st ++ [-1]))) (ev_catN (ev_var rfl) (ev_t1 (ev_u ev_int)) (by simp; omega))).mono ?_ (fun _ h => h) (fun _ h => h) (fun _ h => h)
        rintro d rfl
        refine ⟨st ++ [-1], some (dint z), some (dint q), ?_, by simp; omega, goodS_snoc hgood (by omega) (by omega) fun z => by omega⟩
        rw [countsOf_neg (by omega)]
        rfl
      · have hpos : 0 ≤ q := by
          have := of_decide_eq_false h.symm
          omega
        obtain ⟨c, ec⟩ := Int.eq_ofNat_of_zero_le hpos
        subst ec
        have hcl : c < ms.length := by omega
        have cg : ((countsOf ms st).map PyData.int)[((c : Nat) : Int).toNat]? = some (.int (st.count (c : Int) : Int)) := by
          rw [nums_at hpos (by rw [countsOf_len]; omega), Int.toNat_natCast, countsOf_get hcl]
        have mg' : (ms.map PyData.int)[((c : Nat) : Int).toNat]? = some (.int (ms.getD c 0)) := by
          rw [nums_at hpos (by omega), Int.toNat_natCast]
        refine sv_if (et_test1 (ev_cmp (ev_ixL (ev_varB rfl) (.inr (.inl rfl)) (ev_var rfl) hpos cg) (ev_ixT (ev_var rfl) (ev_var rfl) hpos mg'))) (fun h => ?_) fun _ => sv_nil ⟨st, some (dint z), some (dint c), rfl, by omega, hgood⟩
        have hlt : (st.count (c : Int) : Int) < ms.getD c 0 := of_decide_eq_true h.symm
        refine sv_seq1 (sv_setitem (i := 5) (A := fun d => d = .int ((st.count (c : Int) : Int) + 1)) rfl rfl hpos (by rw [List.length_map, countsOf_len]; omega) ((ev_i2 (ev_ixL (ev_varB rfl) (.inr (.inl rfl)) (ev_var rfl) hpos cg) ev_int).mono fun r e => ⟨_, e, rfl⟩) (ev_var rfl) fun d e => by rw [e]) ?_
        refine (sv_set (r := .dat (nums (st ++ [(c : Int)]))) (ev_catN (ev_var rfl) (ev_t1 (ev_var rfl)) (by simp; omega))).mono ?_ (fun _ h => h) (fun _ h => h) (fun _ h => h)
        rintro d rfl
        refine ⟨st ++ [(c : Int)], some (dint z), some (dint c), ?_, by simp; omega, goodS_snoc hgood (by omega) (by omega) fun _ => by rw [Int.toNat_natCast]; exact hlt⟩
        rw [countsOf_in hcl, countsOf_get hcl, List.map_set, Int.toNat_natCast]
        rfl
    · rintro δn ⟨st, x, y, rfl, hst, hgood⟩
      rw [List.length_map, List.length_range] at hst
      exact ⟨st, _, x, y, rfl, by omega, hgood⟩
  · rintro δ' ⟨st, c, x, y, rfl, h1, h2⟩
    exact sv_ret (ev_var rfl) fun r e => ⟨st, e, h1, h2⟩
theorem ok_law_stand_flaw (T : Top K mg) : FnOk P w K mg base CX0 1 T.a_law_stand_flaw T.fd_law_stand_flaw ["_law_msizes", "_law_row"] (spD K aPair okPair (fun p r => r = .dat (flawS p.1 p.2)) noX) := by
  refine fn_ok T.F_law_stand_flaw sc_law_stand_flaw (fun a _ => rfl) fun cdv A outer s H E hr => ⟨_, (pss_cons (ps_if (pt_cmpR op_gt (pe_callB (k_len K) (by rfl) T.m_len PySem.boot_len (pa_cons (pv 1) pa_nil)) pe_int (nomark _)) (pss_one (ps_ret (pe_un un_neg pe_int))) pss_nil)
      (pss_cons (ps_for PassesOwn.never rfl (pi_range1 (by rfl) T.m_range (pa_cons (pe_callB (k_len K) (by rfl) T.m_len PySem.boot_len (pa_cons (pv 1) pa_nil)) pa_nil)) (pg_name (i := 2) sc_law_stand_flaw.nd rfl (by first | exact Or.inl rfl | exact Or.inr rfl)) (pss_cons (ps_set (i := 3) sc_law_stand_flaw.nd rfl (by first | exact Or.inl rfl | exact Or.inr rfl) (pe_ix (k_ix_tup K) (pv 1) (pv 2) (fun _ _ => rfl)))
      (pss_cons (ps_if (pt_not (pt_chain op_le op_lt (pe_un un_neg pe_int) (pv 3) (pe_callB (k_len K) (by rfl) T.m_len PySem.boot_len (pa_cons (pv 0) pa_nil)))) (pss_one (ps_ret (pv 2))) pss_nil)
      (pss_cons (ps_set (i := 4) sc_law_stand_flaw.nd rfl (by first | exact Or.inl rfl | exact Or.inr rfl) (pe_callB (k_len K) (by rfl) T.m_len PySem.boot_len (pa_cons (pe_lc (own := [("_law_here", 5)]) (g := gName 5)  rfl sc_law_stand_flaw.nd (k_pi_tup K (pe_slice (k_sl_tup K) (pv 1) po_none (po_some (pv 2)))) (blkOk_by (own := [("_law_here", 5)]) (N := N_law_stand_flaw) (sc := defScope s_law_stand_flaw) (by decide +kernel)) (fun _ _ _ _ _ => (pg_name (i := 5) sc_law_stand_flaw.nd rfl (by first | exact Or.inl rfl | exact Or.inr rfl))) (fun _ _ _ _ _ => (pts_one (pt_cmpR op_eq (pv 5) (pv 3) (nomark _)))) (fun _ _ _ _ _ => (pv 5))) pa_nil)))
      (pss_one (ps_if (PW.pt (pw_and (pt_cmpR op_ge (pv 3) pe_int (nomark _)) (pw_and1 (pt_cmpR op_ge (pv 4) (pe_ix (k_ix_tup K) (pv 0) (pv 3) (fun _ _ => rfl)) (nomark _))))) (pss_one (ps_ret (pv 2))) pss_nil))))))
      (pss_one (ps_ret pe_str)))), fun b I p hp => ?_⟩
  obtain ⟨ms, st⟩ := p
  have hz : Sz ms := hp.1
  have hl : st.length ≤ 1000 := hp.2
  by_cases hc : 60 < st.length
  · have hf : flawS ms st = .int (-1) := if_pos hc
    refine sv_goes (et_test1 ((ev_cmp (ev_len (ev_var rfl) (.inr rfl)) ev_int).to (s := dbl true) ?_)) (sv_ret (ev_u ev_int) fun r e => by rw [e]; exact congrArg DV.dat hf.symm)
    rw [List.length_map]
    have z : decide ((st.length : Int) > 60) = true := decide_eq_true (by omega)
    rw [z]
  · have hf : flawS ms st = firstBad (badS ms st) st.length := if_neg hc
    refine sv_skip (et_test1 ((ev_cmp (ev_len (ev_var rfl) (.inr rfl)) ev_int).to (s := dbl false) ?_)) ?_
    · rw [List.length_map]
      have z : decide ((st.length : Int) > 60) = false := decide_eq_false (by omega)
      rw [z]
    refine sv_seq (N' := fun _ => ∀ j, j < st.length → badS ms st j = false) (sv_for (itd_rngN (n := st.length) (ea_cons1 ((ev_len (ev_var rfl) (.inr rfl)).to (by rw [List.length_map])) ea_nil) (by omega)) fun ds e => ⟨fun k δ => (∃ x y z, δ = [some (.dat (nums ms)), some (.dat (nums st)), x, y, z, none]) ∧ ∀ j, j < k → badS ms st j = false, ⟨⟨_, _, _, rfl⟩, fun _ z => by omega⟩, ?_, ?_⟩) fun δ' h => sv_ret ev_str fun r e => by
      rw [e]
      exact congrArg DV.dat (hf.trans (firstBad_no h)).symm
    · rintro k d δk hd ⟨⟨x, y, z, rfl⟩, hb⟩
      subst e
      obtain ⟨hk, ed⟩ := rangeD_get hd
      subst ed
      refine ⟨_, _, tg_name (ltr rfl), ?_⟩
      have next : badS ms st k = false → ∀ j, j < k + 1 → badS ms st j = false := fun z j hj => by
        rcases Nat.lt_succ_iff_lt_or_eq.mp hj with h | h
        · exact hb j h
        · rw [h]; exact z
      have found : badS ms st k = true → DV.dat (.int (k : Int)) = .dat (flawS ms st) := fun z => by
        rw [hf, firstBad_at hb z hk]
      refine sv_seq1 (sv_set (r := dint (st.getD k 0)) (ev_ixT (ev_var rfl) (ev_var rfl) (by omega) ?_)) ?_
      · rw [Int.zero_add, nums_at (by omega) (by omega), Int.toNat_natCast]
      generalize hq : st.getD k 0 = q
      by_cases hin : -1 ≤ q ∧ q < (ms.length : Int)
      · refine sv_skip (et_not1 (et_test1 ((ev_chainI (ev_u ev_int) (ev_var rfl) (ev_len (ev_var rfl) (.inr rfl))).to (s := dbl true) ?_))) ?_
        · rw [List.length_map, decide_eq_true hin.1, decide_eq_true hin.2]
          rfl
        refine sv_seq1 (sv_set (r := dint ((st.take k).count q : Nat)) (ev_held (st := st.take k) ((ev_slN (ev_var rfl) eo_none (eo_some (ei_var rfl))).mono ?_) (by rw [List.length_take]; omega) rfl fun x => ev_var rfl)) ?_
        · rintro r ⟨lo, hi, rfl, ⟨i, rfl, rfl⟩, rfl⟩
          rw [Int.zero_add, cutN_take]
        have bd : badS ms st k = (decide (0 ≤ q) && decide (ms.getD q.toNat 0 ≤ ((st.take k).count q : Int))) := by
          unfold badS
          rw [hq, decide_eq_true hin.1, decide_eq_true hin.2]
          simp
        by_cases h0 : 0 ≤ q
        · have mg' : (ms.map PyData.int)[q.toNat]? = some (.int (ms.getD q.toNat 0)) := nums_at h0 (by omega)
          refine sv_if ((et_and1 (et_test1 ((ev_cmp (ev_var rfl) ev_int).to (s := dbl true) (by rw [decide_eq_true h0]))) fun _ => et_test1 (ev_cmp (ev_var rfl) (ev_ixT (ev_var rfl) (ev_var rfl) h0 mg')))) (fun e => sv_ret (ev_var rfl) fun r er => ?_) fun e => sv_nil ⟨⟨_, _, _, rfl⟩, next ?_⟩
          · rw [er, Int.zero_add]
            refine found ?_
            rw [bd, decide_eq_true h0]
            exact e.symm
          · rw [bd, decide_eq_true h0]
            exact e.symm
        · refine sv_if ((et_and1 (y := false) (et_test1 ((ev_cmp (ev_var rfl) ev_int).to (s := dbl false) (by rw [decide_eq_false h0]))) fun z => by cases z)) (fun e => by cases e) fun e => sv_nil ⟨⟨_, _, _, rfl⟩, next ?_⟩
          rw [bd, decide_eq_false h0]
          rfl
      · refine sv_goes (et_not1 (et_test1 ((ev_chainI (ev_u ev_int) (ev_var rfl) (ev_len (ev_var rfl) (.inr rfl))).to (s := dbl false) ?_))) (sv_ret (ev_var rfl) fun r er => ?_)
        · rw [List.length_map]
          by_cases h0 : -1 ≤ q
          · rw [decide_eq_false (show ¬ q < (ms.length : Int) from fun z => hin ⟨h0, z⟩), Bool.and_false]
          · rw [show decide (-1 ≤ q) = false from decide_eq_false h0]
            rfl
        · rw [er, Int.zero_add]
          refine found ?_
          unfold badS
          rw [hq]
          by_cases h0 : -1 ≤ q
          · rw [decide_eq_false (show ¬ q < (ms.length : Int) from fun z => hin ⟨h0, z⟩), Bool.and_false]
            rfl
          · rw [decide_eq_false h0]
            rfl
    · rintro δn ⟨_, hb⟩
      subst e
      rw [rangeD_len] at hb
      exact hb
/-! ### told -/
abbrev AfterT (T : Top K mg) : Addr → List (Str × V) → Hp → VK → Prop := fun C fs H Q => (C = T.C_BadCounts ∧ ∃ v, fs.lookup ("cask" : Str) = some v ∧ Q v H) ∨ (C = T.C_BadStand ∧ ∃ v, fs.lookup ("rank" : Str) = some v ∧ Q v H)
theorem gives_law_told {X : Cx} (T : Top X.K X.mg) {cd : Value} {q : Str} : LamX.GivesTo X N_law_told "_law_told" (defScope s_law_told) T.a_law_told cd (defBody s_law_told) "_law_ask" q (TTx (.str "none") (AfterT T)) := by
  intro f c' s H Q tl act hc h
  refine ⟨_, pss_cons (ps_set (i := 1) sc_law_told.nd rfl (by first | exact Or.inl rfl | exact Or.inr rfl) pe_str) (pss_cons (ps_tryN (i := 2) (n := "e")
      (cs := [(.ref T.C_BadCounts, fun x k dd => tAsg (tXf x k dd T.C_BadCounts "cask" (tVar 2)) (gName 1)), (.ref T.C_BadStand, fun x k dd => tAsg (tXf x k dd T.C_BadStand "rank" (tVar 2)) (gName 1))])
      (tb := fun W D σ H => ∃ Ech : XK, (∀ cls d σ' H', σ'.length = 3 → Ech cls d H' → W cls d σ' H') ∧ ∃ QQ : VK, (∀ v H1, QQ v H1 → D.nx σ H1) ∧ σ[0]? = some (some (.ref f)) ∧ H c' = some (LamX.CodeO c' q) ∧ tl Ech H QQ)
      sc_law_told.nd rfl rfl (.cons ⟨rfl, by decide, .inl T.g_BadCounts⟩ (fun x o k dd ps hz hf => pss_one (ps_set (i := 1) sc_law_told.nd rfl (by first | exact Or.inl rfl | exact Or.inr rfl) (pe_xf T.f_BadCounts T.n_BadCounts_cask hz hf (pv 2))))
        (.cons ⟨rfl, by decide, .inl T.g_BadStand⟩ (fun x o k dd ps hz hf => pss_one (ps_set (i := 1) sc_law_told.nd rfl (by first | exact Or.inl rfl | exact Or.inr rfl) (pe_xf T.f_BadStand T.n_BadStand_rank hz hf (pv 2)))) .nil)) (fun W ps xe tk po => ?_)) (pss_one (ps_ret (pv 1)))), ?_⟩
  · refine ⟨fun pins s' σ H' D I h' => ?_⟩
    obtain ⟨Ech, hW, QQ, m, h1, h2, h3⟩ := h'
    exact (pss_one (ps_expr (pe_weak (act _ ps xe Ech _ _ (takes_len tk) fun cls d σ' H' hE hl => hW cls d σ' H' hl hE)))).run pins s' σ H' D I ⟨QQ, fun v H1 z => m v H1 z, h1, h2, h3⟩
  · refine ⟨fun cls d H' => ∃ C dd fs, cls = .ref C ∧ d = some dd ∧ H' dd = some (.xd fs) ∧ AfterT T C fs H' Q, ?_, fun _ H' => Q (.str "none") H', fun v H1 z => ⟨_, rfl, z⟩, rfl, hc, h⟩
    rintro cls d σ' H' hl ⟨C, dd, fs, rfl, rfl, hd, af⟩
    obtain ⟨x0, x1, x2, rfl⟩ : ∃ x0 x1 x2, σ' = [x0, x1, x2] := by
      match σ', hl with
      | [a, b, c], _ => exact ⟨a, b, c, rfl⟩
    rcases af with ⟨rfl, v, hv, hq⟩ | ⟨rfl, v, hv, hq⟩
    · exact ⟨true, T.e_BadCounts_BadCounts, fun _ x hx => ⟨_, rfl, rfl, rfl, dd, fs, v, rfl, hd, hv, _, rfl, hq⟩, fun z => by cases z⟩
    · exact ⟨false, T.e_BadStand_BadCounts, (fun z => by cases z), fun _ => ⟨true, T.e_BadStand_BadStand, fun _ x hx => ⟨_, rfl, rfl, rfl, dd, fs, v, rfl, hd, hv, _, rfl, hq⟩, fun z => by cases z⟩⟩
/-! ### the law -/
abbrev tabs_law (T : Top K mg) : List (Addr × Str) := [(T.P_law, (("law" : Str) ++ ".<locals>.") ++ "<lambda>")]
theorem tabs_one (T : Top K mg) : ∀ p ∈ tabs_law T, p.1 = T.P_law → p.2 = (("law" : Str) ++ ".<locals>.") ++ "<lambda>" := fun p hp _ => by
  rcases List.mem_cons.mp hp with e | e
  · rw [e]
  · cases e
theorem pe_law_told {X : Cx} {base : Heap} (T : Top K mg) {k : Nat} {params : Arguments} {body : Expr} {scope : Scope} {t : XK → TE} {p lpos pos : Pos} (TB : LamX.TabB base mg T.k_law T.P_law) (hK : X.K = K) (hmg : X.mg = mg) (hbs : X.base = base) (hq : X.env.qual = ("law" : Str) ++ ".<locals>.") (hcode : X.env.code = .ref T.k_law) (hg : Gl X "_law_told") (hr : Room (k + 2) X.A) (L : LamX.LamS X.env.scope scope) (hdef : defaultsOf params X.env = ([], []))
    (hbind : ∀ (q : Str) (cl : List (Str × Addr)) (pm cv ctv : Value), bindArgs (PySem.W.kla_fn "<lambda>" q params body scope cl pm cv ctv) ⟨[], []⟩ = pure [])
    (hbody : ∀ (A : Around) (outer : List PySem.Env) (s : Shared) (H : Hp) (E : XK) (f c' : Addr), Room k (A.deeper (LamX.lamEnv X scope s.heap.objs.size f c')) → PE (LamX.lamCx X A outer s H E scope f c') body (t E)) :
    PE X (.Call (.Name "_law_told" p) [.Lambda params body scope lpos] [] pos) (LamX.tLam (tabs_law T) (TTx (.str "none") (AfterT T)) t) := by
  subst hK hmg hbs
  obtain ⟨oc2, od2, kV2, dc2, pm2, an2, cdv2, ct2, osl2, efd2, lk2, cd2⟩ := T.F_law_told.ex
  have bt := T.b_law_told
  rw [efd2] at lk2 bt
  exact LamX.pe_lamcall (T := tabs_law T) hg T.g_law_told T.F_law_told.kp lk2 cd2 bt sc_law_told rfl (Or.inl rfl) (gives_law_told T) TB hcode (by rw [hq]; exact List.mem_cons_self ..) (by rw [hq]; exact tabs_one T) hr L hdef hbind hbody
theorem flawS_cases (ms cs : List Int) : flawS ms cs = .str "none" ∨ ∃ k : Int, flawS ms cs = .int k := by
  unfold flawS
  split
  · exact .inr ⟨_, rfl⟩
  · exact flaw_cases _ _
/-- what told makes of a call that may raise by the flaw d -/
abbrev excD (T : Top K mg) (d : PyData) : XD := fun C fs => ∃ k : Int, d = .int k ∧ ((C = T.C_BadCounts ∧ fs = mk_BadCounts [.int k]) ∨ (C = T.C_BadStand ∧ fs = mk_BadStand [.int k]))
theorem told_ev (T : Top K mg) {b : Bg} {I0 H0 : Hp} {δ δ' : DL.Env} {te : XK → TE} {d : PyData} (hT : b.T = tabs_law T) (l : LessP δ' δ) (body : ∀ I1 H1 E, XW K b I1 H1 E (excD T d) → EvD K b I1 H1 (te E) δ' (fun _ => d = .str "none")) :
    EvD K b I0 H0 (LamX.tLam (tabs_law T) (TTx (.str "none") (AfterT T)) te) δ (fun r => r = .dat d) := by
  refine ev_lamP (P := fun r => r = .dat d) (Pb := fun _ => d = .str "none") (X := excD T d) (d0 := .str "none") l hT (fun I => Dp.str _) ?_ body ?_
  · by_cases h : d = .str "none"
    · exact .inl (by rw [h])
    · exact .inr fun _ => h
  · rintro C fs ⟨k, rfl, h⟩ I' H' Q ok q
    rcases h with ⟨rfl, rfl⟩ | ⟨rfl, rfl⟩
    · exact .inl ⟨rfl, .int k, rfl, q _ _ I' H' rfl ok.re (Dp.int k)⟩
    · exact .inr ⟨rfl, .int k, rfl, q _ _ I' H' rfl ok.re (Dp.int k)⟩
def spLawT (K : PySem.W.Frag) (P : Addr) : Sp := fun vs H Q _ => ∃ (a : Addr) (ns : List Int), vs = [.ref a] ∧ SqL K H a (ns.map V.int) ∧ ns.length ≤ 63 ∧ H P = some (.tbl #[]) ∧ ∀ H', Q (.bl true) H'
theorem ok_law (T : Top K mg) (TB : LamX.TabB base mg T.k_law T.P_law) : FnOk P w K mg base CX0 14 T.a_law T.fd_law ["_law_script"] (spLawT K T.P_law) := by
  have G_law_take := ok_law_take (P := P) (w := w) (base := base) T
  have G_law_pick := ok_law_pick (P := P) (w := w) (base := base) T
  have G_law_open := ok_law_open (P := P) (w := w) (base := base) T
  have G_law_same := ok_law_same (P := P) (w := w) (base := base) T 5
  have G_law_any_sizes := ok_law_any_sizes (P := P) (w := w) (base := base) T
  have G_law_full_load := ok_law_full_load (P := P) (w := w) (base := base) T
  have G_law_stand := ok_law_stand (P := P) (w := w) (base := base) T
  have G_law_held_by := ok_law_held_by (P := P) (w := w) (base := base) T
  have G_law_counts_flaw := ok_law_counts_flaw (P := P) (w := w) (base := base) T
  have G_law_stand_flaw := ok_law_stand_flaw (P := P) (w := w) (base := base) T
  have G_look_counts := ok_look_counts (P := P) (w := w) (base := base) T
  have G_look_stand := ok_look_stand (P := P) (w := w) (base := base) T
  have G_counts_of := ok_counts_of (P := P) (w := w) (base := base) T
  have G_room := ok_room (P := P) (w := w) (base := base) T
  have B_counts_of_0_stand_sizes : KBn K T.fd_counts_of ["sizes", "stand"] 0 ["stand", "sizes"] kw21 kw21 := kbn_mk T.F_counts_of kw21 (fun _ _ _ _ _ _ us ws h1 h2 => match us, ws, h1, h2 with | [], [_, _], _, _ => rfl) kw21_rel
  obtain ⟨oc, od, kV, dc, pm, an, ct, osl, efd, lk, hcd⟩ := T.L_law
  rw [efd] at lk ⊢
  refine fn_of lk hcd sc_law (fun vs H Q E h => ?_) (fun A outer s H vs Q E hr h => ?_)
  · obtain ⟨a, ns, rfl, _⟩ := h
    rfl
  · obtain ⟨a, ns, rfl, hS, hlen, hP, q⟩ := h
    refine ⟨_, PSs.nox ((C8.pss_cut (ps_set (i := 1) sc_law.nd rfl (by first | exact Or.inl rfl | exact Or.inr rfl) (pe_call G_law_open (hr.mono (by omega)) (by rfl) T.g_law_open T.F_law_open.kp T.b_law_open .nil pass0 (pa_cons (pv 0) pa_nil)))
      (pss_cons (ps_for PassesOwn.never rfl (pi_range1 (by rfl) T.m_range (pa_cons pe_int pa_nil)) (pg_name (i := 2) sc_law.nd rfl (by first | exact Or.inl rfl | exact Or.inr rfl)) (pss_cons (ps_set (i := 3) sc_law.nd rfl (by first | exact Or.inl rfl | exact Or.inr rfl) (pe_call G_law_any_sizes (hr.mono (by omega)) (by rfl) T.g_law_any_sizes T.F_law_any_sizes.kp T.b_law_any_sizes .nil pass0 (pa_cons (pv 1) pa_nil)))
      (pss_cons (ps_set (i := 4) sc_law.nd rfl (by first | exact Or.inl rfl | exact Or.inr rfl) (pe_call G_law_full_load (hr.mono (by omega)) (by rfl) T.g_law_full_load T.F_law_full_load.kp T.b_law_full_load .nil pass0 (pa_cons (pv 1) (pa_cons (pv 3) pa_nil))))
      (pss_cons (ps_set (i := 5) sc_law.nd rfl (by first | exact Or.inl rfl | exact Or.inr rfl) (pe_call G_law_take (hr.mono (by omega)) (by rfl) T.g_law_take T.F_law_take.kp T.b_law_take .nil pass0 (pa_cons (pv 1) (pa_cons (pe_callB (k_len K) (by rfl) T.m_len PySem.boot_len (pa_cons (pv 4) pa_nil)) pa_nil))))
      (pss_cons (ps_set (i := 6) sc_law.nd rfl (by first | exact Or.inl rfl | exact Or.inr rfl) (pe_lst (pa_cons (pv 4) (pa_cons (pe_op (k_catA K) (pe_op (k_catA K) (pe_slice (k_sl_tup K) (pv 4) po_none (po_some (pv 5))) (TF.pe_tupF (pa_cons (pe_call G_law_pick (hr.mono (by omega)) (by rfl) T.g_law_pick T.F_law_pick.kp T.b_law_pick .nil pass0 (pa_cons (pv 1) (pa_cons (pe_lst (pa_cons (pe_un un_neg pe_int) (pa_cons (pe_op op_add (pe_ix (k_ix_tup K) (pv 3) (pv 5) (fun _ _ => rfl)) pe_int) (pa_cons (pe_op op_pow pe_int pe_int) pa_nil)))) pa_nil))) pa_nil))) (pe_slice (k_sl_tup K) (pv 4) (po_some (pe_op op_add (pv 5) pe_int)) po_none)) pa_nil))))
      (pss_cons (ps_set (i := 4) sc_law.nd rfl (by first | exact Or.inl rfl | exact Or.inr rfl) (pe_call G_law_pick (hr.mono (by omega)) (by rfl) T.g_law_pick T.F_law_pick.kp T.b_law_pick .nil pass0 (pa_cons (pv 1) (pa_cons (pe_op op_cat (pv 6) (pe_lst (pa_cons (pe_op (k_catA K) (pv 4) (TF.pe_tupF (pa_cons pe_int pa_nil))) (pa_cons (pe_slice (k_sl_tup K) (pv 4) (po_some pe_int) po_none) pa_nil)))) pa_nil))))
      (pss_cons (ps_set (i := 7) sc_law.nd rfl (by first | exact Or.inl rfl | exact Or.inr rfl) (pe_call G_law_counts_flaw (hr.mono (by omega)) (by rfl) T.g_law_counts_flaw T.F_law_counts_flaw.kp T.b_law_counts_flaw .nil pass0 (pa_cons (pv 3) (pa_cons (pv 4) pa_nil))))
      (pss_cons (ps_set (i := 8) sc_law.nd rfl (by first | exact Or.inl rfl | exact Or.inr rfl) (pe_lst (pa_cons (pe_law_told (k := 6) T TB rfl rfl rfl rfl rfl (by rfl) (hr.mono (by omega)) (LamX.lamS_by (sc := defScope s_law) (by decide +kernel)) rfl (fun _ _ _ _ _ => rfl) (fun A outer s H E f c' hr2 => (pe_call G_look_counts (hr2.mono (by omega)) (by rfl) T.g_look_counts T.F_look_counts.kp T.b_look_counts .nil passLam (pa_cons (pv 3) (pa_cons (pv 4) pa_nil))))) pa_nil)))
      (pss_cons (ps_expr (k_bm K PySem.F.plainAttrs_list PySem.F.slot_list_append PySem.F.type_list_append mt_append (pv 8) (pa_cons (pe_law_told (k := 6) T TB rfl rfl rfl rfl rfl (by rfl) (hr.mono (by omega)) (LamX.lamS_by (sc := defScope s_law) (by decide +kernel)) rfl (fun _ _ _ _ _ => rfl) (fun A outer s H E f c' hr2 => (pe_call G_room (hr2.mono (by omega)) (by rfl) T.g_room T.F_room.kp T.b_room .nil passLam (pa_cons (pv 3) (pa_cons (pv 4) pa_nil))))) pa_nil)))
      (pss_cons (ps_if (pt_not (pt_val (pe_call G_law_same (hr.mono (by omega)) (by rfl) T.g_law_same T.F_law_same.kp T.b_law_same .nil pass0 (pa_cons (pv 8) (pa_cons (pe_lst (pa_cons (pv 7) (pa_cons (pv 7) pa_nil))) pa_nil))))) (pss_one (ps_ret pe_bl)) pss_nil)
      (pss_cons (ps_set (i := 4) sc_law.nd rfl (by first | exact Or.inl rfl | exact Or.inr rfl) (pe_call G_law_stand (hr.mono (by omega)) (by rfl) T.g_law_stand T.F_law_stand.kp T.b_law_stand .nil pass0 (pa_cons (pv 1) (pa_cons (pv 3) (pa_cons pe_int (pa_cons pe_int pa_nil))))))
      (pss_cons (ps_set (i := 5) sc_law.nd rfl (by first | exact Or.inl rfl | exact Or.inr rfl) (pe_call G_law_take (hr.mono (by omega)) (by rfl) T.g_law_take T.F_law_take.kp T.b_law_take .nil pass0 (pa_cons (pv 1) (pa_cons (pe_op op_add (pe_callB (k_len K) (by rfl) T.m_len PySem.boot_len (pa_cons (pv 4) pa_nil)) pe_int) pa_nil))))
      (pss_cons (ps_set (i := 9) sc_law.nd rfl (by first | exact Or.inl rfl | exact Or.inr rfl) (pe_call G_law_pick (hr.mono (by omega)) (by rfl) T.g_law_pick T.F_law_pick.kp T.b_law_pick .nil pass0 (pa_cons (pv 1) (pa_cons (pe_lst (pa_cons (pe_callB (k_len K) (by rfl) T.m_len PySem.boot_len (pa_cons (pv 3) pa_nil)) (pa_cons (pe_un un_neg pe_int) (pa_cons (pe_op op_pow pe_int pe_int) (pa_cons pe_int (pa_cons (pe_op op_sub (pe_callB (k_len K) (by rfl) T.m_len PySem.boot_len (pa_cons (pv 3) pa_nil)) pe_int) (pa_cons (pe_un un_neg pe_int) pa_nil))))))) pa_nil))))
      (pss_cons (ps_set (i := 10) sc_law.nd rfl (by first | exact Or.inl rfl | exact Or.inr rfl) (pe_call G_law_pick (hr.mono (by omega)) (by rfl) T.g_law_pick T.F_law_pick.kp T.b_law_pick .nil pass0 (pa_cons (pv 1) (pa_cons (pe_lst (pa_cons pe_int (pa_cons pe_int (pa_cons (pe_op op_sub pe_int (pe_callB (k_len K) (by rfl) T.m_len PySem.boot_len (pa_cons (pv 4) pa_nil))) (pa_cons (pe_op op_sub pe_int (pe_callB (k_len K) (by rfl) T.m_len PySem.boot_len (pa_cons (pv 4) pa_nil))) pa_nil))))) pa_nil))))
      (pss_cons (ps_set (i := 4) sc_law.nd rfl (by first | exact Or.inl rfl | exact Or.inr rfl) (pe_call G_law_pick (hr.mono (by omega)) (by rfl) T.g_law_pick T.F_law_pick.kp T.b_law_pick .nil pass0 (pa_cons (pv 1) (pa_cons (pe_lst (pa_cons (pv 4) (pa_cons (pe_op (k_catA K) (pe_op (k_catA K) (pe_slice (k_sl_tup K) (pv 4) po_none (po_some (pv 5))) (TF.pe_tupF (pa_cons (pv 9) pa_nil))) (pe_slice (k_sl_tup K) (pv 4) (po_some (pv 5)) po_none)) (pa_cons (pe_op (k_catA K) (pv 4) (pe_op (k_repT K) (TF.pe_tupF (pa_cons (pv 9) pa_nil)) (pv 10))) pa_nil)))) pa_nil))))
      (pss_cons (ps_set (i := 7) sc_law.nd rfl (by first | exact Or.inl rfl | exact Or.inr rfl) (pe_call G_law_stand_flaw (hr.mono (by omega)) (by rfl) T.g_law_stand_flaw T.F_law_stand_flaw.kp T.b_law_stand_flaw .nil pass0 (pa_cons (pv 3) (pa_cons (pv 4) pa_nil))))
      (pss_cons (ps_set (i := 8) sc_law.nd rfl (by first | exact Or.inl rfl | exact Or.inr rfl) (pe_lst (pa_cons (pe_law_told (k := 6) T TB rfl rfl rfl rfl rfl (by rfl) (hr.mono (by omega)) (LamX.lamS_by (sc := defScope s_law) (by decide +kernel)) rfl (fun _ _ _ _ _ => rfl) (fun A outer s H E f c' hr2 => (pe_call G_look_stand (hr2.mono (by omega)) (by rfl) T.g_look_stand T.F_look_stand.kp T.b_look_stand .nil passLam (pa_cons (pv 3) (pa_cons (pv 4) pa_nil))))) pa_nil)))
      (pss_cons (ps_expr (k_bm K PySem.F.plainAttrs_list PySem.F.slot_list_append PySem.F.type_list_append mt_append (pv 8) (pa_cons (pe_law_told (k := 6) T TB rfl rfl rfl rfl rfl (by rfl) (hr.mono (by omega)) (LamX.lamS_by (sc := defScope s_law) (by decide +kernel)) rfl (fun _ _ _ _ _ => rfl) (fun A outer s H E f c' hr2 => (pe_call G_counts_of (hr2.mono (by omega)) (by rfl) T.g_counts_of T.F_counts_of.kp T.b_counts_of .nil passLam (pa_cons (pv 3) (pa_cons (pv 4) pa_nil))))) pa_nil)))
      (pss_cons (ps_if (pt_not (pt_val (pe_call G_law_same (hr.mono (by omega)) (by rfl) T.g_law_same T.F_law_same.kp T.b_law_same .nil pass0 (pa_cons (pv 8) (pa_cons (pe_lst (pa_cons (pv 7) (pa_cons (pv 7) pa_nil))) pa_nil))))) (pss_one (ps_ret pe_bl)) pss_nil)
      (pss_one (ps_if (PW.pt (pw_and (pt_cmpR op_eq (pv 7) pe_str (nomark _)) (pw_and1 (pt_not (pt_val (pe_call G_law_same (hr.mono (by omega)) (by rfl) T.g_law_same T.F_law_same.kp T.b_law_same .nil pass0 (pa_cons (pe_callK0 G_counts_of (hr.mono (by omega)) (by rfl) T.g_counts_of T.F_counts_of.kp B_counts_of_0_stand_sizes passL (pk_cons (pv 4) (pk_cons (pv 3) pk_nil))) (pa_cons (pe_call G_law_held_by (hr.mono (by omega)) (by rfl) T.g_law_held_by T.F_law_held_by.kp T.b_law_held_by .nil pass0 (pa_cons (pv 3) (pa_cons (pv 4) pa_nil))) pa_nil)))))))) (pss_one (ps_ret pe_bl)) pss_nil)))))))))))))))))))))
      (pss_one (ps_ret (pe_and (pe_cmpR op_isN (pe_call G_look_stand (hr.mono (by omega)) (by rfl) T.g_look_stand T.F_look_stand.kp T.b_look_stand .nil passL (pa_cons (TF.pe_tupF (pa_cons pe_int pa_nil)) (pa_cons (TF.pe_tupF pa_nil) pa_nil))) pe_non (nomark _)) (pe_one (pe_cmpR op_isN (pe_call G_look_counts (hr.mono (by omega)) (by rfl) T.g_look_counts T.F_look_counts.kp T.b_look_counts .nil passL (pa_cons (TF.pe_tupF (pa_cons pe_int pa_nil)) (pa_cons (TF.pe_tupF (pa_cons pe_int pa_nil)) pa_nil))) pe_non (nomark _))))))))), ?_⟩
    refine ⟨fun σ' H' => ∃ b l ms, σ' = [some (.ref a), some (.ref b), none, none, none, none, none, none, none, none, none] ∧ b ≠ l ∧ H' b = some (.lst [.ref l, .int 0, .int 0, .int 9465, .int 0]) ∧ H' l = some (.lst (ms.map V.int)) ∧ H' T.P_law = some (.tbl #[]), ⟨.ref a, rfl, a, ns, rfl, hS, fun b l ms H1 keep nbl hb hl => ⟨b, l, ms, rfl, nbl, hb, hl, keep _ _ hP⟩⟩, ?_⟩
    rintro σ1 H1 ⟨b, l, ms, rfl, nbl, hb, hl, hP⟩
    obtain ⟨I, k, n⟩ := bag_start (K := K) (n := 9) (T := tabs_law T) nbl hb hl (fun p hp => by
      rcases List.mem_cons.mp hp with e | e
      · rw [e]
        exact LamX.TabS.nil hP
      · cases e) (σ := [some (.ref a), some (.ref b), none, none, none, none, none, none, none, none, none]) rfl rfl
    refine law_run k n ?_ q
    refine sv_seq (N' := fun _ => True) (sv_for (itd_rng0 (n := 5) (ea_cons1 ev_int ea_nil) (by decide)) fun ds e => ⟨fun _ δ => δ.length = 11 ∧ δ[1]? = some (some .bag), ⟨rfl, rfl⟩, fun k d δk hd hj => ?_, fun _ _ => True.intro⟩) fun δ' _ => ?_
    · refine ⟨_, _, tg_name (by rw [hj.1]; decide), ?_⟩
      refine sv_bag (n := 9) (by rw [List.length_set]; exact hj.1) (by rw [List.getElem?_set_ne (by decide)]; exact hj.2) ?_
      refine sv_seq (N' := fun δ' => ∃ ms, δ' = [none, some .bag, none, some (.dat (nums ms)), none, none, none, none, none, none, none] ∧ Sz ms) (sv_asg (ev_call1 (P := fun r => ∃ ms, r = .dat (nums ms) ∧ Sz ms) () (ea_cons1 (ev_var rfl) ea_nil) True.intro (fun r h => h) noOwn_b) (ltr rfl) fun r ⟨ms, e, hz⟩ => by subst e; exact ⟨(fun _ z => by cases z), ms, rfl, hz⟩) ?_
      rintro δ' ⟨ms, rfl, hz⟩
      have l1 := hz.lo
      have l2 := hz.hi
      have okL : okLoad ms := ⟨by omega, fun m hm => ⟨(hz.all m hm).1, by have := (hz.all m hm).2; omega⟩⟩
      refine sv_seq (N' := fun δ' => ∃ cs : List Int, δ' = [none, some .bag, none, some (.dat (nums ms)), some (.dat (nums cs)), none, none, none, none, none, none] ∧ cs.length = ms.length) (sv_asg (ev_call1 (P := fun r => outLoad ms r) ms (ea_cons1 (ev_var rfl) (ea_cons1 (ev_var rfl) ea_nil)) okL (fun r h => h) (noOwn_bag fun _ z => by cases z)) (ltr rfl) fun r ⟨cs, e, hl, _⟩ => by subst e; exact ⟨(fun _ z => by cases z), cs, rfl, hl⟩) ?_
      rintro δ' ⟨cs, rfl, hcs⟩
      refine sv_seq (N' := fun δ' => ∃ at_ : Int, δ' = [none, some .bag, none, some (.dat (nums ms)), some (.dat (nums cs)), some (dint at_), none, none, none, none, none] ∧ 0 ≤ at_ ∧ at_ < (ms.length : Int)) (sv_asg (ev_take (n := (ms.length : Int)) rfl ((ev_len (ev_var rfl) (.inr rfl)).to (by rw [List.length_map, hcs])) ⟨by omega, by omega⟩) (ltr rfl) fun r ⟨i, e, h⟩ => by subst e; exact ⟨(fun _ z => by cases z), i, rfl, h⟩) ?_
      rintro δ' ⟨at_, rfl, ha0, ha1⟩
      have mat : (ms.map PyData.int)[at_.toNat]? = some (.int (ms.getD at_.toNat 0)) := nums_at ha0 (by omega)
      refine sv_seq (N' := fun δ' => ∃ xs : List Int, δ' = [none, some .bag, none, some (.dat (nums ms)), some (.dat (nums cs)), some (dint at_), some (.own [nums cs, nums xs]), none, none, none, none] ∧ xs.length ≤ 100) (sv_asg (ev_lst (A := fun ds => ∃ xs : List Int, ds = [nums cs, nums xs] ∧ xs.length ≤ 100) (ea_cons (ev_var rfl) (ea_cons (B := fun rs => ∃ xs : List Int, rs = [.dat (nums xs)] ∧ xs.length ≤ 100) (en_cat (en_cat (en_sl (ev_var rfl) eo_none (eo_some (ei_var rfl))) (en_tup (ea_consI (ev_pickI rfl (ea_consI (ei_U ei_int) (ea_consI (ei_I0 (ei_of (ev_ixT (ev_var rfl) (ev_var rfl) ha0 mat)) ei_int) (ea_consI (ei_of (ev_i2c ev_int ev_int ⟨by decide, by decide, by decide⟩)) ea_nilI))) ?_) ea_nilI) ?_) ?_) (en_sl (ev_var rfl) (eo_some (ei_I0 (ei_var rfl) ei_int)) eo_none) ?_) ea_nil ?_) ?_)) (ltr rfl) ?_) ?_
      · rintro ns ⟨i, ms, rfl, _, i2, ms2, rfl, _, i3, ms3, rfl, _, rfl⟩
        simp
      · rintro ns ⟨i, ms, rfl, _, rfl⟩
        simp
      · rintro xs ys h1 ⟨i, ms, rfl, _, rfl⟩
        simp
        omega
      · rintro xs ys ⟨x1, x2, h1, ⟨i, ms, rfl, _, rfl⟩, rfl⟩ h2
        simp
        omega
      · rintro r rs ⟨_, rfl, zs, ws, ⟨x1, x2, h1, ⟨i, ms, rfl, _, rfl⟩, rfl⟩, h2, rfl⟩ rfl
        exact ⟨_, rfl, by simp; omega⟩
      · rintro r rs rfl ⟨xs, rfl, h⟩
        exact ⟨[nums cs, nums xs], rfl, by simp, xs, rfl, h⟩
      · rintro r ⟨ds, rfl, xs, rfl, h⟩
        exact ⟨(fun _ z => by cases z), xs, rfl, h⟩
      rintro δ' ⟨xs, rfl, hxs⟩
      refine sv_seq (N' := fun δ' => ∃ rw : List Int, δ' = [none, some .bag, none, some (.dat (nums ms)), some (.dat (nums rw)), some (dint at_), some (.own [nums cs, nums xs]), none, none, none, none] ∧ rw.length ≤ 1000) (sv_asg (ev_pick (A := fun ds => ∃ ys zs : List Int, ds = [nums cs, nums xs, nums ys, nums zs] ∧ ys.length ≤ 100 ∧ zs.length ≤ 100) (B := fun d => ∃ rw : List Int, d = nums rw ∧ rw.length ≤ 1000) rfl (ev_frz ((ev_catL (x := .bag) (A := fun ds => ds = [nums cs, nums xs]) (B := fun ds => ∃ ys zs : List Int, ds = [nums ys, nums zs] ∧ ys.length ≤ 100 ∧ zs.length ≤ 100) ((ev_varB rfl).mono fun r e => ⟨_, .inr e, rfl⟩) (ev_lst (ea_cons (en_cat (en_var rfl) (en_tup (ea_consI ei_int ea_nilI) ?_) ?_) (ea_cons (B := fun rs => ∃ zs : List Int, rs = [.dat (nums zs)] ∧ zs.length ≤ 100) (en_sl (ev_var rfl) (eo_some ei_int) eo_none) ea_nil ?_) ?_)) ?_).mono ?_)) ?_) (ltr rfl) ?_) ?_
      · rintro ns ⟨i, ms, rfl, _, rfl⟩
        simp
      · rintro xs ys h1 ⟨i, ms, rfl, _, rfl⟩
        subst h1
        simp
        omega
      · rintro r rs ⟨zs, rfl, h⟩ rfl
        exact ⟨zs, rfl, by omega⟩
      · rintro r rs ⟨_, rfl, x1, x2, rfl, ⟨i, ms, rfl, _, rfl⟩, rfl⟩ ⟨zs, rfl, h⟩
        exact ⟨[nums (x1 ++ [i]), nums zs], rfl, by simp, x1 ++ [i], zs, rfl, by simp; omega, h⟩
      · rintro ds es rfl ⟨ys, zs, rfl, _⟩
        simp
      · rintro r ⟨ds, rfl, x1, x2, rfl, ⟨ys, zs, rfl, h1, h2⟩, rfl⟩
        exact ⟨_, rfl, ys, zs, rfl, h1, h2⟩
      · rintro ds ⟨ys, zs, rfl, h1, h2⟩
        refine ⟨⟨by simp, by simp⟩, fun d hd => ?_⟩
        simp only [List.mem_cons, List.not_mem_nil, or_false] at hd
        rcases hd with rfl | rfl | rfl | rfl
        · exact ⟨_, rfl, by omega⟩
        · exact ⟨_, rfl, by omega⟩
        · exact ⟨_, rfl, by omega⟩
        · exact ⟨_, rfl, by omega⟩
      · rintro r ⟨d, rfl, rw', rfl, h⟩
        exact ⟨(fun _ z => by cases z), rw', rfl, h⟩
      rintro δ' ⟨cs', rfl, hcs'⟩
      have okP : okPair (ms, cs') := ⟨hz, hcs'⟩
      refine sv_drop (δ' := [none, some .bag, none, some (.dat (nums ms)), some (.dat (nums cs')), none, none, none, none, none, none]) (by repeat constructor) ?_
      have flC := flawC_cases ms cs'
      refine sv_seq1 (sv_set (r := .dat (flawC ms cs')) (ev_call1 (P := fun r => r = .dat (flawC ms cs')) (ms, cs') (ea_cons1 (ev_var rfl) (ea_cons1 (ev_var rfl) ea_nil)) okP (fun r h => h) (noOwn_pair _))) ?_
      refine sv_seq1 (sv_set (r := .own [flawC ms cs']) (ev_lst1 (ds := [flawC ms cs']) (ea_cons1 (told_ev T (d := flawC ms cs') rfl (δ' := [none, none, none, some (.dat (nums ms)), some (.dat (nums cs')), none, none, none, none, none, none]) (by repeat constructor) fun I1 H1 E xw => ev_callX1 xw (ms, cs') (ea_cons1 (ev_var rfl) (ea_cons1 (ev_var rfl) ea_nil)) okP (noOwn_pair _) (fun r h => h.1) fun C fs ⟨k, e1, e2, e3⟩ => ⟨k, e1, .inl ⟨e2, e3⟩⟩) ea_nil) (by simp))) ?_
      refine sv_seq1 (sv_append (i := 8) (A := fun d => d = flawC ms cs') rfl rfl (by simp) ((told_ev T (d := flawC ms cs') rfl (δ' := [none, none, none, some (.dat (nums ms)), some (.dat (nums cs')), none, none, none, none, none, none]) (by repeat constructor) fun I1 H1 E xw => ev_callX1 xw (ms, cs') (ea_cons1 (ev_var rfl) (ea_cons1 (ev_var rfl) ea_nil)) okP (noOwn_pair _) (fun r h => h.1) fun C fs ⟨k, e1, e2, e3⟩ => ⟨k, e1, .inl ⟨e2, e3⟩⟩).mono fun r e => ⟨_, e, rfl⟩) fun d e => by rw [e]) ?_
      refine sv_frz (i := 8) rfl (noBor_at rfl) ?_
      have ff : ∀ d : PyData, (d = .str "none" ∨ ∃ k : Int, d = .int k) → Flat 5 (.list [d, d]) := fun d h => by
        have f : Flat 4 d := by
          rcases h with rfl | ⟨k, rfl⟩
          · exact flat_str
          · exact flat_int
        exact flat_l (by simp) (all_cons f (all_cons f all_nil))
      refine sv_skip (et_not1 (et_B1 (ev_same (d := .list [flawC ms cs', flawC ms cs']) (ev_var rfl) (ev_frz1 (ev_lst1 (ds := [flawC ms cs', flawC ms cs']) (ea_cons1 (ev_var rfl) (ea_cons1 (ev_var rfl) ea_nil)) (by simp))) (ff _ flC)))) ?_
      refine sv_drop (δ' := [none, some .bag, none, some (.dat (nums ms)), none, none, none, none, none, none, none]) (by repeat constructor) ?_
      refine sv_seq (N' := fun δ' => ∃ st : List Int, δ' = [none, some .bag, none, some (.dat (nums ms)), some (.dat (nums st)), none, none, none, none, none, none] ∧ st.length ≤ 60) (sv_asg (ev_call1 (P := fun r => outStand (ms, 60, 1) r) (ms, 60, 1) (ea_cons1 (ev_var rfl) (ea_cons1 (ev_var rfl) (ea_cons1 ev_int (ea_cons1 ev_int ea_nil)))) ⟨hz, ⟨(by decide : (0 : Int) ≤ 60), (by decide : (60 : Int) ≤ 1000)⟩, (by decide : (0 : Int) ≤ 1), (by decide : (1 : Int) ≤ 1)⟩ (fun r h => h) (noOwn_cons (fun _ z => by cases z) (noOwn_cons (fun _ z => by cases z) (noOwn_cons (fun _ z => by cases z) (noOwn_cons (fun _ z => by cases z) noOwn_nil))))) (ltr rfl) fun r ⟨st, e, hl, _⟩ => by subst e; exact ⟨(fun _ z => by cases z), st, rfl, by have hl : (st.length : Int) ≤ 60 := hl; omega⟩) ?_
      rintro δ' ⟨st, rfl, hst⟩
      refine sv_seq (N' := fun δ' => ∃ at_ : Int, δ' = [none, some .bag, none, some (.dat (nums ms)), some (.dat (nums st)), some (dint at_), none, none, none, none, none]) (sv_asg (ev_take (n := (st.length : Int) + 1) rfl (ev_i2 ((ev_len (ev_var rfl) (.inr rfl)).to (by rw [List.length_map])) ev_int) ⟨by omega, by omega⟩) (ltr rfl) fun r ⟨i, e, h⟩ => by subst e; exact ⟨(fun _ z => by cases z), i, rfl⟩) ?_
      rintro δ' ⟨at2, rfl⟩
      refine sv_seq (N' := fun δ' => ∃ odd : Int, δ' = [none, some .bag, none, some (.dat (nums ms)), some (.dat (nums st)), some (dint at2), none, none, none, some (dint odd), none]) (sv_asg (ev_pickI rfl (ea_consI (ei_of (ev_len (ev_var rfl) (.inr rfl))) (ea_consI (ei_U ei_int) (ea_consI (ei_of (ev_i2c ev_int ev_int ⟨by decide, by decide, by decide⟩)) (ea_consI ei_int (ea_consI (ei_I0 (ei_of (ev_len (ev_var rfl) (.inr rfl))) ei_int) (ea_consI (ei_U ei_int) ea_nilI)))))) ?_) (ltr rfl) fun r ⟨i, e, h⟩ => by subst e; exact ⟨(fun _ z => by cases z), i, rfl⟩) ?_
      · rintro ns ⟨i, ms, rfl, _, i2, ms2, rfl, _, i3, ms3, rfl, _, i4, ms4, rfl, _, i5, ms5, rfl, _, i6, ms6, rfl, _, rfl⟩
        simp
      rintro δ' ⟨odd, rfl⟩
      refine sv_seq (N' := fun δ' => ∃ lg : Int, δ' = [none, some .bag, none, some (.dat (nums ms)), some (.dat (nums st)), some (dint at2), none, none, none, some (dint odd), some (dint lg)] ∧ 0 ≤ lg ∧ lg ≤ 61) (sv_asg (ev_pickI rfl (ea_consI ei_int (ea_consI ei_int (ea_consI (ei_I0 ei_int (ei_of ((ev_len (ev_var rfl) (.inr rfl)).to (s := dint (st.length : Int)) (by rw [List.length_map])))) (ea_consI (ei_I0 ei_int (ei_of ((ev_len (ev_var rfl) (.inr rfl)).to (s := dint (st.length : Int)) (by rw [List.length_map])))) ea_nilI)))) ?_) (ltr rfl) ?_) ?_
      · rintro ns ⟨i, ms, rfl, _, i2, ms2, rfl, _, i3, ms3, rfl, _, i4, ms4, rfl, _, rfl⟩
        simp
      · rintro r ⟨i, rfl, ns, ⟨i1, ms, rfl, rfl, i2, ms2, rfl, rfl, i3, ms3, rfl, ⟨a3, b3, rfl, rfl, rfl⟩, i4, ms4, rfl, ⟨a4, b4, rfl, rfl, rfl⟩, rfl⟩, hk⟩
        refine ⟨(fun _ z => by cases z), i, rfl, ?_⟩
        simp only [List.mem_cons, List.not_mem_nil, or_false] at hk
        omega
      rintro δ' ⟨lg, rfl, hlg0, hlg1⟩
      refine sv_seq (N' := fun δ' => ∃ rw : List Int, δ' = [none, some .bag, none, some (.dat (nums ms)), some (.dat (nums rw)), some (dint at2), none, none, none, some (dint odd), some (dint lg)] ∧ rw.length ≤ 1000) (sv_asg (ev_pick (A := fun ds => ∃ ys zs : List Int, ds = [nums st, nums ys, nums zs] ∧ ys.length ≤ 1000 ∧ zs.length ≤ 1000) (B := fun d => ∃ rw : List Int, d = nums rw ∧ rw.length ≤ 1000) rfl (ev_frz (ev_lst (ea_cons (ev_var rfl) (ea_cons (B := fun rs => ∃ ys zs : List Int, rs = [.dat (nums ys), .dat (nums zs)] ∧ ys.length ≤ 1000 ∧ zs.length ≤ 1000) (en_cat (en_cat (en_sl (ev_var rfl) eo_none (eo_some (ei_var rfl))) (en_tup (ea_consI (ei_var rfl) ea_nilI) ?_) ?_) (en_sl (ev_var rfl) (eo_some (ei_var rfl)) eo_none) ?_) (ea_cons (B := fun rs => ∃ zs : List Int, rs = [.dat (nums zs)] ∧ zs.length ≤ 1000) (en_cat (en_var rfl) (en_rep (C := fun _ => True) (EvN.mono (en_tup (ea_consI (ei_var rfl) ea_nilI) ?_) ?_) (ei_var rfl) ?_) ?_) ea_nil ?_) ?_) ?_))) ?_) (ltr rfl) ?_) ?_
      · rintro ns ⟨i, ms, rfl, _, rfl⟩
        simp
      · rintro xs ys h1 ⟨i, ms, rfl, _, rfl⟩
        simp
        omega
      · rintro xs ys ⟨x1, x2, h1, ⟨i, ms, rfl, _, rfl⟩, rfl⟩ h2
        simp
        omega
      · rintro ns ⟨i, ms, rfl, _, rfl⟩
        simp
      · rintro ns ⟨i, ms, rfl, _, rfl⟩
        exact ⟨i, rfl, True.intro⟩
      · rintro n rfl
        omega
      · rintro xs ys rfl ⟨k, n, _, rfl, rfl⟩
        rw [List.length_replicate]
        omega
      · rintro r rs ⟨_, rfl, x1, x2, rfl, ⟨k, n, _, rfl, rfl⟩, rfl⟩ rfl
        exact ⟨_, rfl, by rw [List.length_append, List.length_replicate]; omega⟩
      · rintro r rs ⟨_, rfl, zs, ws, ⟨x1, x2, h1, ⟨i, ms, rfl, _, rfl⟩, rfl⟩, h2, rfl⟩ ⟨us, rfl, h3⟩
        exact ⟨_, us, rfl, by simp; omega, h3⟩
      · rintro r rs rfl ⟨ys, zs, rfl, h1, h2⟩
        exact ⟨[nums st, nums ys, nums zs], rfl, by simp, ys, zs, rfl, h1, h2⟩
      · rintro ds ⟨ys, zs, rfl, h1, h2⟩
        refine ⟨⟨by simp, by simp⟩, fun d hd => ?_⟩
        simp only [List.mem_cons, List.not_mem_nil, or_false] at hd
        rcases hd with rfl | rfl | rfl
        · exact ⟨_, rfl, by omega⟩
        · exact ⟨_, rfl, h1⟩
        · exact ⟨_, rfl, h2⟩
      · rintro r ⟨d, rfl, rw', rfl, h⟩
        exact ⟨(fun _ z => by cases z), rw', rfl, h⟩
      rintro δ' ⟨rs, rfl, hrs⟩
      have okS : okPair (ms, rs) := ⟨hz, hrs⟩
      have flS := flawS_cases ms rs
      refine sv_drop (δ' := [none, some .bag, none, some (.dat (nums ms)), some (.dat (nums rs)), none, none, none, none, none, none]) (by repeat constructor) ?_
      refine sv_seq1 (sv_set (r := .dat (flawS ms rs)) (ev_call1 (P := fun r => r = .dat (flawS ms rs)) (ms, rs) (ea_cons1 (ev_var rfl) (ea_cons1 (ev_var rfl) ea_nil)) okS (fun r h => h) (noOwn_pair _))) ?_
      refine sv_seq1 (sv_set (r := .own [flawS ms rs]) (ev_lst1 (ds := [flawS ms rs]) (ea_cons1 (told_ev T (d := flawS ms rs) rfl (δ' := [none, none, none, some (.dat (nums ms)), some (.dat (nums rs)), none, none, none, none, none, none]) (by repeat constructor) fun I1 H1 E xw => ev_callX1 xw (ms, rs) (ea_cons1 (ev_var rfl) (ea_cons1 (ev_var rfl) ea_nil)) okS (noOwn_pair _) (fun r h => h.1) fun C fs ⟨k, e1, e2, e3⟩ => ⟨k, e1, .inr ⟨e2, e3⟩⟩) ea_nil) (by simp))) ?_
      refine sv_seq1 (sv_append (i := 8) (A := fun d => d = flawS ms rs) rfl rfl (by simp) ((told_ev T (d := flawS ms rs) rfl (δ' := [none, none, none, some (.dat (nums ms)), some (.dat (nums rs)), none, none, none, none, none, none]) (by repeat constructor) fun I1 H1 E xw => ev_callX1 xw (ms, rs) (ea_cons1 (ev_var rfl) (ea_cons1 (ev_var rfl) ea_nil)) okS (noOwn_pair _) (fun r h => h.1) fun C fs ⟨k, e1, e2, e3⟩ => ⟨k, e1, .inr ⟨e2, e3⟩⟩).mono fun r e => ⟨_, e, rfl⟩) fun d e => by rw [e]) ?_
      refine sv_frz (i := 8) rfl (noBor_at rfl) ?_
      refine sv_skip (et_not1 (et_B1 (ev_same (d := .list [flawS ms rs, flawS ms rs]) (ev_var rfl) (ev_frz1 (ev_lst1 (ds := [flawS ms rs, flawS ms rs]) (ea_cons1 (ev_var rfl) (ea_cons1 (ev_var rfl) ea_nil)) (by simp))) (ff _ flS)))) ?_
      have cl : (countsOf ms rs).length ≤ 100000 := by
        rw [countsOf_len]
        omega
      rcases flS with hno | ⟨kk, hyes⟩
      · refine sv_if ((et_and1 (x := true) (y := false) (et_test1 (ev_eqS (d := .str "none") rfl ((ev_var rfl).to (by rw [hno])) ev_str)) fun _ => et_not1 (et_B1 (ev_same (d := nums (countsOf ms rs)) (ev_kw21X (ms, rs) (ea_cons1 (ev_var rfl) (ea_cons1 (ev_var rfl) ea_nil)) rfl okS (fun r h => h.2) ?_ (fun _ z => by cases z) (fun _ z => by cases z)) (ev_call1 (P := fun r => r = .dat (nums (countsOf ms rs))) (ms, rs) (ea_cons1 (ev_var rfl) (ea_cons1 (ev_var rfl) ea_nil)) ⟨(by show ms.length ≤ 1000; omega), hrs⟩ (fun r h => h) (noOwn_pair _)) (flat_nums cl))))) (fun z => by cases z) fun _ => sv_nil ⟨rfl, rfl⟩
        rintro C fs ⟨k', e1, _⟩
        rw [show flawS (ms, rs).1 (ms, rs).2 = .str "none" from hno] at e1
        cases e1
      · refine sv_if ((et_and1 (x := false) (y := false) (et_test1 (ev_eqIS ((ev_var rfl).to (s := dint kk) (by rw [hyes])) ev_str)) fun z => by cases z)) (fun z => by cases z) fun _ => sv_nil ⟨rfl, rfl⟩
    · have sz1 : Sz [1] := ⟨by simp, by simp, fun m hm => by
        simp only [List.mem_cons, List.not_mem_nil, or_false] at hm
        omega⟩
      refine sv_ret (ev_andV (A := fun x => x = true) ((ev_isN (d := .none) (ev_call (A := fun rs => rs = aPair ([1], [])) (ea_cons1 (ev_t1 ev_int) (ea_cons1 (ev_tup1 (ds := []) ea_nil) ea_nil)) fun rs e => ⟨([1], []), e, ⟨sz1, by simp⟩, e ▸ noOwn_pair _, fun r h => h.2, ?_⟩)).mono fun r e => ⟨_, e, rfl⟩) (fun _ => ev_isN (d := .none) (ev_call (A := fun rs => rs = aPair ([1], [1])) (ea_cons1 (ev_t1 ev_int) (ea_cons1 (ev_t1 ev_int) ea_nil)) fun rs e => ⟨([1], [1]), e, ⟨sz1, by simp⟩, e ▸ noOwn_pair _, fun r h => h.2, ?_⟩)) fun z => by cases z) fun r e => e
      · rintro C fs ⟨k', e1, _⟩
        cases e1
      · rintro C fs ⟨k', e1, _⟩
        have z : flawC [1] [1] = .str "none" := by
          unfold flawC
          rw [if_pos rfl]
          exact firstBad_no fun j hj => by
            have hj : j < 1 := hj
            have z0 : j = 0 := by omega
            subst z0
            rfl
        rw [show flawC ([1], [1]).1 ([1], [1]).2 = .str "none" from z] at e1
        cases e1
end
theorem all_mk {l : PySem.W.OpenLaw} {w : World} {K : PySem.W.Frag} {h : Heap} {mg : Str → Option Value} {fa : Addr} (X : K.In h) (G : h.Ns mainGlobals mg) (hfa : mg "law" = some (.ref fa))
    {P_law : Addr} (tab : ∀ P ∈ [P_law], h.get? P = some (PySem.W.tabObj #[])) {kc_law : Addr}
    {f_look_sizes : Addr} {od_look_sizes an_look_sizes : Option Addr} {sl_look_sizes : Array (Option Value)} {oc_look_sizes kV_look_sizes dc_look_sizes pm_look_sizes cd_look_sizes ct_look_sizes : Value}
    (a_look_sizes : PySem.W.nsIn K mainGlobals "look_sizes" = some (some (.ref f_look_sizes)))
    (l_look_sizes : K.lookup f_look_sizes = some ⟨oc_look_sizes, od_look_sizes, .func (PySem.W.fnOf "look_sizes" "look_sizes" (defArgs s_look_sizes) (defBody s_look_sizes) (defScope s_look_sizes) .none kV_look_sizes dc_look_sizes pm_look_sizes an_look_sizes cd_look_sizes ct_look_sizes), sl_look_sizes⟩)
    (c_look_sizes : PySem.W.codeIn K cd_look_sizes "look_sizes" = true)
    (k_look_sizes : PySem.W.keepIn K (.ref f_look_sizes) = true)
    {f_look_counts : Addr} {od_look_counts an_look_counts : Option Addr} {sl_look_counts : Array (Option Value)} {oc_look_counts kV_look_counts dc_look_counts pm_look_counts cd_look_counts ct_look_counts : Value}
    (a_look_counts : PySem.W.nsIn K mainGlobals "look_counts" = some (some (.ref f_look_counts)))
    (l_look_counts : K.lookup f_look_counts = some ⟨oc_look_counts, od_look_counts, .func (PySem.W.fnOf "look_counts" "look_counts" (defArgs s_look_counts) (defBody s_look_counts) (defScope s_look_counts) .none kV_look_counts dc_look_counts pm_look_counts an_look_counts cd_look_counts ct_look_counts), sl_look_counts⟩)
    (c_look_counts : PySem.W.codeIn K cd_look_counts "look_counts" = true)
    (k_look_counts : PySem.W.keepIn K (.ref f_look_counts) = true)
    {f_count_fault : Addr} {od_count_fault an_count_fault : Option Addr} {sl_count_fault : Array (Option Value)} {oc_count_fault kV_count_fault dc_count_fault pm_count_fault cd_count_fault ct_count_fault : Value}
    (a_count_fault : PySem.W.nsIn K mainGlobals "count_fault" = some (some (.ref f_count_fault)))
    (l_count_fault : K.lookup f_count_fault = some ⟨oc_count_fault, od_count_fault, .func (PySem.W.fnOf "count_fault" "count_fault" (defArgs s_count_fault) (defBody s_count_fault) (defScope s_count_fault) .none kV_count_fault dc_count_fault pm_count_fault an_count_fault cd_count_fault ct_count_fault), sl_count_fault⟩)
    (c_count_fault : PySem.W.codeIn K cd_count_fault "count_fault" = true)
    (k_count_fault : PySem.W.keepIn K (.ref f_count_fault) = true)
    {f_look_stand : Addr} {od_look_stand an_look_stand : Option Addr} {sl_look_stand : Array (Option Value)} {oc_look_stand kV_look_stand dc_look_stand pm_look_stand cd_look_stand ct_look_stand : Value}
    (a_look_stand : PySem.W.nsIn K mainGlobals "look_stand" = some (some (.ref f_look_stand)))
    (l_look_stand : K.lookup f_look_stand = some ⟨oc_look_stand, od_look_stand, .func (PySem.W.fnOf "look_stand" "look_stand" (defArgs s_look_stand) (defBody s_look_stand) (defScope s_look_stand) .none kV_look_stand dc_look_stand pm_look_stand an_look_stand cd_look_stand ct_look_stand), sl_look_stand⟩)
    (c_look_stand : PySem.W.codeIn K cd_look_stand "look_stand" = true)
    (k_look_stand : PySem.W.keepIn K (.ref f_look_stand) = true)
    {f_counts_of : Addr} {od_counts_of an_counts_of : Option Addr} {sl_counts_of : Array (Option Value)} {oc_counts_of kV_counts_of dc_counts_of pm_counts_of cd_counts_of ct_counts_of : Value}
    (a_counts_of : PySem.W.nsIn K mainGlobals "counts_of" = some (some (.ref f_counts_of)))
    (l_counts_of : K.lookup f_counts_of = some ⟨oc_counts_of, od_counts_of, .func (PySem.W.fnOf "counts_of" "counts_of" (defArgs s_counts_of) (defBody s_counts_of) (defScope s_counts_of) .none kV_counts_of dc_counts_of pm_counts_of an_counts_of cd_counts_of ct_counts_of), sl_counts_of⟩)
    (c_counts_of : PySem.W.codeIn K cd_counts_of "counts_of" = true)
    (k_counts_of : PySem.W.keepIn K (.ref f_counts_of) = true)
    {f_room : Addr} {od_room an_room : Option Addr} {sl_room : Array (Option Value)} {oc_room kV_room dc_room pm_room cd_room ct_room : Value}
    (a_room : PySem.W.nsIn K mainGlobals "room" = some (some (.ref f_room)))
    (l_room : K.lookup f_room = some ⟨oc_room, od_room, .func (PySem.W.fnOf "room" "room" (defArgs s_room) (defBody s_room) (defScope s_room) .none kV_room dc_room pm_room an_room cd_room ct_room), sl_room⟩)
    (c_room : PySem.W.codeIn K cd_room "room" = true)
    (k_room : PySem.W.keepIn K (.ref f_room) = true)
    {f_law_open : Addr} {od_law_open an_law_open : Option Addr} {sl_law_open : Array (Option Value)} {oc_law_open kV_law_open dc_law_open pm_law_open cd_law_open ct_law_open : Value}
    (a_law_open : PySem.W.nsIn K mainGlobals "_law_open" = some (some (.ref f_law_open)))
    (l_law_open : K.lookup f_law_open = some ⟨oc_law_open, od_law_open, .func (PySem.W.fnOf "_law_open" "_law_open" (defArgs s_law_open) (defBody s_law_open) (defScope s_law_open) .none kV_law_open dc_law_open pm_law_open an_law_open cd_law_open ct_law_open), sl_law_open⟩)
    (c_law_open : PySem.W.codeIn K cd_law_open "_law_open" = true)
    (k_law_open : PySem.W.keepIn K (.ref f_law_open) = true)
    {f_law_take : Addr} {od_law_take an_law_take : Option Addr} {sl_law_take : Array (Option Value)} {oc_law_take kV_law_take dc_law_take pm_law_take cd_law_take ct_law_take : Value}
    (a_law_take : PySem.W.nsIn K mainGlobals "_law_take" = some (some (.ref f_law_take)))
    (l_law_take : K.lookup f_law_take = some ⟨oc_law_take, od_law_take, .func (PySem.W.fnOf "_law_take" "_law_take" (defArgs s_law_take) (defBody s_law_take) (defScope s_law_take) .none kV_law_take dc_law_take pm_law_take an_law_take cd_law_take ct_law_take), sl_law_take⟩)
    (c_law_take : PySem.W.codeIn K cd_law_take "_law_take" = true)
    (k_law_take : PySem.W.keepIn K (.ref f_law_take) = true)
    {f_law_pick : Addr} {od_law_pick an_law_pick : Option Addr} {sl_law_pick : Array (Option Value)} {oc_law_pick kV_law_pick dc_law_pick pm_law_pick cd_law_pick ct_law_pick : Value}
    (a_law_pick : PySem.W.nsIn K mainGlobals "_law_pick" = some (some (.ref f_law_pick)))
    (l_law_pick : K.lookup f_law_pick = some ⟨oc_law_pick, od_law_pick, .func (PySem.W.fnOf "_law_pick" "_law_pick" (defArgs s_law_pick) (defBody s_law_pick) (defScope s_law_pick) .none kV_law_pick dc_law_pick pm_law_pick an_law_pick cd_law_pick ct_law_pick), sl_law_pick⟩)
    (c_law_pick : PySem.W.codeIn K cd_law_pick "_law_pick" = true)
    (k_law_pick : PySem.W.keepIn K (.ref f_law_pick) = true)
    {f_law_same : Addr} {od_law_same an_law_same : Option Addr} {sl_law_same : Array (Option Value)} {oc_law_same kV_law_same dc_law_same pm_law_same cd_law_same ct_law_same : Value}
    (a_law_same : PySem.W.nsIn K mainGlobals "_law_same" = some (some (.ref f_law_same)))
    (l_law_same : K.lookup f_law_same = some ⟨oc_law_same, od_law_same, .func (PySem.W.fnOf "_law_same" "_law_same" (defArgs s_law_same) (defBody s_law_same) (defScope s_law_same) .none kV_law_same dc_law_same pm_law_same an_law_same cd_law_same ct_law_same), sl_law_same⟩)
    (c_law_same : PySem.W.codeIn K cd_law_same "_law_same" = true)
    (k_law_same : PySem.W.keepIn K (.ref f_law_same) = true)
    {f_law_sizes : Addr} {od_law_sizes an_law_sizes : Option Addr} {sl_law_sizes : Array (Option Value)} {oc_law_sizes kV_law_sizes dc_law_sizes pm_law_sizes cd_law_sizes ct_law_sizes : Value}
    (a_law_sizes : PySem.W.nsIn K mainGlobals "_law_sizes" = some (some (.ref f_law_sizes)))
    (l_law_sizes : K.lookup f_law_sizes = some ⟨oc_law_sizes, od_law_sizes, .func (PySem.W.fnOf "_law_sizes" "_law_sizes" (defArgs s_law_sizes) (defBody s_law_sizes) (defScope s_law_sizes) .none kV_law_sizes dc_law_sizes pm_law_sizes an_law_sizes cd_law_sizes ct_law_sizes), sl_law_sizes⟩)
    (c_law_sizes : PySem.W.codeIn K cd_law_sizes "_law_sizes" = true)
    (k_law_sizes : PySem.W.keepIn K (.ref f_law_sizes) = true)
    {f_law_any_sizes : Addr} {od_law_any_sizes an_law_any_sizes : Option Addr} {sl_law_any_sizes : Array (Option Value)} {oc_law_any_sizes kV_law_any_sizes dc_law_any_sizes pm_law_any_sizes cd_law_any_sizes ct_law_any_sizes : Value}
    (a_law_any_sizes : PySem.W.nsIn K mainGlobals "_law_any_sizes" = some (some (.ref f_law_any_sizes)))
    (l_law_any_sizes : K.lookup f_law_any_sizes = some ⟨oc_law_any_sizes, od_law_any_sizes, .func (PySem.W.fnOf "_law_any_sizes" "_law_any_sizes" (defArgs s_law_any_sizes) (defBody s_law_any_sizes) (defScope s_law_any_sizes) .none kV_law_any_sizes dc_law_any_sizes pm_law_any_sizes an_law_any_sizes cd_law_any_sizes ct_law_any_sizes), sl_law_any_sizes⟩)
    (c_law_any_sizes : PySem.W.codeIn K cd_law_any_sizes "_law_any_sizes" = true)
    (k_law_any_sizes : PySem.W.keepIn K (.ref f_law_any_sizes) = true)
    {f_law_stand : Addr} {od_law_stand an_law_stand : Option Addr} {sl_law_stand : Array (Option Value)} {oc_law_stand kV_law_stand dc_law_stand pm_law_stand cd_law_stand ct_law_stand : Value}
    (a_law_stand : PySem.W.nsIn K mainGlobals "_law_stand" = some (some (.ref f_law_stand)))
    (l_law_stand : K.lookup f_law_stand = some ⟨oc_law_stand, od_law_stand, .func (PySem.W.fnOf "_law_stand" "_law_stand" (defArgs s_law_stand) (defBody s_law_stand) (defScope s_law_stand) .none kV_law_stand dc_law_stand pm_law_stand an_law_stand cd_law_stand ct_law_stand), sl_law_stand⟩)
    (c_law_stand : PySem.W.codeIn K cd_law_stand "_law_stand" = true)
    (k_law_stand : PySem.W.keepIn K (.ref f_law_stand) = true)
    {f_law_held_by : Addr} {od_law_held_by an_law_held_by : Option Addr} {sl_law_held_by : Array (Option Value)} {oc_law_held_by kV_law_held_by dc_law_held_by pm_law_held_by cd_law_held_by ct_law_held_by : Value}
    (a_law_held_by : PySem.W.nsIn K mainGlobals "_law_held_by" = some (some (.ref f_law_held_by)))
    (l_law_held_by : K.lookup f_law_held_by = some ⟨oc_law_held_by, od_law_held_by, .func (PySem.W.fnOf "_law_held_by" "_law_held_by" (defArgs s_law_held_by) (defBody s_law_held_by) (defScope s_law_held_by) .none kV_law_held_by dc_law_held_by pm_law_held_by an_law_held_by cd_law_held_by ct_law_held_by), sl_law_held_by⟩)
    (c_law_held_by : PySem.W.codeIn K cd_law_held_by "_law_held_by" = true)
    (k_law_held_by : PySem.W.keepIn K (.ref f_law_held_by) = true)
    {f_law_load : Addr} {od_law_load an_law_load : Option Addr} {sl_law_load : Array (Option Value)} {oc_law_load kV_law_load dc_law_load pm_law_load cd_law_load ct_law_load : Value}
    (a_law_load : PySem.W.nsIn K mainGlobals "_law_load" = some (some (.ref f_law_load)))
    (l_law_load : K.lookup f_law_load = some ⟨oc_law_load, od_law_load, .func (PySem.W.fnOf "_law_load" "_law_load" (defArgs s_law_load) (defBody s_law_load) (defScope s_law_load) .none kV_law_load dc_law_load pm_law_load an_law_load cd_law_load ct_law_load), sl_law_load⟩)
    (c_law_load : PySem.W.codeIn K cd_law_load "_law_load" = true)
    (k_law_load : PySem.W.keepIn K (.ref f_law_load) = true)
    {f_law_full_load : Addr} {od_law_full_load an_law_full_load : Option Addr} {sl_law_full_load : Array (Option Value)} {oc_law_full_load kV_law_full_load dc_law_full_load pm_law_full_load cd_law_full_load ct_law_full_load : Value}
    (a_law_full_load : PySem.W.nsIn K mainGlobals "_law_full_load" = some (some (.ref f_law_full_load)))
    (l_law_full_load : K.lookup f_law_full_load = some ⟨oc_law_full_load, od_law_full_load, .func (PySem.W.fnOf "_law_full_load" "_law_full_load" (defArgs s_law_full_load) (defBody s_law_full_load) (defScope s_law_full_load) .none kV_law_full_load dc_law_full_load pm_law_full_load an_law_full_load cd_law_full_load ct_law_full_load), sl_law_full_load⟩)
    (c_law_full_load : PySem.W.codeIn K cd_law_full_load "_law_full_load" = true)
    (k_law_full_load : PySem.W.keepIn K (.ref f_law_full_load) = true)
    {f_law_counts_flaw : Addr} {od_law_counts_flaw an_law_counts_flaw : Option Addr} {sl_law_counts_flaw : Array (Option Value)} {oc_law_counts_flaw kV_law_counts_flaw dc_law_counts_flaw pm_law_counts_flaw cd_law_counts_flaw ct_law_counts_flaw : Value}
    (a_law_counts_flaw : PySem.W.nsIn K mainGlobals "_law_counts_flaw" = some (some (.ref f_law_counts_flaw)))
    (l_law_counts_flaw : K.lookup f_law_counts_flaw = some ⟨oc_law_counts_flaw, od_law_counts_flaw, .func (PySem.W.fnOf "_law_counts_flaw" "_law_counts_flaw" (defArgs s_law_counts_flaw) (defBody s_law_counts_flaw) (defScope s_law_counts_flaw) .none kV_law_counts_flaw dc_law_counts_flaw pm_law_counts_flaw an_law_counts_flaw cd_law_counts_flaw ct_law_counts_flaw), sl_law_counts_flaw⟩)
    (c_law_counts_flaw : PySem.W.codeIn K cd_law_counts_flaw "_law_counts_flaw" = true)
    (k_law_counts_flaw : PySem.W.keepIn K (.ref f_law_counts_flaw) = true)
    {f_law_stand_flaw : Addr} {od_law_stand_flaw an_law_stand_flaw : Option Addr} {sl_law_stand_flaw : Array (Option Value)} {oc_law_stand_flaw kV_law_stand_flaw dc_law_stand_flaw pm_law_stand_flaw cd_law_stand_flaw ct_law_stand_flaw : Value}
    (a_law_stand_flaw : PySem.W.nsIn K mainGlobals "_law_stand_flaw" = some (some (.ref f_law_stand_flaw)))
    (l_law_stand_flaw : K.lookup f_law_stand_flaw = some ⟨oc_law_stand_flaw, od_law_stand_flaw, .func (PySem.W.fnOf "_law_stand_flaw" "_law_stand_flaw" (defArgs s_law_stand_flaw) (defBody s_law_stand_flaw) (defScope s_law_stand_flaw) .none kV_law_stand_flaw dc_law_stand_flaw pm_law_stand_flaw an_law_stand_flaw cd_law_stand_flaw ct_law_stand_flaw), sl_law_stand_flaw⟩)
    (c_law_stand_flaw : PySem.W.codeIn K cd_law_stand_flaw "_law_stand_flaw" = true)
    (k_law_stand_flaw : PySem.W.keepIn K (.ref f_law_stand_flaw) = true)
    {f_law_told : Addr} {od_law_told an_law_told : Option Addr} {sl_law_told : Array (Option Value)} {oc_law_told kV_law_told dc_law_told pm_law_told cd_law_told ct_law_told : Value}
    (a_law_told : PySem.W.nsIn K mainGlobals "_law_told" = some (some (.ref f_law_told)))
    (l_law_told : K.lookup f_law_told = some ⟨oc_law_told, od_law_told, .func (PySem.W.fnOf "_law_told" "_law_told" (defArgs s_law_told) (defBody s_law_told) (defScope s_law_told) .none kV_law_told dc_law_told pm_law_told an_law_told cd_law_told ct_law_told), sl_law_told⟩)
    (c_law_told : PySem.W.codeIn K cd_law_told "_law_told" = true)
    (k_law_told : PySem.W.keepIn K (.ref f_law_told) = true)
    {f_law : Addr} {od_law an_law : Option Addr} {sl_law : Array (Option Value)} {oc_law kV_law dc_law pm_law  ct_law : Value}
    (a_law : PySem.W.nsIn K mainGlobals "law" = some (some (.ref f_law)))
    (l_law : K.lookup f_law = some ⟨oc_law, od_law, .func (PySem.W.fnOf "law" "law" (defArgs s_law) (defBody s_law) (defScope s_law) .none kV_law dc_law pm_law an_law (.ref kc_law) ct_law), sl_law⟩)
    (c_law : PySem.W.codeIn K (.ref kc_law) "law" = true)
    (k_law : PySem.W.keepIn K (.ref f_law) = true)
    (nP : (K.lookup P_law).isNone = true)
    (hd : PySem.W.codeHdIn K kc_law P_law = true)
    (kt : ktB K = true)
    (kl : klB K = true)
    (z_enumerate : PySem.W.nsIn K mainGlobals "enumerate" = some none)
    (z_len : PySem.W.nsIn K mainGlobals "len" = some none)
    (z_list : PySem.W.nsIn K mainGlobals "list" = some none)
    (z_tuple : PySem.W.nsIn K mainGlobals "tuple" = some none)
    (z_range : PySem.W.nsIn K mainGlobals "range" = some none)
    (z_zip : PySem.W.nsIn K mainGlobals "zip" = some none)
    (z_isinstance : PySem.W.nsIn K mainGlobals "isinstance" = some none)
    (z_bool : PySem.W.nsIn K mainGlobals "bool" = some none)
    (z_int : PySem.W.nsIn K mainGlobals "int" = some none)
    (z_str : PySem.W.nsIn K mainGlobals "str" = some none)
    (z_all : PySem.W.nsIn K mainGlobals "all" = some none)
    {tk_MOST_CASKS : Tok}
    (v_MOST_CASKS : PySem.W.nsIn K mainGlobals "MOST_CASKS" = some (some (.int (6) tk_MOST_CASKS)))
    {tk_MOST_SIZE : Tok}
    (v_MOST_SIZE : PySem.W.nsIn K mainGlobals "MOST_SIZE" = some (some (.int (40) tk_MOST_SIZE)))
    {tk_MOST_DROPS : Tok}
    (v_MOST_DROPS : PySem.W.nsIn K mainGlobals "MOST_DROPS" = some (some (.int (60) tk_MOST_DROPS)))
    {tk_GONE : Tok}
    (v_GONE : PySem.W.nsIn K mainGlobals "GONE" = some (some (.int (-1) tk_GONE)))
    {C_BadSizes fi_BadSizes N_BadSizes : Addr} {nm_BadSizes q_BadSizes : Str} {bs_BadSizes bm_BadSizes : List Value} {od_BadSizes an_BadSizes : Option Addr} {sl_BadSizes : Array (Option Value)} {oc_BadSizes kV_BadSizes dc_BadSizes pm_BadSizes cd_BadSizes ct_BadSizes : Value}
    (a_BadSizes : PySem.W.nsIn K mainGlobals "BadSizes" = some (some (.ref C_BadSizes)))
    (i_BadSizes : PySem.W.findIn K (.ref C_BadSizes) "__init__" = some (some (.ref fi_BadSizes)))
    (l_BadSizes : K.lookup fi_BadSizes = some ⟨oc_BadSizes, od_BadSizes, .func (PySem.W.fnOf "__init__" "BadSizes.__init__" (defArgs si_BadSizes) (defBody si_BadSizes) (defScope si_BadSizes) .none kV_BadSizes dc_BadSizes pm_BadSizes an_BadSizes cd_BadSizes ct_BadSizes), sl_BadSizes⟩)
    (o_BadSizes : ∃ sn sub ab col dd k0 k1 k2 k3 k5, K.lookup C_BadSizes = some (excClassObj nm_BadSizes q_BadSizes C_BadSizes N_BadSizes bs_BadSizes bm_BadSizes true sn sub ab col dd k0 k1 k2 k3 k5 "ValueError.__new__"))
    (b_BadSizes : clsB K C_BadSizes fi_BadSizes "BadSizes.__init__" cd_BadSizes bm_BadSizes ["word", "cask"] = true)
    {C_BadCounts fi_BadCounts N_BadCounts : Addr} {nm_BadCounts q_BadCounts : Str} {bs_BadCounts bm_BadCounts : List Value} {od_BadCounts an_BadCounts : Option Addr} {sl_BadCounts : Array (Option Value)} {oc_BadCounts kV_BadCounts dc_BadCounts pm_BadCounts cd_BadCounts ct_BadCounts : Value}
    (a_BadCounts : PySem.W.nsIn K mainGlobals "BadCounts" = some (some (.ref C_BadCounts)))
    (i_BadCounts : PySem.W.findIn K (.ref C_BadCounts) "__init__" = some (some (.ref fi_BadCounts)))
    (l_BadCounts : K.lookup fi_BadCounts = some ⟨oc_BadCounts, od_BadCounts, .func (PySem.W.fnOf "__init__" "BadCounts.__init__" (defArgs si_BadCounts) (defBody si_BadCounts) (defScope si_BadCounts) .none kV_BadCounts dc_BadCounts pm_BadCounts an_BadCounts cd_BadCounts ct_BadCounts), sl_BadCounts⟩)
    (o_BadCounts : ∃ sn sub ab col dd k0 k1 k2 k3 k5, K.lookup C_BadCounts = some (excClassObj nm_BadCounts q_BadCounts C_BadCounts N_BadCounts bs_BadCounts bm_BadCounts true sn sub ab col dd k0 k1 k2 k3 k5 "ValueError.__new__"))
    (b_BadCounts : clsB K C_BadCounts fi_BadCounts "BadCounts.__init__" cd_BadCounts bm_BadCounts ["word", "cask"] = true)
    {C_BadStand fi_BadStand N_BadStand : Addr} {nm_BadStand q_BadStand : Str} {bs_BadStand bm_BadStand : List Value} {od_BadStand an_BadStand : Option Addr} {sl_BadStand : Array (Option Value)} {oc_BadStand kV_BadStand dc_BadStand pm_BadStand cd_BadStand ct_BadStand : Value}
    (a_BadStand : PySem.W.nsIn K mainGlobals "BadStand" = some (some (.ref C_BadStand)))
    (i_BadStand : PySem.W.findIn K (.ref C_BadStand) "__init__" = some (some (.ref fi_BadStand)))
    (l_BadStand : K.lookup fi_BadStand = some ⟨oc_BadStand, od_BadStand, .func (PySem.W.fnOf "__init__" "BadStand.__init__" (defArgs si_BadStand) (defBody si_BadStand) (defScope si_BadStand) .none kV_BadStand dc_BadStand pm_BadStand an_BadStand cd_BadStand ct_BadStand), sl_BadStand⟩)
    (o_BadStand : ∃ sn sub ab col dd k0 k1 k2 k3 k5, K.lookup C_BadStand = some (excClassObj nm_BadStand q_BadStand C_BadStand N_BadStand bs_BadStand bm_BadStand true sn sub ab col dd k0 k1 k2 k3 k5 "ValueError.__new__"))
    (b_BadStand : clsB K C_BadStand fi_BadStand "BadStand.__init__" cd_BadStand bm_BadStand ["word", "rank"] = true)
    (e_BadSizes_BadCounts : PySem.W.exmOne K (.ref C_BadSizes) (.ref C_BadCounts) = some false)
    (e_BadSizes_BadStand : PySem.W.exmOne K (.ref C_BadSizes) (.ref C_BadStand) = some false)
    (e_BadCounts_BadCounts : PySem.W.exmOne K (.ref C_BadCounts) (.ref C_BadCounts) = some true)
    (e_BadCounts_BadStand : PySem.W.exmOne K (.ref C_BadCounts) (.ref C_BadStand) = some false)
    (e_BadStand_BadCounts : PySem.W.exmOne K (.ref C_BadStand) (.ref C_BadCounts) = some false)
    (e_BadStand_BadStand : PySem.W.exmOne K (.ref C_BadStand) (.ref C_BadStand) = some true)
    : LamX.LawAtS l w K CX0 14 63 "_law_script" mg fa h := by
  have e := hfa.symm.trans (PySem.W.mg_of X G a_law)
  cases e
  have F_look_sizes := fun_mk (st := s_look_sizes) l_look_sizes c_look_sizes k_look_sizes
  have F_look_counts := fun_mk (st := s_look_counts) l_look_counts c_look_counts k_look_counts
  have F_count_fault := fun_mk (st := s_count_fault) l_count_fault c_count_fault k_count_fault
  have F_look_stand := fun_mk (st := s_look_stand) l_look_stand c_look_stand k_look_stand
  have F_counts_of := fun_mk (st := s_counts_of) l_counts_of c_counts_of k_counts_of
  have F_room := fun_mk (st := s_room) l_room c_room k_room
  have F_law_open := fun_mk (st := s_law_open) l_law_open c_law_open k_law_open
  have F_law_take := fun_mk (st := s_law_take) l_law_take c_law_take k_law_take
  have F_law_pick := fun_mk (st := s_law_pick) l_law_pick c_law_pick k_law_pick
  have F_law_same := fun_mk (st := s_law_same) l_law_same c_law_same k_law_same
  have F_law_sizes := fun_mk (st := s_law_sizes) l_law_sizes c_law_sizes k_law_sizes
  have F_law_any_sizes := fun_mk (st := s_law_any_sizes) l_law_any_sizes c_law_any_sizes k_law_any_sizes
  have F_law_stand := fun_mk (st := s_law_stand) l_law_stand c_law_stand k_law_stand
  have F_law_held_by := fun_mk (st := s_law_held_by) l_law_held_by c_law_held_by k_law_held_by
  have F_law_load := fun_mk (st := s_law_load) l_law_load c_law_load k_law_load
  have F_law_full_load := fun_mk (st := s_law_full_load) l_law_full_load c_law_full_load k_law_full_load
  have F_law_counts_flaw := fun_mk (st := s_law_counts_flaw) l_law_counts_flaw c_law_counts_flaw k_law_counts_flaw
  have F_law_stand_flaw := fun_mk (st := s_law_stand_flaw) l_law_stand_flaw c_law_stand_flaw k_law_stand_flaw
  have F_law_told := fun_mk (st := s_law_told) l_law_told c_law_told k_law_told
  have F_law := fun_mk (st := s_law) l_law c_law k_law
  have W_BadSizes := clsB_ok b_BadSizes (by obtain ⟨sn, sub, ab, col, dd, k0, k1, k2, k3, k5, e⟩ := o_BadSizes; exact ⟨_, _, _, _, sn, sub, ab, col, dd, k0, k1, k2, k3, k5, e⟩)
  have Fi_BadSizes := fun_mk (st := si_BadSizes) l_BadSizes W_BadSizes.cI W_BadSizes.kI
  have W_BadCounts := clsB_ok b_BadCounts (by obtain ⟨sn, sub, ab, col, dd, k0, k1, k2, k3, k5, e⟩ := o_BadCounts; exact ⟨_, _, _, _, sn, sub, ab, col, dd, k0, k1, k2, k3, k5, e⟩)
  have Fi_BadCounts := fun_mk (st := si_BadCounts) l_BadCounts W_BadCounts.cI W_BadCounts.kI
  have W_BadStand := clsB_ok b_BadStand (by obtain ⟨sn, sub, ab, col, dd, k0, k1, k2, k3, k5, e⟩ := o_BadStand; exact ⟨_, _, _, _, sn, sub, ab, col, dd, k0, k1, k2, k3, k5, e⟩)
  have Fi_BadStand := fun_mk (st := si_BadStand) l_BadStand W_BadStand.cI W_BadStand.kI
  let T : Top K mg := ⟨f_look_sizes, _, F_look_sizes, PySem.W.mg_of X G a_look_sizes, F_look_sizes.binds (ps := ["sizes"]) (fun _ _ _ _ _ _ us hl => match us, hl with | [_], _ => rfl),
    f_look_counts, _, F_look_counts, PySem.W.mg_of X G a_look_counts, F_look_counts.binds (ps := ["sizes", "counts"]) (fun _ _ _ _ _ _ us hl => match us, hl with | [_, _], _ => rfl),
    f_count_fault, _, F_count_fault, PySem.W.mg_of X G a_count_fault, F_count_fault.binds (ps := ["sizes", "counts"]) (fun _ _ _ _ _ _ us hl => match us, hl with | [_, _], _ => rfl),
    f_look_stand, _, F_look_stand, PySem.W.mg_of X G a_look_stand, F_look_stand.binds (ps := ["sizes", "stand"]) (fun _ _ _ _ _ _ us hl => match us, hl with | [_, _], _ => rfl),
    f_counts_of, _, F_counts_of, PySem.W.mg_of X G a_counts_of, F_counts_of.binds (ps := ["sizes", "stand"]) (fun _ _ _ _ _ _ us hl => match us, hl with | [_, _], _ => rfl),
    f_room, _, F_room, PySem.W.mg_of X G a_room, F_room.binds (ps := ["sizes", "counts"]) (fun _ _ _ _ _ _ us hl => match us, hl with | [_, _], _ => rfl),
    f_law_open, _, F_law_open, PySem.W.mg_of X G a_law_open, F_law_open.binds (ps := ["_law_script"]) (fun _ _ _ _ _ _ us hl => match us, hl with | [_], _ => rfl),
    f_law_take, _, F_law_take, PySem.W.mg_of X G a_law_take, F_law_take.binds (ps := ["_law_bag", "_law_sides"]) (fun _ _ _ _ _ _ us hl => match us, hl with | [_, _], _ => rfl),
    f_law_pick, _, F_law_pick, PySem.W.mg_of X G a_law_pick, F_law_pick.binds (ps := ["_law_bag", "_law_row"]) (fun _ _ _ _ _ _ us hl => match us, hl with | [_, _], _ => rfl),
    f_law_same, _, F_law_same, PySem.W.mg_of X G a_law_same, F_law_same.binds (ps := ["_law_found", "_law_due"]) (fun _ _ _ _ _ _ us hl => match us, hl with | [_, _], _ => rfl),
    f_law_sizes, _, F_law_sizes, PySem.W.mg_of X G a_law_sizes, F_law_sizes.binds (ps := ["_law_bag", "_law_mcasks", "_law_most"]) (fun _ _ _ _ _ _ us hl => match us, hl with | [_, _, _], _ => rfl),
    f_law_any_sizes, _, F_law_any_sizes, PySem.W.mg_of X G a_law_any_sizes, F_law_any_sizes.binds (ps := ["_law_bag"]) (fun _ _ _ _ _ _ us hl => match us, hl with | [_], _ => rfl),
    f_law_stand, _, F_law_stand, PySem.W.mg_of X G a_law_stand, F_law_stand.binds (ps := ["_law_bag", "_law_msizes", "_law_mmany", "_law_gone"]) (fun _ _ _ _ _ _ us hl => match us, hl with | [_, _, _, _], _ => rfl),
    f_law_held_by, _, F_law_held_by, PySem.W.mg_of X G a_law_held_by, F_law_held_by.binds (ps := ["_law_msizes", "_law_mstand"]) (fun _ _ _ _ _ _ us hl => match us, hl with | [_, _], _ => rfl),
    f_law_load, _, F_law_load, PySem.W.mg_of X G a_law_load, F_law_load.binds (ps := ["_law_bag", "_law_msizes"]) (fun _ _ _ _ _ _ us hl => match us, hl with | [_, _], _ => rfl),
    f_law_full_load, _, F_law_full_load, PySem.W.mg_of X G a_law_full_load, F_law_full_load.binds (ps := ["_law_bag", "_law_msizes"]) (fun _ _ _ _ _ _ us hl => match us, hl with | [_, _], _ => rfl),
    f_law_counts_flaw, _, F_law_counts_flaw, PySem.W.mg_of X G a_law_counts_flaw, F_law_counts_flaw.binds (ps := ["_law_msizes", "_law_row"]) (fun _ _ _ _ _ _ us hl => match us, hl with | [_, _], _ => rfl),
    f_law_stand_flaw, _, F_law_stand_flaw, PySem.W.mg_of X G a_law_stand_flaw, F_law_stand_flaw.binds (ps := ["_law_msizes", "_law_row"]) (fun _ _ _ _ _ _ us hl => match us, hl with | [_, _], _ => rfl),
    f_law_told, _, F_law_told, PySem.W.mg_of X G a_law_told, F_law_told.binds (ps := ["_law_ask"]) (fun _ _ _ _ _ _ us hl => match us, hl with | [_], _ => rfl),
    fa, _, F_law, PySem.W.mg_of X G a_law, F_law.binds (ps := ["_law_script"]) (fun _ _ _ _ _ _ us hl => match us, hl with | [_], _ => rfl),
    kt_by kt,
    kl_by kl,
    PySem.W.mg_none_of X G z_enumerate,
    PySem.W.mg_none_of X G z_len,
    PySem.W.mg_none_of X G z_list,
    PySem.W.mg_none_of X G z_tuple,
    PySem.W.mg_none_of X G z_range,
    PySem.W.mg_none_of X G z_zip,
    PySem.W.mg_none_of X G z_isinstance,
    PySem.W.mg_none_of X G z_bool,
    PySem.W.mg_none_of X G z_int,
    PySem.W.mg_none_of X G z_str,
    PySem.W.mg_none_of X G z_all,
    ⟨_, PySem.W.mg_of X G v_MOST_CASKS⟩,
    ⟨_, PySem.W.mg_of X G v_MOST_SIZE⟩,
    ⟨_, PySem.W.mg_of X G v_MOST_DROPS⟩,
    ⟨_, PySem.W.mg_of X G v_GONE⟩,
    C_BadSizes, PySem.W.mg_of X G a_BadSizes, W_BadSizes.o, W_BadSizes.f, fi_BadSizes, _, Fi_BadSizes, i_BadSizes, W_BadSizes.ti, Fi_BadSizes.binds (ps := ["self", "cask"]) (fun _ _ _ _ _ _ us hl => match us, hl with | [_, _], _ => rfl),
    W_BadSizes.nf _ (List.mem_cons_self ..),
    W_BadSizes.nf _ (List.mem_cons_of_mem _ (List.mem_cons_self ..)),
    C_BadCounts, PySem.W.mg_of X G a_BadCounts, W_BadCounts.o, W_BadCounts.f, fi_BadCounts, _, Fi_BadCounts, i_BadCounts, W_BadCounts.ti, Fi_BadCounts.binds (ps := ["self", "cask"]) (fun _ _ _ _ _ _ us hl => match us, hl with | [_, _], _ => rfl),
    W_BadCounts.nf _ (List.mem_cons_self ..),
    W_BadCounts.nf _ (List.mem_cons_of_mem _ (List.mem_cons_self ..)),
    C_BadStand, PySem.W.mg_of X G a_BadStand, W_BadStand.o, W_BadStand.f, fi_BadStand, _, Fi_BadStand, i_BadStand, W_BadStand.ti, Fi_BadStand.binds (ps := ["self", "rank"]) (fun _ _ _ _ _ _ us hl => match us, hl with | [_, _], _ => rfl),
    W_BadStand.nf _ (List.mem_cons_self ..),
    W_BadStand.nf _ (List.mem_cons_of_mem _ (List.mem_cons_self ..)),
    e_BadSizes_BadCounts,
    e_BadSizes_BadStand,
    e_BadCounts_BadCounts,
    e_BadCounts_BadStand,
    e_BadStand_BadCounts,
    e_BadStand_BadStand,
    kc_law, P_law, ⟨_, _, _, _, _, _, _, _, rfl, l_law, c_law⟩⟩
  have one : ∀ {q : Addr × Addr → Prop}, q (kc_law, P_law) → ∀ p ∈ [(kc_law, P_law)], q p := fun h p hp => by
    rcases List.mem_cons.mp hp with e | e
    · rw [e]; exact h
    · cases e
  exact ⟨PySem.W.fnOf "law" "law" (defArgs s_law) (defBody s_law) (defScope s_law) .none kV_law dc_law pm_law an_law (.ref kc_law) ct_law, [(kc_law, P_law)], spLawT K P_law, one (tab P_law (List.mem_cons_self ..)), one (Option.isNone_iff_eq_none.mp nP), one (PySem.W.codeHd_of_K X hd), fun s v => .of_eq rfl, fun H a ns hl _ hH hS => ⟨a, ns, rfl, hS, hl, hH _ (List.mem_cons_self ..), fun _ => rfl⟩, fun base _ _ TB => ok_law T (TB _ (List.mem_cons_self ..))⟩
end Lw
open PySem PySem.W PyProof.Rows
set_option maxHeartbeats 0 in
theorem PySem.Challenge.cw_hidelater_k02_counts_and_stands_judged_holds : PySem.Challenge.rw_hidelater_k02_counts_and_stands_judged.Holds := by
  w_on; o_law; k_head; (case hw => w_witness2)
  k_fill
  refine LamX.walk_ofTs (l := PySem.Challenge.rw_hidelater_k02_counts_and_stands_judged) (n := 63) (k := 14) (x := "_law_script") (CX := fun _ => L2.CX0) rfl (by decide) rfl ⟨rfl, by decide, by decide⟩ (fun w h Y => PySem.W.km_in_of Y) ?F (fun _ _ _ _ _ h => h)
  case F =>
    intro w mg fa h Y KX G hmg
    refine' Lw.all_mk KX G hmg (PySem.W.km_tabs_of Y) ?a_look_sizes ?l_look_sizes ?c_look_sizes ?k_look_sizes ?a_look_counts ?l_look_counts ?c_look_counts ?k_look_counts ?a_count_fault ?l_count_fault ?c_count_fault ?k_count_fault ?a_look_stand ?l_look_stand ?c_look_stand ?k_look_stand ?a_counts_of ?l_counts_of ?c_counts_of ?k_counts_of ?a_room ?l_room ?c_room ?k_room ?a_law_open ?l_law_open ?c_law_open ?k_law_open ?a_law_take ?l_law_take ?c_law_take ?k_law_take ?a_law_pick ?l_law_pick ?c_law_pick ?k_law_pick ?a_law_same ?l_law_same ?c_law_same ?k_law_same ?a_law_sizes ?l_law_sizes ?c_law_sizes ?k_law_sizes ?a_law_any_sizes ?l_law_any_sizes ?c_law_any_sizes ?k_law_any_sizes ?a_law_stand ?l_law_stand ?c_law_stand ?k_law_stand ?a_law_held_by ?l_law_held_by ?c_law_held_by ?k_law_held_by ?a_law_load ?l_law_load ?c_law_load ?k_law_load ?a_law_full_load ?l_law_full_load ?c_law_full_load ?k_law_full_load ?a_law_counts_flaw ?l_law_counts_flaw ?c_law_counts_flaw ?k_law_counts_flaw ?a_law_stand_flaw ?l_law_stand_flaw ?c_law_stand_flaw ?k_law_stand_flaw ?a_law_told ?l_law_told ?c_law_told ?k_law_told ?a_law ?l_law ?c_law ?k_law ?nP ?hd ?kt ?kl ?z_enumerate ?z_len ?z_list ?z_tuple ?z_range ?z_zip ?z_isinstance ?z_bool ?z_int ?z_str ?z_all ?v_MOST_CASKS ?v_MOST_SIZE ?v_MOST_DROPS ?v_GONE ?a_BadSizes ?i_BadSizes ?l_BadSizes ?o_BadSizes ?b_BadSizes ?a_BadCounts ?i_BadCounts ?l_BadCounts ?o_BadCounts ?b_BadCounts ?a_BadStand ?i_BadStand ?l_BadStand ?o_BadStand ?b_BadStand ?e_BadSizes_BadCounts ?e_BadSizes_BadStand ?e_BadCounts_BadCounts ?e_BadCounts_BadStand ?e_BadStand_BadCounts ?e_BadStand_BadStand
    (case a_look_sizes => k_is); (case l_look_sizes => k_is); (case c_look_sizes => k_is); (case k_look_sizes => k_is); (case a_look_counts => k_is); (case l_look_counts => k_is); (case c_look_counts => k_is); (case k_look_counts => k_is); (case a_count_fault => k_is); (case l_count_fault => k_is); (case c_count_fault => k_is); (case k_count_fault => k_is); (case a_look_stand => k_is); (case l_look_stand => k_is); (case c_look_stand => k_is); (case k_look_stand => k_is); (case a_counts_of => k_is); (case l_counts_of => k_is); (case c_counts_of => k_is); (case k_counts_of => k_is); (case a_room => k_is); (case l_room => k_is); (case c_room => k_is); (case k_room => k_is); (case a_law_open => k_is); (case l_law_open => k_is); (case c_law_open => k_is); (case k_law_open => k_is); (case a_law_take => k_is); (case l_law_take => k_is); (case c_law_take => k_is); (case k_law_take => k_is); (case a_law_pick => k_is); (case l_law_pick => k_is); (case c_law_pick => k_is); (case k_law_pick => k_is); (case a_law_same => k_is); (case l_law_same => k_is); (case c_law_same => k_is); (case k_law_same => k_is); (case a_law_sizes => k_is); (case l_law_sizes => k_is); (case c_law_sizes => k_is); (case k_law_sizes => k_is); (case a_law_any_sizes => k_is); (case l_law_any_sizes => k_is); (case c_law_any_sizes => k_is); (case k_law_any_sizes => k_is); (case a_law_stand => k_is); (case l_law_stand => k_is); (case c_law_stand => k_is); (case k_law_stand => k_is); (case a_law_held_by => k_is); (case l_law_held_by => k_is); (case c_law_held_by => k_is); (case k_law_held_by => k_is); (case a_law_load => k_is); (case l_law_load => k_is); (case c_law_load => k_is); (case k_law_load => k_is); (case a_law_full_load => k_is); (case l_law_full_load => k_is); (case c_law_full_load => k_is); (case k_law_full_load => k_is); (case a_law_counts_flaw => k_is); (case l_law_counts_flaw => k_is); (case c_law_counts_flaw => k_is); (case k_law_counts_flaw => k_is); (case a_law_stand_flaw => k_is); (case l_law_stand_flaw => k_is); (case c_law_stand_flaw => k_is); (case k_law_stand_flaw => k_is); (case a_law_told => k_is); (case l_law_told => k_is); (case c_law_told => k_is); (case k_law_told => k_is); (case a_law => k_is); (case l_law => k_is); (case c_law => k_is); (case k_law => k_is); (case nP => kernel_rfl); (case hd => kernel_rfl); (case kt => kernel_rfl); (case kl => kernel_rfl); (case z_enumerate => k_is); (case z_len => k_is); (case z_list => k_is); (case z_tuple => k_is); (case z_range => k_is); (case z_zip => k_is); (case z_isinstance => k_is); (case z_bool => k_is); (case z_int => k_is); (case z_str => k_is); (case z_all => k_is); (case v_MOST_CASKS => k_is); (case v_MOST_SIZE => k_is); (case v_MOST_DROPS => k_is); (case v_GONE => k_is); (case a_BadSizes => k_is); (case i_BadSizes => k_is); (case l_BadSizes => k_is); (case o_BadSizes => exact ⟨_, _, _, _, _, _, _, _, _, _, rfl⟩); (case b_BadSizes => kernel_rfl); (case a_BadCounts => k_is); (case i_BadCounts => k_is); (case l_BadCounts => k_is); (case o_BadCounts => exact ⟨_, _, _, _, _, _, _, _, _, _, rfl⟩); (case b_BadCounts => kernel_rfl); (case a_BadStand => k_is); (case i_BadStand => k_is); (case l_BadStand => k_is); (case o_BadStand => exact ⟨_, _, _, _, _, _, _, _, _, _, rfl⟩); (case b_BadStand => kernel_rfl); (case e_BadSizes_BadCounts => kernel_rfl); (case e_BadSizes_BadStand => kernel_rfl); (case e_BadCounts_BadCounts => kernel_rfl); (case e_BadCounts_BadStand => kernel_rfl); (case e_BadStand_BadCounts => kernel_rfl); (case e_BadStand_BadStand => kernel_rfl)
