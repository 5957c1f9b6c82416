import PyProof.Rows.All
import Wide.All
import OpenK.AllK
import Wide.FinOn
import HandS.ForMost
import HandS.Walk
import HandS.Zip
import HandS.IsInst
import HandS.Wide
import HandS.TupAny
import HandS.TupMul
import HandS.EndBits
import HandS.Flow
import HandS.Defaults
import HandS.Codes
import PySem.Challenge.RW_hidelater_k04_rows_of_numbers_beside_one
set_option Elab.async false
set_option linter.all false
set_option maxRecDepth 100000
set_option maxHeartbeats 4000000
/-! The data logic: what a reading is worth, told of plain data. -/
namespace DL
open PySem L2

/-- a slot's worth: plain data; a list that this def alone holds; such a list lent; a value as it is -/
inductive DV where
  | dat (d : PyData)
  | own (ds : List PyData)
  | bor (ds : List PyData)
  | raw (v : V)
  | bag

abbrev dint (i : Int) : DV := .dat (.int i)
abbrev dbl (b : Bool) : DV := .dat (.bool b)
abbrev dstr (s : Str) : DV := .dat (.str s)
abbrev Env := List (Option DV)

/-! ### data stay -/
theorem rd_mono {H H' : Hp} {a : Addr} {u : HO} (e : Same H H') (h : Rd H a u) : Rd H' a u := by
  rcases h with h | ⟨o, h⟩
  · exact .inl (e _ _ h)
  · exact .inr ⟨o, e _ _ h⟩
theorem sl_mono {K : PySem.W.Frag} {H H' : Hp} {a : Addr} {xs : List V} (e : Same H H') (h : SqL K H a xs) : SqL K H' a xs := h.imp (rd_mono e) id
theorem st_mono {K : PySem.W.Frag} {H H' : Hp} {a : Addr} {xs : List V} (e : Same H H') (h : SqT K H a xs) : SqT K H' a xs := h.imp (rd_mono e) id
mutual
theorem dp_mono {K : PySem.W.Frag} {H H' : Hp} (e : Same H H') : ∀ {v : V} {d : PyData}, Dp K H v d → Dp K H' v d
  | _, _, .non => .non
  | _, _, .bl b => .bl b
  | _, _, .int i => .int i
  | _, _, .str x => .str x
  | _, _, .lst q r => .lst (sl_mono e q) (dpa_mono e r)
  | _, _, .tup q r => .tup (st_mono e q) (dpa_mono e r)
theorem dpa_mono {K : PySem.W.Frag} {H H' : Hp} (e : Same H H') : ∀ {vs : List V} {ds : List PyData}, DpAll K H vs ds → DpAll K H' vs ds
  | _, _, .nil => .nil
  | _, _, .cons q r => .cons (dp_mono e q) (dpa_mono e r)
end
theorem dpa_len {K : PySem.W.Frag} {H : Hp} : ∀ {vs : List V} {ds : List PyData}, DpAll K H vs ds → vs.length = ds.length
  | _, _, .nil => rfl
  | _, _, .cons _ r => congrArg Nat.succ (dpa_len r)
theorem dpa_app {K : PySem.W.Frag} {H : Hp} : ∀ {vs ws : List V} {ds es : List PyData}, DpAll K H vs ds → DpAll K H ws es → DpAll K H (vs ++ ws) (ds ++ es)
  | _, _, _, _, .nil, r => r
  | _, _, _, _, .cons q t, r => .cons q (dpa_app t r)
theorem dpa_get {K : PySem.W.Frag} {H : Hp} : ∀ {vs : List V} {ds : List PyData} {i : Nat} {d : PyData}, DpAll K H vs ds → ds[i]? = some d → ∃ v, vs[i]? = some v ∧ Dp K H v d
  | _, _, _, _, .nil, h => by simp at h
  | _, _, 0, _, .cons q _, h => by
    have e := Option.some.inj h
    subst e
    exact ⟨_, rfl, q⟩
  | _, _, i + 1, _, .cons _ r, h => dpa_get (i := i) r h
theorem dpa_set {K : PySem.W.Frag} {H : Hp} {v : V} {d : PyData} (q : Dp K H v d) : ∀ {vs : List V} {ds : List PyData} (i : Nat), DpAll K H vs ds → DpAll K H (vs.set i v) (ds.set i d)
  | _, _, _, .nil => .nil
  | _, _, 0, .cons _ r => .cons q r
  | _, _, i + 1, .cons p r => .cons p (dpa_set q i r)
theorem dpa_take {K : PySem.W.Frag} {H : Hp} : ∀ {vs : List V} {ds : List PyData} (n : Nat), DpAll K H vs ds → DpAll K H (vs.take n) (ds.take n)
  | _, _, 0, _ => .nil
  | _, _, _ + 1, .nil => .nil
  | _, _, n + 1, .cons q r => .cons q (dpa_take n r)
theorem dpa_drop {K : PySem.W.Frag} {H : Hp} : ∀ {vs : List V} {ds : List PyData} (n : Nat), DpAll K H vs ds → DpAll K H (vs.drop n) (ds.drop n)
  | _, _, 0, r => r
  | _, _, _ + 1, .nil => .nil
  | _, _, n + 1, .cons _ r => dpa_drop n r
theorem dpa_ints {K : PySem.W.Frag} {H : Hp} : ∀ {vs : List V} {ns : List Int}, DpAll K H vs (ns.map .int) → vs = ns.map V.int
  | [], [], _ => rfl
  | _ :: _, n :: ns, .cons q r => by
    cases q
    rw [dpa_ints r]
    rfl
theorem dpa_bools {K : PySem.W.Frag} {H : Hp} : ∀ {vs : List V} {ns : List Bool}, DpAll K H vs (ns.map .bool) → vs = ns.map V.bl
  | [], [], _ => rfl
  | _ :: _, n :: ns, .cons q r => by
    cases q
    rw [dpa_bools r]
    rfl
theorem dpa_ofInts {K : PySem.W.Frag} {H : Hp} : ∀ (ns : List Int), DpAll K H (ns.map V.int) (ns.map .int)
  | [] => .nil
  | n :: ns => .cons (.int n) (dpa_ofInts ns)

/-! ### the bag of draws, the state -/
def Bag (K : PySem.W.Frag) (b : Addr) (I H : Hp) : Prop := I b = none ∧ ∃ (l : Addr) (ns : List Int) (p q m c : Int),
  H b = some (.lst [.ref l, .int p, .int q, .int m, .int c]) ∧ SqL K I l (ns.map V.int) ∧ 0 ≤ p ∧ 0 ≤ q ∧ 0 ≤ m ∧ m < 2147483647
/-- from (I, H) to (I', H'): what is known stays, all but the bag stays as it stood, what was not plain does not become plain; the bag is a bag -/
structure Ext (K : PySem.W.Frag) (b : Addr) (I H I' H' : Hp) : Prop where
  i : Same I I'
  h : ∀ a o, a ≠ b → H a = some o → H' a = some o
  n : ∀ a, I a = none → H a ≠ none → I' a = none
  s : Same I' H'
  b : Bag K b I' H'
section
variable {K : PySem.W.Frag} {b : Addr} {I H I' H' I2 H2 : Hp}
theorem Bag.some (B : Bag K b I H) : H b ≠ none := by
  obtain ⟨_, l, ns, p, q, m, c, e, _⟩ := B
  rw [e]
  exact fun z => by cases z
theorem Ext.here (e : Ext K b I H I' H') {a : Addr} (h : H a ≠ none) : H' a ≠ none := by
  by_cases ha : a = b
  · rw [ha]
    exact e.b.some
  · cases q : H a with
    | none => exact absurd q h
    | some o => rw [e.h a o ha q]; exact fun z => by cases z
theorem Ext.trans (e : Ext K b I H I' H') (f : Ext K b I' H' I2 H2) : Ext K b I H I2 H2 :=
  ⟨e.i.trans f.i, fun a o n h => f.h a o n (e.h a o n h), fun a n h => f.n a (e.n a n h) (e.here h), f.s, f.b⟩
theorem Ext.refl (S : Same I H) (B : Bag K b I H) : Ext K b I H I H := ⟨Same.refl I, fun _ _ _ h => h, fun _ n _ => n, S, B⟩
theorem Ext.re (e : Ext K b I H I' H') : Ext K b I' H' I' H' := Ext.refl e.s e.b
theorem Ext.free (e : Ext K b I H I' H') {a : Addr} (h : H' a = none) : H a = none := by
  cases q : H a with
  | none => rfl
  | some o => exact absurd h (e.here (by rw [q]; exact fun z => by cases z))
/-- a new object, plain from now on -/
theorem Ext.new {p : Addr} {o : HO} (S : Same I H) (B : Bag K b I H) (hp : H p = none) : Ext K b I H (upd I p o) (upd H p o) := by
  have ip : I p = none := by
    cases q : I p with
    | none => rfl
    | some u => rw [S p u q] at hp; cases hp
  have pb : b ≠ p := fun z => B.some (z ▸ hp)
  refine ⟨fun a u h => ?_, fun a u _ h => ?_, fun a n h => ?_, fun a u h => ?_, ?_⟩
  · rw [upd_ne (ne_of_none h ip)]; exact h
  · rw [upd_ne (ne_of_none h hp)]; exact h
  · rw [upd_ne (fun (z : a = p) => h (by rw [z]; exact hp))]; exact n
  · by_cases z : a = p
    · subst z; rw [upd_same] at h ⊢; exact h
    · rw [upd_ne z] at h ⊢; exact S a u h
  · obtain ⟨n, l, ns, x, q, m, c, e, sl, r⟩ := B
    refine ⟨by rw [upd_ne pb]; exact n, l, ns, x, q, m, c, by rw [upd_ne pb]; exact e, ?_, r⟩
    exact sl_mono (fun a u h => by rw [upd_ne (ne_of_none h ip)]; exact h) sl
/-- a new object, not plain -/
theorem Ext.newH {p : Addr} {o : HO} (S : Same I H) (B : Bag K b I H) (hp : H p = none) : Ext K b I H I (upd H p o) := by
  have pb : b ≠ p := fun z => B.some (z ▸ hp)
  refine ⟨Same.refl I, fun a u _ h => ?_, fun a n h => n, fun a u h => ?_, ?_⟩
  · rw [upd_ne (ne_of_none h hp)]; exact h
  · rw [upd_ne (ne_of_none (S a u h) hp)]; exact S a u h
  · obtain ⟨n, l, ns, x, q, m, c, e, sl, r⟩ := B
    exact ⟨n, l, ns, x, q, m, c, by rw [upd_ne pb]; exact e, sl, r⟩
end

/-- v is worth r; H0: the heap at the def's entry -/
def Res (K : PySem.W.Frag) (b : Addr) (H0 I H : Hp) (v : V) : DV → Prop
  | .dat d => Dp K I v d
  | .own ds => ∃ a xs, v = .ref a ∧ H0 a = none ∧ I a = none ∧ a ≠ b ∧ H a = some (.lst xs) ∧ DpAll K I xs ds
  | .bor ds => ∃ a xs, v = .ref a ∧ H a = some (.lst xs) ∧ a ≠ b ∧ I a = none ∧ DpAll K I xs ds
  | .raw u => v = u
  | .bag => v = .ref b
structure EnvR (K : PySem.W.Frag) (b : Addr) (H0 I H : Hp) (σ : St) (δ : Env) : Prop where
  len : σ.length = δ.length
  at_ : ∀ (i : Nat) (r : DV), δ[i]? = some (some r) → ∃ v, σ[i]? = some (some v) ∧ Res K b H0 I H v r
  nd : ∀ (i j : Nat) (a : Addr) (ds es : List PyData), δ[i]? = some (some (.own ds)) → σ[i]? = some (some (.ref a)) → δ[j]? = some (some (.own es)) → σ[j]? = some (some (.ref a)) → i = j
section
variable {K : PySem.W.Frag} {b : Addr} {H0 I H I' H' : Hp} {v : V} {r : DV} {σ : St} {δ : Env}
theorem Res.ext (e : Ext K b I H I' H') (h : Res K b H0 I H v r) : Res K b H0 I' H' v r := by
  cases r with
  | dat d => exact dp_mono e.i h
  | own ds =>
    obtain ⟨a, xs, rfl, h0, hi, hb, ha, hd⟩ := h
    exact ⟨a, xs, rfl, h0, e.n a hi (by rw [ha]; exact fun z => by cases z), hb, e.h a _ hb ha, dpa_mono e.i hd⟩
  | bor ds =>
    obtain ⟨a, xs, rfl, ha, hb, hi, hd⟩ := h
    exact ⟨a, xs, rfl, e.h a _ hb ha, hb, e.n a hi (by rw [ha]; exact fun z => by cases z), dpa_mono e.i hd⟩
  | raw u => exact h
  | bag => exact h
theorem EnvR.ext (e : Ext K b I H I' H') (h : EnvR K b H0 I H σ δ) : EnvR K b H0 I' H' σ δ :=
  ⟨h.len, fun i r q => (h.at_ i r q).imp fun v z => ⟨z.1, z.2.ext e⟩, h.nd⟩
/-- fewer slots are known -/
theorem EnvR.less {δ' : Env} (h : EnvR K b H0 I H σ δ) (hl : δ'.length = δ.length) (hs : ∀ (i : Nat) (r : DV), δ'[i]? = some (some r) → δ[i]? = some (some r)) : EnvR K b H0 I H σ δ' :=
  ⟨h.len.trans hl.symm, fun i r q => h.at_ i r (hs i r q), fun i j a ds es h1 h2 h3 h4 => h.nd i j a ds es (hs _ _ h1) h2 (hs _ _ h3) h4⟩
/-- a lookup list is read -/
def LstR (r : DV) (ds : List PyData) : Prop := r = .own ds ∨ r = .bor ds ∨ r = .dat (.list ds)
theorem LstR.read {ds : List PyData} (S : Same I H) (l : LstR r ds) (h : Res K b H0 I H v r) : ∃ a xs, v = .ref a ∧ SqL K H a xs ∧ DpAll K I xs ds := by
  rcases l with rfl | rfl | rfl
  · obtain ⟨a, xs, rfl, _, _, _, ha, hd⟩ := h
    exact ⟨a, xs, rfl, .inl (.inl ha), hd⟩
  · obtain ⟨a, xs, rfl, ha, _, _, hd⟩ := h
    exact ⟨a, xs, rfl, .inl (.inl ha), hd⟩
  · have h : Dp K I v (.list ds) := h
    cases h with
    | lst q r => exact ⟨_, _, rfl, sl_mono S q, r⟩
theorem tup_read {ds : List PyData} (S : Same I H) (h : Res K b H0 I H v (.dat (.tuple ds))) : ∃ a xs, v = .ref a ∧ SqT K H a xs ∧ DpAll K I xs ds := by
  have h : Dp K I v (.tuple ds) := h
  cases h with
  | tup q r => exact ⟨_, _, rfl, st_mono S q, r⟩
theorem int_read {i : Int} (h : Res K b H0 I H v (dint i)) : v = .int i := by
  have h : Dp K I v (.int i) := h
  cases h; rfl
theorem bl_read {i : Bool} (h : Res K b H0 I H v (dbl i)) : v = .bl i := by
  have h : Dp K I v (.bool i) := h
  cases h; rfl
theorem str_read {i : Str} (h : Res K b H0 I H v (dstr i)) : v = .str i := by
  have h : Dp K I v (.str i) := h
  cases h; rfl
theorem non_read (h : Res K b H0 I H v (.dat .none)) : v = .non := by
  have h : Dp K I v .none := h
  cases h; rfl
/-- a slot is set -/
theorem EnvR.set (h : EnvR K b H0 I H σ δ) {i : Nat} (hi : i < δ.length) (q : Res K b H0 I H v r)
    (hf : ∀ a ds, r = .own ds → v = .ref a → ∀ (j : Nat) es, j ≠ i → δ[j]? = some (some (.own es)) → σ[j]? ≠ some (some (.ref a))) : EnvR K b H0 I H (σ.set i (some v)) (δ.set i (some r)) := by
  have hi' : i < σ.length := by rw [h.len]; exact hi
  refine ⟨by rw [List.length_set, List.length_set]; exact h.len, fun j u e => ?_, fun j k a ds es h1 h2 h3 h4 => ?_⟩
  · by_cases z : i = j
    · subst z
      rw [List.getElem?_set_self hi] at e
      cases e
      exact ⟨v, by rw [List.getElem?_set_self hi'], q⟩
    · rw [List.getElem?_set_ne z] at e
      obtain ⟨w, e1, e2⟩ := h.at_ j u e
      exact ⟨w, by rw [List.getElem?_set_ne z]; exact e1, e2⟩
  · by_cases zj : i = j
    · by_cases zk : i = k
      · rw [← zj, ← zk]
      · subst zj
        rw [List.getElem?_set_self hi] at h1
        rw [List.getElem?_set_self hi'] at h2
        rw [List.getElem?_set_ne zk] at h3 h4
        cases h1; cases h2
        exact absurd h4 (hf a ds rfl rfl k es (fun q => zk q.symm) h3)
    · by_cases zk : i = k
      · subst zk
        rw [List.getElem?_set_self hi] at h3
        rw [List.getElem?_set_self hi'] at h4
        rw [List.getElem?_set_ne zj] at h1 h2
        cases h3; cases h4
        exact absurd h2 (hf a es rfl rfl j ds (fun q => zj q.symm) h1)
      · rw [List.getElem?_set_ne zj] at h1 h2
        rw [List.getElem?_set_ne zk] at h3 h4
        exact h.nd j k a ds es h1 h2 h3 h4
theorem EnvR.setD (h : EnvR K b H0 I H σ δ) {i : Nat} (hi : i < δ.length) (q : Res K b H0 I H v r) (hr : ∀ ds, r ≠ .own ds) : EnvR K b H0 I H (σ.set i (some v)) (δ.set i (some r)) :=
  h.set hi q fun _ ds e => absurd e (hr ds)
end
end DL

set_option Elab.async false
set_option linter.all false
set_option maxRecDepth 100000
set_option maxHeartbeats 4000000
namespace DL
open PySem L2
structure Ok (K : PySem.W.Frag) (b : Addr) (I H : Hp) : Prop where
  s : Same I H
  b : Bag K b I H
section
variable {K : PySem.W.Frag} {b : Addr} {I0 H0 I H I' H' : Hp}
theorem Ext.ok (e : Ext K b I0 H0 I H) : Ok K b I H := ⟨e.s, e.b⟩
theorem Ok.re (o : Ok K b I H) : Ext K b I H I H := Ext.refl o.s o.b
theorem Ok.new {p : Addr} {o : HO} (k : Ok K b I H) (hp : H p = none) : Ext K b I H (upd I p o) (upd H p o) := Ext.new k.s k.b hp
theorem Ok.newH {p : Addr} {o : HO} (k : Ok K b I H) (hp : H p = none) : Ext K b I H I (upd H p o) := Ext.newH k.s k.b hp
theorem Ok.inone (k : Ok K b I H) {p : Addr} (hp : H p = none) : I p = none := by
  cases q : I p with
  | none => rfl
  | some u => rw [k.s p u q] at hp; cases hp
theorem Ok.nb (k : Ok K b I H) {p : Addr} (hp : H p = none) : p ≠ b := fun z => k.b.some (z ▸ hp)
theorem Res.since {H1 : Hp} {v : V} {r : DV} (h : Res K b H1 I H v r) (f : ∀ a, H1 a = none → H0 a = none) : Res K b H0 I H v r := by
  cases r with
  | own ds =>
    obtain ⟨a, xs, rfl, h0, hi, hb, ha, hd⟩ := h
    exact ⟨a, xs, rfl, f a h0, hi, hb, ha, hd⟩
  | _ => exact h
end
section
variable (K : PySem.W.Frag) (b : Addr) (H0 : Hp)
/-- the reading te, where the slots are worth δ, gives a worth in P -/
def EvD (te : TE) (δ : Env) (P : DV → Prop) : Prop := ∀ (σ : St) (I H : Hp), Ok K b I H → EnvR K b H0 I H σ δ → ∀ Q : VK,
  (∀ r v I' H', P r → Ext K b I H I' H' → Res K b H I' H' v r → Q v H') → te σ H Q
def EvT (tt : TT) (δ : Env) (P : Bool → Prop) : Prop := ∀ (σ : St) (I H : Hp), Ok K b I H → EnvR K b H0 I H σ δ → ∀ Q : Bool → Hp → Prop,
  (∀ c I' H', P c → Ext K b I H I' H' → Q c H') → tt σ H Q
inductive ResA (K : PySem.W.Frag) (b : Addr) (H0 I H : Hp) : List V → List DV → Prop
  | nil : ResA K b H0 I H [] []
  | cons {v : V} {vs : List V} {r : DV} {rs : List DV} : Res K b H0 I H v r → ResA K b H0 I H vs rs → ResA K b H0 I H (v :: vs) (r :: rs)
def EvA (ta : TA) (δ : Env) (P : List DV → Prop) : Prop := ∀ (σ : St) (I H : Hp), Ok K b I H → EnvR K b H0 I H σ δ → ∀ Q : List V → Hp → Prop,
  (∀ rs vs I' H', P rs → Ext K b I H I' H' → ResA K b H I' H' vs rs → Q vs H') → ta σ H Q
end
section
variable (K : PySem.W.Frag) (b : Addr)
/-- an operation on two worths -/
def OpD (r : R2) (x y : DV) (P : DV → Prop) : Prop := ∀ (H0 I H : Hp) (v w : V), Ok K b I H → Res K b H0 I H v x → Res K b H0 I H w y → ∀ Q : VK,
  (∀ z u I' H', P z → Ext K b I H I' H' → Res K b H I' H' u z → Q u H') → r v w H Q
def UnD (r : V → Hp → VK → Prop) (x : DV) (P : DV → Prop) : Prop := ∀ (H0 I H : Hp) (v : V), Ok K b I H → Res K b H0 I H v x → ∀ Q : VK,
  (∀ z u I' H', P z → Ext K b I H I' H' → Res K b H I' H' u z → Q u H') → r v H Q
def CbD (r : List V → Hp → VK → Prop) (rs : List DV) (P : DV → Prop) : Prop := ∀ (H0 I H : Hp) (vs : List V), Ok K b I H → ResA K b H0 I H vs rs → ∀ Q : VK,
  (∀ z u I' H', P z → Ext K b I H I' H' → Res K b H I' H' u z → Q u H') → r vs H Q
end
section
variable {K : PySem.W.Frag} {b : Addr} {H0 H1 I H I' H' : Hp} {δ : Env} {ta tb te : TE} {P Pa Pb : DV → Prop}
theorem ResA.ext (e : Ext K b I H I' H') : ∀ {vs : List V} {rs : List DV}, ResA K b H0 I H vs rs → ResA K b H0 I' H' vs rs
  | _, _, .nil => .nil
  | _, _, .cons q r => .cons (q.ext e) (ResA.ext e r)
theorem ResA.since (f : ∀ a, H1 a = none → H0 a = none) : ∀ {vs : List V} {rs : List DV}, ResA K b H1 I H vs rs → ResA K b H0 I H vs rs
  | _, _, .nil => .nil
  | _, _, .cons q r => .cons (q.since f) (ResA.since f r)
theorem EvD.mono (h : EvD K b H0 te δ Pa) (m : ∀ r, Pa r → P r) : EvD K b H0 te δ P := fun σ I H e n Q q => h σ I H e n Q fun r v I' H' p => q r v I' H' (m r p)
theorem EvT.mono {tt : TT} {A B : Bool → Prop} (h : EvT K b H0 tt δ A) (m : ∀ r, A r → B r) : EvT K b H0 tt δ B := fun σ I H e n Q q => h σ I H e n Q fun r I' H' p => q r I' H' (m r p)
theorem EvA.mono {ta : TA} {A B : List DV → Prop} (h : EvA K b H0 ta δ A) (m : ∀ r, A r → B r) : EvA K b H0 ta δ B := fun σ I H e n Q q => h σ I H e n Q fun r v I' H' p => q r v I' H' (m r p)
theorem EvD.to {r s : DV} (h : EvD K b H0 te δ (fun x => x = r)) (e : r = s) : EvD K b H0 te δ (fun x => x = s) := e ▸ h
/-- a name -/
theorem ev_var {i : Nat} {r : DV} (h : δ[i]? = some (some r)) (hr : ∀ ds, r ≠ .own ds := by intro _ z; cases z) : EvD K b H0 (tVar i) δ (fun x => x = r) := fun σ I H e n Q q => by
  obtain ⟨v, e1, e2⟩ := n.at_ i r h
  refine ⟨v, e1, q r v I H rfl e.re ?_⟩
  cases r with
  | own ds => exact absurd rfl (hr ds)
  | dat d => exact e2
  | bor ds => exact e2
  | raw u => exact e2
  | bag => exact e2
/-- a list of its own, lent -/
theorem ev_varB {i : Nat} {ds : List PyData} (h : δ[i]? = some (some (.own ds))) : EvD K b H0 (tVar i) δ (fun x => x = .bor ds) := fun σ I H e n Q q => by
  obtain ⟨v, e1, e2⟩ := n.at_ i _ h
  obtain ⟨a, xs, rfl, _, hi, hb, ha, hd⟩ := e2
  exact ⟨_, e1, q _ _ I H rfl e.re ⟨a, xs, rfl, ha, hb, hi, hd⟩⟩
theorem ev_int {i : Int} : EvD K b H0 (tC (.int i)) δ (fun x => x = dint i) := fun σ I H e n Q q => q _ _ I H rfl e.re (Dp.int i)
theorem ev_bl {i : Bool} : EvD K b H0 (tC (.bl i)) δ (fun x => x = dbl i) := fun σ I H e n Q q => q _ _ I H rfl e.re (Dp.bl i)
theorem ev_str {i : Str} : EvD K b H0 (tC (.str i)) δ (fun x => x = dstr i) := fun σ I H e n Q q => q _ _ I H rfl e.re (Dp.str i)
theorem ev_non : EvD K b H0 (tC .non) δ (fun x => x = .dat .none) := fun σ I H e n Q q => q _ _ I H rfl e.re Dp.non
theorem ev_raw {v : V} : EvD K b H0 (tC v) δ (fun x => x = .raw v) := fun σ I H e n Q q => q _ _ I H rfl e.re rfl
/-- a fresh list becomes plain -/
theorem Ext.frz {a : Addr} {xs : List V} (e : Ext K b I H I' H') (k : Ok K b I H) (h0 : H a = none) (hi : I' a = none) (hb : a ≠ b) (ha : H' a = some (.lst xs)) : Ext K b I H (upd I' a (.lst xs)) H' := by
  refine ⟨fun c o h => ?_, e.h, fun c n h => ?_, fun c o h => ?_, ?_⟩
  · rw [upd_ne (ne_of_none h (k.inone h0))]; exact e.i c o h
  · rw [upd_ne (fun (z : c = a) => h (by rw [z]; exact h0))]; exact e.n c n h
  · by_cases z : c = a
    · subst z; rw [upd_same] at h; rw [ha]; exact h
    · rw [upd_ne z] at h; exact e.s c o h
  · obtain ⟨n, l, ns, x, q, m, c, e1, sl, r⟩ := e.b
    refine ⟨by rw [upd_ne (fun z => hb z.symm)]; exact n, l, ns, x, q, m, c, e1, sl_mono (fun d u h => ?_) sl, r⟩
    rw [upd_ne (ne_of_none h hi)]; exact h
theorem frz_res {ds : List PyData} {v : V} {I2 H2 : Hp} (k : Ok K b I2 H2) (e : Ext K b I2 H2 I' H') (rs : Res K b H2 I' H' v (.own ds)) : ∃ I'', Ext K b I2 H2 I'' H' ∧ Res K b H2 I'' H' v (.dat (.list ds)) := by
  obtain ⟨a, xs, rfl, h0, hi, hb, ha, hd⟩ := rs
  have s1 : Same I' (upd I' a (.lst xs)) := fun c o h => by rw [upd_ne (ne_of_none h hi)]; exact h
  exact ⟨_, e.frz k h0 hi hb ha, .lst (.inl (.inl upd_same)) (dpa_mono s1 hd)⟩
/-- a list that was made becomes plain data -/
theorem ev_frz {A : List PyData → Prop} (h : EvD K b H0 te δ (fun x => ∃ ds, x = .own ds ∧ A ds)) : EvD K b H0 te δ (fun x => ∃ ds, x = .dat (.list ds) ∧ A ds) := fun σ I H e n Q q =>
  h σ I H e n Q fun r v I' H' p x rs => by
    obtain ⟨ds, rfl, p⟩ := p
    obtain ⟨I'', x', rs'⟩ := frz_res e x rs
    exact q _ _ I'' H' ⟨ds, rfl, p⟩ x' rs'
theorem ev_frz1 {ds : List PyData} (h : EvD K b H0 te δ (fun x => x = .own ds)) : EvD K b H0 te δ (fun x => x = .dat (.list ds)) := fun σ I H e n Q q =>
  h σ I H e n Q fun r v I' H' p x rs => by
    subst p
    obtain ⟨I'', x', rs'⟩ := frz_res e x rs
    exact q _ _ I'' H' rfl x' rs'
/-! ### operations -/
theorem free_of (e : Ext K b I H I' H') : ∀ a, H' a = none → H a = none := fun _ h => e.free h
theorem ev_op {r : R2} (ha : EvD K b H0 ta δ Pa) (hb : EvD K b H0 tb δ Pb) (ho : ∀ x y, Pa x → Pb y → OpD K b r x y P) : EvD K b H0 (tOp r ta tb) δ P := fun σ I H e n Q q =>
  ha σ I H e n _ fun x v I1 H1 p1 x1 r1 => hb σ I1 H1 x1.ok (n.ext x1) _ fun y w I2 H2 p2 x2 r2 =>
    ho x y p1 p2 H I2 H2 v w x2.ok (r1.ext x2) (r2.since (free_of x1)) Q fun z u I3 H3 p3 x3 r3 => q z u I3 H3 p3 ((x1.trans x2).trans x3) (r3.since (free_of (x1.trans x2)))
theorem ev_un {r : V → Hp → VK → Prop} (ha : EvD K b H0 ta δ Pa) (ho : ∀ x, Pa x → UnD K b r x P) : EvD K b H0 (tUn r ta) δ P := fun σ I H e n Q q =>
  ha σ I H e n _ fun x v I1 H1 p1 x1 r1 => ho x p1 H I1 H1 v x1.ok r1 Q fun z u I3 H3 p3 x3 r3 => q z u I3 H3 p3 (x1.trans x3) (r3.since (free_of x1))
theorem ea_nil : EvA K b H0 tNil δ (fun x => x = []) := fun σ I H e n Q q => q [] [] I H rfl e.re .nil
theorem ea_cons {tr : TA} {A : List DV → Prop} {B : List DV → Prop} (ha : EvD K b H0 ta δ Pa) (hr : EvA K b H0 tr δ A) (hB : ∀ r rs, Pa r → A rs → B (r :: rs)) : EvA K b H0 (tCons ta tr) δ B := fun σ I H e n Q q =>
  ha σ I H e n _ fun x v I1 H1 p1 x1 r1 => hr σ I1 H1 x1.ok (n.ext x1) _ fun rs vs I2 H2 p2 x2 r2 =>
    q (x :: rs) (v :: vs) I2 H2 (hB x rs p1 p2) (x1.trans x2) (.cons (r1.ext x2) (r2.since (free_of x1)))
/-- the same, the worths told one by one -/
theorem ea_cons1 {tr : TA} {r : DV} {rs : List DV} (ha : EvD K b H0 ta δ (fun x => x = r)) (hr : EvA K b H0 tr δ (fun x => x = rs)) : EvA K b H0 (tCons ta tr) δ (fun x => x = r :: rs) :=
  ea_cons ha hr fun _ _ e f => by rw [e, f]
theorem ev_cb {r : List V → Hp → VK → Prop} {t : TA} {A : List DV → Prop} (ha : EvA K b H0 t δ A) (hc : ∀ rs, A rs → CbD K b r rs P) : EvD K b H0 (tCB r t) δ P := fun σ I H e n Q q =>
  ha σ I H e n _ fun rs vs I1 H1 p1 x1 r1 => hc rs p1 H I1 H1 vs x1.ok r1 Q fun z u I2 H2 p2 x2 r2 => q z u I2 H2 p2 (x1.trans x2) (r2.since (free_of x1))
/-! ### tests -/
theorem et_test {A : Bool → Prop} (h : EvD K b H0 te δ (fun x => ∃ c, x = dbl c ∧ A c)) : EvT K b H0 (tTest te) δ A := fun σ I H e n Q q =>
  h σ I H e n _ fun r v I' H' p x rs => by
    obtain ⟨c, rfl, p⟩ := p
    exact ⟨c, bl_read rs, q c I' H' p x⟩
theorem et_B {A : Bool → Prop} (h : EvD K b H0 te δ (fun x => ∃ c, x = dbl c ∧ A c)) : EvT K b H0 (tB te) δ A := fun σ I H e n Q q =>
  h σ I H e n _ fun r v I' H' p x rs => by
    obtain ⟨c, rfl, p⟩ := p
    exact ⟨c, bl_read rs, q c I' H' p x⟩
theorem et_test1 {c : Bool} (h : EvD K b H0 te δ (fun x => x = dbl c)) : EvT K b H0 (tTest te) δ (fun x => x = c) := et_test (h.mono fun _ e => ⟨c, e, rfl⟩)
theorem et_B1 {c : Bool} (h : EvD K b H0 te δ (fun x => x = dbl c)) : EvT K b H0 (tB te) δ (fun x => x = c) := et_B (h.mono fun _ e => ⟨c, e, rfl⟩)
theorem et_and {t u : TT} {A B C : Bool → Prop} (h1 : EvT K b H0 t δ A) (h2 : A true → EvT K b H0 u δ B) (h3 : A false → C false) (h4 : A true → ∀ c, B c → C c) : EvT K b H0 (tAnd t u) δ C := fun σ I H e n Q q =>
  h1 σ I H e n _ fun c I1 H1 p x => by
    cases c with
    | true => exact h2 p σ I1 H1 x.ok (n.ext x) Q fun c I2 H2 p2 x2 => q c I2 H2 (h4 p c p2) (x.trans x2)
    | false => exact q false I1 H1 (h3 p) x
theorem et_or {t u : TT} {A B C : Bool → Prop} (h1 : EvT K b H0 t δ A) (h2 : A false → EvT K b H0 u δ B) (h3 : A true → C true) (h4 : A false → ∀ c, B c → C c) : EvT K b H0 (tOr t u) δ C := fun σ I H e n Q q =>
  h1 σ I H e n _ fun c I1 H1 p x => by
    cases c with
    | false => exact h2 p σ I1 H1 x.ok (n.ext x) Q fun c I2 H2 p2 x2 => q c I2 H2 (h4 p c p2) (x.trans x2)
    | true => exact q true I1 H1 (h3 p) x
theorem et_not {t : TT} {A : Bool → Prop} (h1 : EvT K b H0 t δ A) : EvT K b H0 (tNot t) δ (fun c => A (!c)) := fun σ I H e n Q q =>
  h1 σ I H e n _ fun c I1 H1 p x => q (!c) I1 H1 (by show A (!(!c)); rw [Bool.not_not]; exact p) x
theorem et_not1 {t : TT} {c : Bool} (h1 : EvT K b H0 t δ (fun x => x = c)) : EvT K b H0 (tNot t) δ (fun x => x = !c) := (et_not h1).mono fun x h => by
  cases x <;> cases c <;> simp_all
/-- and, both answers told -/
theorem et_and1 {t u : TT} {x y : Bool} (h1 : EvT K b H0 t δ (fun c => c = x)) (h2 : x = true → EvT K b H0 u δ (fun c => c = y)) : EvT K b H0 (tAnd t u) δ (fun c => c = (x && y)) :=
  et_and h1 (fun e => h2 e.symm) (fun e => by rw [← e]; rfl) fun e c hc => by rw [← e, hc]; rfl
theorem et_or1 {t u : TT} {x y : Bool} (h1 : EvT K b H0 t δ (fun c => c = x)) (h2 : x = false → EvT K b H0 u δ (fun c => c = y)) : EvT K b H0 (tOr t u) δ (fun c => c = (x || y)) :=
  et_or h1 (fun e => h2 e.symm) (fun e => by rw [← e]; rfl) fun e c hc => by rw [← e, hc]; rfl
theorem ev_if {t : TT} {A : Bool → Prop} (h1 : EvT K b H0 t δ A) (h2 : A true → EvD K b H0 ta δ P) (h3 : A false → EvD K b H0 tb δ P) : EvD K b H0 (tIf t ta tb) δ P := fun σ I H e n Q q =>
  h1 σ I H e n _ fun c I1 H1 p x => by
    cases c with
    | true => exact h2 p σ I1 H1 x.ok (n.ext x) Q fun r v I2 H2 p2 x2 r2 => q r v I2 H2 p2 (x.trans x2) (r2.since (free_of x))
    | false => exact h3 p σ I1 H1 x.ok (n.ext x) Q fun r v I2 H2 p2 x2 r2 => q r v I2 H2 p2 (x.trans x2) (r2.since (free_of x))
theorem ev_andV {A : Bool → Prop} (h1 : EvD K b H0 ta δ (fun x => ∃ c, x = dbl c ∧ A c)) (h2 : A true → EvD K b H0 tb δ P) (h3 : A false → P (dbl false)) : EvD K b H0 (tAndV ta tb) δ P := fun σ I H e n Q q =>
  h1 σ I H e n _ fun r v I1 H1 p x rs => by
    obtain ⟨c, rfl, p⟩ := p
    refine ⟨c, bl_read rs, ?_⟩
    cases c with
    | true => exact h2 p σ I1 H1 x.ok (n.ext x) Q fun r v I2 H2 p2 x2 r2 => q r v I2 H2 p2 (x.trans x2) (r2.since (free_of x))
    | false => exact q _ _ I1 H1 (h3 p) x (Dp.bl false)
theorem ev_orV {A : Bool → Prop} (h1 : EvD K b H0 ta δ (fun x => ∃ c, x = dbl c ∧ A c)) (h2 : A false → EvD K b H0 tb δ P) (h3 : A true → P (dbl true)) : EvD K b H0 (tOrV ta tb) δ P := fun σ I H e n Q q =>
  h1 σ I H e n _ fun r v I1 H1 p x rs => by
    obtain ⟨c, rfl, p⟩ := p
    refine ⟨c, bl_read rs, ?_⟩
    cases c with
    | false => exact h2 p σ I1 H1 x.ok (n.ext x) Q fun r v I2 H2 p2 x2 r2 => q r v I2 H2 p2 (x.trans x2) (r2.since (free_of x))
    | true => exact q _ _ I1 H1 (h3 p) x (Dp.bl true)
theorem ev_notV {A : Bool → Prop} (h1 : EvD K b H0 ta δ (fun x => ∃ c, x = dbl c ∧ A c)) (h2 : ∀ c, A c → P (dbl (!c))) : EvD K b H0 (tNotV ta) δ P := fun σ I H e n Q q =>
  h1 σ I H e n _ fun r v I1 H1 p x rs => by
    obtain ⟨c, rfl, p⟩ := p
    exact ⟨c, bl_read rs, q _ _ I1 H1 (h2 c p) x (Dp.bl _)⟩
theorem ev_chain {r r' : R2} {tc : TE} {Pc : DV → Prop} {A : Bool → Prop} (ha : EvD K b H0 ta δ Pa) (hb : EvD K b H0 tb δ Pb) (hc : EvD K b H0 tc δ Pc)
    (ho : ∀ x y, Pa x → Pb y → OpD K b r x y (fun z => ∃ c, z = dbl c ∧ (c = false → P (dbl false)) ∧ (c = true → ∀ z, Pc z → OpD K b r' y z P))) : EvD K b H0 (tChain r r' ta tb tc) δ P := fun σ I H e n Q q =>
  ha σ I H e n _ fun x v I1 H1 p1 x1 r1 => hb σ I1 H1 x1.ok (n.ext x1) _ fun y w I2 H2 p2 x2 r2 =>
    ho x y p1 p2 H I2 H2 v w x2.ok (r1.ext x2) (r2.since (free_of x1)) _ fun z u I3 H3 p3 x3 r3 => by
      obtain ⟨c, rfl, pf, pt⟩ := p3
      refine ⟨c, bl_read r3, ?_⟩
      cases c with
      | false => exact q _ _ I3 H3 (pf rfl) ((x1.trans x2).trans x3) (Dp.bl false)
      | true =>
        exact hc σ I3 H3 x3.ok (n.ext ((x1.trans x2).trans x3)) _ fun zz ww I4 H4 p4 x4 r4 =>
          pt rfl zz p4 H I4 H4 w ww x4.ok (((r2.since (free_of x1)).ext x3).ext x4) (r4.since (free_of ((x1.trans x2).trans x3))) Q fun z5 u5 I5 H5 p5 x5 r5 =>
            q z5 u5 I5 H5 p5 ((((x1.trans x2).trans x3).trans x4).trans x5) (r5.since (free_of (((x1.trans x2).trans x3).trans x4)))
/-! ### tuples, lists made -/
theorem resA_dats : ∀ {vs : List V} {ds : List PyData}, ResA K b H0 I H vs (ds.map .dat) → DpAll K I vs ds
  | [], [], _ => .nil
  | _ :: _, d :: ds, .cons q r => .cons q (resA_dats r)
theorem ev_tup {t : TA} {A : List PyData → Prop} (h : EvA K b H0 t δ (fun rs => ∃ ds, rs = ds.map .dat ∧ ds.length ≤ 100000 ∧ A ds)) : EvD K b H0 (tTup t) δ (fun x => ∃ ds, x = .dat (.tuple ds) ∧ A ds) := fun σ I H e n Q q =>
  h σ I H e n _ fun rs vs I1 H1 p x r => by
    obtain ⟨ds, rfl, hl, p⟩ := p
    have hd := resA_dats r
    refine ⟨Nat.le_trans (by rw [dpa_len hd]; exact hl) (by decide : 100000 ≤ sizeLine), fun p' hp => ?_⟩
    have x2 := x.ok.new (o := .tup vs) hp
    exact q _ _ _ _ ⟨ds, rfl, p⟩ (x.trans x2) (Dp.tup (.inl (.inl upd_same)) (dpa_mono x2.i hd))
theorem ev_tup1 {t : TA} {ds : List PyData} (h : EvA K b H0 t δ (fun rs => rs = ds.map .dat)) (hl : ds.length ≤ 100000 := by decide) : EvD K b H0 (tTup t) δ (fun x => x = .dat (.tuple ds)) :=
  (ev_tup (A := fun x => x = ds) (h.mono fun rs e => ⟨ds, e, hl, rfl⟩)).mono fun r ⟨d, e, e2⟩ => by rw [e, e2]
theorem ev_lst {t : TA} {A : List PyData → Prop} (h : EvA K b H0 t δ (fun rs => ∃ ds, rs = ds.map .dat ∧ ds.length ≤ 100000 ∧ A ds)) : EvD K b H0 (tLst t) δ (fun x => ∃ ds, x = .own ds ∧ A ds) := fun σ I H e n Q q =>
  h σ I H e n _ fun rs vs I1 H1 p x r => by
    obtain ⟨ds, rfl, hl, p⟩ := p
    have hd := resA_dats r
    refine ⟨Nat.le_trans (by rw [dpa_len hd]; exact hl) (by decide : 100000 ≤ sizeLine), fun p' hp => ?_⟩
    have x2 := x.ok.newH (o := .lst vs) hp
    exact q _ _ _ _ ⟨ds, rfl, p⟩ (x.trans x2) ⟨p', vs, rfl, x.free hp, x.ok.inone hp, x.ok.nb hp, upd_same, hd⟩
theorem ev_lst1 {t : TA} {ds : List PyData} (h : EvA K b H0 t δ (fun rs => rs = ds.map .dat)) (hl : ds.length ≤ 100000 := by decide) : EvD K b H0 (tLst t) δ (fun x => x = .own ds) :=
  (ev_lst (A := fun x => x = ds) (h.mono fun rs e => ⟨ds, e, hl, rfl⟩)).mono fun r ⟨d, e, e2⟩ => by rw [e, e2]
end
/-! ### what the operations on values are worth -/
section
variable {K : PySem.W.Frag} {b : Addr} {i j : Int}
theorem od_I0 {g : Int → Int → V} {d : PyData} (hg : ∀ K I, Dp K I (g i j) d) : OpD K b (rI0 g) (dint i) (dint j) (fun x => x = .dat d) := fun H0 I H v w k r1 r2 Q q =>
  ⟨i, j, int_read r1, int_read r2, q _ _ I H rfl k.re (hg K I)⟩
theorem od_I {C : Int → Int → Prop} {g : Int → Int → V} {d : PyData} (hc : C i j) (hg : ∀ K I, Dp K I (g i j) d) : OpD K b (rI C g) (dint i) (dint j) (fun x => x = .dat d) := fun H0 I H v w k r1 r2 Q q =>
  ⟨i, j, int_read r1, int_read r2, hc, q _ _ I H rfl k.re (hg K I)⟩
theorem ud_U {g : Int → V} {d : PyData} (hg : ∀ K I, Dp K I (g i) d) : UnD K b (rU g) (dint i) (fun x => x = .dat d) := fun H0 I H v k r1 Q q =>
  ⟨i, int_read r1, q _ _ I H rfl k.re (hg K I)⟩
theorem ixL_ {P : DV → Prop} {x : DV} {ds : List PyData} {d : PyData} (l : LstR x ds) (h0 : 0 ≤ i) (h : ds[i.toNat]? = some d) (hP : P (.dat d)) : OpD K b (rIxL K) x (dint i) P := fun H0 I H v w k r1 r2 Q q => by
  obtain ⟨a, xs, rfl, hs, hd⟩ := l.read k.s r1
  obtain ⟨u, e1, e2⟩ := dpa_get hd h
  refine ⟨a, xs, i, u, rfl, int_read r2, hs, ?_, q _ _ I H hP k.re e2⟩
  exact at_of (j := i.toNat) (by omega) e1
theorem ixT_ {P : DV → Prop} {ds : List PyData} {d : PyData} (h0 : 0 ≤ i) (h : ds[i.toNat]? = some d) (hP : P (.dat d)) : OpD K b (rIxT K) (.dat (.tuple ds)) (dint i) P := fun H0 I H v w k r1 r2 Q q => by
  obtain ⟨a, xs, rfl, hs, hd⟩ := tup_read k.s r1
  obtain ⟨u, e1, e2⟩ := dpa_get hd h
  refine ⟨a, xs, i, u, rfl, int_read r2, hs, ?_, q _ _ I H hP k.re e2⟩
  exact at_of (j := i.toNat) (by omega) e1
/-- == of plain data -/
theorem od_eq {d e : PyData} (h1 : SeqAt.shaped d = true) (h2 : SeqAt.shaped e = true) : OpD K b (rEqD K) (.dat d) (.dat e) (fun x => x = dbl (PyData.eqv d e)) := fun H0 I H v w k r1 r2 Q q =>
  ⟨d, e, dp_mono k.s r1, dp_mono k.s r2, h1, h2, q _ _ I H rfl k.re (Dp.bl _)⟩
theorem od_ne {d e : PyData} (h1 : SeqAt.shaped d = true) (h2 : SeqAt.shaped e = true) : OpD K b (rNeD K) (.dat d) (.dat e) (fun x => x = dbl (!PyData.eqv d e)) := fun H0 I H v w k r1 r2 Q q =>
  ⟨d, e, dp_mono k.s r1, dp_mono k.s r2, h1, h2, q _ _ I H rfl k.re (Dp.bl _)⟩
end
end DL

set_option Elab.async false
set_option linter.all false
set_option maxRecDepth 100000
set_option maxHeartbeats 4000000
namespace DL
open PySem L2 RZ
section
variable {K : PySem.W.Frag} {b : Addr} {H0 I H I' H' : Hp}
/-- an object that is new since (I, H) changes -/
theorem Ext.mut {D : Addr} {o : HO} (e : Ext K b I H I' H') (h0 : H D = none) (hi : I' D = none) (hb : D ≠ b) : Ext K b I H I' (upd H' D o) := by
  refine ⟨e.i, fun a u n h => ?_, e.n, fun a u h => ?_, ?_⟩
  · rw [upd_ne (ne_of_none h h0)]; exact e.h a u n h
  · rw [upd_ne (ne_of_none h hi)]; exact e.s a u h
  · obtain ⟨n, l, ns, x, q, m, c, e1, sl, r⟩ := e.b
    exact ⟨n, l, ns, x, q, m, c, by rw [upd_ne (fun z => hb z.symm)]; exact e1, sl, r⟩
end
/-! ### calls of built-ins -/
section
variable {K : PySem.W.Frag} {b : Addr} {i j : Int}
theorem cb_lenL {x : DV} {ds : List PyData} (l : LstR x ds) : CbD K b (fun xs H Q => ∃ p ys, xs = [.ref p] ∧ (SqL K H p ys ∨ SqT K H p ys) ∧ Q (.int ys.length) H) [x] (fun r => r = dint ds.length) := fun H0 I H vs k rs Q q => by
  cases rs with
  | cons r1 rr =>
    cases rr
    obtain ⟨a, xs, rfl, hs, hd⟩ := l.read k.s r1
    exact ⟨a, xs, rfl, .inl hs, q _ _ I H rfl k.re (by rw [dpa_len hd]; exact Dp.int _)⟩
theorem cb_lenT {ds : List PyData} : CbD K b (fun xs H Q => ∃ p ys, xs = [.ref p] ∧ (SqL K H p ys ∨ SqT K H p ys) ∧ Q (.int ys.length) H) [.dat (.tuple ds)] (fun r => r = dint ds.length) := fun H0 I H vs k rs Q q => by
  cases rs with
  | cons r1 rr =>
    cases rr
    obtain ⟨a, xs, rfl, hs, hd⟩ := tup_read k.s r1
    exact ⟨a, xs, rfl, .inr hs, q _ _ I H rfl k.re (by rw [dpa_len hd]; exact Dp.int _)⟩
theorem cb_tupleL {x : DV} {ds : List PyData} (l : LstR x ds) : CbD K b (fun xs H Q => ∃ p ys, xs = [.ref p] ∧ ((SqL K H p ys ∧ ∀ l, H l = none → Q (.ref l) (upd H l (.tup ys))) ∨ (SqT K H p ys ∧ Q (.ref p) H))) [x] (fun r => r = .dat (.tuple ds)) := fun H0 I H vs k rs Q q => by
  cases rs with
  | cons r1 rr =>
    cases rr
    obtain ⟨a, xs, rfl, hs, hd⟩ := l.read k.s r1
    refine ⟨a, xs, rfl, .inl ⟨hs, fun p hp => ?_⟩⟩
    have x2 := k.new (o := .tup xs) hp
    exact q _ _ _ _ rfl x2 (Dp.tup (.inl (.inl upd_same)) (dpa_mono x2.i hd))
theorem cb_tupleT {ds : List PyData} : CbD K b (fun xs H Q => ∃ p ys, xs = [.ref p] ∧ ((SqL K H p ys ∧ ∀ l, H l = none → Q (.ref l) (upd H l (.tup ys))) ∨ (SqT K H p ys ∧ Q (.ref p) H))) [.dat (.tuple ds)] (fun r => r = .dat (.tuple ds)) := fun H0 I H vs k rs Q q => by
  cases rs with
  | cons r1 rr =>
    cases rr
    obtain ⟨a, xs, e, hs, hd⟩ := tup_read k.s r1
    subst e
    exact ⟨a, xs, rfl, .inr ⟨hs, q _ _ I H rfl k.re r1⟩⟩
theorem cb_listL {x : DV} {ds : List PyData} (l : LstR x ds) : CbD K b (fun xs H Q => ∃ p ys, xs = [.ref p] ∧ (SqL K H p ys ∨ SqT K H p ys) ∧ ∀ l, H l = none → Q (.ref l) (upd H l (.lst ys))) [x] (fun r => r = .own ds) := fun H0 I H vs k rs Q q => by
  cases rs with
  | cons r1 rr =>
    cases rr
    obtain ⟨a, xs, rfl, hs, hd⟩ := l.read k.s r1
    exact ⟨a, xs, rfl, .inl hs, fun p hp => q _ _ _ _ rfl (k.newH hp) ⟨p, xs, rfl, hp, k.inone hp, k.nb hp, upd_same, hd⟩⟩
theorem cb_listT {ds : List PyData} : CbD K b (fun xs H Q => ∃ p ys, xs = [.ref p] ∧ (SqL K H p ys ∨ SqT K H p ys) ∧ ∀ l, H l = none → Q (.ref l) (upd H l (.lst ys))) [.dat (.tuple ds)] (fun r => r = .own ds) := fun H0 I H vs k rs Q q => by
  cases rs with
  | cons r1 rr =>
    cases rr
    obtain ⟨a, xs, rfl, hs, hd⟩ := tup_read k.s r1
    exact ⟨a, xs, rfl, .inr hs, fun p hp => q _ _ _ _ rfl (k.newH hp) ⟨p, xs, rfl, hp, k.inone hp, k.nb hp, upd_same, hd⟩⟩
theorem cb_abs : CbD K b (fun xs H Q => ∃ i, xs = [.int i] ∧ Q (.int (if i < 0 then -i else i)) H) [dint i] (fun r => r = dint (if i < 0 then -i else i)) := fun H0 I H vs k rs Q q => by
  cases rs with
  | cons r1 rr =>
    cases rr
    rw [int_read r1]
    exact ⟨i, rfl, q _ _ I H rfl k.re (Dp.int _)⟩
theorem cb_min : CbD K b (fun xs H Q => ∃ i j, xs = [.int i, .int j] ∧ Q (.int (if j < i then j else i)) H) [dint i, dint j] (fun r => r = dint (if j < i then j else i)) := fun H0 I H vs k rs Q q => by
  cases rs with
  | cons r1 rr =>
    cases rr with
    | cons r2 rr =>
      cases rr
      rw [int_read r1, int_read r2]
      exact ⟨i, j, rfl, q _ _ I H rfl k.re (Dp.int _)⟩
theorem cb_max : CbD K b (fun xs H Q => ∃ i j, xs = [.int i, .int j] ∧ Q (.int (if j > i then j else i)) H) [dint i, dint j] (fun r => r = dint (if j > i then j else i)) := fun H0 I H vs k rs Q q => by
  cases rs with
  | cons r1 rr =>
    cases rr with
    | cons r2 rr =>
      cases rr
      rw [int_read r1, int_read r2]
      exact ⟨i, j, rfl, q _ _ I H rfl k.re (Dp.int _)⟩
theorem cb_sum {x : DV} {ns : List Int} (l : LstR x (ns.map .int)) : CbD K b (rSum K) [x] (fun r => r = dint ns.sum) := fun H0 I H vs k rs Q q => by
  cases rs with
  | cons r1 rr =>
    cases rr
    obtain ⟨a, xs, rfl, hs, hd⟩ := l.read k.s r1
    rw [dpa_ints hd] at hs
    exact ⟨a, ns, rfl, hs, q _ _ I H rfl k.re (Dp.int _)⟩
theorem cb_all {x : DV} {ns : List Bool} (l : LstR x (ns.map .bool)) : CbD K b (rAll K) [x] (fun r => r = dbl (ns.all id)) := fun H0 I H vs k rs Q q => by
  cases rs with
  | cons r1 rr =>
    cases rr
    obtain ⟨a, xs, rfl, hs, hd⟩ := l.read k.s r1
    rw [dpa_bools hd] at hs
    exact ⟨a, ns, rfl, hs, q _ _ I H rfl k.re (Dp.bl _)⟩
theorem cb_any {x : DV} {ns : List Bool} (l : LstR x (ns.map .bool)) : CbD K b (rAny K) [x] (fun r => r = dbl (ns.any id)) := fun H0 I H vs k rs Q q => by
  cases rs with
  | cons r1 rr =>
    cases rr
    obtain ⟨a, xs, rfl, hs, hd⟩ := l.read k.s r1
    rw [dpa_bools hd] at hs
    exact ⟨a, ns, rfl, hs, q _ _ I H rfl k.re (Dp.bl _)⟩
/-- t + u of tuples -/
theorem od_cat {ds es : List PyData} (hl : ds.length + es.length ≤ 100000) : OpD K b (rCatA K) (.dat (.tuple ds)) (.dat (.tuple es)) (fun x => x = .dat (.tuple (ds ++ es))) := fun H0 I H v w k r1 r2 Q q => by
  obtain ⟨a, xs, e1, hs, hd⟩ := tup_read k.s r1
  obtain ⟨c, ys, e2, ht, he⟩ := tup_read k.s r2
  subst e1 e2
  have l1 := dpa_len hd
  have l2 := dpa_len he
  refine ⟨a, c, xs, ys, rfl, rfl, hs, ht, Nat.le_trans (by omega) (by decide : 100000 ≤ sizeLine), fun z => ?_, fun _ z => ?_, fun _ _ p hp => ?_⟩
  · subst z
    cases hd
    exact q _ _ I H rfl k.re r2
  · subst z
    cases he
    rw [List.append_nil] at q
    exact q _ _ I H rfl k.re r1
  · have x2 := k.new (o := .tup (xs ++ ys)) hp
    exact q _ _ _ _ rfl x2 (Dp.tup (.inl (.inl upd_same)) (dpa_mono x2.i (dpa_app hd he)))
end
/-! ### what is walked -/
section
variable (K : PySem.W.Frag) (b : Addr)
def IterOk (J : It) (I : Hp) (ds : List PyData) : Prop := ∃ G Y, Walk J ds.length G Y ∧ (∀ H, Same I H → G H) ∧
  ∀ (i : Nat) (I2 H : Hp) (x : V) (H' : Hp) (d : PyData), Same I I2 → Ok K b I2 H → Y i H x H' → ds[i]? = some d → ∃ I3, Ext K b I2 H I3 H' ∧ Dp K I3 x d
def ItD (H0 : Hp) (wi : TI) (δ : Env) (A : List PyData → Prop) : Prop := ∀ (σ : St) (I H : Hp), Ok K b I H → EnvR K b H0 I H σ δ → ∀ R : It → Hp → Prop,
  (∀ ds J I' H', A ds → Ext K b I H I' H' → IterOk K b J I' ds → R J H') → wi σ H R
/-- the datum d goes to the target g: δ becomes δ' -/
def TgD (g : TG) (is : List Nat) (d : PyData) (δ δ' : Env) : Prop := ∀ (H0 I H : Hp) (σ : St) (v : V), Ok K b I H → EnvR K b H0 I H σ δ → Dp K I v d → ∀ Q : St → Hp → Prop,
  (∀ σ', EnvR K b H0 I H σ' δ' → (∀ j, j ∉ is → σ'[j]? = σ[j]?) → σ'.length = σ.length → Q σ' H) → g v σ H Q
end
section
variable {K : PySem.W.Frag} {b : Addr} {H0 : Hp} {δ : Env} {te : TE}
theorem itd_list {A : List PyData → Prop} (h : EvD K b H0 te δ (fun x => ∃ ds, x = .dat (.list ds) ∧ A ds)) : ItD K b H0 (iList K te) δ A := fun σ I H k n R q =>
  h σ I H k n _ fun r v I1 H1 p x rs => by
    obtain ⟨ds, rfl, p⟩ := p
    have hr : Dp K I1 v (.list ds) := rs
    cases hr with
    | @lst a xs _ hs hd =>
      refine ⟨a, rfl, ⟨xs, sl_mono x.s hs⟩, q ds _ I1 H1 p x ⟨fun H => SqL K H a xs, YAt xs, ?_, fun H e => sl_mono e hs, fun i I2 H x H' d e k2 y hd' => ?_⟩⟩
      · rw [← dpa_len hd]
        exact walk_list
      · obtain ⟨rfl, y⟩ := y
        obtain ⟨u, e1, e2⟩ := dpa_get hd hd'
        rw [y] at e1
        cases e1
        exact ⟨I2, k2.re, dp_mono e e2⟩
theorem itd_tup {A : List PyData → Prop} (h : EvD K b H0 te δ (fun x => ∃ ds, x = .dat (.tuple ds) ∧ A ds)) : ItD K b H0 (iTup K te) δ A := fun σ I H k n R q =>
  h σ I H k n _ fun r v I1 H1 p x rs => by
    obtain ⟨ds, rfl, p⟩ := p
    have hr : Dp K I1 v (.tuple ds) := rs
    cases hr with
    | @tup a xs _ hs hd =>
      refine ⟨a, rfl, ⟨xs, st_mono x.s hs⟩, q ds _ I1 H1 p x ⟨fun H => SqT K H a xs, YAt xs, ?_, fun H e => st_mono e hs, fun i I2 H x H' d e k2 y hd' => ?_⟩⟩
      · rw [← dpa_len hd]
        exact walk_tup
      · obtain ⟨rfl, y⟩ := y
        obtain ⟨u, e1, e2⟩ := dpa_get hd hd'
        rw [y] at e1
        cases e1
        exact ⟨I2, k2.re, dp_mono e e2⟩
def rangeD (lo : Int) (n : Nat) : List PyData := (List.range n).map fun (k : Nat) => .int (lo + (k : Int))
theorem rangeD_len (lo : Int) (n : Nat) : (rangeD lo n).length = n := by simp [rangeD]
theorem rangeD_get {lo : Int} {n i : Nat} {d : PyData} (h : (rangeD lo n)[i]? = some d) : i < n ∧ d = .int (lo + i) := by
  unfold rangeD at h
  rw [List.getElem?_map] at h
  cases q : (List.range n)[i]? with
  | none => rw [q] at h; cases h
  | some j =>
    rw [q] at h
    obtain ⟨h1, h2⟩ := List.getElem?_eq_some_iff.mp q
    rw [List.getElem_range] at h2
    rw [List.length_range] at h1
    subst h2
    exact ⟨h1, (Option.some.inj h).symm⟩
theorem range_ok {lo : Int} {n : Nat} {I : Hp} : IterOk K b (Itr lo n) I (rangeD lo n) := by
  refine ⟨_, _, by rw [rangeD_len]; exact walk_range, fun _ _ => True.intro, fun i I2 H x H' d e k2 y hd => ?_⟩
  obtain ⟨rfl, rfl⟩ := y
  obtain ⟨_, rfl⟩ := rangeD_get hd
  exact ⟨I2, k2.re, Dp.int _⟩
theorem itd_rng1 {ta : TA} {A : Int → Prop} (h : EvA K b H0 ta δ (fun rs => ∃ n, rs = [dint n] ∧ n < 2 ^ 62 ∧ -(2 ^ 62) ≤ n ∧ A n)) : ItD K b H0 (iRng1 ta) δ (fun ds => ∃ n, ds = rangeD 0 n.toNat ∧ A n) := fun σ I H k n R q =>
  h σ I H k n _ fun rs vs I1 H1 p x r => by
    obtain ⟨m, rfl, h1, h2, p⟩ := p
    cases r with
    | cons r1 rr =>
      cases rr
      rw [int_read r1]
      exact ⟨m, rfl, h2, h1, q _ _ I1 H1 ⟨m, rfl, p⟩ x range_ok⟩
theorem itd_rng2 {ta : TA} {A : Int → Int → Prop} (h : EvA K b H0 ta δ (fun rs => ∃ m n, rs = [dint m, dint n] ∧ (-(2 ^ 62) ≤ m ∧ m < 2 ^ 62 ∧ -(2 ^ 62) ≤ n ∧ n < 2 ^ 62) ∧ A m n)) : ItD K b H0 (iRng2 ta) δ (fun ds => ∃ m n, ds = rangeD m (n - m).toNat ∧ A m n) := fun σ I H k n R q =>
  h σ I H k n _ fun rs vs I1 H1 p x r => by
    obtain ⟨m, n', rfl, hb, p⟩ := p
    cases r with
    | cons r1 rr =>
      cases rr with
      | cons r2 rr =>
        cases rr
        rw [int_read r1, int_read r2]
        exact ⟨m, n', rfl, hb, q _ _ I1 H1 ⟨m, n', rfl, p⟩ x range_ok⟩
def zipD (ds es : List PyData) : List PyData := List.zipWith (fun d e => .tuple [d, e]) ds es
theorem walk_zipT {a c : Addr} {xs ys : List V} {n : Nat} (hn : n = min xs.length ys.length) : Walk (ItzT K a c) n (fun H => SqT K H a xs ∧ SqT K H c ys) (YPair (fun i => xs[i]?) (fun i => ys[i]?)) := by
  subst hn
  refine ⟨fun i _ hi q => ?_, fun _ q => ⟨xs, ys, q.1, q.2, by omega⟩, fun i H v H' _ q y => ?_⟩
  · have h1 : i < xs.length := by omega
    have h2 : i < ys.length := by omega
    exact ⟨xs, ys, xs[i], ys[i], q.1, q.2, by simp [h1], by simp [h2]⟩
  · obtain ⟨T, x, z, h1, h2, h3, h4, h5⟩ := y
    exact ⟨T, x, z, h1, h2, h3, h4 xs q.1, h5 ys q.2⟩
/-- zip of two tuples -/
theorem itd_zipT {ta : TA} {A : List PyData → List PyData → Prop} (h : EvA K b H0 ta δ (fun rs => ∃ ds es, rs = [.dat (.tuple ds), .dat (.tuple es)] ∧ A ds es)) : ItD K b H0 (iZipA K ta) δ (fun zs => ∃ ds es, zs = zipD ds es ∧ A ds es) := fun σ I H k n R q =>
  h σ I H k n _ fun rs vs I1 H1 p x r => by
    obtain ⟨ds, es, rfl, p⟩ := p
    cases r with
    | cons r1 rr =>
      cases rr with
      | cons r2 rr =>
        cases rr
        have r1 : Dp K I1 _ (.tuple ds) := r1
        have r2 : Dp K I1 _ (.tuple es) := r2
        cases r1 with
        | @tup a xs _ hs hd =>
          cases r2 with
          | @tup c ys _ ht he =>
            refine ⟨a, c, xs, ys, rfl, .inr ⟨st_mono x.s hs, st_mono x.s ht, q _ _ I1 H1 ⟨ds, es, rfl, p⟩ x ⟨fun H => SqT K H a xs ∧ SqT K H c ys, YPair (fun i => xs[i]?) (fun i => ys[i]?), walk_zipT ?_, fun H e => ⟨st_mono e hs, st_mono e ht⟩, fun i I2 H x H' d e k2 y hz => ?_⟩⟩⟩
            · unfold zipD
              rw [List.length_zipWith, dpa_len hd, dpa_len he]
            · obtain ⟨T, x1, x2, rfl, nT, rfl, g1, g2⟩ := y
              unfold zipD at hz
              rw [List.getElem?_zipWith] at hz
              cases q1 : ds[i]? with
              | none => rw [q1] at hz; cases hz
              | some d1 =>
                cases q2 : es[i]? with
                | none => rw [q1, q2] at hz; cases hz
                | some d2 =>
                  rw [q1, q2] at hz
                  cases hz
                  obtain ⟨u1, e1, f1⟩ := dpa_get hd q1
                  obtain ⟨u2, e2, f2⟩ := dpa_get he q2
                  have g1 : xs[i]? = some x1 := g1
                  have g2 : ys[i]? = some x2 := g2
                  rw [g1] at e1
                  rw [g2] at e2
                  cases e1
                  cases e2
                  have x2 := k2.new (o := .tup [x1, x2]) nT
                  exact ⟨_, x2, Dp.tup (.inl (.inl upd_same)) (.cons (dp_mono (e.trans x2.i) f1) (.cons (dp_mono (e.trans x2.i) f2) .nil))⟩
theorem tg_name {i : Nat} {d : PyData} (hi : i < δ.length) : TgD K b (gName i) [i] d δ (δ.set i (some (.dat d))) := fun H0 I H σ v k n hd Q q =>
  q _ (n.setD hi (r := .dat d) hd (fun _ z => by cases z)) (fun j hj => List.getElem?_set_ne (fun z => hj (by simp [z]))) List.length_set
theorem tg_pair {i j : Nat} {d e : PyData} (hi : i < δ.length) (hj : j < δ.length) : TgD K b (gTup K 2 (gCons (gName i) (gCons (gName j) gNil))) [i, j] (.tuple [d, e]) δ ((δ.set i (some (.dat d))).set j (some (.dat e))) := fun H0 I H σ v k n hd Q q => by
  cases hd with
  | @tup a xs _ hs ha =>
    cases ha with
    | @cons v1 _ _ _ h1 ha =>
      cases ha with
      | @cons v2 _ _ _ h2 ha =>
        cases ha
        refine ⟨a, [v1, v2], rfl, st_mono k.s hs, rfl, v1, [v2], rfl, v2, [], rfl, rfl, q _ ?_ (fun m hm => ?_) ?_⟩
        · exact (n.setD hi (r := .dat d) h1 (fun _ z => by cases z)).setD (by rw [List.length_set]; exact hj) (r := .dat e) h2 (fun _ z => by cases z)
        · have n1 : m ≠ i := fun z => hm (by simp [z])
          have n2 : m ≠ j := fun z => hm (by simp [z])
          rw [List.getElem?_set_ne (fun z => n2 z.symm), List.getElem?_set_ne (fun z => n1 z.symm)]
        · rw [List.length_set, List.length_set]
end
/-! ### comprehensions -/
theorem wipe_get {σ : St} {i : Nat} : ∀ {vs : List Nat}, i ∈ vs → i < σ.length → (wipe σ vs)[i]? = some none
  | [], h, _ => by cases h
  | v :: vs, h, hl => by
    unfold wipe
    by_cases z : v = i
    · subst z
      exact List.getElem?_set_self (by rw [wipe_length]; exact hl)
    · rw [List.getElem?_set_ne z]
      exact wipe_get ((List.mem_cons.mp h).resolve_left (fun q => z q.symm)) hl
theorem wipe_eq {σ τ : St} {vs : List Nat} (hl : τ.length = σ.length) (h : ∀ j, j ∉ vs → τ[j]? = σ[j]?) : wipe τ vs = wipe σ vs := by
  refine List.ext_getElem? fun i => ?_
  by_cases hi : i ∈ vs
  · by_cases hs : i < σ.length
    · rw [wipe_get hi hs, wipe_get hi (by omega)]
    · rw [List.getElem?_eq_none (by rw [wipe_length]; omega), List.getElem?_eq_none (by rw [wipe_length]; omega)]
  · rw [wipe_out hi, wipe_out hi]
    exact h i hi
theorem EnvR.wipe {K : PySem.W.Frag} {b : Addr} {H0 I H : Hp} {σ : St} {δ : Env} (n : EnvR K b H0 I H σ δ) {vs : List Nat} (hv : ∀ v ∈ vs, δ[v]? = some none) : EnvR K b H0 I H (L2.wipe σ vs) δ := by
  have nin : ∀ (i : Nat) (r : DV), δ[i]? = some (some r) → i ∉ vs := fun i r h z => by
    rw [hv i z] at h
    cases h
  refine ⟨by rw [wipe_length]; exact n.len, fun i r h => ?_, fun i j a ds es h1 h2 h3 h4 => ?_⟩
  · rw [wipe_out (nin i r h)]
    exact n.at_ i r h
  · rw [wipe_out (nin i _ h1)] at h2
    rw [wipe_out (nin j _ h3)] at h4
    exact n.nd i j a ds es h1 h2 h3 h4
theorem paired_snoc {α β : Type} {F : α → β → Prop} : ∀ {l : List α} {m : List β} {x : α} {y : β}, Paired F l m → F x y → Paired F (l ++ [x]) (m ++ [y])
  | _, _, _, _, .nil, h => .cons h .nil
  | _, _, _, _, .cons r t, h => .cons r (paired_snoc t h)
section
variable {K : PySem.W.Frag} {b : Addr} {H0 : Hp} {δ : Env}
theorem ev_lc {β : Type} {wi : TI} {g : TG} {tt : TT} {te : TE} {vs is : List Nat} {A : List β → Prop} {gI : β → PyData} {δf : β → Env} {f : β → Bool} {Pe : β → PyData → Prop} (it : ItD K b H0 wi δ (fun x => ∃ l, x = l.map gI ∧ A l)) (hv : ∀ v ∈ vs, δ[v]? = some none) (his : ∀ v ∈ is, v ∈ vs)
    (hl : ∀ l, A l → l.length ≤ 100000) (tg : ∀ x, TgD K b g is (gI x) δ (δf x)) (hT : ∀ l, A l → ∀ x ∈ l, EvT K b H0 tt (δf x) (fun c => c = f x))
    (body : ∀ l, A l → ∀ x ∈ l, f x = true → EvD K b H0 te (δf x) (fun r => ∃ y, r = .dat y ∧ Pe x y)) :
    EvD K b H0 (tLc wi g tt te vs) δ (fun x => ∃ ys, x = .own ys ∧ ∃ l, A l ∧ Paired Pe (l.filter f) ys) := fun σ I H k n Q q =>
  it σ I H k n _ fun ds J I1 H1 p x ok => fun D hD => by
    obtain ⟨G, Y, w, hG, hY⟩ := ok
    obtain ⟨l, e, p⟩ := p
    subst e
    have hlen := hl l p
    have nDb : D ≠ b := x.ok.nb hD
    refine lc_it w (fun i Hk => ∃ Ik acc ys, Ext K b I1 H1 Ik Hk ∧ Ik D = none ∧ Hk D = some (.lst acc) ∧ DpAll K Ik acc ys ∧ Paired Pe ((l.take i).filter f) ys) ?_ (fun i Hk _ ⟨Ik, acc, ys, e, _⟩ => hG Hk (e.i.trans e.s)) ?_ ?_
    · exact ⟨I1, [], [], x.ok.newH hD, x.ok.inone hD, upd_same, .nil, .nil⟩
    · rintro i v Hk Hk' hi ⟨Ik, acc, ys, e, iD, aD, hd, hp⟩ hy
      have hi' : i < l.length := by rw [List.length_map] at hi; exact hi
      have hd1 : l[i]? = some l[i] := List.getElem?_eq_getElem hi'
      have hmem : l[i] ∈ l := List.getElem_mem hi'
      generalize l[i] = d at hd1 hmem
      obtain ⟨I3, e3, d3⟩ := hY i Ik Hk v Hk' (gI d) e.i e.ok hy (by rw [List.getElem?_map, hd1]; rfl)
      have e13 := e.trans e3
      have n3 : EnvR K b H0 I3 Hk' (wipe σ vs) δ := ((n.ext x).ext e13).wipe hv
      have tk : l.take (i + 1) = l.take i ++ [d] := by
        rw [List.take_add_one, hd1]
        rfl
      refine tg d H0 I3 Hk' _ v e3.ok n3 d3 _ fun σ2 n2 out hl => ⟨?_, ?_⟩
      · rw [wipe_eq (σ := wipe σ vs) (τ := σ2) hl (fun j hj => out j (fun z => hj (his j z)))]
        refine wipe_eq (wipe_length _ _) fun j hj => wipe_out hj
      · refine hT l p d hmem σ2 I3 Hk' e3.ok n2 _ fun c I4 H4 pc e4 => ?_
        subst pc
        have e14 := e13.trans e4
        have iD4 : I4 D = none := e4.n D (e3.n D iD (by rw [aD]; exact fun z => by cases z)) (e3.here (by rw [aD]; exact fun z => by cases z))
        have aD4 : H4 D = some (.lst acc) := e4.h D _ nDb (e3.h D _ nDb aD)
        have hd4 := dpa_mono (e3.i.trans e4.i) hd
        cases hf : f d with
        | false =>
          refine ⟨I4, acc, ys, e14, iD4, aD4, hd4, ?_⟩
          rw [tk, List.filter_append]
          have z : [d].filter f = [] := by simp [hf]
          rw [z, List.append_nil]
          exact hp
        | true =>
          refine body l p d hmem hf σ2 I4 H4 e4.ok (n2.ext e4) _ fun r y I5 H5 pr e5 rs => ?_
          obtain ⟨yd, rfl, py⟩ := pr
          have iD5 : I5 D = none := e5.n D iD4 (by rw [aD4]; exact fun z => by cases z)
          have aD5 : H5 D = some (.lst acc) := e5.h D _ nDb aD4
          refine ⟨acc, aD5, ?_, I5, acc ++ [y], ys ++ [yd], (e14.trans e5).mut hD iD5 nDb, iD5, upd_same, dpa_app (dpa_mono e5.i hd4) (.cons rs .nil), ?_⟩
          · have l1 := dpa_len hd
            have l2 := hp.length
            have l3 : ((l.take i).filter f).length ≤ (l.take i).length := List.length_filter_le _ _
            rw [List.length_take] at l3
            exact Nat.lt_of_lt_of_le (by omega : acc.length < 100000) (by decide : 100000 ≤ sizeLine)
          · rw [tk, List.filter_append]
            have z : [d].filter f = [d] := by simp [hf]
            rw [z]
            exact paired_snoc hp py
    · rintro Hk ⟨Ik, acc, ys, e, iD, aD, hd, hp⟩
      rw [List.length_map, List.take_length] at hp
      exact q _ _ Ik Hk ⟨ys, rfl, l, p, hp⟩ (x.trans e) ⟨D, acc, rfl, x.free hD, iD, nDb, aD, hd⟩
theorem et_yes : EvT K b H0 tYes δ (fun c => c = true) := fun σ I H k n Q q => q true I H rfl k.re
end
end DL

set_option Elab.async false
set_option linter.all false
set_option maxRecDepth 100000
set_option maxHeartbeats 4000000
namespace DL
open PySem PySem.Spec PyProof.Rows L2
/-! ### statements -/
section
variable (K : PySem.W.Frag) (b : Addr) (I0 H0 : Hp)
def SvD (ts : TS) (δ : Env) (N : Env → Prop) (R : DV → Prop) (Bk Ct : Env → Prop) : Prop := ∀ (σ : L2.St) (I H : Hp), Ext K b I0 H0 I H → EnvR K b H0 I H σ δ → ∀ D : Ends,
  (∀ δ' σ' I' H', N δ' → Ext K b I0 H0 I' H' → Same I I' → EnvR K b H0 I' H' σ' δ' → D.nx σ' H') →
  (∀ r v I' H', R r → Ext K b I0 H0 I' H' → Res K b H0 I' H' v r → D.rt v H') →
  (∀ δ' σ' I' H', Bk δ' → Ext K b I0 H0 I' H' → Same I I' → EnvR K b H0 I' H' σ' δ' → D.bk σ' H') →
  (∀ δ' σ' I' H', Ct δ' → Ext K b I0 H0 I' H' → Same I I' → EnvR K b H0 I' H' σ' δ' → D.ct σ' H') → ts D σ H
end
section
variable {K : PySem.W.Frag} {b : Addr} {I0 H0 : Hp} {δ δ' : Env} {N N' Bk Ct : Env → Prop} {R : DV → Prop} {te : TE} {t u : TS} {P : DV → Prop}
theorem SvD.mono {N2 B2 C2 : Env → Prop} {R2 : DV → Prop} (h : SvD K b I0 H0 t δ N R Bk Ct) (hn : ∀ d, N d → N2 d) (hr : ∀ r, R r → R2 r) (hb : ∀ d, Bk d → B2 d) (hc : ∀ d, Ct d → C2 d) : SvD K b I0 H0 t δ N2 R2 B2 C2 :=
  fun σ I H e n D h1 h2 h3 h4 => h σ I H e n D (fun d σ' I' H' p => h1 d σ' I' H' (hn d p)) (fun r v I' H' p => h2 r v I' H' (hr r p)) (fun d σ' I' H' p => h3 d σ' I' H' (hb d p)) (fun d σ' I' H' p => h4 d σ' I' H' (hc d p))
theorem sv_nil (h : N δ) : SvD K b I0 H0 tNext δ N R Bk Ct := fun σ I H e n D h1 _ _ _ => h1 δ σ I H h e (Same.refl I) n
theorem sv_seq (h1 : SvD K b I0 H0 t δ N' R Bk Ct) (h2 : ∀ δ', N' δ' → SvD K b I0 H0 u δ' N R Bk Ct) : SvD K b I0 H0 (tSeq t u) δ N R Bk Ct := fun σ I H e n D a1 a2 a3 a4 =>
  h1 σ I H e n _ (fun d σ' I' H' p e' s' n' => h2 d p σ' I' H' e' n' D (fun d σ2 I2 H2 p e2 s2 n2 => a1 d σ2 I2 H2 p e2 (s'.trans s2) n2) a2 (fun d σ2 I2 H2 p e2 s2 n2 => a3 d σ2 I2 H2 p e2 (s'.trans s2) n2) (fun d σ2 I2 H2 p e2 s2 n2 => a4 d σ2 I2 H2 p e2 (s'.trans s2) n2)) a2 a3 a4
/-- .. where the first ends in one known state -/
theorem sv_seq1 (h1 : SvD K b I0 H0 t δ (fun x => x = δ') R Bk Ct) (h2 : SvD K b I0 H0 u δ' N R Bk Ct) : SvD K b I0 H0 (tSeq t u) δ N R Bk Ct := sv_seq h1 fun _ e => e ▸ h2
theorem sv_asg {i : Nat} (h : EvD K b H0 te δ P) (hi : i < δ.length) (hN : ∀ r, P r → (∀ ds, r ≠ .bor ds) ∧ N (δ.set i (some r))) : SvD K b I0 H0 (tAsg te (gName i)) δ N R Bk Ct := fun σ I H e n D a1 _ _ _ =>
  h σ I H e.ok n _ fun r v I' H' p x rs => by
    refine a1 _ _ I' H' (hN r p).2 (e.trans x) x.i ((n.ext x).set hi (rs.since (free_of e)) fun a ds er ev j es hj hd => ?_)
    subst er
    subst ev
    obtain ⟨a', xs, ea, h0, hi', hb, ha, hdd⟩ := rs
    cases ea
    intro z
    obtain ⟨w, e1, e2⟩ := n.at_ j _ hd
    rw [z] at e1
    cases e1
    obtain ⟨a'', xs', ea, h0', hi'', hb', ha', hdd'⟩ := e2
    cases ea
    rw [h0] at ha'
    cases ha'
/-- x = e, the worth known -/
theorem sv_set {i : Nat} {r : DV} (h : EvD K b H0 te δ (fun x => x = r)) (hi : i < δ.length := by exact Nat.le_of_ble_eq_true rfl) (hr : ∀ ds, r ≠ .bor ds := by intro _ z; cases z) : SvD K b I0 H0 (tAsg te (gName i)) δ (fun x => x = δ.set i (some r)) R Bk Ct :=
  sv_asg h hi fun x e => by rw [e]; exact ⟨hr, rfl⟩
theorem sv_tgt {g : TG} {is : List Nat} {d : PyData} (h : EvD K b H0 te δ (fun x => x = .dat d)) (hg : TgD K b g is d δ δ') : SvD K b I0 H0 (tAsg te g) δ (fun x => x = δ') R Bk Ct := fun σ I H e n D a1 _ _ _ =>
  h σ I H e.ok n _ fun r v I' H' p x rs => by
    subst p
    exact hg H0 I' H' σ v x.ok (n.ext x) rs _ fun σ' n' _ _ => a1 _ _ I' H' rfl (e.trans x) x.i n'
theorem sv_par {i j : Nat} {ta : TA} {r s : DV} (h : EvA K b H0 ta δ (fun x => x = [r, s])) (hi : i < δ.length) (hj : j < δ.length) (h1 : ∀ ds, r ≠ .own ds) (h2 : ∀ ds, s ≠ .own ds) : SvD K b I0 H0 (tPar i j ta) δ (fun x => x = (δ.set i (some r)).set j (some s)) R Bk Ct := fun σ I H e n D a1 _ _ _ =>
  h σ I H e.ok n _ fun rs vs I' H' p x ra => by
    subst p
    cases ra with
    | cons q1 ra =>
      cases ra with
      | cons q2 ra =>
        cases ra
        exact ⟨_, _, rfl, a1 _ _ I' H' rfl (e.trans x) x.i (((n.ext x).setD hi (q1.since (free_of e)) h1).setD (by rw [List.length_set]; exact hj) (q2.since (free_of e)) h2)⟩
theorem sv_ret (h : EvD K b H0 te δ P) (hR : ∀ r, P r → R r) : SvD K b I0 H0 (tRet te) δ N R Bk Ct := fun σ I H e n D _ a2 _ _ =>
  h σ I H e.ok n _ fun r v I' H' p x rs => a2 r v I' H' (hR r p) (e.trans x) (rs.since (free_of e))
theorem sv_retO {i : Nat} {ds : List PyData} (h : δ[i]? = some (some (.own ds))) (hR : R (.own ds)) : SvD K b I0 H0 (tRet (tVar i)) δ N R Bk Ct := fun σ I H e n D _ a2 _ _ => by
  obtain ⟨v, e1, e2⟩ := n.at_ i _ h
  exact ⟨v, e1, a2 _ _ I H hR e e2⟩
theorem sv_retN (hR : R (.dat .none)) : SvD K b I0 H0 tRetN δ N R Bk Ct := fun σ I H e n D _ a2 _ _ => a2 _ _ I H hR e Dp.non
theorem sv_expr (h : EvD K b H0 te δ P) (hN : N δ) : SvD K b I0 H0 (tDrop te) δ N R Bk Ct := fun σ I H e n D a1 _ _ _ =>
  h σ I H e.ok n _ fun r v I' H' p x rs => a1 _ _ I' H' hN (e.trans x) x.i (n.ext x)
theorem sv_if {c : TT} {A : Bool → Prop} (h : EvT K b H0 c δ A) (h1 : A true → SvD K b I0 H0 t δ N R Bk Ct) (h2 : A false → SvD K b I0 H0 u δ N R Bk Ct) : SvD K b I0 H0 (tIfS c t u) δ N R Bk Ct := fun σ I H e n D a1 a2 a3 a4 =>
  h σ I H e.ok n _ fun c I' H' p x => by
    cases c with
    | true => exact h1 p σ I' H' (e.trans x) (n.ext x) D (fun d σ2 I2 H2 p e2 s2 n2 => a1 d σ2 I2 H2 p e2 (x.i.trans s2) n2) a2 (fun d σ2 I2 H2 p e2 s2 n2 => a3 d σ2 I2 H2 p e2 (x.i.trans s2) n2) (fun d σ2 I2 H2 p e2 s2 n2 => a4 d σ2 I2 H2 p e2 (x.i.trans s2) n2)
    | false => exact h2 p σ I' H' (e.trans x) (n.ext x) D (fun d σ2 I2 H2 p e2 s2 n2 => a1 d σ2 I2 H2 p e2 (x.i.trans s2) n2) a2 (fun d σ2 I2 H2 p e2 s2 n2 => a3 d σ2 I2 H2 p e2 (x.i.trans s2) n2) (fun d σ2 I2 H2 p e2 s2 n2 => a4 d σ2 I2 H2 p e2 (x.i.trans s2) n2)
theorem sv_break (h : Bk δ) : SvD K b I0 H0 tBreak δ N R Bk Ct := fun σ I H e n D _ _ a3 _ => a3 δ σ I H h e (Same.refl I) n
theorem sv_cont (h : Ct δ) : SvD K b I0 H0 tCont δ N R Bk Ct := fun σ I H e n D _ _ _ a4 => a4 δ σ I H h e (Same.refl I) n
/-- a for over plain data: J by the turn -/
theorem sv_for {wi : TI} {g : TG} {tb : TS} {A : List PyData → Prop} (it : ItD K b H0 wi δ A)
    (body : ∀ ds, A ds → ∃ J : Nat → Env → Prop, J 0 δ ∧ (∀ (k : Nat) d δk, ds[k]? = some d → J k δk → ∃ δ' is, TgD K b g is d δk δ' ∧ SvD K b I0 H0 tb δ' (J (k + 1)) R N (J (k + 1))) ∧ ∀ δn, J ds.length δn → N δn) :
    SvD K b I0 H0 (tFor wi g tb) δ N R Bk Ct := fun σ I H e n D a1 a2 a3 a4 =>
  it σ I H e.ok n _ fun ds Jt I1 H1 p x ok => by
    obtain ⟨G, Y, w, hG, hY⟩ := ok
    obtain ⟨J, j0, js, jn⟩ := body ds p
    refine for_it w (fun k σ' H' => ∃ I' δk, J k δk ∧ Ext K b I0 H0 I' H' ∧ Same I1 I' ∧ EnvR K b H0 I' H' σ' δk) ⟨I1, δ, j0, e.trans x, Same.refl _, n.ext x⟩ (fun k σ' H' _ ⟨I', δk, _, e', s', _⟩ => hG H' (s'.trans e'.s)) ?_ ?_
    · rintro k v σ' H' H'' hk ⟨I', δk, jk, e', s', n'⟩ y
      have hd1 : ds[k]? = some ds[k] := List.getElem?_eq_getElem hk
      generalize ds[k] = d at hd1
      obtain ⟨I3, e3, d3⟩ := hY k I' H' v H'' d s' e'.ok y hd1
      obtain ⟨δ', is, tg, sb⟩ := js k d δk hd1 jk
      refine tg H0 I3 H'' σ' v e3.ok (n'.ext e3) d3 _ fun σ2 n2 _ _ => ?_
      have s3 : Same I1 I3 := s'.trans e3.i
      exact sb σ2 I3 H'' (e'.trans e3) n2 _ (fun d σ4 I4 H4 p4 e4 s4 n4 => ⟨I4, d, p4, e4, s3.trans s4, n4⟩) a2 (fun d σ4 I4 H4 p4 e4 s4 n4 => a1 d σ4 I4 H4 p4 e4 ((x.i.trans s3).trans s4) n4) (fun d σ4 I4 H4 p4 e4 s4 n4 => ⟨I4, d, p4, e4, s3.trans s4, n4⟩)
    · rintro σ' H' ⟨I', δn, jk, e', s', n'⟩
      exact a1 δn σ' I' H' (jn δn jk) e' (x.i.trans s') n'
/-- fewer slots are known from here on -/
theorem sv_less (hl : δ'.length = δ.length) (hs : ∀ (i : Nat) (r : DV), δ'[i]? = some (some r) → δ[i]? = some (some r)) (h : SvD K b I0 H0 t δ' N R Bk Ct) : SvD K b I0 H0 t δ N R Bk Ct := fun σ I H e n D a1 a2 a3 a4 =>
  h σ I H e (n.less hl hs) D a1 a2 a3 a4
/-- a list of this def's own becomes plain -/
theorem sv_frz {i : Nat} {ds : List PyData} (hi : δ[i]? = some (some (.own ds))) (hbor : ∀ (j : Nat) es, δ[j]? ≠ some (some (.bor es))) (h : SvD K b I0 H0 t (δ.set i (some (.dat (.list ds)))) N R Bk Ct) : SvD K b I0 H0 t δ N R Bk Ct := fun σ I H e n D a1 a2 a3 a4 => by
  obtain ⟨v, e1, e2⟩ := n.at_ i _ hi
  obtain ⟨a, xs, rfl, h0, hn, hb, ha, hd⟩ := e2
  have ex : Ext K b I0 H0 (upd I a (.lst xs)) H := by
    refine ⟨fun c o h => ?_, e.h, fun c m h => ?_, fun c o h => ?_, ?_⟩
    · rw [upd_ne (ne_of_none (e.i c o h) hn)]; exact e.i c o h
    · rw [upd_ne (fun (z : c = a) => h (by rw [z]; exact h0))]; exact e.n c m h
    · by_cases z : c = a
      · subst z; rw [upd_same] at h; rw [ha]; exact h
      · rw [upd_ne z] at h; exact e.s c o h
    · obtain ⟨m, l, ns, x, q, m', c, e1, sl, r⟩ := e.b
      refine ⟨by rw [upd_ne (fun z => hb z.symm)]; exact m, l, ns, x, q, m', c, e1, sl_mono (fun d u h => ?_) sl, r⟩
      rw [upd_ne (ne_of_none h hn)]; exact h
  have sm : Same I (upd I a (.lst xs)) := fun c o h => by rw [upd_ne (ne_of_none h hn)]; exact h
  have hlt : i < δ.length := (List.getElem?_eq_some_iff.mp hi).1
  have en : EnvR K b H0 (upd I a (.lst xs)) H σ (δ.set i (some (.dat (.list ds)))) := by
    refine ⟨by rw [List.length_set]; exact n.len, fun j r hj => ?_, fun j k c ds' es h1 h2 h3 h4 => ?_⟩
    · by_cases z : i = j
      · subst z
        rw [List.getElem?_set_self hlt] at hj
        cases hj
        exact ⟨_, e1, Dp.lst (.inl (.inl upd_same)) (dpa_mono sm hd)⟩
      · rw [List.getElem?_set_ne z] at hj
        obtain ⟨w, g1, g2⟩ := n.at_ j r hj
        refine ⟨w, g1, ?_⟩
        cases r with
        | dat d => exact dp_mono sm g2
        | raw u => exact g2
        | bag => exact g2
        | own es =>
          obtain ⟨c, ys, rfl, q0, qn, qb, qa, qd⟩ := g2
          have nc : c ≠ a := fun zz => by
            subst zz
            exact z (n.nd i j c ds es hi e1 hj g1)
          exact ⟨c, ys, rfl, q0, by rw [upd_ne nc]; exact qn, qb, qa, dpa_mono sm qd⟩
        | bor es => exact absurd hj (hbor j es)
    · by_cases zj : i = j
      · subst zj
        rw [List.getElem?_set_self hlt] at h1
        cases h1
      · by_cases zk : i = k
        · subst zk
          rw [List.getElem?_set_self hlt] at h3
          cases h3
        · rw [List.getElem?_set_ne zj] at h1
          rw [List.getElem?_set_ne zk] at h3
          exact n.nd j k c ds' es h1 h2 h3 h4
  exact h σ _ H ex en D (fun d σ2 I2 H2 p e2 s2 n2 => a1 d σ2 I2 H2 p e2 (sm.trans s2) n2) a2 (fun d σ2 I2 H2 p e2 s2 n2 => a3 d σ2 I2 H2 p e2 (sm.trans s2) n2) (fun d σ2 I2 H2 p e2 s2 n2 => a4 d σ2 I2 H2 p e2 (sm.trans s2) n2)
end
/-! ### what a def promises of data -/
/-- an exception's fields -/
abbrev XD := Addr → List (Str × V) → Prop
def spD {α : Type} (K : PySem.W.Frag) (args : α → List DV) (ok : α → Prop) (out : α → DV → Prop) (exc : α → XD) : Sp := fun vs H Q E => ∃ a b I, Ok K b I H ∧ ResA K b H I H vs (args a) ∧ ok a ∧
  (∀ r v I' H', out a r → Ext K b I H I' H' → Res K b H I' H' v r → Q v H') ∧
  (∀ C fs d I' H', exc a C fs → Ext K b I H I' H' → I' d = none → H' d = some (.xd fs) → E (.ref C) (some d) H')
abbrev noX {α : Type} : α → XD := fun _ _ _ => False
section
variable {K : PySem.W.Frag} {b : Addr} {I0 H0 : Hp} {δ : Env} {P : DV → Prop}
def envOf (N : List Str) (rs : List DV) : Env := rs.map some ++ List.replicate (N.length - rs.length) none
theorem resA_len {I H : Hp} : ∀ {vs : List V} {rs : List DV}, ResA K b H0 I H vs rs → vs.length = rs.length
  | _, _, .nil => rfl
  | _, _, .cons _ r => congrArg Nat.succ (resA_len r)
theorem resA_get {I H : Hp} : ∀ {vs : List V} {rs : List DV} {i : Nat} {r : DV}, ResA K b H0 I H vs rs → rs[i]? = some r → ∃ v, vs[i]? = some v ∧ Res K b H0 I H v r
  | _, _, _, _, .nil, h => by simp at h
  | _, _, 0, _, .cons q _, h => by
    cases Option.some.inj h
    exact ⟨_, rfl, q⟩
  | _, _, i + 1, _, .cons _ t, h => resA_get (i := i) t h
theorem env_start {N : List Str} {I H : Hp} {vs : List V} {rs : List DV} (h : ResA K b H I H vs rs) : EnvR K b H I H (start N vs) (envOf N rs) := by
  have hl := resA_len h
  have at_ : ∀ (i : Nat) (r : DV), (envOf N rs)[i]? = some (some r) → ∃ v, (start N vs)[i]? = some (some v) ∧ Res K b H I H v r := fun i r hi => by
    unfold envOf at hi
    unfold L2.start
    by_cases z : i < rs.length
    · rw [List.getElem?_append_left (by rw [List.length_map]; exact z), List.getElem?_map] at hi
      cases q : rs[i]? with
      | none => rw [q] at hi; cases hi
      | some r' =>
        rw [q] at hi
        cases hi
        obtain ⟨v, e1, e2⟩ := resA_get h q
        refine ⟨v, ?_, e2⟩
        rw [List.getElem?_append_left (by rw [List.length_map]; omega), List.getElem?_map, e1]
        rfl
    · rw [List.getElem?_append_right (by rw [List.length_map]; omega), List.getElem?_replicate] at hi
      split at hi <;> cases hi
  refine ⟨?_, at_, fun i j a ds es h1 h2 _ _ => ?_⟩
  · unfold L2.start envOf
    simp only [List.length_append, List.length_map, List.length_replicate]
    omega
  · obtain ⟨v, e1, a', xs, rfl, h0, _, _, ha, _⟩ := at_ i _ h1
    rw [h0] at ha
    cases ha
def NoOwn (rs : List DV) : Prop := ∀ r ∈ rs, ∀ ds, r ≠ .own ds
theorem noOwn_nil : NoOwn [] := fun _ h => by cases h
theorem noOwn_cons {r : DV} {rs : List DV} (h : ∀ ds, r ≠ .own ds) (t : NoOwn rs) : NoOwn (r :: rs) := fun x hx => by
  rcases List.mem_cons.mp hx with e | e
  · rw [e]; exact h
  · exact t x e
theorem resA_now {I H H1 : Hp} : ∀ {vs : List V} {rs : List DV}, ResA K b H I H1 vs rs → NoOwn rs → ResA K b H1 I H1 vs rs
  | _, _, .nil, _ => .nil
  | _, r :: rs, .cons q1 t, p2 => by
    refine .cons ?_ (resA_now t fun r hr => p2 r (List.mem_cons_of_mem _ hr))
    cases r with
    | own ds => exact absurd rfl (p2 _ (List.mem_cons_self ..) ds)
    | dat d => exact q1
    | bor ds => exact q1
    | raw u => exact q1
    | bag => exact q1
/-- f(e, ..) by its promise -/
theorem ev_call {α : Type} {args : α → List DV} {ok : α → Prop} {out : α → DV → Prop} {exc : α → XD} {E : XK} {ta : TA} {A : List DV → Prop} (ha : EvA K b H0 ta δ A)
    (hp : ∀ rs, A rs → ∃ a, rs = args a ∧ ok a ∧ NoOwn rs ∧ (∀ r, out a r → P r) ∧ ∀ C fs, exc a C fs → False) : EvD K b H0 (tCall (spD K args ok out exc) [] E ta) δ P := fun σ I H k n Q q =>
  ha σ I H k n _ fun rs vs I1 H1 p x r => by
    obtain ⟨a, rfl, p1, p2, p3, p4⟩ := hp rs p
    rw [List.append_nil]
    exact ⟨a, b, I1, x.ok, resA_now r p2, p1, fun r v I' H' o x2 rs' => q r v I' H' (p3 r o) (x.trans x2) (rs'.since (free_of x)), fun C fs d I' H' he _ _ _ => (p4 C fs he).elim⟩
/-- .. all told -/
theorem ev_call1 {α : Type} {args : α → List DV} {ok : α → Prop} {out : α → DV → Prop} {E : XK} {ta : TA} (a : α) (ha : EvA K b H0 ta δ (fun x => x = args a)) (hp : ok a) (ho : ∀ r, out a r → P r) (hn : NoOwn (args a)) :
    EvD K b H0 (tCall (spD K args ok out noX) [] E ta) δ P := ev_call ha fun _ e => ⟨a, e, hp, e ▸ hn, ho, fun _ _ h => h⟩
/-- f(.., k = e, ..) -/
theorem ev_callN {α : Type} {n m : Nat} {gV : List V → List V → List V} {gD : List DV → List DV → List DV} {args : α → List DV} {ok : α → Prop} {out : α → DV → Prop} {E : XK} {ta tk : TA} {rs zs : List DV} (a : α) (ha : EvA K b H0 ta δ (fun x => x = rs)) (hk : EvA K b H0 tk δ (fun x => x = zs))
    (hg : ∀ (H0 I H : Hp) vs ws, ResA K b H0 I H vs rs → ResA K b H0 I H ws zs → vs.length = n ∧ ws.length = m ∧ ResA K b H0 I H (gV vs ws) (args a)) (hp : ok a) (ho : ∀ r, out a r → P r) (hn : NoOwn (args a)) :
    EvD K b H0 (tCallN n m (spD K args ok out noX) gV E ta tk) δ P := fun σ I H k n Q q =>
  ha σ I H k n _ fun rs vs I1 H1 p x r => hk σ I1 H1 x.ok (n.ext x) _ fun zs ws I2 H2 p2 x2 r2 => by
    subst p
    subst p2
    obtain ⟨l1, l2, r3⟩ := hg H I2 H2 vs ws (r.ext x2) (r2.since (free_of x))
    exact ⟨l1, l2, a, b, I2, x2.ok, resA_now r3 hn, hp, fun r v I' H' o x3 rs' => q r v I' H' (ho r o) ((x.trans x2).trans x3) (rs'.since (free_of (x.trans x2))), fun C fs d I' H' he _ _ _ => he.elim⟩
end
section
variable {P : Program} {w : World} {K : PySem.W.Frag} {mg : Str → Option Value} {base : Heap}
/-- a def keeps its promise of data (nothing is raised) -/
theorem fn_ok {α : Type} {x qual : Str} {st : Stmt} {f : Addr} {fd : FuncData} {N ps : List Str} {k : Nat} {args : α → List DV} {ok : α → Prop} {out : α → DV → Prop} (F : Fun K x qual st f fd) (S : FnScope N ps (defScope st)) (len : ∀ a, ok a → (args a).length = ps.length)
    (hbody : ∀ (cdv : Value) (A : Around) (outer : List PySem.Env) (s : Shared) (H : Hp) (E : XK), Room k (A.deeper (envOfC qual (defScope st) s.heap.objs.size f cdv)) →
      ∃ t, PSs (cxOf CX0 P w K mg base N qual (defScope st) f cdv A outer s H E).nox (defBody st) t ∧ ∀ b I a, ok a → SvD K b I H t (envOf N (args a)) (fun _ => out a (.dat .none)) (out a) (fun _ => False) (fun _ => False)) :
    FnOk P w K mg base CX0 (k + 1) f fd ps (spD K args ok out noX) := by
  refine F.ok S (fun vs H Q E h => ?_) (fun cdv A outer s H vs Q E hr h => ?_)
  · obtain ⟨a, b, I, _, r, p, _⟩ := h
    rw [resA_len r]
    exact len a p
  · obtain ⟨a, b, I, k, r, p, q, _⟩ := h
    obtain ⟨t, ht, hs⟩ := hbody cdv A outer s H E hr
    exact ⟨t, ht, hs b I a p _ I H k.re (env_start r) _ (fun δ' σ' I' H' o e _ _ => q _ _ I' H' o e Dp.non) (fun r v I' H' o e rs => q r v I' H' o e rs) (fun _ _ _ _ z => z.elim) (fun _ _ _ _ z => z.elim)⟩
end
end DL

set_option Elab.async false
set_option linter.all false
set_option maxRecDepth 100000
set_option maxHeartbeats 4000000
namespace DL
open PySem PySem.Spec PyProof.Rows L2
/-! ### isinstance of plain data -/
def tyN : PyData → String
  | .none => "NoneType"
  | .bool _ => "bool"
  | .int _ => "int"
  | .str _ => "str"
  | .list _ => "list"
  | .tuple _ => "tuple"
  | .dict _ => "dict"
theorem dp_ty {K : PySem.W.Frag} {H : Hp} {v : V} {d : PyData} (h : Dp K H v d) : TyX K H v (.type (tyN d)) := by
  cases h with
  | non => exact .base .non
  | bl b => exact .base (.bl b)
  | int i => exact .base (.int i)
  | str x => exact .base (.str x)
  | lst q r =>
    rcases q with (q | ⟨o, q⟩) | ⟨o, its, n, q, c, _⟩
    · exact .base (.lst q)
    · exact .base (.frz q)
    · exact .kList q c
  | tup q r =>
    rcases q with (q | ⟨o, q⟩) | ⟨o, its, n, q, c, _⟩
    · exact .base (.tup q)
    · exact .fTuple q
    · exact .kTuple q c
theorem cb_isi {K : PySem.W.Frag} {b : Addr} {d : PyData} {n : String} {c : Bool} (h : kitB (tyN d) n = some c) : CbD K b (rIsi K) [.dat d, .raw (.ty n)] (fun r => r = dbl c) := fun H0 I H vs k rs Q q => by
  cases rs with
  | cons r1 rr =>
    cases rr with
    | cons r2 rr =>
      cases rr
      have e : _ = V.ty n := r2
      subst e
      exact ⟨_, _, _, _, c, rfl, .ty n, dp_ty (dp_mono k.s r1), kit_ty h, q _ _ I H rfl k.re (Dp.bl c)⟩
/-! ### is None -/
theorem dp_isN {K : PySem.W.Frag} {I : Hp} {v : V} {d : PyData} (h : Dp K I v d) : decide (v = V.non) = decide (tyN d = "NoneType") := by
  cases h <;> simp [tyN]
/-! ### keywords alone -/
section
variable {X : Cx} {CX : CXT} {k n : Nat} {f : Addr} {fd : FuncData} {ps ks : List Str} {sp : Sp} {E : XK} {x : Str} {p pos : Pos} {kws : List Keyword} {tk : TA} {g : List Value → List Value → List Value} {gV : List V → List V → List V}
theorem pe_callK0 (F : FnOk X.prog X.w X.K X.mg X.base CX k f fd ps sp) (hr : Room k X.A) (hg : Gl X x) (hm : X.mg x = some (.ref f)) (hk : PySem.W.keepIn X.K (.ref f) = true) (hb : KBn X.K fd ps 0 ks g gV) (hx : Passes CX X E) (hkw : PK X kws tk)
    (hall : (backToKw pos (keywordEach kws X.env)).all (·.1.isSome) = true := by rfl) (hks : (backToKw pos (keywordEach kws X.env)).filterMap (·.1) = ks := by rfl) (hdb : (x == ("__debug__" : Str)) = false := by decide)
    (hpl : ((backTo pos (starEach [] X.env)).any (·.1) || (backToKw pos (keywordEach kws X.env)).any (·.1.isNone)) = false := by rfl) :
    PE X (.Call (.Name x p) [] kws pos) (tCallN 0 ks.length sp gV E tNil tk) := by
  refine ⟨fun pins s σ H Q I h => ?_⟩
  refine wpAny_Call_Name_kw (ld_glob I hg hm ?_ hdb)
  refine PySem.W.callWith_KW0 (h₀ := X.base) I.ok.mod.kin hk hall ?_ hpl
  refine thn (hkw.run pos pins s σ H _ I h) fun ws s2 ⟨zs, H2, I2, rz, l1, l2, q2⟩ => ⟨I2.kIn, ?_⟩
  rw [hks]
  exact run_fnN (us := []) (vs := []) F hr hb hx I2 .nil rz rfl l2 q2
end
/-- how keywords bind, all parameters given -/
theorem kbn_mk {K : PySem.W.Frag} {x qual : Str} {st : Stmt} {f : Addr} {fd : FuncData} {ps ks : List Str} {n : Nat} (F : Fun K x qual st f fd) (g : {α : Type} → List α → List α → List α)
    (h : ∀ (kV doc pm : Value) (an : Option Addr) (cdv ct : Value) (us ws : List Value), us.length = n → ws.length = ks.length → bindArgs (PySem.W.fnOf x qual (defArgs st) (defBody st) (defScope st) .none kV doc pm an cdv ct) ⟨us, ks.zip ws⟩ = pure (ps.zip (g us ws)))
    (rel : ∀ {vs : List V} {us : List Value} {zs : List V} {ws : List Value}, Vals vs us → Vals zs ws → Vals (g vs zs) (g us ws)) : KBn K fd ps n ks g g := by
  obtain ⟨oc, od, kV, doc, pm, an, cdv, ct, osl, rfl, lk, hcd⟩ := F.ex
  exact ⟨fun s us ws _ l1 l2 => .of_eq (h kV doc pm an cdv ct us ws l1 l2), rel⟩
/-- two keywords, exchanged -/
def kw21 {α : Type} (_ : List α) (zs : List α) : List α := match zs with
  | [a, c] => [c, a]
  | _ => []
theorem kw21_rel {vs : List V} {us : List Value} {zs : List V} {ws : List Value} (_ : Vals vs us) (h : Vals zs ws) : Vals (kw21 vs zs) (kw21 us ws) := by
  cases h with
  | nil => exact .nil
  | cons r t =>
    cases t with
    | nil => exact .nil
    | cons r2 t =>
      cases t with
      | nil => exact .cons r2 (.cons r .nil)
      | cons _ _ => exact .nil
def kw12 {α : Type} (_ : List α) (zs : List α) : List α := match zs with
  | [a, c] => [a, c]
  | _ => []
theorem kw12_rel {vs : List V} {us : List Value} {zs : List V} {ws : List Value} (_ : Vals vs us) (h : Vals zs ws) : Vals (kw12 vs zs) (kw12 us ws) := by
  cases h with
  | nil => exact .nil
  | cons r t =>
    cases t with
    | nil => exact .nil
    | cons r2 t =>
      cases t with
      | nil => exact .cons r (.cons r2 .nil)
      | cons _ _ => exact .nil
section
variable {K : PySem.W.Frag} {b : Addr} {H0 : Hp} {δ : Env} {P : DV → Prop}
theorem ev_kw21 {α : Type} {args : α → List DV} {ok : α → Prop} {out : α → DV → Prop} {E : XK} {tk : TA} {r s : DV} (a : α) (hk : EvA K b H0 tk δ (fun x => x = [s, r])) (he : args a = [r, s]) (hp : ok a) (ho : ∀ r, out a r → P r) (h1 : ∀ ds, r ≠ .own ds) (h2 : ∀ ds, s ≠ .own ds) :
    EvD K b H0 (tCallN 0 2 (spD K args ok out noX) kw21 E tNil tk) δ P :=
  ev_callN (gD := kw21) a ea_nil hk (fun H0 I H vs ws r1 r2 => by
    cases r1
    cases r2 with
    | cons q1 r2 =>
      cases r2 with
      | cons q2 r2 =>
        cases r2
        rw [he]
        exact ⟨rfl, rfl, .cons q2 (.cons q1 .nil)⟩) hp ho (by rw [he]; exact noOwn_cons h1 (noOwn_cons h2 noOwn_nil))
theorem ev_kw12 {α : Type} {args : α → List DV} {ok : α → Prop} {out : α → DV → Prop} {E : XK} {tk : TA} {r s : DV} (a : α) (hk : EvA K b H0 tk δ (fun x => x = [r, s])) (he : args a = [r, s]) (hp : ok a) (ho : ∀ r, out a r → P r) (h1 : ∀ ds, r ≠ .own ds) (h2 : ∀ ds, s ≠ .own ds) :
    EvD K b H0 (tCallN 0 2 (spD K args ok out noX) kw12 E tNil tk) δ P :=
  ev_callN (gD := kw12) a ea_nil hk (fun H0 I H vs ws r1 r2 => by
    cases r1
    cases r2 with
    | cons q1 r2 =>
      cases r2 with
      | cons q2 r2 =>
        cases r2
        rw [he]
        exact ⟨rfl, rfl, .cons q1 (.cons q2 .nil)⟩) hp ho (by rw [he]; exact noOwn_cons h1 (noOwn_cons h2 noOwn_nil))
end
/-! ### the bag's turns -/
theorem Ext.bag {K : PySem.W.Frag} {b : Addr} {I H : Hp} {l : Addr} {ns : List Int} {p q m c : Int} (k : Ok K b I H) (hl : SqL K I l (ns.map V.int)) (hp : 0 ≤ p) (hq : 0 ≤ q) (hm : 0 ≤ m) (hm2 : m < 2147483647) :
    Ext K b I H I (upd H b (.lst [.ref l, .int p, .int q, .int m, .int c])) := by
  have ib := k.b.1
  refine ⟨Same.refl I, fun a o n h => by rw [upd_ne n]; exact h, fun a n _ => n, fun a o h => by rw [upd_ne (ne_of_none h ib)]; exact k.s a o h, ib, l, ns, p, q, m, c, upd_same, hl, hp, hq, hm, hm2⟩
end DL

set_option Elab.async false
set_option linter.all false
set_option maxRecDepth 100000
set_option maxHeartbeats 4000000
namespace DL
open PySem PySem.Spec PyProof.Rows L2 RZ
theorem ltr {a c : Nat} (h : Nat.ble (a + 1) c = true) : a < c := Nat.le_of_ble_eq_true h
theorem hv1 {p : Nat → Prop} {a : Nat} (h : p a) : ∀ v ∈ [a], p v := fun v hv => by
  rcases List.mem_cons.mp hv with e | e
  · rw [e]; exact h
  · cases e
theorem hv2 {p : Nat → Prop} {a c : Nat} (h : p a) (h2 : p c) : ∀ v ∈ [a, c], p v := fun v hv => by
  rcases List.mem_cons.mp hv with e | e
  · rw [e]; exact h
  · exact hv1 h2 v e
abbrev nums (ns : List Int) : PyData := .tuple (ns.map .int)
/-! ### the rules, K told -/
section
variable {X : Cx} (K : PySem.W.Frag)
theorem k_ix_list (h : X.K = K := by rfl) : IxR X (rIxL K) := h ▸ ix_list
theorem k_ix_tup (h : X.K = K := by rfl) : IxR X (rIxT K) := h ▸ ix_tup
theorem k_ix_seq (h : X.K = K := by rfl) : IxR X (rIx K) := h ▸ ix_seq
theorem k_len (h : X.K = K := by rfl) : CallR X (.builtin "len") (fun xs H Q => ∃ p ys, xs = [.ref p] ∧ (SqL K H p ys ∨ SqT K H p ys) ∧ Q (.int ys.length) H) := h ▸ call_len_seq
theorem k_tuple (h : X.K = K := by rfl) : CallR X (.type "tuple") (fun xs H Q => ∃ p ys, xs = [.ref p] ∧ ((SqL K H p ys ∧ ∀ l, H l = none → Q (.ref l) (upd H l (.tup ys))) ∨ (SqT K H p ys ∧ Q (.ref p) H))) := h ▸ call_tuple_of
theorem k_list (h : X.K = K := by rfl) : CallR X (.type "list") (fun xs H Q => ∃ p ys, xs = [.ref p] ∧ (SqL K H p ys ∨ SqT K H p ys) ∧ ∀ l, H l = none → Q (.ref l) (upd H l (.lst ys))) := h ▸ call_list_of
theorem k_sum (hc : X.calm = true) (h : X.K = K := by rfl) : CallR X (.builtin "sum") (rSum K) := h ▸ cr_sum hc
theorem k_all (hc : X.calm = true) (h : X.K = K := by rfl) : CallR X (.builtin "all") (rAll K) := h ▸ cr_all hc
theorem k_any (hc : X.calm = true) (h : X.K = K := by rfl) : CallR X (.builtin "any") (rAny K) := h ▸ cr_any hc
theorem k_isi (h : X.K = K := by rfl) : CallR X (.builtin "isinstance") (rIsi K) := h ▸ call_isi
theorem k_catA (h : X.K = K := by rfl) : OpR X (binaryOp .Add) (rCatA K) := h ▸ op_catA
theorem k_repT (h : X.K = K := by rfl) : OpR X (binaryOp .Mult) (rRepT K) := h ▸ op_repT
theorem k_in (h : X.K = K := by rfl) : OpR X (compareOp .In) (rIn K false) := h ▸ op_in_seq
theorem k_notin (h : X.K = K := by rfl) : OpR X (compareOp .NotIn) (rIn K true) := h ▸ op_notIn_seq
theorem k_eqD (hu : X.A.units + 64 < cLine) (h : X.K = K := by rfl) : OpR X (compareOp .Eq) (rEqD K) := h ▸ op_eqD hu
theorem k_neD (hu : X.A.units + 64 < cLine) (h : X.K = K := by rfl) : OpR X (compareOp .NotEq) (rNeD K) := h ▸ op_neD hu
theorem k_sl_list (h : X.K = K := by rfl) : SlR X (rSlL K) := h ▸ sl_list
theorem k_sl_tup (h : X.K = K := by rfl) : SlR X (rSlA K) := h ▸ sl_tupA
end
section
variable {K : PySem.W.Frag} {b : Addr} {H0 : Hp} {δ : Env} {ta te tb : TE} {P : DV → Prop}
theorem ItD.mono {wi : TI} {A B : List PyData → Prop} (h : ItD K b H0 wi δ A) (m : ∀ x, A x → B x) : ItD K b H0 wi δ B := fun σ I H k n R q => h σ I H k n R fun ds J I' H' p => q ds J I' H' (m ds p)
theorem itd_zip1 {ta : TA} {ds es : List PyData} (h : EvA K b H0 ta δ (fun rs => rs = [.dat (.tuple ds), .dat (.tuple es)])) : ItD K b H0 (iZipA K ta) δ (fun x => x = zipD ds es) :=
  (itd_zipT (A := fun x y => x = ds ∧ y = es) (h.mono fun _ e => ⟨ds, es, e, rfl, rfl⟩)).mono fun _ ⟨x, y, e, e1, e2⟩ => by rw [e, e1, e2]
theorem itd_tup1 {ds : List PyData} (h : EvD K b H0 te δ (fun x => x = .dat (.tuple ds))) : ItD K b H0 (iTup K te) δ (fun x => x = ds) :=
  itd_tup (A := fun x => x = ds) (h.mono fun _ e => ⟨ds, e, rfl⟩)
theorem itd_list1 {ds : List PyData} (h : EvD K b H0 te δ (fun x => x = .dat (.list ds))) : ItD K b H0 (iList K te) δ (fun x => x = ds) :=
  itd_list (A := fun x => x = ds) (h.mono fun _ e => ⟨ds, e, rfl⟩)
theorem itd_rngN {ta : TA} {n : Nat} (h : EvA K b H0 ta δ (fun rs => rs = [dint n])) (hn : n ≤ 100000) : ItD K b H0 (iRng1 ta) δ (fun x => x = rangeD 0 n) :=
  (itd_rng1 (A := fun x => x = (n : Int)) (h.mono fun _ e => ⟨n, e, by omega, by omega, rfl⟩)).mono fun _ ⟨x, e, e1⟩ => by
    subst e1
    rw [e]
    rfl
/-- a range whose end is drawn -/
theorem itd_rngR {ta : TA} {C : Int → Prop} (h : EvA K b H0 ta δ (fun rs => ∃ n, rs = [dint n] ∧ C n)) (hn : ∀ n, C n → 0 ≤ n ∧ n ≤ 100000) : ItD K b H0 (iRng1 ta) δ (fun x => ∃ n : Nat, x = rangeD 0 n ∧ C n) :=
  (itd_rng1 (A := C) (h.mono fun _ ⟨n, e, c⟩ => ⟨n, e, by have := hn n c; omega, by have := hn n c; omega, c⟩)).mono fun _ ⟨x, e, e1⟩ => ⟨x.toNat, e, by
    have := hn x e1
    rw [show ((x.toNat : Nat) : Int) = x by omega]
    exact e1⟩
theorem paired_mapL {α β γ : Type} {g : α → β} {F : β → γ → Prop} : ∀ {l : List α} {ys : List γ}, Paired F (l.map g) ys → Paired (fun x y => F (g x) y) l ys
  | [], _, h => by cases h; exact .nil
  | _ :: _, _, h => by
    cases h with
    | cons r t => exact .cons r (paired_mapL t)
theorem paired_fun {α β : Type} {f : α → β} : ∀ {l : List α} {ys : List β}, Paired (fun x y => y = f x) l ys → ys = l.map f
  | _, _, .nil => rfl
  | _, _, .cons r t => by rw [List.map_cons, ← paired_fun t, r]
theorem paired_len {α β : Type} {F : α → β → Prop} {l : List α} {ys : List β} (h : Paired F l ys) : l.length = ys.length := PySem.Paired.length h
/-- a comprehension over a list of things x that stand as data gI x; what each turn gives is in Pe x -/
theorem ev_lcR {β : Type} {wi : TI} {g : TG} {te : TE} {vs is : List Nat} {A : List β → Prop} {gI : β → PyData} {δf : β → Env} {Pe : β → PyData → Prop} (it : ItD K b H0 wi δ (fun x => ∃ l, x = l.map gI ∧ A l)) (hv : ∀ v ∈ vs, δ[v]? = some none) (his : ∀ v ∈ is, v ∈ vs)
    (hl : ∀ l, A l → l.length ≤ 100000) (tg : ∀ x, TgD K b g is (gI x) δ (δf x)) (body : ∀ l, A l → ∀ x ∈ l, EvD K b H0 te (δf x) (fun r => ∃ y, r = .dat y ∧ Pe x y)) :
    EvD K b H0 (tLc wi g tYes te vs) δ (fun r => ∃ ys, r = .own ys ∧ ∃ l, A l ∧ Paired Pe l ys) :=
  (ev_lc (f := fun _ => true) it hv his hl tg (fun _ _ _ _ => et_yes) fun l a x hx _ => body l a x hx).mono fun r ⟨ys, e, l, a, hp⟩ => by
    have z : l.filter (fun _ => true) = l := by simp
    rw [z] at hp
    exact ⟨ys, e, l, a, hp⟩
theorem ev_lcM {β : Type} {wi : TI} {g : TG} {te : TE} {vs is : List Nat} {l : List β} {gI : β → PyData} {δf : β → Env} {f : β → PyData} (it : ItD K b H0 wi δ (fun x => x = l.map gI)) (hv : ∀ v ∈ vs, δ[v]? = some none) (his : ∀ v ∈ is, v ∈ vs)
    (hl : l.length ≤ 100000) (tg : ∀ x, TgD K b g is (gI x) δ (δf x)) (body : ∀ x ∈ l, EvD K b H0 te (δf x) (fun r => r = .dat (f x))) : EvD K b H0 (tLc wi g tYes te vs) δ (fun r => r = .own (l.map f)) :=
  (ev_lcR (A := fun x => x = l) (Pe := fun x y => y = f x) (it.mono fun x e => ⟨l, e, rfl⟩) hv his (fun _ e => e ▸ hl) tg fun _ e x hx => (body x (e ▸ hx)).mono fun r e => ⟨_, e, rfl⟩).mono fun r ⟨ys, e, l', e2, hp⟩ => by
    subst e2
    rw [e, paired_fun hp]
/-! ### ints, some of them drawn -/
end
section
variable (K : PySem.W.Frag) (b : Addr) (H0 : Hp)
def EvI (te : TE) (δ : Env) (C : Int → Prop) : Prop := EvD K b H0 te δ (fun r => ∃ i, r = dint i ∧ C i)
end
section
variable {K : PySem.W.Frag} {b : Addr} {H0 : Hp} {δ : Env} {ta te tb : TE} {P : DV → Prop} {A B C : Int → Prop}
theorem EvI.mono (h : EvI K b H0 te δ A) (m : ∀ i, A i → B i) : EvI K b H0 te δ B := EvD.mono h fun _ ⟨i, e, a⟩ => ⟨i, e, m i a⟩
theorem ei_of {i : Int} (h : EvD K b H0 te δ (fun r => r = dint i)) : EvI K b H0 te δ (fun x => x = i) := h.mono fun _ e => ⟨i, e, rfl⟩
theorem EvI.one {i : Int} (h : EvI K b H0 te δ (fun x => x = i)) : EvD K b H0 te δ (fun r => r = dint i) := EvD.mono h fun _ ⟨_, e, a⟩ => by rw [e, a]
theorem ei_I0 {g : Int → Int → Int} (ha : EvI K b H0 ta δ A) (hb : EvI K b H0 tb δ B) : EvI K b H0 (tOp (rI0 fun i j => .int (g i j)) ta tb) δ (fun k => ∃ i j, A i ∧ B j ∧ k = g i j) :=
  ev_op ha hb fun x y ⟨i, e, a⟩ ⟨j, f, c⟩ => by
    subst e f
    exact fun H0 I H v w k r1 r2 Q q => od_I0 (fun K I => Dp.int _) H0 I H v w k r1 r2 Q fun z u I' H' p => q z u I' H' ⟨_, p, i, j, a, c, rfl⟩
theorem ei_I {C : Int → Int → Prop} {g : Int → Int → Int} (ha : EvI K b H0 ta δ A) (hb : EvI K b H0 tb δ B) (hc : ∀ i j, A i → B j → C i j) : EvI K b H0 (tOp (rI C fun i j => .int (g i j)) ta tb) δ (fun k => ∃ i j, A i ∧ B j ∧ k = g i j) :=
  ev_op ha hb fun x y ⟨i, e, a⟩ ⟨j, f, c⟩ => by
    subst e f
    exact fun H0 I H v w k r1 r2 Q q => od_I (hc i j a c) (fun K I => Dp.int _) H0 I H v w k r1 r2 Q fun z u I' H' p => q z u I' H' ⟨_, p, i, j, a, c, rfl⟩
theorem ei_U {g : Int → Int} (ha : EvI K b H0 ta δ A) : EvI K b H0 (tUn (rU fun i => .int (g i)) ta) δ (fun k => ∃ i, A i ∧ k = g i) :=
  ev_un ha fun x ⟨i, e, a⟩ => by
    subst e
    exact fun H0 I H v k r1 Q q => ud_U (g := fun i => .int (g i)) (fun K I => Dp.int _) H0 I H v k r1 Q fun z u I' H' p => q z u I' H' ⟨_, p, i, a, rfl⟩
theorem ei_var {i : Nat} {n : Int} (h : δ[i]? = some (some (dint n))) : EvI K b H0 (tVar i) δ (fun x => x = n) := ei_of (ev_var h)
theorem ei_int {n : Int} : EvI K b H0 (tC (.int n)) δ (fun x => x = n) := ei_of ev_int
/-- comparisons of ints -/
theorem ev_cmp {g : Int → Int → Bool} {i j : Int} (ha : EvD K b H0 ta δ (fun r => r = dint i)) (hb : EvD K b H0 tb δ (fun r => r = dint j)) : EvD K b H0 (tOp (rI0 fun i j => .bl (g i j)) ta tb) δ (fun r => r = dbl (g i j)) :=
  ev_op ha hb fun x y e f => by
    subst e f
    exact od_I0 fun K I => Dp.bl _
theorem ev_i2 {g : Int → Int → Int} {i j : Int} (ha : EvD K b H0 ta δ (fun r => r = dint i)) (hb : EvD K b H0 tb δ (fun r => r = dint j)) : EvD K b H0 (tOp (rI0 fun i j => .int (g i j)) ta tb) δ (fun r => r = dint (g i j)) :=
  ev_op ha hb fun x y e f => by
    subst e f
    exact od_I0 fun K I => Dp.int _
theorem ev_i2c {C : Int → Int → Prop} {g : Int → Int → Int} {i j : Int} (ha : EvD K b H0 ta δ (fun r => r = dint i)) (hb : EvD K b H0 tb δ (fun r => r = dint j)) (hc : C i j) : EvD K b H0 (tOp (rI C fun i j => .int (g i j)) ta tb) δ (fun r => r = dint (g i j)) :=
  ev_op ha hb fun x y e f => by
    subst e f
    exact od_I hc fun K I => Dp.int _
theorem ev_ixL {x : DV} {ds : List PyData} {d : PyData} {i : Int} (ha : EvD K b H0 ta δ (fun r => r = x)) (l : LstR x ds) (hb : EvD K b H0 tb δ (fun r => r = dint i)) (h0 : 0 ≤ i) (h : ds[i.toNat]? = some d) : EvD K b H0 (tOp (rIxL K) ta tb) δ (fun r => r = .dat d) :=
  ev_op ha hb fun x y e f => by
    subst e f
    exact ixL_ l h0 h rfl
theorem ev_ixT {ds : List PyData} {d : PyData} {i : Int} (ha : EvD K b H0 ta δ (fun r => r = .dat (.tuple ds))) (hb : EvD K b H0 tb δ (fun r => r = dint i)) (h0 : 0 ≤ i) (h : ds[i.toNat]? = some d) : EvD K b H0 (tOp (rIxT K) ta tb) δ (fun r => r = .dat d) :=
  ev_op ha hb fun x y e f => by
    subst e f
    exact ixT_ h0 h rfl
/-- an item of a list or a tuple (ix_seq) -/
theorem ev_ix {ds : List PyData} {d e : PyData} {i : Int} (ht : e = .list ds ∨ e = .tuple ds) (ha : EvD K b H0 ta δ (fun r => r = .dat e)) (hb : EvD K b H0 tb δ (fun r => r = dint i)) (h0 : 0 ≤ i) (h : ds[i.toNat]? = some d) : EvD K b H0 (tOp (rIx K) ta tb) δ (fun r => r = .dat d) :=
  ev_op ha hb fun x y e f => by
    subst e f
    intro H0 I H v w k r1 r2 Q q
    rcases ht with rfl | rfl
    · exact .inl (ixL_ (P := fun r => r = .dat d) (.inr (.inr rfl)) h0 h rfl H0 I H v w k r1 r2 Q q)
    · exact .inr (.inl (ixT_ (P := fun r => r = .dat d) h0 h rfl H0 I H v w k r1 r2 Q q))
theorem ev_len {x : DV} {ds : List PyData} (ha : EvD K b H0 ta δ (fun r => r = x)) (l : LstR x ds ∨ x = .dat (.tuple ds)) : EvD K b H0 (tCB (fun xs H Q => ∃ p ys, xs = [.ref p] ∧ (SqL K H p ys ∨ SqT K H p ys) ∧ Q (.int ys.length) H) (tCons ta tNil)) δ (fun r => r = dint ds.length) :=
  ev_cb (ea_cons1 ha ea_nil) fun rs e => by
    subst e
    rcases l with l | l
    · exact cb_lenL l
    · subst l
      exact cb_lenT
theorem ev_tupleOf {A : List PyData → Prop} (ha : EvD K b H0 ta δ (fun r => ∃ ds, r = .own ds ∧ A ds)) : EvD K b H0 (tCB (fun xs H Q => ∃ p ys, xs = [.ref p] ∧ ((SqL K H p ys ∧ ∀ l, H l = none → Q (.ref l) (upd H l (.tup ys))) ∨ (SqT K H p ys ∧ Q (.ref p) H))) (tCons ta tNil)) δ (fun r => ∃ ds, r = .dat (.tuple ds) ∧ A ds) :=
  ev_cb (ea_cons (B := fun rs => ∃ ds, rs = [.own ds] ∧ A ds) ha ea_nil fun r rs ⟨ds, e, a⟩ f => ⟨ds, by rw [e, f], a⟩) fun rs ⟨ds, e, a⟩ => by
    subst e
    exact fun H0 I H vs k rs Q q => cb_tupleL (.inl rfl) H0 I H vs k rs Q fun z u I' H' p => q z u I' H' ⟨ds, p, a⟩
theorem ev_tupleOf1 {ds : List PyData} (ha : EvD K b H0 ta δ (fun r => r = .own ds)) : EvD K b H0 (tCB (fun xs H Q => ∃ p ys, xs = [.ref p] ∧ ((SqL K H p ys ∧ ∀ l, H l = none → Q (.ref l) (upd H l (.tup ys))) ∨ (SqT K H p ys ∧ Q (.ref p) H))) (tCons ta tNil)) δ (fun r => r = .dat (.tuple ds)) :=
  ev_cb (ea_cons1 ha ea_nil) fun rs e => by
    subst e
    exact cb_tupleL (.inl rfl)
theorem ev_isi {d : PyData} {n : String} {c : Bool} (ha : EvD K b H0 ta δ (fun r => r = .dat d)) (h : kitB (tyN d) n = some c) : EvD K b H0 (tCB (rIsi K) (tCons ta (tCons (tC (.ty n)) tNil))) δ (fun r => r = dbl c) :=
  ev_cb (ea_cons1 ha (ea_cons1 ev_raw ea_nil)) fun rs e => by
    subst e
    exact cb_isi h
theorem ev_isN {d : PyData} (ha : EvD K b H0 ta δ (fun r => r = .dat d)) : EvD K b H0 (tOp (fun x y H Q => y = .non ∧ Q (.bl (decide (x = .non))) H) ta (tC .non)) δ (fun r => r = dbl (decide (tyN d = "NoneType"))) :=
  ev_op ha ev_non fun x y e f => by
    subst e f
    intro H0 I H v w k r1 r2 Q q
    refine ⟨non_read r2, q _ _ I H rfl k.re ?_⟩
    rw [dp_isN r1]
    exact Dp.bl _
theorem ev_eqD {d e : PyData} (ha : EvD K b H0 ta δ (fun r => r = .dat d)) (hb : EvD K b H0 tb δ (fun r => r = .dat e)) (h1 : SeqAt.shaped d = true) (h2 : SeqAt.shaped e = true) : EvD K b H0 (tOp (rEqD K) ta tb) δ (fun r => r = dbl (PyData.eqv d e)) :=
  ev_op ha hb fun x y e f => by
    subst e f
    exact od_eq h1 h2
/-- != of bools -/
theorem ev_neB {x y : Bool} (ha : EvD K b H0 ta δ (fun r => r = dbl x)) (hb : EvD K b H0 tb δ (fun r => r = dbl y)) : EvD K b H0 (tOp rNe ta tb) δ (fun r => r = dbl (!decide (x = y))) :=
  ev_op ha hb fun _ _ e f => by
    subst e f
    intro H0 I H v w k r1 r2 Q q
    rw [bl_read r1, bl_read r2]
    refine ⟨rfl, q _ _ I H rfl k.re ?_⟩
    have z : decide (V.bl x = V.bl y) = decide (x = y) := by cases x <;> cases y <;> rfl
    rw [z]
    exact Dp.bl _
theorem ev_neI {x y : Int} (ha : EvD K b H0 ta δ (fun r => r = dint x)) (hb : EvD K b H0 tb δ (fun r => r = dint y)) : EvD K b H0 (tOp rNe ta tb) δ (fun r => r = dbl (!decide (x = y))) :=
  ev_op ha hb fun _ _ e f => by
    subst e f
    intro H0 I H v w k r1 r2 Q q
    rw [int_read r1, int_read r2]
    refine ⟨rfl, q _ _ I H rfl k.re ?_⟩
    have z : decide (V.int x = V.int y) = decide (x = y) := by
      by_cases e : x = y
      · subst e; simp
      · rw [decide_eq_false e, decide_eq_false (fun z => e (V.int.inj z))]
    rw [z]
    exact Dp.bl _
theorem ev_eqI {x y : Int} (ha : EvD K b H0 ta δ (fun r => r = dint x)) (hb : EvD K b H0 tb δ (fun r => r = dint y)) : EvD K b H0 (tOp rEq ta tb) δ (fun r => r = dbl (decide (x = y))) :=
  ev_op ha hb fun _ _ e f => by
    subst e f
    intro H0 I H v w k r1 r2 Q q
    rw [int_read r1, int_read r2]
    refine ⟨rfl, q _ _ I H rfl k.re ?_⟩
    have z : decide (V.int x = V.int y) = decide (x = y) := by
      by_cases e : x = y
      · subst e; simp
      · rw [decide_eq_false e, decide_eq_false (fun z => e (V.int.inj z))]
    rw [z]
    exact Dp.bl _
def isSc : PyData → Bool
  | .bool _ => true
  | .int _ => true
  | .str _ => true
  | _ => false
theorem ev_eqS {d : PyData} (hd : isSc d = true) (ha : EvD K b H0 ta δ (fun r => r = .dat d)) (hb : EvD K b H0 tb δ (fun r => r = .dat d)) : EvD K b H0 (tOp rEq ta tb) δ (fun r => r = dbl true) :=
  ev_op ha hb fun _ _ e f => by
    subst e f
    intro H0 I H v w k r1 r2 Q q
    have r1 : Dp K I v d := r1
    have r2 : Dp K I w d := r2
    cases r1 with
    | bl c => cases r2; exact ⟨rfl, q _ _ I H rfl k.re (by rw [decide_eq_true rfl]; exact Dp.bl _)⟩
    | int c => cases r2; exact ⟨rfl, q _ _ I H rfl k.re (by rw [decide_eq_true rfl]; exact Dp.bl _)⟩
    | str c => cases r2; exact ⟨rfl, q _ _ I H rfl k.re (by rw [decide_eq_true rfl]; exact Dp.bl _)⟩
    | non => cases hd
    | lst _ _ => cases hd
    | tup _ _ => cases hd
section
variable {I0 : Hp} {N Bk Ct : Env → Prop} {R : DV → Prop} {t u : TS} {c : TT}
/-- an if that is not taken -/
theorem sv_skip (h : EvT K b H0 c δ (fun x => x = false)) (hu : SvD K b I0 H0 u δ N R Bk Ct) : SvD K b I0 H0 (tSeq (tIfS c t tNext) u) δ N R Bk Ct :=
  sv_seq1 (δ' := δ) (sv_if h (fun e => by cases e) fun _ => sv_nil rfl) hu
/-- an if that is taken, and returns -/
theorem sv_goes (h : EvT K b H0 c δ (fun x => x = true)) (ht : SvD K b I0 H0 t δ (fun _ => False) R Bk Ct) : SvD K b I0 H0 (tSeq (tIfS c t tNext) u) δ N R Bk Ct :=
  sv_seq (N' := fun _ => False) (sv_if h (fun _ => ht) fun e => by cases e) fun _ z => z.elim
end
theorem rangeD_map (n : Nat) : rangeD 0 n = (List.range n).map fun (k : Nat) => PyData.int ((0 : Int) + (k : Int)) := rfl
end
end DL

set_option Elab.async false
set_option linter.all false
set_option maxRecDepth 100000
set_option maxHeartbeats 4000000
namespace DL
open PySem PySem.Spec PyProof.Rows L2 RZ
/-! ### rows of numbers as data -/
theorem canLay_nums (ns : List Int) : PyData.canLayAll0 (ns.map .int) = true := by
  induction ns with
  | nil => rfl
  | cons n ns ih =>
    rw [List.map_cons, PyData.canLayAll0, ih]
    simp [PyData.canLay0]
theorem depth_nums (ns : List Int) : PyData.depthAll (ns.map .int) = 0 := by
  induction ns with
  | nil => simp [PyData.depthAll]
  | cons n ns ih => simp [PyData.depthAll, PyData.depth, ih]
theorem shaped_nums (ns : List Int) : SeqAt.shaped (nums ns) = true := by
  unfold SeqAt.shaped
  simp only [PyData.canLay0, PyData.depth, canLay_nums, depth_nums]
  rfl
theorem eqv_nums : ∀ xs ys : List Int, PyData.eqv (nums xs) (nums ys) = decide (xs = ys) := by
  have go : ∀ xs ys : List Int, PyData.eqvAll (xs.map .int) (ys.map .int) = decide (xs = ys) := by
    intro xs
    induction xs with
    | nil =>
      intro ys
      cases ys with
      | nil => simp [PyData.eqvAll]
      | cons y ys => simp [PyData.eqvAll]
    | cons x xs ih =>
      intro ys
      cases ys with
      | nil => simp [PyData.eqvAll]
      | cons y ys =>
        rw [List.map_cons, List.map_cons, PyData.eqvAll, ih, PyData.eqv]
        by_cases h : x = y
        · subst h; simp
        · simp [h]
  intro xs ys
  rw [PyData.eqv, go]
/-- data of at most so many lists or tuples, one in another -/
def Flat : Nat → PyData → Prop
  | 0, _ => False
  | n + 1, d => match d with
    | .none => True
    | .bool _ => True
    | .int _ => True
    | .str _ => True
    | .list ds => ds.length ≤ 100000 ∧ ∀ x ∈ ds, Flat n x
    | .tuple ds => ds.length ≤ 100000 ∧ ∀ x ∈ ds, Flat n x
    | .dict _ => False
theorem flat_nums {n : Nat} {ns : List Int} (h : ns.length ≤ 100000) : Flat (n + 2) (nums ns) := ⟨by rw [List.length_map]; exact h, fun x hx => by
  obtain ⟨i, _, rfl⟩ := List.mem_map.mp hx
  exact True.intro⟩
theorem flat_int {n : Nat} {i : Int} : Flat (n + 1) (.int i) := True.intro
theorem flat_bool {n : Nat} {i : Bool} : Flat (n + 1) (.bool i) := True.intro
theorem flat_str {n : Nat} {i : Str} : Flat (n + 1) (.str i) := True.intro
theorem flat_none {n : Nat} : Flat (n + 1) .none := True.intro
theorem flat_l {n : Nat} {ds : List PyData} (hl : ds.length ≤ 100000) (h : ∀ x ∈ ds, Flat n x) : Flat (n + 1) (.list ds) := ⟨hl, h⟩
theorem flat_t {n : Nat} {ds : List PyData} (hl : ds.length ≤ 100000) (h : ∀ x ∈ ds, Flat n x) : Flat (n + 1) (.tuple ds) := ⟨hl, h⟩
theorem all_nil {p : PyData → Prop} : ∀ x ∈ ([] : List PyData), p x := fun _ h => by cases h
theorem all_cons {p : PyData → Prop} {d : PyData} {ds : List PyData} (h : p d) (t : ∀ x ∈ ds, p x) : ∀ x ∈ d :: ds, p x := fun x hx => by
  rcases List.mem_cons.mp hx with e | e
  · rw [e]; exact h
  · exact t x e
/-! ### lists of a def's own, changed -/
def noBor (δ : Env) : Bool := δ.all fun x => match x with
  | some (.bor _) => false
  | _ => true
theorem noBor_at {δ : Env} (h : noBor δ = true) : ∀ (j : Nat) es, δ[j]? ≠ some (some (.bor es)) := fun j es e => by
  have hm := List.mem_of_getElem? e
  have := List.all_eq_true.mp h _ hm
  cases this
section
variable {K : PySem.W.Frag} {b : Addr} {I0 H0 : Hp} {δ : Env} {N Bk Ct : Env → Prop} {R : DV → Prop} {te ti : TE} {t u : TS} {P : DV → Prop}
/-- the list of slot i is changed -/
theorem EnvR.own {I H : Hp} {σ : L2.St} {i : Nat} {a : Addr} {ds es : List PyData} {ys : List V} (n : EnvR K b H0 I H σ δ) (hbor : noBor δ = true) (hi : δ[i]? = some (some (.own ds))) (hs : σ[i]? = some (some (.ref a))) (h0 : H0 a = none) (hn : I a = none) (hb : a ≠ b) (hd : DpAll K I ys es) :
    EnvR K b H0 I (upd H a (.lst ys)) σ (δ.set i (some (.own es))) := by
  have hlt : i < δ.length := (List.getElem?_eq_some_iff.mp hi).1
  refine ⟨by rw [List.length_set]; exact n.len, fun j r hj => ?_, fun j k c ds' es' h1 h2 h3 h4 => ?_⟩
  · by_cases z : i = j
    · subst z
      rw [List.getElem?_set_self hlt] at hj
      cases hj
      exact ⟨_, hs, a, ys, rfl, h0, hn, hb, upd_same, hd⟩
    · rw [List.getElem?_set_ne z] at hj
      obtain ⟨w, g1, g2⟩ := n.at_ j r hj
      refine ⟨w, g1, ?_⟩
      cases r with
      | dat d => exact g2
      | raw u => exact g2
      | bag => exact g2
      | own es' =>
        obtain ⟨c, zs, rfl, q0, qn, qb, qa, qd⟩ := g2
        have nc : c ≠ a := fun zz => by
          subst zz
          exact z (n.nd i j c ds es' hi hs hj g1)
        exact ⟨c, zs, rfl, q0, qn, qb, by rw [upd_ne nc]; exact qa, qd⟩
      | bor es' => exact absurd hj (noBor_at hbor j es')
  · have fix : ∀ (m : Nat) xs, (δ.set i (some (.own es)))[m]? = some (some (.own xs)) → ∃ xs', δ[m]? = some (some (.own xs')) := fun m xs e => by
      by_cases z : i = m
      · subst z
        exact ⟨ds, hi⟩
      · rw [List.getElem?_set_ne z] at e
        exact ⟨xs, e⟩
    obtain ⟨x1, e1⟩ := fix j ds' h1
    obtain ⟨x2, e2⟩ := fix k es' h3
    exact n.nd j k c x1 x2 e1 h2 e2 h4
theorem sv_append {i : Nat} {ds : List PyData} {A : PyData → Prop} (hi : δ[i]? = some (some (.own ds))) (hbor : noBor δ = true) (hl : ds.length < 100000) (he : EvD K b H0 te δ (fun r => ∃ d, r = .dat d ∧ A d)) (hN : ∀ d, A d → N (δ.set i (some (.own (ds ++ [d]))))) :
    SvD K b I0 H0 (tDrop (tBM K "list" rAppend (tVar i) (tCons te tNil))) δ N R Bk Ct := fun σ I H e n D a1 _ _ _ => by
  obtain ⟨v, e1, e2⟩ := n.at_ i _ hi
  obtain ⟨a, xs, rfl, h0, hn, hb, ha, hd⟩ := e2
  refine ⟨.ref a, e1, .inl ⟨rfl, _, .inl (.inl ha)⟩, he σ I H e.ok n _ fun r v I' H' p x rs => ?_⟩
  obtain ⟨d, rfl, p⟩ := p
  have hn' : I' a = none := x.n a hn (by rw [ha]; exact fun z => by cases z)
  have ha' : H' a = some (.lst xs) := x.h a _ hb ha
  refine ⟨a, xs, v, rfl, rfl, ha', Nat.lt_of_lt_of_le (by rw [dpa_len hd]; exact hl) (by decide : 100000 ≤ sizeLine), ?_⟩
  exact a1 _ σ I' _ (hN d p) ((e.trans x).mut h0 hn' hb) x.i ((n.ext x).own hbor hi e1 h0 hn' hb (dpa_app (dpa_mono x.i hd) (.cons rs .nil)))
/-- xs[k] = e -/
theorem sv_setitem {i : Nat} {ds : List PyData} {k : Int} {A : PyData → Prop} (hi : δ[i]? = some (some (.own ds))) (hbor : noBor δ = true) (hk0 : 0 ≤ k) (hk : k < ds.length) (he : EvD K b H0 te δ (fun r => ∃ d, r = .dat d ∧ A d)) (hti : EvD K b H0 ti δ (fun r => r = dint k))
    (hN : ∀ d, A d → N (δ.set i (some (.own (ds.set k.toNat d))))) : SvD K b I0 H0 (tAsg te (gSub (tVar i) ti rSetL)) δ N R Bk Ct := fun σ I H e n D a1 _ _ _ =>
  he σ I H e.ok n _ fun r v I1 H1 p x rs => by
    obtain ⟨d, rfl, p⟩ := p
    obtain ⟨w, e1, e2⟩ := (n.ext x).at_ i _ hi
    obtain ⟨a, xs, rfl, h0, hn, hb, ha, hd⟩ := e2
    refine ⟨.ref a, e1, hti σ I1 H1 x.ok (n.ext x) _ fun r2 v2 I2 H2 p2 x2 rs2 => ?_⟩
    subst p2
    rw [int_read rs2]
    have hn' : I2 a = none := x2.n a hn (by rw [ha]; exact fun z => by cases z)
    have ha' : H2 a = some (.lst xs) := x2.h a _ hb ha
    have hl : xs.length = ds.length := dpa_len hd
    refine ⟨a, xs, k, k.toNat, rfl, rfl, ha', ?_, ?_⟩
    · unfold ixN
      rw [if_pos hk0, if_pos (by omega)]
    · exact a1 _ σ I2 _ (hN d p) ((e.trans (x.trans x2)).mut h0 hn' hb) (x.i.trans x2.i) (((n.ext x).ext x2).own hbor hi e1 h0 hn' hb (dpa_set (dp_mono x2.i rs) _ (dpa_mono x2.i hd)))
/-- the law's own turns: of all slots only the bag is known -/
theorem sv_bag {n : Nat} (hl : δ.length = n + 2) (hb : δ[1]? = some (some .bag)) (h : SvD K b I0 H0 t (none :: some .bag :: List.replicate n none) N R Bk Ct) : SvD K b I0 H0 t δ N R Bk Ct :=
  sv_less (by rw [hl]; simp) (fun i r e => by
    match i with
    | 0 => cases e
    | 1 => cases e; exact hb
    | i + 2 =>
      have e : (List.replicate n (none : Option DV))[i]? = some (some r) := e
      rw [List.getElem?_replicate] at e
      split at e <;> cases e) h
theorem itd_rng0 {ta : TA} {n : Nat} (h : EvA K b H0 ta δ (fun rs => rs = [dint n])) (hn : n ≤ 100000) : ItD K b H0 (iRng1 ta) δ (fun x => x = rangeD 0 n) := itd_rngN h hn
end
/-- what is left of a law, run from its bag on -/
theorem law_run {K : PySem.W.Frag} {b : Addr} {I H : Hp} {σ : L2.St} {δ : Env} {t : TS} {D : Ends} (k : Ok K b I H) (n : EnvR K b H I H σ δ) (h : SvD K b I H t δ (fun _ => False) (fun r => r = dbl true) (fun _ => False) (fun _ => False)) (hq : ∀ H', D.rt (.bl true) H') : t D σ H :=
  h σ I H k.re n D (fun _ _ _ _ z => z.elim) (fun r v I' H' e _ rs => by
    subst e
    rw [bl_read rs]
    exact hq H') (fun _ _ _ _ z => z.elim) fun _ _ _ _ z => z.elim
theorem cut_ints (ns : List Int) (lo hi : Option Int) : ∃ ms : List Int, cutV (ns.map V.int) lo hi = ms.map V.int := by
  unfold cutV
  rw [← List.map_drop, ← List.map_take]
  exact ⟨_, rfl⟩
end DL

set_option Elab.async false
set_option linter.all false
set_option maxRecDepth 100000
set_option maxHeartbeats 4000000
namespace DL
open PySem PySem.Spec PyProof.Rows L2 RZ
/-! ### draws -/
abbrev aTake (n : Int) : List DV := [.bag, dint n]
abbrev okTake (n : Int) : Prop := 0 < n ∧ n < 10000000000000000000000000000000000000000
abbrev outTake (n : Int) (r : DV) : Prop := ∃ i, r = dint i ∧ 0 ≤ i ∧ i < n
abbrev aPick (ds : List PyData) : List DV := [.bag, .dat (.list ds)]
abbrev okPick (ds : List PyData) : Prop := 0 < ds.length ∧ ds.length ≤ 1000
abbrev outPick (ds : List PyData) (r : DV) : Prop := ∃ d, d ∈ ds ∧ r = .dat d
theorem noOwn_bag {r : DV} (h : ∀ ds, r ≠ .own ds) : NoOwn [.bag, r] := noOwn_cons (fun _ z => by cases z) (noOwn_cons h noOwn_nil)
section
variable {K : PySem.W.Frag} {b : Addr} {H0 : Hp} {δ : Env} {ta te tb tn : TE} {P : DV → Prop} {E : XK} {i : Nat} {n : Int}
theorem ev_take (hb : δ[i]? = some (some .bag)) (hn : EvD K b H0 tn δ (fun r => r = dint n)) (h : okTake n) : EvI K b H0 (tCall (spD K aTake okTake outTake noX) [] E (tCons (tVar i) (tCons tn tNil))) δ (fun k => 0 ≤ k ∧ k < n) :=
  ev_call1 n (ea_cons1 (ev_var hb) (ea_cons1 hn ea_nil)) h (fun r e => e) (noOwn_bag fun _ z => by cases z)
theorem ev_pick {A : List PyData → Prop} {B : PyData → Prop} (hb : δ[i]? = some (some .bag)) (hn : EvD K b H0 tn δ (fun r => ∃ ds, r = .dat (.list ds) ∧ A ds)) (h : ∀ ds, A ds → okPick ds ∧ ∀ d ∈ ds, B d) :
    EvD K b H0 (tCall (spD K aPick okPick outPick noX) [] E (tCons (tVar i) (tCons tn tNil))) δ (fun r => ∃ d, r = .dat d ∧ B d) :=
  ev_call (A := fun rs => ∃ ds, rs = [.bag, .dat (.list ds)] ∧ A ds) (ea_cons (ev_var hb) (ea_cons hn ea_nil (B := fun rs => ∃ ds, rs = [.dat (.list ds)] ∧ A ds) fun r rs ⟨ds, e, a⟩ f => ⟨ds, by rw [e, f], a⟩) fun r rs e ⟨ds, f, a⟩ => ⟨ds, by rw [e, f], a⟩) fun rs ⟨ds, e, a⟩ =>
    ⟨ds, e, (h ds a).1, e ▸ noOwn_bag (fun _ z => by cases z), fun r ⟨d, hd, f⟩ => ⟨d, f, (h ds a).2 d hd⟩, fun _ _ z => z⟩
/-! ### lists of ints, some drawn -/
theorem ea_nilI : EvA K b H0 tNil δ (fun rs => ∃ ns : List Int, rs = ns.map (fun i => dint i) ∧ ns = []) := ea_nil.mono fun _ e => ⟨[], e, rfl⟩
theorem ea_consI {tr : TA} {C : Int → Prop} {D : List Int → Prop} (ha : EvI K b H0 ta δ C) (hr : EvA K b H0 tr δ (fun rs => ∃ ns : List Int, rs = ns.map (fun i => dint i) ∧ D ns)) :
    EvA K b H0 (tCons ta tr) δ (fun rs => ∃ ns : List Int, rs = ns.map (fun i => dint i) ∧ ∃ i ms, ns = i :: ms ∧ C i ∧ D ms) :=
  ea_cons ha hr fun r rs ⟨i, e, c⟩ ⟨ms, f, d⟩ => ⟨i :: ms, by rw [e, f]; rfl, i, ms, rfl, c, d⟩
theorem ev_lstI {t : TA} {D : List Int → Prop} (h : EvA K b H0 t δ (fun rs => ∃ ns : List Int, rs = ns.map (fun i => dint i) ∧ D ns)) (hl : ∀ ns, D ns → ns.length ≤ 100000) : EvD K b H0 (tLst t) δ (fun r => ∃ ns : List Int, r = .own (ns.map .int) ∧ D ns) :=
  (ev_lst (A := fun ds => ∃ ns : List Int, ds = ns.map .int ∧ D ns) (h.mono fun rs ⟨ns, e, d⟩ => ⟨ns.map .int, by rw [e, List.map_map]; rfl, by rw [List.length_map]; exact hl ns d, ns, rfl, d⟩)).mono fun r ⟨ds, e, ns, f, d⟩ => ⟨ns, by rw [e, f], d⟩
theorem ev_tupI {t : TA} {D : List Int → Prop} (h : EvA K b H0 t δ (fun rs => ∃ ns : List Int, rs = ns.map (fun i => dint i) ∧ D ns)) (hl : ∀ ns, D ns → ns.length ≤ 100000) : EvD K b H0 (tTup t) δ (fun r => ∃ ns : List Int, r = .dat (nums ns) ∧ D ns) :=
  (ev_tup (A := fun ds => ∃ ns : List Int, ds = ns.map .int ∧ D ns) (h.mono fun rs ⟨ns, e, d⟩ => ⟨ns.map .int, by rw [e, List.map_map]; rfl, by rw [List.length_map]; exact hl ns d, ns, rfl, d⟩)).mono fun r ⟨ds, e, ns, f, d⟩ => ⟨ns, by rw [e, f], d⟩
/-- one of some ints, drawn -/
theorem ev_pickI {t : TA} {D : List Int → Prop} (hb : δ[i]? = some (some .bag)) (h : EvA K b H0 t δ (fun rs => ∃ ns : List Int, rs = ns.map (fun i => dint i) ∧ D ns)) (hl : ∀ ns, D ns → 0 < ns.length ∧ ns.length ≤ 1000) :
    EvI K b H0 (tCall (spD K aPick okPick outPick noX) [] E (tCons (tVar i) (tCons (tLst t) tNil))) δ (fun k => ∃ ns, D ns ∧ k ∈ ns) :=
  (ev_pick (A := fun ds => ∃ ns : List Int, ds = ns.map .int ∧ D ns) (B := fun d => ∃ k : Int, d = .int k ∧ ∃ ns, D ns ∧ k ∈ ns) hb
    (ev_frz ((ev_lstI h fun ns d => by have := (hl ns d).2; omega).mono fun r ⟨ns, e, d⟩ => ⟨_, e, ns, rfl, d⟩)) fun ds ⟨ns, e, d⟩ => by
      subst e
      refine ⟨⟨by rw [List.length_map]; exact (hl ns d).1, by rw [List.length_map]; exact (hl ns d).2⟩, fun x hx => ?_⟩
      obtain ⟨k, hk, rfl⟩ := List.mem_map.mp hx
      exact ⟨k, rfl, ns, d, hk⟩).mono fun r ⟨d, e, k, f, p⟩ => ⟨k, by rw [e, f], p⟩
theorem paired_ints {β : Type} {C : β → Int → Prop} : ∀ {l : List β} {ys : List PyData}, Paired (fun x y => ∃ k : Int, y = .int k ∧ C x k) l ys → ∃ ns : List Int, ys = ns.map .int ∧ Paired C l ns
  | _, _, .nil => ⟨[], rfl, .nil⟩
  | _, _, .cons ⟨k, e, c⟩ t => by
    obtain ⟨ns, f, p⟩ := paired_ints t
    exact ⟨k :: ns, by rw [e, f]; rfl, .cons c p⟩
/-- a comprehension of ints -/
theorem ev_lcI {β : Type} {wi : TI} {g : TG} {te : TE} {vs is : List Nat} {A : List β → Prop} {gI : β → PyData} {δf : β → Env} {C : β → Int → Prop} (it : ItD K b H0 wi δ (fun x => ∃ l, x = l.map gI ∧ A l)) (hv : ∀ v ∈ vs, δ[v]? = some none) (his : ∀ v ∈ is, v ∈ vs)
    (hl : ∀ l, A l → l.length ≤ 100000) (tg : ∀ x, TgD K b g is (gI x) δ (δf x)) (body : ∀ l, A l → ∀ x ∈ l, EvI K b H0 te (δf x) (C x)) :
    EvD K b H0 (tLc wi g tYes te vs) δ (fun r => ∃ ds, r = .own ds ∧ ∃ ns : List Int, ds = ns.map .int ∧ ∃ l, A l ∧ Paired C l ns) :=
  (ev_lcR (Pe := fun x y => ∃ k : Int, y = .int k ∧ C x k) it hv his hl tg fun l a x hx => EvD.mono (body l a x hx) fun r ⟨k, e, c⟩ => ⟨.int k, e, k, rfl, c⟩).mono fun r ⟨ys, e, l, a, hp⟩ => by
    obtain ⟨ns, f, p⟩ := paired_ints hp
    exact ⟨ys, e, ns, f, l, a, p⟩
/-- tuple([.. for ..]) of ints -/
theorem ev_tlcI {β : Type} {wi : TI} {g : TG} {te : TE} {vs is : List Nat} {A : List β → Prop} {gI : β → PyData} {δf : β → Env} {C : β → Int → Prop} (it : ItD K b H0 wi δ (fun x => ∃ l, x = l.map gI ∧ A l)) (hv : ∀ v ∈ vs, δ[v]? = some none) (his : ∀ v ∈ is, v ∈ vs)
    (hl : ∀ l, A l → l.length ≤ 100000) (tg : ∀ x, TgD K b g is (gI x) δ (δf x)) (body : ∀ l, A l → ∀ x ∈ l, EvI K b H0 te (δf x) (C x)) :
    EvD K b H0 (tCB (fun xs H Q => ∃ p ys, xs = [.ref p] ∧ ((SqL K H p ys ∧ ∀ l, H l = none → Q (.ref l) (upd H l (.tup ys))) ∨ (SqT K H p ys ∧ Q (.ref p) H))) (tCons (tLc wi g tYes te vs) tNil)) δ (fun r => ∃ ns : List Int, r = .dat (nums ns) ∧ ∃ l, A l ∧ Paired C l ns) :=
  (ev_tupleOf (ev_lcI it hv his hl tg body)).mono fun r ⟨ds, e, ns, f, p⟩ => ⟨ns, by rw [e, f], p⟩
end
section
variable {K : PySem.W.Frag} {b : Addr} {H0 : Hp} {δ : Env} {te : TE} {C : Int → Prop}
/-- range(e), e drawn; the turns' numbers -/
theorem itd_rngC (h : EvI K b H0 te δ C) (hn : ∀ n, C n → 0 ≤ n ∧ n ≤ 100000) : ItD K b H0 (iRng1 (tCons te tNil)) δ (fun x => ∃ l : List Nat, x = l.map (fun (k : Nat) => PyData.int ((0 : Int) + (k : Int))) ∧ ∃ n : Nat, l = List.range n ∧ C n) :=
  (itd_rngR (C := C) (ea_cons h ea_nil fun r rs ⟨n, e, c⟩ f => ⟨n, by rw [e, f], c⟩) hn).mono fun x ⟨n, e, c⟩ => ⟨List.range n, by rw [e, rangeD_map], n, rfl, c⟩
/-- the ints of a tuple -/
theorem itd_nums {D : List Int → Prop} (h : EvD K b H0 te δ (fun r => ∃ ns : List Int, r = .dat (nums ns) ∧ D ns)) : ItD K b H0 (iTup K te) δ (fun x => ∃ l : List Int, x = l.map PyData.int ∧ D l) :=
  itd_tup (A := fun ds => ∃ ns : List Int, ds = ns.map .int ∧ D ns) (h.mono fun r ⟨ns, e, d⟩ => ⟨_, e, ns, rfl, d⟩)
theorem itd_nums1 {ns : List Int} (h : EvD K b H0 te δ (fun r => r = .dat (nums ns))) : ItD K b H0 (iTup K te) δ (fun x => ∃ l : List Int, x = l.map PyData.int ∧ l = ns) :=
  itd_nums (h.mono fun r e => ⟨ns, e, rfl⟩)
end
end DL

set_option Elab.async false
set_option linter.all false
set_option maxRecDepth 100000
set_option maxHeartbeats 4000000
namespace Lw
open PySem PySem.Spec PyProof.Rows L2 DL
def topS (i : Nat) : Stmt := PySem.Challenge.pw_hidelater_k04_rows_of_numbers_beside_one.main.body.getD i (.Pass ⟨0, 0, 0, 0⟩)
abbrev s_lesser : Stmt := topS 1
abbrev N_lesser : List Str := ["one", "other", "a", "b"]
theorem sc_lesser : FnScope N_lesser ["one", "other"] (defScope s_lesser) := ⟨rfl, rfl, rfl, by decide +kernel, rfl, by decide +kernel, by decide +kernel⟩
abbrev s_greater : Stmt := topS 2
abbrev N_greater : List Str := ["one", "other", "a", "b"]
theorem sc_greater : FnScope N_greater ["one", "other"] (defScope s_greater) := ⟨rfl, rfl, rfl, by decide +kernel, rfl, by decide +kernel, by decide +kernel⟩
abbrev s_within : Stmt := topS 3
abbrev N_within : List Str := ["one", "other", "a", "b"]
theorem sc_within : FnScope N_within ["one", "other"] (defScope s_within) := ⟨rfl, rfl, rfl, by decide +kernel, rfl, by decide +kernel, by decide +kernel⟩
abbrev s_apart : Stmt := topS 4
abbrev N_apart : List Str := ["one", "other", "a", "b"]
theorem sc_apart : FnScope N_apart ["one", "other"] (defScope s_apart) := ⟨rfl, rfl, rfl, by decide +kernel, rfl, by decide +kernel, by decide +kernel⟩
abbrev s_law_open : Stmt := topS 6
abbrev N_law_open : List Str := ["_law_script"]
theorem sc_law_open : FnScope N_law_open ["_law_script"] (defScope s_law_open) := ⟨rfl, rfl, rfl, by decide +kernel, rfl, by decide +kernel, by decide +kernel⟩
abbrev s_law_take : Stmt := topS 7
abbrev N_law_take : List Str := ["_law_bag", "_law_sides", "_law_cell", "_law_side", "_law_mix"]
theorem sc_law_take : FnScope N_law_take ["_law_bag", "_law_sides"] (defScope s_law_take) := ⟨rfl, rfl, rfl, by decide +kernel, rfl, by decide +kernel, by decide +kernel⟩
abbrev s_law_pick : Stmt := topS 8
abbrev N_law_pick : List Str := ["_law_bag", "_law_row"]
theorem sc_law_pick : FnScope N_law_pick ["_law_bag", "_law_row"] (defScope s_law_pick) := ⟨rfl, rfl, rfl, by decide +kernel, rfl, by decide +kernel, by decide +kernel⟩
abbrev s_law_same : Stmt := topS 9
abbrev N_law_same : List Str := ["_law_found", "_law_due", "_law_at"]
theorem sc_law_same : FnScope N_law_same ["_law_found", "_law_due"] (defScope s_law_same) := ⟨rfl, rfl, rfl, by decide +kernel, rfl, by decide +kernel, by decide +kernel⟩
abbrev s_law_lesser : Stmt := topS 10
abbrev N_law_lesser : List Str := ["_law_mone", "_law_mother", "_law_at"]
theorem sc_law_lesser : FnScope N_law_lesser ["_law_mone", "_law_mother"] (defScope s_law_lesser) := ⟨rfl, rfl, rfl, by decide +kernel, rfl, by decide +kernel, by decide +kernel⟩
abbrev s_law_greater : Stmt := topS 11
abbrev N_law_greater : List Str := ["_law_mone", "_law_mother", "_law_at"]
theorem sc_law_greater : FnScope N_law_greater ["_law_mone", "_law_mother"] (defScope s_law_greater) := ⟨rfl, rfl, rfl, by decide +kernel, rfl, by decide +kernel, by decide +kernel⟩
abbrev s_law_apart : Stmt := topS 12
abbrev N_law_apart : List Str := ["_law_mone", "_law_mother", "_law_at"]
theorem sc_law_apart : FnScope N_law_apart ["_law_mone", "_law_mother"] (defScope s_law_apart) := ⟨rfl, rfl, rfl, by decide +kernel, rfl, by decide +kernel, by decide +kernel⟩
abbrev s_law : Stmt := topS 13
abbrev N_law : List Str := ["_law_script", "_law_bag", "_law_turn", "_law_mone", "_law_mother", "_law_low", "_law_high", "_law_due", "_law_found", "_law_k", "_law_number"]
theorem sc_law : FnScope N_law ["_law_script"] (defScope s_law) := ⟨rfl, rfl, rfl, by decide +kernel, rfl, by decide +kernel, by decide +kernel⟩
structure Top (K : PySem.W.Frag) (mg : Str → Option Value) : Type where
  a_lesser : Addr
  fd_lesser : FuncData
  F_lesser : Fun K "lesser" "lesser" s_lesser a_lesser fd_lesser
  g_lesser : mg "lesser" = some (.ref a_lesser)
  b_lesser : Binds K fd_lesser ["one", "other"] []
  a_greater : Addr
  fd_greater : FuncData
  F_greater : Fun K "greater" "greater" s_greater a_greater fd_greater
  g_greater : mg "greater" = some (.ref a_greater)
  b_greater : Binds K fd_greater ["one", "other"] []
  a_within : Addr
  fd_within : FuncData
  F_within : Fun K "within" "within" s_within a_within fd_within
  g_within : mg "within" = some (.ref a_within)
  b_within : Binds K fd_within ["one", "other"] []
  a_apart : Addr
  fd_apart : FuncData
  F_apart : Fun K "apart" "apart" s_apart a_apart fd_apart
  g_apart : mg "apart" = some (.ref a_apart)
  b_apart : Binds K fd_apart ["one", "other"] []
  a_law_open : Addr
  fd_law_open : FuncData
  F_law_open : Fun K "_law_open" "_law_open" s_law_open a_law_open fd_law_open
  g_law_open : mg "_law_open" = some (.ref a_law_open)
  b_law_open : Binds K fd_law_open ["_law_script"] []
  a_law_take : Addr
  fd_law_take : FuncData
  F_law_take : Fun K "_law_take" "_law_take" s_law_take a_law_take fd_law_take
  g_law_take : mg "_law_take" = some (.ref a_law_take)
  b_law_take : Binds K fd_law_take ["_law_bag", "_law_sides"] []
  a_law_pick : Addr
  fd_law_pick : FuncData
  F_law_pick : Fun K "_law_pick" "_law_pick" s_law_pick a_law_pick fd_law_pick
  g_law_pick : mg "_law_pick" = some (.ref a_law_pick)
  b_law_pick : Binds K fd_law_pick ["_law_bag", "_law_row"] []
  a_law_same : Addr
  fd_law_same : FuncData
  F_law_same : Fun K "_law_same" "_law_same" s_law_same a_law_same fd_law_same
  g_law_same : mg "_law_same" = some (.ref a_law_same)
  b_law_same : Binds K fd_law_same ["_law_found", "_law_due"] []
  a_law_lesser : Addr
  fd_law_lesser : FuncData
  F_law_lesser : Fun K "_law_lesser" "_law_lesser" s_law_lesser a_law_lesser fd_law_lesser
  g_law_lesser : mg "_law_lesser" = some (.ref a_law_lesser)
  b_law_lesser : Binds K fd_law_lesser ["_law_mone", "_law_mother"] []
  a_law_greater : Addr
  fd_law_greater : FuncData
  F_law_greater : Fun K "_law_greater" "_law_greater" s_law_greater a_law_greater fd_law_greater
  g_law_greater : mg "_law_greater" = some (.ref a_law_greater)
  b_law_greater : Binds K fd_law_greater ["_law_mone", "_law_mother"] []
  a_law_apart : Addr
  fd_law_apart : FuncData
  F_law_apart : Fun K "_law_apart" "_law_apart" s_law_apart a_law_apart fd_law_apart
  g_law_apart : mg "_law_apart" = some (.ref a_law_apart)
  b_law_apart : Binds K fd_law_apart ["_law_mone", "_law_mother"] []
  a_law : Addr
  fd_law : FuncData
  F_law : Fun K "law" "law" s_law a_law fd_law
  g_law : mg "law" = some (.ref a_law)
  b_law : Binds K fd_law ["_law_script"] []
  m_tuple : mg "tuple" = none
  m_min : mg "min" = none
  m_zip : mg "zip" = none
  m_max : mg "max" = none
  m_all : mg "all" = none
  m_sum : mg "sum" = none
  m_abs : mg "abs" = none
  m_list : mg "list" = none
  m_len : mg "len" = none
  m_isinstance : mg "isinstance" = none
  m_bool : mg "bool" = none
  m_int : mg "int" = none
  m_str : mg "str" = none
  m_range : mg "range" = none
section
variable {P : Program} {w : World} {K : PySem.W.Frag} {mg : Str → Option Value} {base : Heap}
/-! ### the program's own -/
abbrev aTwo (p : List Int × List Int) : List DV := [.dat (nums p.1), .dat (nums p.2)]
abbrev okTwo (p : List Int × List Int) : Prop := p.1.length = p.2.length ∧ p.1.length ≤ 1000
theorem zip_nums (xs ys : List Int) : zipD (xs.map .int) (ys.map .int) = (xs.zip ys).map (fun p => PyData.tuple [.int p.1, .int p.2]) := by
  unfold zipD
  induction xs generalizing ys with
  | nil => rfl
  | cons x xs ih =>
    cases ys with
    | nil => rfl
    | cons y ys => exact congrArg _ (ih ys)
def zmap (f : Int → Int → Int) (xs ys : List Int) : List Int := (xs.zip ys).map fun p => f p.1 p.2
theorem nums_get {xs : List Int} {k : Nat} (h : k < xs.length) : (xs.map PyData.int)[((0 : Int) + (k : Int)).toNat]? = some (.int (xs.getD k 0)) := by
  rw [show ((0 : Int) + (k : Int)).toNat = k by omega, List.getElem?_map, List.getElem?_eq_getElem h, List.getD_eq_getElem?_getD, List.getElem?_eq_getElem h]
  rfl
theorem range_zmap0 (f : Int → Int → Int) (xs ys : List Int) (h : xs.length = ys.length) : (List.range xs.length).map (fun k => PyData.int (f (xs.getD k 0) (ys.getD k 0))) = (zmap f xs ys).map .int := by
  refine List.ext_getElem? fun k => ?_
  unfold zmap
  rw [List.getElem?_map, List.map_map, List.getElem?_map]
  by_cases hk : k < xs.length
  · have hk2 : k < ys.length := by omega
    rw [List.getElem?_eq_getElem (show k < (List.range xs.length).length by rw [List.length_range]; exact hk), List.getElem_range, List.getElem?_eq_getElem (show k < (xs.zip ys).length by rw [List.length_zip]; omega), List.getElem_zip]
    simp [List.getD_eq_getElem?_getD, List.getElem?_eq_getElem hk, List.getElem?_eq_getElem hk2]
  · rw [List.getElem?_eq_none (by rw [List.length_range]; omega), List.getElem?_eq_none (by rw [List.length_zip]; omega)]
    rfl
theorem range_zmap (f : Int → Int → Int) (xs ys : List Int) (h : xs.length = ys.length) : DV.dat (.tuple ((List.range xs.length).map (fun k => PyData.int (f (xs.getD k 0) (ys.getD k 0))))) = .dat (nums (zmap f xs ys)) := by
  rw [range_zmap0 f xs ys h]
theorem ok_lesser (T : Top K mg) : FnOk P w K mg base CX0 1 T.a_lesser T.fd_lesser ["one", "other"] (spD K aTwo okTwo (fun p r => r = .dat (nums (zmap (fun i j => if j < i then j else i) p.1 p.2))) noX) := by
  refine fn_ok T.F_lesser sc_lesser (fun a _ => rfl) fun cdv A outer s H E hr => ⟨_, (pss_one (ps_ret (pe_callTy (k_tuple K) (by rfl) T.m_tuple (by decide +kernel) (pa_cons (pe_lc (own := [("a", 2), ("b", 3)]) (g := gTup K 2 (gCons (gName 2) (gCons (gName 3) gNil))) (tt := tYes) rfl sc_lesser.nd (RZ.pi_zipA (by rfl) T.m_zip (pa_cons (pv 0) (pa_cons (pv 1) pa_nil))) (blkOk_by (own := [("a", 2), ("b", 3)]) (N := N_lesser) (sc := defScope s_lesser) (by decide +kernel)) (fun _ _ _ _ _ => (pg_tup rfl (pgs_cons (pg_name (i := 2) sc_lesser.nd rfl (by first | exact Or.inl rfl | exact Or.inr rfl)) (pgs_cons (pg_name (i := 3) sc_lesser.nd rfl (by first | exact Or.inl rfl | exact Or.inr rfl)) pgs_nil)))) (fun _ _ _ _ _ => pts_nil) (fun _ _ _ _ _ => (pe_callB (call_min2 rfl) (by rfl) T.m_min (by decide +kernel) (pa_cons (pv 2) (pa_cons (pv 3) pa_nil))))) pa_nil)))), fun b I p hp => ?_⟩
  refine sv_ret (ev_tupleOf1 (ev_lcM (l := p.1.zip p.2) (f := fun q => .int ((fun i j => if j < i then j else i) q.1 q.2)) ((itd_zip1 (ea_cons1 (ev_var rfl) (ea_cons1 (ev_var rfl) ea_nil))).mono fun x e => e.trans (zip_nums _ _)) (hv2 rfl rfl) (by decide) ?_ (fun x => tg_pair (ltr rfl) (ltr rfl)) fun x hx => ev_cb (ea_cons1 (ev_var rfl) (ea_cons1 (ev_var rfl) ea_nil)) fun rs e => ?_)) fun r e => ?_
  · rw [List.length_zip]
    have := hp.2
    omega
  · subst e
    exact cb_min
  · rw [e]
    simp only [zmap, nums, List.map_map]
    rfl
theorem ok_greater (T : Top K mg) : FnOk P w K mg base CX0 1 T.a_greater T.fd_greater ["one", "other"] (spD K aTwo okTwo (fun p r => r = .dat (nums (zmap (fun i j => if j > i then j else i) p.1 p.2))) noX) := by
  refine fn_ok T.F_greater sc_greater (fun a _ => rfl) fun cdv A outer s H E hr => ⟨_, (pss_one (ps_ret (pe_callTy (k_tuple K) (by rfl) T.m_tuple (by decide +kernel) (pa_cons (pe_lc (own := [("a", 2), ("b", 3)]) (g := gTup K 2 (gCons (gName 2) (gCons (gName 3) gNil))) (tt := tYes) rfl sc_greater.nd (RZ.pi_zipA (by rfl) T.m_zip (pa_cons (pv 0) (pa_cons (pv 1) pa_nil))) (blkOk_by (own := [("a", 2), ("b", 3)]) (N := N_greater) (sc := defScope s_greater) (by decide +kernel)) (fun _ _ _ _ _ => (pg_tup rfl (pgs_cons (pg_name (i := 2) sc_greater.nd rfl (by first | exact Or.inl rfl | exact Or.inr rfl)) (pgs_cons (pg_name (i := 3) sc_greater.nd rfl (by first | exact Or.inl rfl | exact Or.inr rfl)) pgs_nil)))) (fun _ _ _ _ _ => pts_nil) (fun _ _ _ _ _ => (pe_callB (call_max2 rfl) (by rfl) T.m_max (by decide +kernel) (pa_cons (pv 2) (pa_cons (pv 3) pa_nil))))) pa_nil)))), fun b I p hp => ?_⟩
  refine sv_ret (ev_tupleOf1 (ev_lcM (l := p.1.zip p.2) (f := fun q => .int ((fun i j => if j > i then j else i) q.1 q.2)) ((itd_zip1 (ea_cons1 (ev_var rfl) (ea_cons1 (ev_var rfl) ea_nil))).mono fun x e => e.trans (zip_nums _ _)) (hv2 rfl rfl) (by decide) ?_ (fun x => tg_pair (ltr rfl) (ltr rfl)) fun x hx => ev_cb (ea_cons1 (ev_var rfl) (ea_cons1 (ev_var rfl) ea_nil)) fun rs e => ?_)) fun r e => ?_
  · rw [List.length_zip]
    have := hp.2
    omega
  · subst e
    exact cb_max
  · rw [e]
    simp only [zmap, nums, List.map_map]
    rfl
theorem ok_within (T : Top K mg) : FnOk P w K mg base CX0 1 T.a_within T.fd_within ["one", "other"] (spD K aTwo okTwo (fun p r => r = dbl ((p.1.zip p.2).all fun q => decide (q.1 ≤ q.2))) noX) := by
  refine fn_ok T.F_within sc_within (fun a _ => rfl) fun cdv A outer s H E hr => ⟨_, (pss_one (ps_ret (pe_callB (k_all K rfl) (by rfl) T.m_all (by decide +kernel) (pa_cons (pe_lc (own := [("a", 2), ("b", 3)]) (g := gTup K 2 (gCons (gName 2) (gCons (gName 3) gNil))) (tt := tYes) rfl sc_within.nd (RZ.pi_zipA (by rfl) T.m_zip (pa_cons (pv 0) (pa_cons (pv 1) pa_nil))) (blkOk_by (own := [("a", 2), ("b", 3)]) (N := N_within) (sc := defScope s_within) (by decide +kernel)) (fun _ _ _ _ _ => (pg_tup rfl (pgs_cons (pg_name (i := 2) sc_within.nd rfl (by first | exact Or.inl rfl | exact Or.inr rfl)) (pgs_cons (pg_name (i := 3) sc_within.nd rfl (by first | exact Or.inl rfl | exact Or.inr rfl)) pgs_nil)))) (fun _ _ _ _ _ => pts_nil) (fun _ _ _ _ _ => (pe_cmpR op_le (pv 2) (pv 3) (nomark _)))) pa_nil)))), fun b I p hp => ?_⟩
  refine sv_ret (ev_cb (ea_cons1 (ev_lcM (l := p.1.zip p.2) (f := fun q => .bool (decide (q.1 ≤ q.2))) ((itd_zip1 (ea_cons1 (ev_var rfl) (ea_cons1 (ev_var rfl) ea_nil))).mono fun x e => e.trans (zip_nums _ _)) (hv2 rfl rfl) (by decide) ?_ (fun x => tg_pair (ltr rfl) (ltr rfl)) fun x hx => ev_cmp (ev_var rfl) (ev_var rfl)) ea_nil) fun rs e => ?_) fun r e => e
  · rw [List.length_zip]
    have := hp.2
    omega
  · subst e
    have z : (p.1.zip p.2).map (fun q => PyData.bool (decide (q.1 ≤ q.2))) = ((p.1.zip p.2).map fun q => decide (q.1 ≤ q.2)).map .bool := by
      rw [List.map_map]
      rfl
    rw [z]
    have z2 : ((p.1.zip p.2).all fun q => decide (q.1 ≤ q.2)) = ((p.1.zip p.2).map fun q => decide (q.1 ≤ q.2)).all id := by
      rw [List.all_map]
      rfl
    rw [z2]
    exact cb_all (.inl rfl)
def absI (i : Int) : Int := if i < 0 then -i else i
theorem ok_apart (T : Top K mg) : FnOk P w K mg base CX0 1 T.a_apart T.fd_apart ["one", "other"] (spD K aTwo okTwo (fun p r => r = dint (zmap (fun i j => absI (i - j)) p.1 p.2).sum) noX) := by
  refine fn_ok T.F_apart sc_apart (fun a _ => rfl) fun cdv A outer s H E hr => ⟨_, (pss_one (ps_ret (pe_callB (k_sum K rfl) (by rfl) T.m_sum (by decide +kernel) (pa_cons (pe_lc (own := [("a", 2), ("b", 3)]) (g := gTup K 2 (gCons (gName 2) (gCons (gName 3) gNil))) (tt := tYes) rfl sc_apart.nd (RZ.pi_zipA (by rfl) T.m_zip (pa_cons (pv 0) (pa_cons (pv 1) pa_nil))) (blkOk_by (own := [("a", 2), ("b", 3)]) (N := N_apart) (sc := defScope s_apart) (by decide +kernel)) (fun _ _ _ _ _ => (pg_tup rfl (pgs_cons (pg_name (i := 2) sc_apart.nd rfl (by first | exact Or.inl rfl | exact Or.inr rfl)) (pgs_cons (pg_name (i := 3) sc_apart.nd rfl (by first | exact Or.inl rfl | exact Or.inr rfl)) pgs_nil)))) (fun _ _ _ _ _ => pts_nil) (fun _ _ _ _ _ => (pe_callB call_abs (by rfl) T.m_abs (by decide +kernel) (pa_cons (pe_op op_sub (pv 2) (pv 3)) pa_nil)))) pa_nil)))), fun b I p hp => ?_⟩
  refine sv_ret (ev_cb (ea_cons1 (ev_lcM (l := p.1.zip p.2) (f := fun q => .int (absI (q.1 - q.2))) ((itd_zip1 (ea_cons1 (ev_var rfl) (ea_cons1 (ev_var rfl) ea_nil))).mono fun x e => e.trans (zip_nums _ _)) (hv2 rfl rfl) (by decide) ?_ (fun x => tg_pair (ltr rfl) (ltr rfl)) fun x hx => ev_cb (ea_cons1 (ev_i2 (ev_var rfl) (ev_var rfl)) ea_nil) fun rs e => ?_) ea_nil) fun rs e => ?_) fun r e => e
  · rw [List.length_zip]
    have := hp.2
    omega
  · subst e
    exact cb_abs
  · subst e
    have z : (p.1.zip p.2).map (fun q => PyData.int (absI (q.1 - q.2))) = (zmap (fun i j => absI (i - j)) p.1 p.2).map .int := by
      unfold zmap
      rw [List.map_map]
      rfl
    rw [z]
    exact cb_sum (.inl rfl)
/-! ### the law's draws -/
theorem ok_law_take (T : Top K mg) : FnOk P w K mg base CX0 1 T.a_law_take T.fd_law_take ["_law_bag", "_law_sides"] (spD K aTake okTake outTake noX) := by
  refine T.F_law_take.ok sc_law_take (fun vs H Q E h => ?_) (fun cdv A outer s H vs Q E hr h => ?_)
  · obtain ⟨n, b, I, _, r, _⟩ := h
    rw [resA_len r]
    rfl
  · obtain ⟨n, b, I, k, r, hn, qq, _⟩ := h
    cases r with
    | cons r1 r =>
      cases r with
      | cons r2 r =>
        cases r
        have e2 := int_read r2
        subst e2
        have e1 : _ = V.ref b := r1
        subst e1
        obtain ⟨ib, l, ns, p, q, m, c, hb, hl, hp, hq, hm, hm2⟩ := k.b
        have sl : SqL K H l (ns.map V.int) := sl_mono k.s hl
        have fin : ∀ i H', 0 ≤ i → i < n → Ext K b I H I H' → Q (.int i) H' := fun i H' h0 h1 e => qq _ _ I H' ⟨i, rfl, h0, h1⟩ e (Dp.int i)
        have n0 := hn.1
        have nd : ∀ i : Int, CDivW i n := fun i => wide_div (b := 140) n0 (by
          have e : (2 : Nat) ^ 140 = 1393796574908163946345982392040522594123776 := by decide
          rw [e]
          have := hn.2
          omega) (by decide) (by decide)
        refine ⟨_, (C8.pss_cut (ps_if (PW.pt (pw_and (pt_cmpR op_lt (pe_ix (k_ix_list K) (pv 0) pe_int (fun _ _ => rfl)) (pv 1) (nomark _)) (pw_and1 (pt_cmpR op_lt (pe_ix (k_ix_list K) (pv 0) pe_int (fun _ _ => rfl)) (pe_callB (k_len K) (by rfl) T.m_len PySem.boot_len (pa_cons (pe_ix (k_ix_list K) (pv 0) pe_int (fun _ _ => rfl)) pa_nil)) (nomark _))))) (pss_cons (ps_set (i := 2) sc_law_take.nd rfl (by first | exact Or.inl rfl | exact Or.inr rfl) (pe_ix (k_ix_seq K) (pe_ix (k_ix_list K) (pv 0) pe_int (fun _ _ => rfl)) (pe_ix (k_ix_list K) (pv 0) pe_int (fun _ _ => rfl)) (fun _ _ => rfl)))
      (pss_cons (ps_asg (pe_op op_add (pe_ix (k_ix_list K) (pv 0) pe_int (fun _ _ => rfl)) pe_int) (pg_sub (pv 0) pe_int set_list))
      (pss_cons (ps_asg pe_int (pg_sub (pv 0) pe_int set_list))
      (pss_one (ps_if (pt_cmpR op_ge (pv 2) (pe_op op_pow pe_int pe_int) (nomark _)) (pss_one (ps_asg (pv 2) (pg_sub (pv 0) pe_int set_list))) (pss_one (ps_asg (pe_op op_mod (pe_op op_add (pe_op op_add (pe_op op_mul (pe_ix (k_ix_list K) (pv 0) pe_int (fun _ _ => rfl)) pe_int) (pe_op op_mul (pe_op op_mod (pv 2) pe_int) pe_int)) pe_int) pe_int) (pg_sub (pv 0) pe_int set_list)))))))) pss_nil)
      (pss_cons (ps_if (pt_cmpR op_ge (pe_ix (k_ix_list K) (pv 0) pe_int (fun _ _ => rfl)) (pv 1) (nomark _)) (pss_cons (ps_set (i := 3) sc_law_take.nd rfl (by first | exact Or.inl rfl | exact Or.inr rfl) (pe_op op_mod (pe_ix (k_ix_list K) (pv 0) pe_int (fun _ _ => rfl)) (pv 1)))
      (pss_cons (ps_asg (pe_op op_fdivW (pe_ix (k_ix_list K) (pv 0) pe_int (fun _ _ => rfl)) (pv 1)) (pg_sub (pv 0) pe_int set_list))
      (pss_one (ps_ret (pv 3))))) pss_nil)
      (pss_cons (ps_asg (pe_op op_add (pe_ix (k_ix_list K) (pv 0) pe_int (fun _ _ => rfl)) pe_int) (pg_sub (pv 0) pe_int set_list))
      (pss_cons (ps_set (i := 4) sc_law_take.nd rfl (by first | exact Or.inl rfl | exact Or.inr rfl) (pe_ix (k_ix_list K) (pv 0) pe_int (fun _ _ => rfl)))
      (pss_cons (ps_asg (pe_op op_mod (pe_op op_add (pe_op op_add (pe_op op_add (pe_op op_mul (pe_op op_mod (pe_op op_mul (pv 4) (pv 4)) pe_int) pe_int) (pe_op op_mul (pv 4) pe_int)) (pe_op op_mul pe_int (pe_ix (k_ix_list K) (pv 0) pe_int (fun _ _ => rfl)))) pe_int) pe_int) (pg_sub (pv 0) pe_int set_list))
      (pss_one (ps_ret (pe_op op_mod (pe_op op_add (pe_op op_fdivW (pe_ix (k_ix_list K) (pv 0) pe_int (fun _ _ => rfl)) pe_int) (pe_op op_mul (pe_op op_mod (pe_ix (k_ix_list K) (pv 0) pe_int (fun _ _ => rfl)) pe_int) pe_int)) (pv 1))))))))), ?_⟩
        refine ⟨fun σ' H' => ∃ x2 p q m, σ' = [some (.ref b), some (.int n), x2, none, none] ∧ Ext K b I H I H' ∧ H' b = some (.lst [.ref l, .int p, .int q, .int m, .int c]) ∧ 0 ≤ p ∧ 0 ≤ q ∧ 0 ≤ m ∧ m < 2147483647, ?_, ?_⟩
        · refine ⟨.ref b, rfl, b, _, 2, .int q, rfl, rfl, .inl (.inl hb), rfl, .int n, rfl, q, n, rfl, rfl, _, rfl, ite2 (fun h1 => ?_) (fun h1 => ?_)⟩
          · refine ⟨.ref b, rfl, b, _, 1, .int p, rfl, rfl, .inl (.inl hb), rfl, .ref b, rfl, b, _, 0, .ref l, rfl, rfl, .inl (.inl hb), rfl, l, _, rfl, .inl sl, p, _, rfl, rfl, _, rfl, ite2 (fun h2 => ?_) (fun h2 => ?_)⟩
            · have h2' : p < (ns.map V.int).length := of_decide_eq_true h2
              rw [List.length_map] at h2'
              have hpn : p.toNat < ns.length := by omega
              have gz : (ns.map V.int)[p.toNat]? = some (.int ns[p.toNat]) := by
                rw [List.getElem?_map, List.getElem?_eq_getElem hpn]
                rfl
              generalize ns[p.toNat] = z at gz
              have hb1 : upd H b (.lst [.ref l, .int (p + 1), .int q, .int m, .int c]) b = some (.lst [.ref l, .int (p + 1), .int q, .int m, .int c]) := upd_same
              have hb2 : upd (upd H b (.lst [.ref l, .int (p + 1), .int q, .int m, .int c])) b (.lst [.ref l, .int (p + 1), .int 0, .int m, .int c]) b = some (.lst [.ref l, .int (p + 1), .int 0, .int m, .int c]) := upd_same
              refine ⟨.ref b, rfl, b, _, 0, .ref l, rfl, rfl, .inl (.inl hb), rfl, .ref b, rfl, b, _, 1, .int p, rfl, rfl, .inl (.inl hb), rfl, .inl ⟨l, _, p, .int z, rfl, rfl, sl, at_of (j := p.toNat) (by omega) gz, ?_⟩⟩
              refine ⟨.ref b, rfl, b, _, 1, .int p, rfl, rfl, .inl (.inl hb), rfl, p, 1, rfl, rfl, .ref b, rfl, b, _, 1, 1, rfl, rfl, hb, rfl, ?_⟩
              refine ⟨.ref b, rfl, b, _, 2, 2, rfl, rfl, hb1, rfl, ?_⟩
              refine ⟨.int z, rfl, 10, 18, rfl, rfl, ⟨by decide, by decide, by decide⟩, z, _, rfl, rfl, _, rfl, ite2 (fun h3 => ?_) (fun h3 => ?_)⟩
              · have hz : (10 : Int) ^ (18 : Int).toNat ≤ z := of_decide_eq_true h3
                have hz0 : 0 ≤ z := Int.le_trans (by decide) hz
                refine ⟨.int z, rfl, .ref b, rfl, b, _, 2, 2, rfl, rfl, hb2, rfl, ?_⟩
                refine ⟨some (.int z), p + 1, z, m, rfl, ?_, upd_same, by omega, hz0, hm, hm2⟩
                rw [upd_upd, upd_upd]
                exact Ext.bag k hl (by omega) hz0 hm hm2
              · refine ⟨.ref b, rfl, b, _, 3, .int m, rfl, rfl, .inl (.inl hb2), rfl, m, 48271, rfl, rfl, .inl ⟨by omega, by omega⟩, .int z, rfl, z, 2147483629, rfl, rfl, (show (0 : Int) < 2147483629 by decide), _, 69621, rfl, rfl, .inl ⟨by omega, by omega⟩, _, _, rfl, rfl, _, 12345, rfl, rfl, _, 2147483647, rfl, rfl, (show (0 : Int) < 2147483647 by decide), .ref b, rfl, b, _, 3, 3, rfl, rfl, hb2, rfl, ?_⟩
                refine ⟨some (.int z), p + 1, 0, _, rfl, ?_, upd_same, by omega, by omega, Int.emod_nonneg _ (by decide), Int.emod_lt_of_pos _ (by decide)⟩
                rw [upd_upd, upd_upd]
                exact Ext.bag k hl (by omega) (by omega) (Int.emod_nonneg _ (by decide)) (Int.emod_lt_of_pos _ (by decide))
            · exact ⟨none, p, q, m, rfl, k.re, hb, hp, hq, hm, hm2⟩
          · exact iteF ⟨none, p, q, m, rfl, k.re, hb, hp, hq, hm, hm2⟩
        · rintro σ' H' ⟨x2, p, q, m, rfl, e, hb, hp, hq, hm, hm2⟩
          refine ⟨.ref b, rfl, b, _, 2, .int q, rfl, rfl, .inl (.inl hb), rfl, .int n, rfl, q, n, rfl, rfl, _, rfl, ite2 (fun h1 => ?_) (fun h1 => ?_)⟩
          · refine ⟨.ref b, rfl, b, _, 2, .int q, rfl, rfl, .inl (.inl hb), rfl, .int n, rfl, q, n, rfl, rfl, n0, ?_⟩
            refine ⟨.ref b, rfl, b, _, 2, .int q, rfl, rfl, .inl (.inl hb), rfl, .int n, rfl, q, n, rfl, rfl, nd q, .ref b, rfl, b, _, 2, 2, rfl, rfl, hb, rfl, ?_⟩
            exact ⟨_, rfl, fin _ _ (Int.emod_nonneg _ (by omega)) (Int.emod_lt_of_pos _ n0) (e.trans (Ext.bag e.ok hl hp (Int.ediv_nonneg hq (by omega)) hm hm2))⟩
          · have hb1 : upd H' b (.lst [.ref l, .int p, .int q, .int m, .int (c + 1)]) b = some (.lst [.ref l, .int p, .int q, .int m, .int (c + 1)]) := upd_same
            refine ⟨.ref b, rfl, b, _, 4, .int c, rfl, rfl, .inl (.inl hb), rfl, c, 1, rfl, rfl, .ref b, rfl, b, _, 4, 4, rfl, rfl, hb, rfl, ?_⟩
            refine ⟨.ref b, rfl, b, _, 3, .int m, rfl, rfl, .inl (.inl hb1), rfl, ?_⟩
            refine ⟨.int m, rfl, .int m, rfl, m, m, rfl, rfl, .inl ⟨by omega, by omega⟩, _, 2147483629, rfl, rfl, (show (0 : Int) < 2147483629 by decide), _, 5, rfl, rfl, .inl ⟨by omega, by omega⟩, .int m, rfl, m, 16811, rfl, rfl, .inl ⟨by omega, by omega⟩, _, _, rfl, rfl, .ref b, rfl, b, _, 4, .int (c + 1), rfl, rfl, .inl (.inl hb1), rfl, 7919, c + 1, rfl, rfl, .inl ⟨by decide, by decide⟩, _, _, rfl, rfl, _, 2531011, rfl, rfl, _, 2147483647, rfl, rfl, (show (0 : Int) < 2147483647 by decide), .ref b, rfl, b, _, 3, 3, rfl, rfl, hb1, rfl, ?_⟩
            have m0 : 0 ≤ ((m * m % 2147483629 * 5 + m * 16811 + 7919 * (c + 1) + 2531011) % 2147483647) := Int.emod_nonneg _ (by decide)
            have m1 : ((m * m % 2147483629 * 5 + m * 16811 + 7919 * (c + 1) + 2531011) % 2147483647) < 2147483647 := Int.emod_lt_of_pos _ (by decide)
            have hb3 : upd (upd H' b (.lst [.ref l, .int p, .int q, .int m, .int (c + 1)])) b (.lst [.ref l, .int p, .int q, .int ((m * m % 2147483629 * 5 + m * 16811 + 7919 * (c + 1) + 2531011) % 2147483647), .int (c + 1)]) b = some (.lst [.ref l, .int p, .int q, .int ((m * m % 2147483629 * 5 + m * 16811 + 7919 * (c + 1) + 2531011) % 2147483647), .int (c + 1)]) := upd_same
            have ee : Ext K b I H I (upd (upd H' b (.lst [.ref l, .int p, .int q, .int m, .int (c + 1)])) b (.lst [.ref l, .int p, .int q, .int ((m * m % 2147483629 * 5 + m * 16811 + 7919 * (c + 1) + 2531011) % 2147483647), .int (c + 1)])) := by
              rw [upd_upd]
              exact e.trans (Ext.bag e.ok hl hp hq m0 m1)
            refine ⟨.ref b, rfl, b, _, 3, .int ((m * m % 2147483629 * 5 + m * 16811 + 7919 * (c + 1) + 2531011) % 2147483647), rfl, rfl, .inl (.inl hb3), rfl, _, 61, rfl, rfl, wide_div (b := 10) (by decide) (by decide) (by decide) (by decide), .ref b, rfl, b, _, 3, .int ((m * m % 2147483629 * 5 + m * 16811 + 7919 * (c + 1) + 2531011) % 2147483647), rfl, rfl, .inl (.inl hb3), rfl, _, 8191, rfl, rfl, (show (0 : Int) < 8191 by decide), _, 31, rfl, rfl, .inl ⟨by omega, by omega⟩, _, _, rfl, rfl, .int n, rfl, _, n, rfl, rfl, n0, ?_⟩
            exact fin _ _ (Int.emod_nonneg _ (by omega)) (Int.emod_lt_of_pos _ n0) ee
theorem ok_law_pick (T : Top K mg) : FnOk P w K mg base CX0 2 T.a_law_pick T.fd_law_pick ["_law_bag", "_law_row"] (spD K aPick okPick outPick noX) := by
  have G_law_take := ok_law_take (P := P) (w := w) (base := base) T
  refine fn_ok T.F_law_pick sc_law_pick (fun a _ => rfl) fun cdv A outer s H E hr => ⟨_, (pss_one (ps_ret (pe_ix (k_ix_list K) (pv 1) (pe_call G_law_take (hr.mono (by omega)) (by rfl) T.g_law_take T.F_law_take.kp T.b_law_take .nil pass0 (pa_cons (pv 0) (pa_cons (pe_callB (k_len K) (by rfl) T.m_len PySem.boot_len (pa_cons (pv 1) pa_nil)) pa_nil))) (fun _ _ => rfl)))), fun b I ds hp => ?_⟩
  refine sv_ret (ev_op (ev_var rfl) (ev_call1 (P := fun r => ∃ i, r = dint i ∧ 0 ≤ i ∧ i < (ds.length : Int)) (ds.length : Int) (ea_cons1 (ev_var rfl) (ea_cons1 (ev_len (ev_var rfl) (.inl (.inr (.inr rfl)))) ea_nil)) ⟨by have := hp.1; omega, by have := hp.2; omega⟩ (fun r h => h) (noOwn_cons (fun _ z => by cases z) (noOwn_cons (fun _ z => by cases z) noOwn_nil))) fun x y e ⟨i, f, h0, h1⟩ => ?_) fun r e => e
  subst e f
  have hi : i.toNat < ds.length := by omega
  exact ixL_ (.inr (.inr rfl)) h0 (List.getElem?_eq_getElem hi) ⟨_, List.getElem_mem hi, rfl⟩
abbrev aSame (d : PyData) : List DV := [.dat d, .dat d]
theorem noOwn_same (d : PyData) : NoOwn (aSame d) := noOwn_cons (fun _ z => by cases z) (noOwn_cons (fun _ z => by cases z) noOwn_nil)
theorem same_all {b : Addr} {H0 : Hp} {d : PyData} {ds : List PyData} {n : Nat} {E : XK} (hd : d = .list ds ∨ d = .tuple ds) (hl : ds.length ≤ 100000) (hf : ∀ x ∈ ds, Flat n x) :
    EvD K b H0 (tCB (rAll K) (tCons (tLc (iRng1 (tCons (tCB (fun xs H Q => ∃ p ys, xs = [.ref p] ∧ (SqL K H p ys ∨ SqT K H p ys) ∧ Q (.int ys.length) H) (tCons (tVar 1) tNil)) tNil)) (gName 2) tYes
      (tCall (spD K aSame (Flat n) (fun _ r => r = dbl true) noX) [] E (tCons (tOp (rIx K) (tVar 0) (tVar 2)) (tCons (tOp (rIx K) (tVar 1) (tVar 2)) tNil))) [2]) tNil)) [some (.dat d), some (.dat d), none] (fun r => r = dbl true) :=
  ev_cb (ea_cons1 (ev_lcM (l := List.range ds.length) (f := fun _ => .bool true) (itd_rngN (ea_cons1 (ev_len (ev_var rfl) (by rcases hd with e | e <;> rw [e]; exact .inl (.inr (.inr rfl)); exact .inr rfl)) ea_nil) hl) (hv1 rfl) (by decide) (by rw [List.length_range]; exact hl) (fun x => tg_name (ltr rfl)) fun k hk => by
    have hk' : k < ds.length := List.mem_range.mp hk
    have hg : ds[((0 : Int) + (k : Int)).toNat]? = some ds[k] := by
      rw [show ((0 : Int) + (k : Int)).toNat = k by omega]
      exact List.getElem?_eq_getElem hk'
    exact ev_call1 ds[k] (ea_cons1 (ev_ix hd (ev_var rfl) (ev_var rfl) (by omega) hg) (ea_cons1 (ev_ix hd (ev_var rfl) (ev_var rfl) (by omega) hg) ea_nil)) (hf _ (List.getElem_mem hk')) (fun r e => e) (noOwn_same _)) ea_nil) fun rs e => by
    subst e
    have z : (List.range ds.length).map (fun _ => PyData.bool true) = ((List.range ds.length).map fun _ => true).map .bool := by
      rw [List.map_map]
      rfl
    rw [z]
    have z2 : ((List.range ds.length).map fun _ => true).all id = true := by simp
    exact fun H0 I H vs k rs Q q => cb_all (.inl rfl) H0 I H vs k rs Q fun z u I' H' p => q z u I' H' (by rw [p, z2])
theorem ok_law_same (T : Top K mg) : ∀ n : Nat, FnOk P w K mg base CX0 n T.a_law_same T.fd_law_same ["_law_found", "_law_due"] (spD K aSame (Flat n) (fun _ r => r = dbl true) noX)
  | 0 => ⟨fun vs H Q E ⟨_, _, _, _, _, h, _⟩ => h.elim, fun A outer s H args us vs Q E _ _ _ _ ⟨_, _, _, _, _, h, _⟩ => h.elim⟩
  | n + 1 => by
    have G_law_same := ok_law_same T n
    refine fn_ok T.F_law_same sc_law_same (fun a _ => rfl) fun cdv A outer s H E hr => ⟨_, (pss_cons (ps_if (pt_cmpR op_isN (pv 1) pe_non (nomark _)) (pss_one (ps_ret (pe_cmpR op_isN (pv 0) pe_non (nomark _)))) pss_nil)
      (pss_cons (ps_if (pt_val (pe_callB (k_isi K) (by rfl) T.m_isinstance (by decide +kernel) (pa_cons (pv 1) (pa_cons (pe_bltn (v := .ty "bool") (u := .type "bool") (by rfl) T.m_bool (by decide +kernel) rfl) pa_nil)))) (pss_one (ps_ret (pe_and (pe_callB (k_isi K) (by rfl) T.m_isinstance (by decide +kernel) (pa_cons (pv 0) (pa_cons (pe_bltn (v := .ty "bool") (u := .type "bool") (by rfl) T.m_bool (by decide +kernel) rfl) pa_nil))) (pe_one (pe_cmpR op_eq (pv 0) (pv 1) (nomark _)))))) pss_nil)
      (pss_cons (ps_if (pt_val (pe_callB (k_isi K) (by rfl) T.m_isinstance (by decide +kernel) (pa_cons (pv 1) (pa_cons (pe_bltn (v := .ty "int") (u := .type "int") (by rfl) T.m_int (by decide +kernel) rfl) pa_nil)))) (pss_one (ps_ret (pe_and (pe_callB (k_isi K) (by rfl) T.m_isinstance (by decide +kernel) (pa_cons (pv 0) (pa_cons (pe_bltn (v := .ty "int") (u := .type "int") (by rfl) T.m_int (by decide +kernel) rfl) pa_nil))) (pe_and (pe_not (pe_callB (k_isi K) (by rfl) T.m_isinstance (by decide +kernel) (pa_cons (pv 0) (pa_cons (pe_bltn (v := .ty "bool") (u := .type "bool") (by rfl) T.m_bool (by decide +kernel) rfl) pa_nil)))) (pe_one (pe_cmpR op_eq (pv 0) (pv 1) (nomark _))))))) pss_nil)
      (pss_cons (ps_if (pt_val (pe_callB (k_isi K) (by rfl) T.m_isinstance (by decide +kernel) (pa_cons (pv 1) (pa_cons (pe_bltn (v := .ty "str") (u := .type "str") (by rfl) T.m_str (by decide +kernel) rfl) pa_nil)))) (pss_one (ps_ret (pe_and (pe_callB (k_isi K) (by rfl) T.m_isinstance (by decide +kernel) (pa_cons (pv 0) (pa_cons (pe_bltn (v := .ty "str") (u := .type "str") (by rfl) T.m_str (by decide +kernel) rfl) pa_nil))) (pe_one (pe_cmpR op_eq (pv 0) (pv 1) (nomark _)))))) pss_nil)
      (pss_cons (ps_if (PW.pt (pw_or (pt_cmpR op_ne (pe_callB (k_isi K) (by rfl) T.m_isinstance (by decide +kernel) (pa_cons (pv 1) (pa_cons (pe_bltn (v := .ty "tuple") (u := .type "tuple") (by rfl) T.m_tuple (by decide +kernel) rfl) pa_nil))) (pe_callB (k_isi K) (by rfl) T.m_isinstance (by decide +kernel) (pa_cons (pv 0) (pa_cons (pe_bltn (v := .ty "tuple") (u := .type "tuple") (by rfl) T.m_tuple (by decide +kernel) rfl) pa_nil))) (nomark _)) (pw_or1 (pt_cmpR op_ne (pe_callB (k_isi K) (by rfl) T.m_isinstance (by decide +kernel) (pa_cons (pv 1) (pa_cons (pe_bltn (v := .ty "list") (u := .type "list") (by rfl) T.m_list (by decide +kernel) rfl) pa_nil))) (pe_callB (k_isi K) (by rfl) T.m_isinstance (by decide +kernel) (pa_cons (pv 0) (pa_cons (pe_bltn (v := .ty "list") (u := .type "list") (by rfl) T.m_list (by decide +kernel) rfl) pa_nil))) (nomark _))))) (pss_one (ps_ret pe_bl)) pss_nil)
      (pss_cons (ps_if (pt_cmpR op_ne (pe_callB (k_len K) (by rfl) T.m_len PySem.boot_len (pa_cons (pv 0) pa_nil)) (pe_callB (k_len K) (by rfl) T.m_len PySem.boot_len (pa_cons (pv 1) pa_nil)) (nomark _)) (pss_one (ps_ret pe_bl)) pss_nil)
      (pss_one (ps_ret (pe_callB (k_all K rfl) (by rfl) T.m_all (by decide +kernel) (pa_cons (pe_lc (own := [("_law_at", 2)]) (g := gName 2) (tt := tYes) rfl sc_law_same.nd (pi_range1 (by rfl) T.m_range (pa_cons (pe_callB (k_len K) (by rfl) T.m_len PySem.boot_len (pa_cons (pv 1) pa_nil)) pa_nil)) (blkOk_by (own := [("_law_at", 2)]) (N := N_law_same) (sc := defScope s_law_same) (by decide +kernel)) (fun _ _ _ _ _ => (pg_name (i := 2) sc_law_same.nd rfl (by first | exact Or.inl rfl | exact Or.inr rfl))) (fun _ _ _ _ _ => pts_nil) (fun _ _ _ _ _ => (pe_call G_law_same (hr.mono (by omega)) (by rfl) T.g_law_same T.F_law_same.kp T.b_law_same .nil pass0 (pa_cons (pe_ix (k_ix_seq K) (pv 0) (pv 2) (fun _ _ => rfl)) (pa_cons (pe_ix (k_ix_seq K) (pv 1) (pv 2) (fun _ _ => rfl)) pa_nil))))) pa_nil)))))))))), fun b I d hp => ?_⟩
    have V0 : ∀ δ : DL.Env, δ[0]? = some (some (.dat d)) → EvD K b H (tVar 0) δ (fun x => x = .dat d) := fun δ h => ev_var h
    have V1 : ∀ δ : DL.Env, δ[1]? = some (some (.dat d)) → EvD K b H (tVar 1) δ (fun x => x = .dat d) := fun δ h => ev_var h
    cases d with
    | none => exact sv_goes (et_test1 ((ev_isN (V1 _ rfl)).to rfl)) (sv_ret (ev_isN (V0 _ rfl)) fun r e => e)
    | bool c => exact sv_skip (et_test1 ((ev_isN (V1 _ rfl)).to rfl)) (sv_goes (et_B1 (ev_isi (V1 _ rfl) (by dsimp only [tyN]; decide +kernel))) (sv_ret (ev_andV (A := fun x => x = true) ((ev_isi (V0 _ rfl) (c := true) (by dsimp only [tyN]; decide +kernel)).mono fun r e => ⟨_, e, rfl⟩) (fun _ => ev_eqS rfl (V0 _ rfl) (V1 _ rfl)) fun z => by cases z) fun r e => e))
    | int c => exact sv_skip (et_test1 ((ev_isN (V1 _ rfl)).to rfl)) (sv_skip (et_B1 (ev_isi (V1 _ rfl) (by dsimp only [tyN]; decide +kernel))) (sv_goes (et_B1 (ev_isi (V1 _ rfl) (by dsimp only [tyN]; decide +kernel))) (sv_ret (ev_andV (A := fun x => x = true) ((ev_isi (V0 _ rfl) (c := true) (by dsimp only [tyN]; decide +kernel)).mono fun r e => ⟨_, e, rfl⟩) (fun _ => ev_andV (A := fun x => x = true) (ev_notV (A := fun x => x = false) ((ev_isi (V0 _ rfl) (c := false) (by dsimp only [tyN]; decide +kernel)).mono fun r e => ⟨_, e, rfl⟩) fun c e => by rw [e]; exact ⟨true, rfl, rfl⟩) (fun _ => ev_eqS rfl (V0 _ rfl) (V1 _ rfl)) fun z => by cases z) fun z => by cases z) fun r e => e)))
    | str c => exact sv_skip (et_test1 ((ev_isN (V1 _ rfl)).to rfl)) (sv_skip (et_B1 (ev_isi (V1 _ rfl) (by dsimp only [tyN]; decide +kernel))) (sv_skip (et_B1 (ev_isi (V1 _ rfl) (by dsimp only [tyN]; decide +kernel))) (sv_goes (et_B1 (ev_isi (V1 _ rfl) (by dsimp only [tyN]; decide +kernel))) (sv_ret (ev_andV (A := fun x => x = true) ((ev_isi (V0 _ rfl) (c := true) (by dsimp only [tyN]; decide +kernel)).mono fun r e => ⟨_, e, rfl⟩) (fun _ => ev_eqS rfl (V0 _ rfl) (V1 _ rfl)) fun z => by cases z) fun r e => e))))
    | list ds => exact sv_skip (et_test1 ((ev_isN (V1 _ rfl)).to rfl)) (sv_skip (et_B1 (ev_isi (V1 _ rfl) (by dsimp only [tyN]; decide +kernel))) (sv_skip (et_B1 (ev_isi (V1 _ rfl) (by dsimp only [tyN]; decide +kernel))) (sv_skip (et_B1 (ev_isi (V1 _ rfl) (by dsimp only [tyN]; decide +kernel))) (sv_skip ((et_or1 (x := false) (y := false) (et_test1 ((ev_neB (ev_isi (V1 _ rfl) (c := false) (by dsimp only [tyN]; decide +kernel)) (ev_isi (V0 _ rfl) (c := false) (by dsimp only [tyN]; decide +kernel))).to rfl)) fun _ => et_test1 ((ev_neB (ev_isi (V1 _ rfl) (c := true) (by dsimp only [tyN]; decide +kernel)) (ev_isi (V0 _ rfl) (c := true) (by dsimp only [tyN]; decide +kernel))).to rfl))) (sv_skip (et_test1 ((ev_neI (ev_len (V0 _ rfl) (.inl (.inr (.inr rfl)))) (ev_len (V1 _ rfl) (.inl (.inr (.inr rfl))))).to (by rw [decide_eq_true rfl]; rfl))) (sv_ret (same_all (.inl rfl) hp.1 hp.2) fun r e => e))))))
    | tuple ds => exact sv_skip (et_test1 ((ev_isN (V1 _ rfl)).to rfl)) (sv_skip (et_B1 (ev_isi (V1 _ rfl) (by dsimp only [tyN]; decide +kernel))) (sv_skip (et_B1 (ev_isi (V1 _ rfl) (by dsimp only [tyN]; decide +kernel))) (sv_skip (et_B1 (ev_isi (V1 _ rfl) (by dsimp only [tyN]; decide +kernel))) (sv_skip ((et_or1 (x := false) (y := false) (et_test1 ((ev_neB (ev_isi (V1 _ rfl) (c := true) (by dsimp only [tyN]; decide +kernel)) (ev_isi (V0 _ rfl) (c := true) (by dsimp only [tyN]; decide +kernel))).to rfl)) fun _ => et_test1 ((ev_neB (ev_isi (V1 _ rfl) (c := false) (by dsimp only [tyN]; decide +kernel)) (ev_isi (V0 _ rfl) (c := false) (by dsimp only [tyN]; decide +kernel))).to rfl))) (sv_skip (et_test1 ((ev_neI (ev_len (V0 _ rfl) (.inr rfl)) (ev_len (V1 _ rfl) (.inr rfl))).to (by rw [decide_eq_true rfl]; rfl))) (sv_ret (same_all (.inr rfl) hp.1 hp.2) fun r e => e))))))
    | dict kvs => exact hp.elim
theorem ok_law_lesser (T : Top K mg) : FnOk P w K mg base CX0 1 T.a_law_lesser T.fd_law_lesser ["_law_mone", "_law_mother"] (spD K aTwo okTwo (fun p r => r = .dat (nums (zmap (fun i j => if j < i then j else i) p.1 p.2))) noX) := by
  refine fn_ok T.F_law_lesser sc_law_lesser (fun a _ => rfl) fun cdv A outer s H E hr => ⟨_, (pss_one (ps_ret (pe_callTy (k_tuple K) (by rfl) T.m_tuple (by decide +kernel) (pa_cons (pe_lc (own := [("_law_at", 2)]) (g := gName 2) (tt := tYes) rfl sc_law_lesser.nd (pi_range1 (by rfl) T.m_range (pa_cons (pe_callB (k_len K) (by rfl) T.m_len PySem.boot_len (pa_cons (pv 0) pa_nil)) pa_nil)) (blkOk_by (own := [("_law_at", 2)]) (N := N_law_lesser) (sc := defScope s_law_lesser) (by decide +kernel)) (fun _ _ _ _ _ => (pg_name (i := 2) sc_law_lesser.nd rfl (by first | exact Or.inl rfl | exact Or.inr rfl))) (fun _ _ _ _ _ => pts_nil) (fun _ _ _ _ _ => (pe_callB (call_min2 rfl) (by rfl) T.m_min (by decide +kernel) (pa_cons (pe_ix (k_ix_tup K) (pv 0) (pv 2) (fun _ _ => rfl)) (pa_cons (pe_ix (k_ix_tup K) (pv 1) (pv 2) (fun _ _ => rfl)) pa_nil))))) pa_nil)))), fun b I p hp => ?_⟩
  refine sv_ret (ev_tupleOf1 (ev_lcM (l := List.range p.1.length) (f := fun k => .int ((fun i j => if j < i then j else i) (p.1.getD k 0) (p.2.getD k 0))) (itd_rngN (n := p.1.length) (ea_cons1 ((ev_len (ev_var rfl) (.inr rfl)).to (by rw [List.length_map])) ea_nil) (by have := hp.2; omega)) (hv1 rfl) (by decide) (by rw [List.length_range]; have := hp.2; omega) (fun x => tg_name (ltr rfl)) fun k hk => ?_)) fun r e => ?_
  · have hk' : k < p.1.length := List.mem_range.mp hk
    have hk2 : k < p.2.length := by rw [← hp.1]; exact hk'
    exact ev_cb (ea_cons1 (ev_ixT (ev_var rfl) (ev_var rfl) (by omega) (nums_get hk')) (ea_cons1 (ev_ixT (ev_var rfl) (ev_var rfl) (by omega) (nums_get hk2)) ea_nil)) fun rs e => by
      subst e
      exact cb_min
  · exact e.trans (range_zmap (fun i j => if j < i then j else i) _ _ hp.1)
theorem ok_law_greater (T : Top K mg) : FnOk P w K mg base CX0 1 T.a_law_greater T.fd_law_greater ["_law_mone", "_law_mother"] (spD K aTwo okTwo (fun p r => r = .dat (nums (zmap (fun i j => if j > i then j else i) p.1 p.2))) noX) := by
  refine fn_ok T.F_law_greater sc_law_greater (fun a _ => rfl) fun cdv A outer s H E hr => ⟨_, (pss_one (ps_ret (pe_callTy (k_tuple K) (by rfl) T.m_tuple (by decide +kernel) (pa_cons (pe_lc (own := [("_law_at", 2)]) (g := gName 2) (tt := tYes) rfl sc_law_greater.nd (pi_range1 (by rfl) T.m_range (pa_cons (pe_callB (k_len K) (by rfl) T.m_len PySem.boot_len (pa_cons (pv 0) pa_nil)) pa_nil)) (blkOk_by (own := [("_law_at", 2)]) (N := N_law_greater) (sc := defScope s_law_greater) (by decide +kernel)) (fun _ _ _ _ _ => (pg_name (i := 2) sc_law_greater.nd rfl (by first | exact Or.inl rfl | exact Or.inr rfl))) (fun _ _ _ _ _ => pts_nil) (fun _ _ _ _ _ => (pe_callB (call_max2 rfl) (by rfl) T.m_max (by decide +kernel) (pa_cons (pe_ix (k_ix_tup K) (pv 0) (pv 2) (fun _ _ => rfl)) (pa_cons (pe_ix (k_ix_tup K) (pv 1) (pv 2) (fun _ _ => rfl)) pa_nil))))) pa_nil)))), fun b I p hp => ?_⟩
  refine sv_ret (ev_tupleOf1 (ev_lcM (l := List.range p.1.length) (f := fun k => .int ((fun i j => if j > i then j else i) (p.1.getD k 0) (p.2.getD k 0))) (itd_rngN (n := p.1.length) (ea_cons1 ((ev_len (ev_var rfl) (.inr rfl)).to (by rw [List.length_map])) ea_nil) (by have := hp.2; omega)) (hv1 rfl) (by decide) (by rw [List.length_range]; have := hp.2; omega) (fun x => tg_name (ltr rfl)) fun k hk => ?_)) fun r e => ?_
  · have hk' : k < p.1.length := List.mem_range.mp hk
    have hk2 : k < p.2.length := by rw [← hp.1]; exact hk'
    exact ev_cb (ea_cons1 (ev_ixT (ev_var rfl) (ev_var rfl) (by omega) (nums_get hk')) (ea_cons1 (ev_ixT (ev_var rfl) (ev_var rfl) (by omega) (nums_get hk2)) ea_nil)) fun rs e => by
      subst e
      exact cb_max
  · exact e.trans (range_zmap (fun i j => if j > i then j else i) _ _ hp.1)
theorem ok_law_apart (T : Top K mg) : FnOk P w K mg base CX0 1 T.a_law_apart T.fd_law_apart ["_law_mone", "_law_mother"] (spD K aTwo okTwo (fun p r => r = dint (zmap (fun i j => absI (i - j)) p.1 p.2).sum) noX) := by
  refine fn_ok T.F_law_apart sc_law_apart (fun a _ => rfl) fun cdv A outer s H E hr => ⟨_, (pss_one (ps_ret (pe_callB (k_sum K rfl) (by rfl) T.m_sum (by decide +kernel) (pa_cons (pe_lc (own := [("_law_at", 2)]) (g := gName 2) (tt := tYes) rfl sc_law_apart.nd (pi_range1 (by rfl) T.m_range (pa_cons (pe_callB (k_len K) (by rfl) T.m_len PySem.boot_len (pa_cons (pv 0) pa_nil)) pa_nil)) (blkOk_by (own := [("_law_at", 2)]) (N := N_law_apart) (sc := defScope s_law_apart) (by decide +kernel)) (fun _ _ _ _ _ => (pg_name (i := 2) sc_law_apart.nd rfl (by first | exact Or.inl rfl | exact Or.inr rfl))) (fun _ _ _ _ _ => pts_nil) (fun _ _ _ _ _ => (pe_callB call_abs (by rfl) T.m_abs (by decide +kernel) (pa_cons (pe_op op_sub (pe_ix (k_ix_tup K) (pv 0) (pv 2) (fun _ _ => rfl)) (pe_ix (k_ix_tup K) (pv 1) (pv 2) (fun _ _ => rfl))) pa_nil)))) pa_nil)))), fun b I p hp => ?_⟩
  refine sv_ret (ev_cb (ea_cons1 (ev_lcM (l := List.range p.1.length) (f := fun k => .int ((fun i j => absI (i - j)) (p.1.getD k 0) (p.2.getD k 0))) (itd_rngN (n := p.1.length) (ea_cons1 ((ev_len (ev_var rfl) (.inr rfl)).to (by rw [List.length_map])) ea_nil) (by have := hp.2; omega)) (hv1 rfl) (by decide) (by rw [List.length_range]; have := hp.2; omega) (fun x => tg_name (ltr rfl)) fun k hk => ?_) ea_nil) fun rs e => ?_) fun r e => e
  · have hk' : k < p.1.length := List.mem_range.mp hk
    have hk2 : k < p.2.length := by rw [← hp.1]; exact hk'
    exact ev_cb (ea_cons1 (ev_i2 (ev_ixT (ev_var rfl) (ev_var rfl) (by omega) (nums_get hk')) (ev_ixT (ev_var rfl) (ev_var rfl) (by omega) (nums_get hk2))) ea_nil) fun rs e => by
      subst e
      exact cb_abs
  · subst e
    have z := range_zmap0 (fun i j => absI (i - j)) _ _ hp.1
    rw [show (List.range p.1.length).map (fun k => PyData.int ((fun i j => absI (i - j)) (p.1.getD k 0) (p.2.getD k 0))) = _ from z]
    exact cb_sum (.inl rfl)
/-! ### the law -/
def spOpen (K : PySem.W.Frag) : Sp := fun vs H Q _ => ∃ (a : Addr) (ns : List Int), vs = [.ref a] ∧ SqL K H a (ns.map V.int) ∧
  ∀ (b l : Addr) (ms : List Int) (H' : Hp), b ≠ l → H' b = some (.lst [.ref l, .int 0, .int 0, .int 9465, .int 0]) → H' l = some (.lst (ms.map V.int)) → Q (.ref b) H'
theorem ok_law_open (T : Top K mg) : FnOk P w K mg base CX0 1 T.a_law_open T.fd_law_open ["_law_script"] (spOpen K) := by
  refine T.F_law_open.ok sc_law_open (fun vs H Q E h => ?_) (fun cdv A outer s H vs Q E hr h => ?_)
  · obtain ⟨a, ns, rfl, _⟩ := h
    rfl
  · obtain ⟨a, ns, rfl, hS, q⟩ := h
    refine ⟨_, (pss_one (ps_ret (pe_lst (pa_cons (pe_callTy (k_list K) (by rfl) T.m_list (by decide +kernel) (pa_cons (pe_slice (k_sl_list K) (pv 0) po_none (po_some pe_int)) pa_nil)) (pa_cons pe_int (pa_cons pe_int (pa_cons pe_int (pa_cons pe_int pa_nil)))))))), ?_⟩
    obtain ⟨ms, hm⟩ := cut_ints ns none (some 63)
    refine ⟨.ref a, rfl, 63, rfl, a, _, rfl, hS, fun p hp => ⟨p, _, rfl, .inl (.inl (.inl upd_same)), fun l hl => ⟨(by show 5 ≤ sizeLine; decide), fun b hb => ?_⟩⟩⟩
    have nb : l ≠ b := fun z => by
      rw [← z, upd_same] at hb
      cases hb
    refine q b l ms _ nb.symm upd_same ?_
    rw [upd_ne nb, upd_same, hm]
def spLaw (K : PySem.W.Frag) : Sp := fun vs H Q _ => ∃ (a : Addr) (ns : List Int), vs = [.ref a] ∧ SqL K H a (ns.map V.int) ∧ ns.length ≤ 63 ∧ ∀ H', Q (.bl true) H'
theorem bag_start {H : Hp} {b l : Addr} {ms : List Int} {σ : L2.St} {n : Nat} (hn : b ≠ l) (hb : H b = some (.lst [.ref l, .int 0, .int 0, .int 9465, .int 0])) (hl : H l = some (.lst (ms.map V.int))) (hs : σ[1]? = some (some (.ref b))) (hσ : σ.length = n + 2) :
    ∃ I, Ok K b I H ∧ EnvR K b H I H σ (none :: some .bag :: List.replicate n none) := by
  refine ⟨upd (fun _ => none) l (.lst (ms.map V.int)), ⟨fun a o h => ?_, ?_, l, ms, 0, 0, 9465, 0, hb, .inl (.inl upd_same), by decide, by decide, by decide, by decide⟩, ⟨by rw [hσ]; simp, fun i r e => ?_, fun i j a ds es e => ?_⟩⟩
  · by_cases z : a = l
    · subst z
      rw [upd_same] at h
      rw [hl]
      exact h
    · rw [upd_ne z] at h
      cases h
  · rw [upd_ne hn]
  · match i with
    | 0 => cases e
    | 1 => cases e; exact ⟨_, hs, rfl⟩
    | i + 2 =>
      have e : (List.replicate n (none : Option DV))[i]? = some (some r) := e
      rw [List.getElem?_replicate] at e
      split at e <;> cases e
  · match i with
    | 0 => cases e
    | 1 => cases e
    | i + 2 =>
      have e : (List.replicate n (none : Option DV))[i]? = some (some (.own ds)) := e
      rw [List.getElem?_replicate] at e
      split at e <;> cases e
theorem zmap_len (f : Int → Int → Int) (xs ys : List Int) : (zmap f xs ys).length = min xs.length ys.length := by
  unfold zmap
  rw [List.length_map, List.length_zip]
theorem zmap_comm (f : Int → Int → Int) (h : ∀ i j, f i j = f j i) (xs ys : List Int) : zmap f ys xs = zmap f xs ys := by
  unfold zmap
  induction xs generalizing ys with
  | nil => cases ys <;> rfl
  | cons x xs ih =>
    cases ys with
    | nil => rfl
    | cons y ys =>
      rw [List.zip_cons_cons, List.zip_cons_cons, List.map_cons, List.map_cons, ih ys, h]
theorem min_comm' (i j : Int) : (if j < i then j else i) = if i < j then i else j := by
  split <;> split <;> omega
theorem abs_comm' (i j : Int) : absI (i - j) = absI (j - i) := by
  unfold absI
  split <;> split <;> omega
theorem abs_self' (xs : List Int) : (zmap (fun i j => absI (i - j)) xs xs).sum = 0 := by
  unfold zmap
  induction xs with
  | nil => rfl
  | cons x xs ih =>
    rw [List.zip_cons_cons, List.map_cons, List.sum_cons, ih]
    show absI (x - x) + 0 = 0
    rw [Int.sub_self]
    rfl
section
variable {b : Addr} {H0 : Hp} {δ : DL.Env} {E : XK} {Q : DV → Prop}
theorem noOwn_two (p : List Int × List Int) : NoOwn (aTwo p) := noOwn_cons (fun _ z => by cases z) (noOwn_cons (fun _ z => by cases z) noOwn_nil)
theorem ev_two {out : List Int × List Int → DV → Prop} {i j : Nat} {xs ys : List Int} (h1 : δ[i]? = some (some (.dat (nums xs)))) (h2 : δ[j]? = some (some (.dat (nums ys)))) (ok : okTwo (xs, ys)) (ho : ∀ r, out (xs, ys) r → Q r) :
    EvD K b H0 (tCall (spD K aTwo okTwo out noX) [] E (tCons (tVar i) (tCons (tVar j) tNil))) δ Q :=
  ev_call1 (xs, ys) (ea_cons1 (ev_var h1) (ea_cons1 (ev_var h2) ea_nil)) ok ho (noOwn_two _)
theorem ev_same {n : Nat} {tf td : TE} {d : PyData} (hf : EvD K b H0 tf δ (fun r => r = .dat d)) (hd : EvD K b H0 td δ (fun r => r = .dat d)) (hF : Flat n d) :
    EvD K b H0 (tCall (spD K aSame (Flat n) (fun _ r => r = dbl true) noX) [] E (tCons tf (tCons td tNil))) δ (fun r => r = dbl true) :=
  ev_call1 d (ea_cons1 hf (ea_cons1 hd ea_nil)) hF (fun r e => e) (noOwn_same _)
end
theorem wi1 {xs ys lo : List Int} (hl : xs.length = ys.length) (hlo : zmap (fun i j => if j < i then j else i) xs ys = lo) : ((xs.zip ys).all fun q => decide (q.1 ≤ q.2)) = decide (lo = xs) := by
  subst hlo
  unfold zmap
  induction xs generalizing ys with
  | nil => simp
  | cons x xs ih =>
    cases ys with
    | nil => simp at hl
    | cons y ys =>
      have hl' : xs.length = ys.length := by simpa using hl
      rw [List.zip_cons_cons, List.all_cons, ih hl', List.map_cons]
      by_cases h : y < x
      · have h1 : ¬ x ≤ y := by omega
        simp only [h1, decide_false, Bool.false_and, if_pos h]
        rw [eq_comm, decide_eq_false_iff_not]
        intro e
        have := (List.cons.inj e).1
        omega
      · have h1 : x ≤ y := by omega
        simp [h1, h]
theorem wi2 {xs ys lo : List Int} (hl : xs.length = ys.length) (hlo : zmap (fun i j => if j < i then j else i) xs ys = lo) : ((ys.zip xs).all fun q => decide (q.1 ≤ q.2)) = decide (lo = ys) := by
  refine wi1 hl.symm ?_
  rw [zmap_comm _ min_comm', hlo]
theorem wi3 {xs ys lo : List Int} (hl : xs.length = ys.length) (hlo : zmap (fun i j => if j < i then j else i) xs ys = lo) : ((lo.zip xs).all fun q => decide (q.1 ≤ q.2)) = true := by
  subst hlo
  unfold zmap
  induction xs generalizing ys with
  | nil => simp
  | cons x xs ih =>
    cases ys with
    | nil => simp at hl
    | cons y ys =>
      have hl' : xs.length = ys.length := by simpa using hl
      rw [List.zip_cons_cons, List.map_cons, List.zip_cons_cons, List.all_cons, ih hl', Bool.and_true, decide_eq_true_eq]
      dsimp only
      split <;> omega
theorem wi4 {xs ys hi : List Int} (hl : xs.length = ys.length) (hhi : zmap (fun i j => if j > i then j else i) xs ys = hi) : ((xs.zip hi).all fun q => decide (q.1 ≤ q.2)) = true := by
  subst hhi
  unfold zmap
  induction xs generalizing ys with
  | nil => simp
  | cons x xs ih =>
    cases ys with
    | nil => simp at hl
    | cons y ys =>
      have hl' : xs.length = ys.length := by simpa using hl
      rw [List.zip_cons_cons, List.map_cons, List.zip_cons_cons, List.all_cons, ih hl', Bool.and_true, decide_eq_true_eq]
      dsimp only
      split <;> omega
theorem ok_law (T : Top K mg) : FnOk P w K mg base CX0 9 T.a_law T.fd_law ["_law_script"] (spLaw K) := by
  have G_law_take := ok_law_take (P := P) (w := w) (base := base) T
  have G_law_pick := ok_law_pick (P := P) (w := w) (base := base) T
  have G_law_open := ok_law_open (P := P) (w := w) (base := base) T
  have G_law_same := ok_law_same (P := P) (w := w) (base := base) T 5
  have G_law_lesser := ok_law_lesser (P := P) (w := w) (base := base) T
  have G_law_greater := ok_law_greater (P := P) (w := w) (base := base) T
  have G_law_apart := ok_law_apart (P := P) (w := w) (base := base) T
  have G_lesser := ok_lesser (P := P) (w := w) (base := base) T
  have G_greater := ok_greater (P := P) (w := w) (base := base) T
  have G_within := ok_within (P := P) (w := w) (base := base) T
  have G_apart := ok_apart (P := P) (w := w) (base := base) T
  have B_greater_0_other_one : KBn K T.fd_greater ["one", "other"] 0 ["other", "one"] kw21 kw21 := kbn_mk T.F_greater kw21 (fun _ _ _ _ _ _ us ws h1 h2 => match us, ws, h1, h2 with | [], [_, _], _, _ => rfl) kw21_rel
  have B_apart_0_other_one : KBn K T.fd_apart ["one", "other"] 0 ["other", "one"] kw21 kw21 := kbn_mk T.F_apart kw21 (fun _ _ _ _ _ _ us ws h1 h2 => match us, ws, h1, h2 with | [], [_, _], _, _ => rfl) kw21_rel
  have B_within_0_one_other : KBn K T.fd_within ["one", "other"] 0 ["one", "other"] kw12 kw12 := kbn_mk T.F_within kw12 (fun _ _ _ _ _ _ us ws h1 h2 => match us, ws, h1, h2 with | [], [_, _], _, _ => rfl) kw12_rel
  refine T.F_law.ok sc_law (fun vs H Q E h => ?_) (fun cdv A outer s H vs Q E hr h => ?_)
  · obtain ⟨a, ns, rfl, _⟩ := h
    rfl
  · obtain ⟨a, ns, rfl, hS, hlen, q⟩ := h
    refine ⟨_, (C8.pss_cut (ps_set (i := 1) sc_law.nd rfl (by first | exact Or.inl rfl | exact Or.inr rfl) (pe_call G_law_open (hr.mono (by omega)) (by rfl) T.g_law_open T.F_law_open.kp T.b_law_open .nil pass0 (pa_cons (pv 0) pa_nil)))
      (pss_cons (ps_for PassesOwn.never rfl (pi_range1 (by rfl) T.m_range (pa_cons pe_int pa_nil)) (pg_name (i := 2) sc_law.nd rfl (by first | exact Or.inl rfl | exact Or.inr rfl)) (pss_cons (ps_set (i := 3) sc_law.nd rfl (by first | exact Or.inl rfl | exact Or.inr rfl) (pe_callTy (k_tuple K) (by rfl) T.m_tuple (by decide +kernel) (pa_cons (pe_lc (own := [("_law_k", 9)]) (g := gName 9) (tt := tYes) rfl sc_law.nd (pi_range1 (by rfl) T.m_range (pa_cons (pe_op op_add pe_int (pe_call G_law_take (hr.mono (by omega)) (by rfl) T.g_law_take T.F_law_take.kp T.b_law_take .nil pass0 (pa_cons (pv 1) (pa_cons pe_int pa_nil)))) pa_nil)) (blkOk_by (own := [("_law_k", 9)]) (N := N_law) (sc := defScope s_law) (by decide +kernel)) (fun _ _ _ _ _ => (pg_name (i := 9) sc_law.nd rfl (by first | exact Or.inl rfl | exact Or.inr rfl))) (fun _ _ _ _ _ => pts_nil) (fun _ _ _ _ _ => (pe_call G_law_take (hr.mono (by omega)) (by rfl) T.g_law_take T.F_law_take.kp T.b_law_take .nil pass0 (pa_cons (pv 1) (pa_cons pe_int pa_nil))))) pa_nil)))
      (pss_cons (ps_set (i := 3) sc_law.nd rfl (by first | exact Or.inl rfl | exact Or.inr rfl) (pe_op (k_catA K) (pv 3) (pe_tup (pa_cons (pe_call G_law_pick (hr.mono (by omega)) (by rfl) T.g_law_pick T.F_law_pick.kp T.b_law_pick .nil pass0 (pa_cons (pv 1) (pa_cons (pe_lst (pa_cons (pe_op op_sub pe_int (pe_call G_law_take (hr.mono (by omega)) (by rfl) T.g_law_take T.F_law_take.kp T.b_law_take .nil pass0 (pa_cons (pv 1) (pa_cons pe_int pa_nil)))) (pa_cons (pe_call G_law_take (hr.mono (by omega)) (by rfl) T.g_law_take T.F_law_take.kp T.b_law_take .nil pass0 (pa_cons (pv 1) (pa_cons (pe_op op_pow pe_int pe_int) pa_nil))) pa_nil))) pa_nil))) pa_nil))))
      (pss_cons (ps_set (i := 4) sc_law.nd rfl (by first | exact Or.inl rfl | exact Or.inr rfl) (pe_callTy (k_tuple K) (by rfl) T.m_tuple (by decide +kernel) (pa_cons (pe_lc (own := [("_law_number", 10)]) (g := gName 10) (tt := tYes) rfl sc_law.nd (pi_tup (pv 3)) (blkOk_by (own := [("_law_number", 10)]) (N := N_law) (sc := defScope s_law) (by decide +kernel)) (fun _ _ _ _ _ => (pg_name (i := 10) sc_law.nd rfl (by first | exact Or.inl rfl | exact Or.inr rfl))) (fun _ _ _ _ _ => pts_nil) (fun _ _ _ _ _ => (pe_op op_add (pv 10) (pe_call G_law_pick (hr.mono (by omega)) (by rfl) T.g_law_pick T.F_law_pick.kp T.b_law_pick .nil pass0 (pa_cons (pv 1) (pa_cons (pe_lst (pa_cons pe_int (pa_cons pe_int (pa_cons pe_int (pa_cons (pe_un un_neg pe_int) (pa_cons (pe_call G_law_take (hr.mono (by omega)) (by rfl) T.g_law_take T.F_law_take.kp T.b_law_take .nil pass0 (pa_cons (pv 1) (pa_cons pe_int pa_nil))) pa_nil)))))) pa_nil)))))) pa_nil)))
      (pss_cons (ps_par (i := 5) (j := 6) (by rfl) sc_law.nd rfl rfl (by decide) rfl rfl (pa_cons (pe_call G_law_lesser (hr.mono (by omega)) (by rfl) T.g_law_lesser T.F_law_lesser.kp T.b_law_lesser .nil pass0 (pa_cons (pv 3) (pa_cons (pv 4) pa_nil))) (pa_cons (pe_call G_law_greater (hr.mono (by omega)) (by rfl) T.g_law_greater T.F_law_greater.kp T.b_law_greater .nil pass0 (pa_cons (pv 3) (pa_cons (pv 4) pa_nil))) pa_nil)) (by rfl))
      (pss_cons (ps_if (pt_not (pt_val (pe_call G_law_same (hr.mono (by omega)) (by rfl) T.g_law_same T.F_law_same.kp T.b_law_same .nil pass0 (pa_cons (pe_lst (pa_cons (pe_call G_lesser (hr.mono (by omega)) (by rfl) T.g_lesser T.F_lesser.kp T.b_lesser .nil pass0 (pa_cons (pv 3) (pa_cons (pv 4) pa_nil))) (pa_cons (pe_call G_greater (hr.mono (by omega)) (by rfl) T.g_greater T.F_greater.kp T.b_greater .nil pass0 (pa_cons (pv 3) (pa_cons (pv 4) pa_nil))) pa_nil))) (pa_cons (pe_lst (pa_cons (pv 5) (pa_cons (pv 6) pa_nil))) pa_nil))))) (pss_one (ps_ret pe_bl)) pss_nil)
      (pss_cons (ps_if (pt_not (pt_val (pe_call G_law_same (hr.mono (by omega)) (by rfl) T.g_law_same T.F_law_same.kp T.b_law_same .nil pass0 (pa_cons (pe_lst (pa_cons (pe_call G_lesser (hr.mono (by omega)) (by rfl) T.g_lesser T.F_lesser.kp T.b_lesser .nil pass0 (pa_cons (pv 4) (pa_cons (pv 3) pa_nil))) (pa_cons (pe_callK0 G_greater (hr.mono (by omega)) (by rfl) T.g_greater T.F_greater.kp B_greater_0_other_one pass0 (pk_cons (pv 4) (pk_cons (pv 3) pk_nil))) pa_nil))) (pa_cons (pe_lst (pa_cons (pv 5) (pa_cons (pv 6) pa_nil))) pa_nil))))) (pss_one (ps_ret pe_bl)) pss_nil)
      (pss_cons (ps_set (i := 7) sc_law.nd rfl (by first | exact Or.inl rfl | exact Or.inr rfl) (pe_call G_law_apart (hr.mono (by omega)) (by rfl) T.g_law_apart T.F_law_apart.kp T.b_law_apart .nil pass0 (pa_cons (pv 3) (pa_cons (pv 4) pa_nil))))
      (pss_cons (ps_if (pt_not (pt_val (pe_call G_law_same (hr.mono (by omega)) (by rfl) T.g_law_same T.F_law_same.kp T.b_law_same .nil pass0 (pa_cons (pe_lst (pa_cons (pe_call G_apart (hr.mono (by omega)) (by rfl) T.g_apart T.F_apart.kp T.b_apart .nil pass0 (pa_cons (pv 3) (pa_cons (pv 4) pa_nil))) (pa_cons (pe_callK0 G_apart (hr.mono (by omega)) (by rfl) T.g_apart T.F_apart.kp B_apart_0_other_one pass0 (pk_cons (pv 3) (pk_cons (pv 4) pk_nil))) (pa_cons (pe_call G_apart (hr.mono (by omega)) (by rfl) T.g_apart T.F_apart.kp T.b_apart .nil pass0 (pa_cons (pv 3) (pa_cons (pv 3) pa_nil))) pa_nil)))) (pa_cons (pe_lst (pa_cons (pv 7) (pa_cons (pv 7) (pa_cons pe_int pa_nil)))) pa_nil))))) (pss_one (ps_ret pe_bl)) pss_nil)
      (pss_cons (ps_set (i := 8) sc_law.nd rfl (by first | exact Or.inl rfl | exact Or.inr rfl) (pe_lst (pa_cons (pe_call G_within (hr.mono (by omega)) (by rfl) T.g_within T.F_within.kp T.b_within .nil pass0 (pa_cons (pv 3) (pa_cons (pv 4) pa_nil))) (pa_cons (pe_call G_within (hr.mono (by omega)) (by rfl) T.g_within T.F_within.kp T.b_within .nil pass0 (pa_cons (pv 4) (pa_cons (pv 3) pa_nil))) (pa_cons (pe_call G_within (hr.mono (by omega)) (by rfl) T.g_within T.F_within.kp T.b_within .nil pass0 (pa_cons (pv 5) (pa_cons (pv 3) pa_nil))) pa_nil)))))
      (pss_cons (ps_expr (pe_bm PySem.F.plainAttrs_list PySem.F.slot_list_append PySem.F.type_list_append mt_append (pv 8) (pa_cons (pe_callK0 G_within (hr.mono (by omega)) (by rfl) T.g_within T.F_within.kp B_within_0_one_other pass0 (pk_cons (pv 3) (pk_cons (pv 6) pk_nil))) pa_nil)))
      (pss_one (ps_if (pt_not (pt_val (pe_call G_law_same (hr.mono (by omega)) (by rfl) T.g_law_same T.F_law_same.kp T.b_law_same .nil pass0 (pa_cons (pv 8) (pa_cons (pe_lst (pa_cons (pe_cmpR (k_eqD K hr.units) (pv 5) (pv 3) (nomark _)) (pa_cons (pe_cmpR (k_eqD K hr.units) (pv 5) (pv 4) (nomark _)) (pa_cons pe_bl (pa_cons pe_bl pa_nil))))) pa_nil))))) (pss_one (ps_ret pe_bl)) pss_nil)))))))))))))
      (pss_one (ps_ret pe_bl)))), ?_⟩
    refine ⟨fun σ' H' => ∃ b l ms, σ' = [some (.ref a), some (.ref b), none, none, none, none, none, none, none, none, none] ∧ b ≠ l ∧ H' b = some (.lst [.ref l, .int 0, .int 0, .int 9465, .int 0]) ∧ H' l = some (.lst (ms.map V.int)), ⟨.ref a, rfl, a, ns, rfl, hS, fun b l ms H1 nbl hb hl => ⟨b, l, ms, rfl, nbl, hb, hl⟩⟩, ?_⟩
    rintro σ1 H1 ⟨b, l, ms, rfl, nbl, hb, hl⟩
    obtain ⟨I, k, n⟩ := bag_start (K := K) (n := 9) nbl hb hl (σ := [some (.ref a), some (.ref b), none, none, none, none, none, none, none, none, none]) rfl rfl
    refine law_run k n ?_ q
    refine sv_seq (N' := fun _ => True) (sv_for (itd_rng0 (n := 8) (ea_cons1 ev_int ea_nil) (by decide)) fun ds e => ⟨fun _ δ => δ.length = 11 ∧ δ[1]? = some (some .bag), ⟨rfl, rfl⟩, fun k d δk hd hj => ?_, fun _ _ => True.intro⟩) fun δ' _ => sv_ret ev_bl fun r e => e
    refine ⟨_, _, tg_name (by rw [hj.1]; decide), ?_⟩
    refine sv_bag (n := 9) (by rw [List.length_set]; exact hj.1) (by rw [List.getElem?_set_ne (by decide)]; exact hj.2) ?_
    refine sv_seq (N' := fun δ' => ∃ xs : List Int, δ' = [none, some .bag, none, some (.dat (nums xs)), none, none, none, none, none, none, none] ∧ xs.length ≤ 4) (sv_asg (ev_tlcI (C := fun _ _ => True) (itd_rngC ((ei_I0 ei_int (ev_take rfl ev_int (by decide))).mono (B := fun n => 0 ≤ n ∧ n ≤ 4) ?_) (fun n h => by omega)) (hv1 rfl) (by decide) ?_ (fun x => tg_name (ltr rfl)) fun l a x hx => (ev_take rfl ev_int (by decide)).mono fun _ _ => True.intro) (ltr rfl) ?_) ?_
    · rintro n ⟨i, j, rfl, hj, rfl⟩
      omega
    · rintro l ⟨n, rfl, hn⟩
      rw [List.length_range]
      omega
    · rintro r ⟨ns, rfl, l, ⟨n, rfl, hn⟩, hp⟩
      refine ⟨(fun _ z => by cases z), ns, rfl, ?_⟩
      have := paired_len hp
      rw [List.length_range] at this
      omega
    rintro δ' ⟨xs, rfl, hxs⟩
    refine sv_seq (N' := fun δ' => ∃ xs : List Int, δ' = [none, some .bag, none, some (.dat (nums xs)), none, none, none, none, none, none, none] ∧ xs.length ≤ 5) (sv_asg (P := fun r => ∃ xs : List Int, r = .dat (nums xs) ∧ xs.length ≤ 5) (ev_op (ev_var rfl) (ev_tupI (ea_consI (ev_pickI rfl (ea_consI (ei_I0 ei_int (ev_take rfl ev_int (by decide))) (ea_consI (ev_take rfl (ev_i2c ev_int ev_int ⟨by decide, by decide, by decide⟩) (by decide)) ea_nilI)) ?_) ea_nilI) ?_) ?_) (ltr rfl) ?_) ?_
    · rintro ns ⟨i, ms, rfl, _, i2, ms2, rfl, _, rfl⟩
      simp
    · rintro ns ⟨i, ms, rfl, _, rfl⟩
      simp
    · rintro x y e ⟨ns, f, i, ms, e2, _, e3⟩
      subst e f e2 e3
      have z : xs.map PyData.int ++ [i].map PyData.int = (xs ++ [i]).map .int := (List.map_append).symm
      refine fun H0 I H v w k r1 r2 Q q => od_cat (by rw [List.length_map]; simp; omega) H0 I H v w k r1 r2 Q fun z' u I' H' p => q z' u I' H' ⟨xs ++ [i], by rw [p, z], by simp; omega⟩
    · rintro r ⟨ns, rfl, h⟩
      exact ⟨(fun _ z => by cases z), ns, rfl, h⟩
    rintro δ' ⟨xs, rfl, hxs⟩
    refine sv_seq (N' := fun δ' => ∃ ys : List Int, δ' = [none, some .bag, none, some (.dat (nums xs)), some (.dat (nums ys)), none, none, none, none, none, none] ∧ xs.length = ys.length) (sv_asg (ev_tlcI (C := fun _ _ => True) (itd_nums1 (ev_var rfl)) (hv1 rfl) (by decide) (fun l e => by rw [e]; omega) (fun x => tg_name (ltr rfl)) fun l a x hx => (ei_I0 (ei_var rfl) (ev_pickI rfl (ea_consI ei_int (ea_consI ei_int (ea_consI ei_int (ea_consI (ei_U ei_int) (ea_consI (ev_take rfl ev_int (by decide)) ea_nilI))))) ?_)).mono fun _ _ => True.intro) (ltr rfl) ?_) ?_
    · rintro ns ⟨i, ms, rfl, _, i2, ms2, rfl, _, i3, ms3, rfl, _, i4, ms4, rfl, _, i5, ms5, rfl, _, rfl⟩
      simp
    · rintro r ⟨ns, rfl, l, rfl, hp⟩
      exact ⟨(fun _ z => by cases z), ns, rfl, paired_len hp⟩
    rintro δ' ⟨ys, rfl, hl⟩
    have ok12 : okTwo (xs, ys) := ⟨hl, by show xs.length ≤ 1000; omega⟩
    have ok21 : okTwo (ys, xs) := ⟨hl.symm, by show ys.length ≤ 1000; omega⟩
    have ok11 : okTwo (xs, xs) := ⟨rfl, by show xs.length ≤ 1000; omega⟩
    generalize hlo : zmap (fun i j => if j < i then j else i) xs ys = lo
    generalize hhi : zmap (fun i j => if j > i then j else i) xs ys = hi
    have llo : lo.length = xs.length := by rw [← hlo, zmap_len]; omega
    have lhi : hi.length = xs.length := by rw [← hhi, zmap_len]; omega
    have fl : ∀ zs : List Int, zs.length = xs.length → Flat 4 (nums zs) := fun zs h => flat_nums (by omega)
    refine sv_seq1 (sv_par (r := .dat (nums lo)) (s := .dat (nums hi)) (ea_cons1 (ev_two rfl rfl ok12 fun r e => by rw [e, hlo]) (ea_cons1 (ev_two rfl rfl ok12 fun r e => by rw [e, hhi]) ea_nil)) (ltr rfl) (ltr rfl) (fun _ z => by cases z) (fun _ z => by cases z)) ?_
    refine sv_skip (et_not1 (et_B1 (ev_same (d := .list [nums lo, nums hi]) (ev_frz1 (ev_lst1 (ds := [nums lo, nums hi]) (ea_cons1 (ev_two rfl rfl ok12 fun r e => by rw [e, hlo]) (ea_cons1 (ev_two rfl rfl ok12 fun r e => by rw [e, hhi]) ea_nil)) (by simp))) (ev_frz1 (ev_lst1 (ds := [nums lo, nums hi]) (ea_cons1 (ev_var rfl) (ea_cons1 (ev_var rfl) ea_nil)) (by simp))) (flat_l (by simp) (all_cons (fl _ llo) (all_cons (fl _ lhi) all_nil)))))) ?_
    refine sv_skip (et_not1 (et_B1 (ev_same (d := .list [nums lo, nums hi]) (ev_frz1 (ev_lst1 (ds := [nums lo, nums hi]) (ea_cons1 (ev_two rfl rfl ok21 fun r e => by rw [e, zmap_comm _ min_comm', hlo]) (ea_cons1 (ev_kw21 (xs, ys) (ea_cons1 (ev_var rfl) (ea_cons1 (ev_var rfl) ea_nil)) rfl ok12 (fun r e => by rw [e, hhi]) (fun _ z => by cases z) (fun _ z => by cases z)) ea_nil)) (by simp))) (ev_frz1 (ev_lst1 (ds := [nums lo, nums hi]) (ea_cons1 (ev_var rfl) (ea_cons1 (ev_var rfl) ea_nil)) (by simp))) (flat_l (by simp) (all_cons (fl _ llo) (all_cons (fl _ lhi) all_nil)))))) ?_
    generalize hdu : (zmap (fun i j => absI (i - j)) xs ys).sum = du
    refine sv_seq1 (sv_set (ev_two rfl rfl ok12 fun r e => by rw [e, hdu])) ?_
    refine sv_skip (et_not1 (et_B1 (ev_same (d := .list [.int du, .int du, .int 0]) (ev_frz1 (ev_lst1 (ds := [.int du, .int du, .int 0]) (ea_cons1 (ev_two rfl rfl ok12 fun r e => by rw [e, hdu]) (ea_cons1 (ev_kw21 (ys, xs) (ea_cons1 (ev_var rfl) (ea_cons1 (ev_var rfl) ea_nil)) rfl ok21 (fun r e => by rw [e, zmap_comm _ abs_comm', hdu]) (fun _ z => by cases z) (fun _ z => by cases z)) (ea_cons1 (ev_two rfl rfl ok11 fun r e => by rw [e, abs_self']) ea_nil))) (by simp))) (ev_frz1 (ev_lst1 (ds := [.int du, .int du, .int 0]) (ea_cons1 (ev_var rfl) (ea_cons1 (ev_var rfl) (ea_cons1 ev_int ea_nil))) (by simp))) (flat_l (by simp) (all_cons flat_int (all_cons flat_int (all_cons flat_int all_nil))))))) ?_
    refine sv_seq1 (sv_set (r := .own [.bool (decide (lo = xs)), .bool (decide (lo = ys)), .bool true]) (ev_lst1 (ds := [.bool (decide (lo = xs)), .bool (decide (lo = ys)), .bool true]) (ea_cons1 (ev_two rfl rfl ok12 fun r e => by rw [e, wi1 hl hlo]) (ea_cons1 (ev_two rfl rfl ok21 fun r e => by rw [e, wi2 hl hlo]) (ea_cons1 (ev_two rfl rfl ⟨llo, by show lo.length ≤ 1000; omega⟩ fun r e => by rw [e, wi3 hl hlo]) ea_nil))) (by simp))) ?_
    refine sv_seq1 (sv_append (i := 8) (A := fun d => d = .bool true) rfl rfl (by simp) ((ev_kw12 (xs, hi) (ea_cons1 (ev_var rfl) (ea_cons1 (ev_var rfl) ea_nil)) rfl ⟨lhi.symm, by show xs.length ≤ 1000; omega⟩ (fun r e => e) (fun _ z => by cases z) (fun _ z => by cases z)).mono fun r e => ⟨_, e, by rw [wi4 hl hhi]⟩) fun d e => by rw [e]) ?_
    refine sv_frz (i := 8) rfl (noBor_at rfl) ?_
    refine sv_if (et_not1 (et_B1 (ev_same (d := .list [.bool (decide (lo = xs)), .bool (decide (lo = ys)), .bool true, .bool true]) (ev_var rfl) (ev_frz1 (ev_lst1 (ds := [.bool (decide (lo = xs)), .bool (decide (lo = ys)), .bool true, .bool true]) (ea_cons1 ((ev_eqD (ev_var rfl) (ev_var rfl) (shaped_nums _) (shaped_nums _)).to (by rw [eqv_nums])) (ea_cons1 ((ev_eqD (ev_var rfl) (ev_var rfl) (shaped_nums _) (shaped_nums _)).to (by rw [eqv_nums])) (ea_cons1 ev_bl (ea_cons1 ev_bl ea_nil)))) (by simp))) (flat_l (by simp) (all_cons flat_bool (all_cons flat_bool (all_cons flat_bool (all_cons flat_bool all_nil)))))))) (fun z => by cases z) fun _ => sv_nil ⟨rfl, rfl⟩
end
theorem all_mk {l : PySem.W.OpenLaw} {w : World} {K : PySem.W.Frag} {h : Heap} {mg : Str → Option Value} {fa : Addr} (X : K.In h) (G : h.Ns mainGlobals mg) (hfa : mg "law" = some (.ref fa))
    {f_lesser : Addr} {od_lesser an_lesser : Option Addr} {sl_lesser : Array (Option Value)} {oc_lesser kV_lesser dc_lesser pm_lesser cd_lesser ct_lesser : Value}
    (a_lesser : PySem.W.nsIn K mainGlobals "lesser" = some (some (.ref f_lesser))) (l_lesser : K.lookup f_lesser = some ⟨oc_lesser, od_lesser, .func (PySem.W.fnOf "lesser" "lesser" (defArgs s_lesser) (defBody s_lesser) (defScope s_lesser) .none kV_lesser dc_lesser pm_lesser an_lesser cd_lesser ct_lesser), sl_lesser⟩) (c_lesser : PySem.W.codeIn K cd_lesser "lesser" = true) (k_lesser : PySem.W.keepIn K (.ref f_lesser) = true)
    {f_greater : Addr} {od_greater an_greater : Option Addr} {sl_greater : Array (Option Value)} {oc_greater kV_greater dc_greater pm_greater cd_greater ct_greater : Value}
    (a_greater : PySem.W.nsIn K mainGlobals "greater" = some (some (.ref f_greater))) (l_greater : K.lookup f_greater = some ⟨oc_greater, od_greater, .func (PySem.W.fnOf "greater" "greater" (defArgs s_greater) (defBody s_greater) (defScope s_greater) .none kV_greater dc_greater pm_greater an_greater cd_greater ct_greater), sl_greater⟩) (c_greater : PySem.W.codeIn K cd_greater "greater" = true) (k_greater : PySem.W.keepIn K (.ref f_greater) = true)
    {f_within : Addr} {od_within an_within : Option Addr} {sl_within : Array (Option Value)} {oc_within kV_within dc_within pm_within cd_within ct_within : Value}
    (a_within : PySem.W.nsIn K mainGlobals "within" = some (some (.ref f_within))) (l_within : K.lookup f_within = some ⟨oc_within, od_within, .func (PySem.W.fnOf "within" "within" (defArgs s_within) (defBody s_within) (defScope s_within) .none kV_within dc_within pm_within an_within cd_within ct_within), sl_within⟩) (c_within : PySem.W.codeIn K cd_within "within" = true) (k_within : PySem.W.keepIn K (.ref f_within) = true)
    {f_apart : Addr} {od_apart an_apart : Option Addr} {sl_apart : Array (Option Value)} {oc_apart kV_apart dc_apart pm_apart cd_apart ct_apart : Value}
    (a_apart : PySem.W.nsIn K mainGlobals "apart" = some (some (.ref f_apart))) (l_apart : K.lookup f_apart = some ⟨oc_apart, od_apart, .func (PySem.W.fnOf "apart" "apart" (defArgs s_apart) (defBody s_apart) (defScope s_apart) .none kV_apart dc_apart pm_apart an_apart cd_apart ct_apart), sl_apart⟩) (c_apart : PySem.W.codeIn K cd_apart "apart" = true) (k_apart : PySem.W.keepIn K (.ref f_apart) = true)
    {f_law_open : Addr} {od_law_open an_law_open : Option Addr} {sl_law_open : Array (Option Value)} {oc_law_open kV_law_open dc_law_open pm_law_open cd_law_open ct_law_open : Value}
    (a_law_open : PySem.W.nsIn K mainGlobals "_law_open" = some (some (.ref f_law_open))) (l_law_open : K.lookup f_law_open = some ⟨oc_law_open, od_law_open, .func (PySem.W.fnOf "_law_open" "_law_open" (defArgs s_law_open) (defBody s_law_open) (defScope s_law_open) .none kV_law_open dc_law_open pm_law_open an_law_open cd_law_open ct_law_open), sl_law_open⟩) (c_law_open : PySem.W.codeIn K cd_law_open "_law_open" = true) (k_law_open : PySem.W.keepIn K (.ref f_law_open) = true)
    {f_law_take : Addr} {od_law_take an_law_take : Option Addr} {sl_law_take : Array (Option Value)} {oc_law_take kV_law_take dc_law_take pm_law_take cd_law_take ct_law_take : Value}
    (a_law_take : PySem.W.nsIn K mainGlobals "_law_take" = some (some (.ref f_law_take))) (l_law_take : K.lookup f_law_take = some ⟨oc_law_take, od_law_take, .func (PySem.W.fnOf "_law_take" "_law_take" (defArgs s_law_take) (defBody s_law_take) (defScope s_law_take) .none kV_law_take dc_law_take pm_law_take an_law_take cd_law_take ct_law_take), sl_law_take⟩) (c_law_take : PySem.W.codeIn K cd_law_take "_law_take" = true) (k_law_take : PySem.W.keepIn K (.ref f_law_take) = true)
    {f_law_pick : Addr} {od_law_pick an_law_pick : Option Addr} {sl_law_pick : Array (Option Value)} {oc_law_pick kV_law_pick dc_law_pick pm_law_pick cd_law_pick ct_law_pick : Value}
    (a_law_pick : PySem.W.nsIn K mainGlobals "_law_pick" = some (some (.ref f_law_pick))) (l_law_pick : K.lookup f_law_pick = some ⟨oc_law_pick, od_law_pick, .func (PySem.W.fnOf "_law_pick" "_law_pick" (defArgs s_law_pick) (defBody s_law_pick) (defScope s_law_pick) .none kV_law_pick dc_law_pick pm_law_pick an_law_pick cd_law_pick ct_law_pick), sl_law_pick⟩) (c_law_pick : PySem.W.codeIn K cd_law_pick "_law_pick" = true) (k_law_pick : PySem.W.keepIn K (.ref f_law_pick) = true)
    {f_law_same : Addr} {od_law_same an_law_same : Option Addr} {sl_law_same : Array (Option Value)} {oc_law_same kV_law_same dc_law_same pm_law_same cd_law_same ct_law_same : Value}
    (a_law_same : PySem.W.nsIn K mainGlobals "_law_same" = some (some (.ref f_law_same))) (l_law_same : K.lookup f_law_same = some ⟨oc_law_same, od_law_same, .func (PySem.W.fnOf "_law_same" "_law_same" (defArgs s_law_same) (defBody s_law_same) (defScope s_law_same) .none kV_law_same dc_law_same pm_law_same an_law_same cd_law_same ct_law_same), sl_law_same⟩) (c_law_same : PySem.W.codeIn K cd_law_same "_law_same" = true) (k_law_same : PySem.W.keepIn K (.ref f_law_same) = true)
    {f_law_lesser : Addr} {od_law_lesser an_law_lesser : Option Addr} {sl_law_lesser : Array (Option Value)} {oc_law_lesser kV_law_lesser dc_law_lesser pm_law_lesser cd_law_lesser ct_law_lesser : Value}
    (a_law_lesser : PySem.W.nsIn K mainGlobals "_law_lesser" = some (some (.ref f_law_lesser))) (l_law_lesser : K.lookup f_law_lesser = some ⟨oc_law_lesser, od_law_lesser, .func (PySem.W.fnOf "_law_lesser" "_law_lesser" (defArgs s_law_lesser) (defBody s_law_lesser) (defScope s_law_lesser) .none kV_law_lesser dc_law_lesser pm_law_lesser an_law_lesser cd_law_lesser ct_law_lesser), sl_law_lesser⟩) (c_law_lesser : PySem.W.codeIn K cd_law_lesser "_law_lesser" = true) (k_law_lesser : PySem.W.keepIn K (.ref f_law_lesser) = true)
    {f_law_greater : Addr} {od_law_greater an_law_greater : Option Addr} {sl_law_greater : Array (Option Value)} {oc_law_greater kV_law_greater dc_law_greater pm_law_greater cd_law_greater ct_law_greater : Value}
    (a_law_greater : PySem.W.nsIn K mainGlobals "_law_greater" = some (some (.ref f_law_greater))) (l_law_greater : K.lookup f_law_greater = some ⟨oc_law_greater, od_law_greater, .func (PySem.W.fnOf "_law_greater" "_law_greater" (defArgs s_law_greater) (defBody s_law_greater) (defScope s_law_greater) .none kV_law_greater dc_law_greater pm_law_greater an_law_greater cd_law_greater ct_law_greater), sl_law_greater⟩) (c_law_greater : PySem.W.codeIn K cd_law_greater "_law_greater" = true) (k_law_greater : PySem.W.keepIn K (.ref f_law_greater) = true)
    {f_law_apart : Addr} {od_law_apart an_law_apart : Option Addr} {sl_law_apart : Array (Option Value)} {oc_law_apart kV_law_apart dc_law_apart pm_law_apart cd_law_apart ct_law_apart : Value}
    (a_law_apart : PySem.W.nsIn K mainGlobals "_law_apart" = some (some (.ref f_law_apart))) (l_law_apart : K.lookup f_law_apart = some ⟨oc_law_apart, od_law_apart, .func (PySem.W.fnOf "_law_apart" "_law_apart" (defArgs s_law_apart) (defBody s_law_apart) (defScope s_law_apart) .none kV_law_apart dc_law_apart pm_law_apart an_law_apart cd_law_apart ct_law_apart), sl_law_apart⟩) (c_law_apart : PySem.W.codeIn K cd_law_apart "_law_apart" = true) (k_law_apart : PySem.W.keepIn K (.ref f_law_apart) = true)
    {f_law : Addr} {od_law an_law : Option Addr} {sl_law : Array (Option Value)} {oc_law kV_law dc_law pm_law cd_law ct_law : Value}
    (a_law : PySem.W.nsIn K mainGlobals "law" = some (some (.ref f_law))) (l_law : K.lookup f_law = some ⟨oc_law, od_law, .func (PySem.W.fnOf "law" "law" (defArgs s_law) (defBody s_law) (defScope s_law) .none kV_law dc_law pm_law an_law cd_law ct_law), sl_law⟩) (c_law : PySem.W.codeIn K cd_law "law" = true) (k_law : PySem.W.keepIn K (.ref f_law) = true)
    (z_tuple : PySem.W.nsIn K mainGlobals "tuple" = some none)
    (z_min : PySem.W.nsIn K mainGlobals "min" = some none)
    (z_zip : PySem.W.nsIn K mainGlobals "zip" = some none)
    (z_max : PySem.W.nsIn K mainGlobals "max" = some none)
    (z_all : PySem.W.nsIn K mainGlobals "all" = some none)
    (z_sum : PySem.W.nsIn K mainGlobals "sum" = some none)
    (z_abs : PySem.W.nsIn K mainGlobals "abs" = some none)
    (z_list : PySem.W.nsIn K mainGlobals "list" = some none)
    (z_len : PySem.W.nsIn K mainGlobals "len" = some none)
    (z_isinstance : PySem.W.nsIn K mainGlobals "isinstance" = some none)
    (z_bool : PySem.W.nsIn K mainGlobals "bool" = some none)
    (z_int : PySem.W.nsIn K mainGlobals "int" = some none)
    (z_str : PySem.W.nsIn K mainGlobals "str" = some none)
    (z_range : PySem.W.nsIn K mainGlobals "range" = some none)
    : ∃ fd : FuncData, (∀ (s : Shared) (v : Value), BindsTo s fd ⟨[v], []⟩ [("_law_script", v)]) ∧ ∀ base : Heap, K.In base → base.Ns mainGlobals mg → FnOk l.prog w K mg base CX0 9 fa fd ["_law_script"] (spLaw K) := by
  have e := hfa.symm.trans (PySem.W.mg_of X G a_law)
  cases e
  have F_lesser := fun_mk (st := s_lesser) l_lesser c_lesser k_lesser
  have F_greater := fun_mk (st := s_greater) l_greater c_greater k_greater
  have F_within := fun_mk (st := s_within) l_within c_within k_within
  have F_apart := fun_mk (st := s_apart) l_apart c_apart k_apart
  have F_law_open := fun_mk (st := s_law_open) l_law_open c_law_open k_law_open
  have F_law_take := fun_mk (st := s_law_take) l_law_take c_law_take k_law_take
  have F_law_pick := fun_mk (st := s_law_pick) l_law_pick c_law_pick k_law_pick
  have F_law_same := fun_mk (st := s_law_same) l_law_same c_law_same k_law_same
  have F_law_lesser := fun_mk (st := s_law_lesser) l_law_lesser c_law_lesser k_law_lesser
  have F_law_greater := fun_mk (st := s_law_greater) l_law_greater c_law_greater k_law_greater
  have F_law_apart := fun_mk (st := s_law_apart) l_law_apart c_law_apart k_law_apart
  have F_law := fun_mk (st := s_law) l_law c_law k_law
  let T : Top K mg := ⟨f_lesser, _, F_lesser, PySem.W.mg_of X G a_lesser, F_lesser.binds (ps := ["one", "other"]) (fun _ _ _ _ _ _ us hl => match us, hl with | [_, _], _ => rfl),
    f_greater, _, F_greater, PySem.W.mg_of X G a_greater, F_greater.binds (ps := ["one", "other"]) (fun _ _ _ _ _ _ us hl => match us, hl with | [_, _], _ => rfl),
    f_within, _, F_within, PySem.W.mg_of X G a_within, F_within.binds (ps := ["one", "other"]) (fun _ _ _ _ _ _ us hl => match us, hl with | [_, _], _ => rfl),
    f_apart, _, F_apart, PySem.W.mg_of X G a_apart, F_apart.binds (ps := ["one", "other"]) (fun _ _ _ _ _ _ us hl => match us, hl with | [_, _], _ => rfl),
    f_law_open, _, F_law_open, PySem.W.mg_of X G a_law_open, F_law_open.binds (ps := ["_law_script"]) (fun _ _ _ _ _ _ us hl => match us, hl with | [_], _ => rfl),
    f_law_take, _, F_law_take, PySem.W.mg_of X G a_law_take, F_law_take.binds (ps := ["_law_bag", "_law_sides"]) (fun _ _ _ _ _ _ us hl => match us, hl with | [_, _], _ => rfl),
    f_law_pick, _, F_law_pick, PySem.W.mg_of X G a_law_pick, F_law_pick.binds (ps := ["_law_bag", "_law_row"]) (fun _ _ _ _ _ _ us hl => match us, hl with | [_, _], _ => rfl),
    f_law_same, _, F_law_same, PySem.W.mg_of X G a_law_same, F_law_same.binds (ps := ["_law_found", "_law_due"]) (fun _ _ _ _ _ _ us hl => match us, hl with | [_, _], _ => rfl),
    f_law_lesser, _, F_law_lesser, PySem.W.mg_of X G a_law_lesser, F_law_lesser.binds (ps := ["_law_mone", "_law_mother"]) (fun _ _ _ _ _ _ us hl => match us, hl with | [_, _], _ => rfl),
    f_law_greater, _, F_law_greater, PySem.W.mg_of X G a_law_greater, F_law_greater.binds (ps := ["_law_mone", "_law_mother"]) (fun _ _ _ _ _ _ us hl => match us, hl with | [_, _], _ => rfl),
    f_law_apart, _, F_law_apart, PySem.W.mg_of X G a_law_apart, F_law_apart.binds (ps := ["_law_mone", "_law_mother"]) (fun _ _ _ _ _ _ us hl => match us, hl with | [_, _], _ => rfl),
    fa, _, F_law, PySem.W.mg_of X G a_law, F_law.binds (ps := ["_law_script"]) (fun _ _ _ _ _ _ us hl => match us, hl with | [_], _ => rfl),
    PySem.W.mg_none_of X G z_tuple,
    PySem.W.mg_none_of X G z_min,
    PySem.W.mg_none_of X G z_zip,
    PySem.W.mg_none_of X G z_max,
    PySem.W.mg_none_of X G z_all,
    PySem.W.mg_none_of X G z_sum,
    PySem.W.mg_none_of X G z_abs,
    PySem.W.mg_none_of X G z_list,
    PySem.W.mg_none_of X G z_len,
    PySem.W.mg_none_of X G z_isinstance,
    PySem.W.mg_none_of X G z_bool,
    PySem.W.mg_none_of X G z_int,
    PySem.W.mg_none_of X G z_str,
    PySem.W.mg_none_of X G z_range⟩
  exact ⟨PySem.W.fnOf "law" "law" (defArgs s_law) (defBody s_law) (defScope s_law) .none kV_law dc_law pm_law an_law cd_law ct_law, fun s v => .of_eq rfl, fun base _ _ => ok_law T⟩
end Lw
open PySem PySem.W PyProof.Rows
set_option maxHeartbeats 0 in
theorem PySem.Challenge.cw_hidelater_k04_rows_of_numbers_beside_one_holds : PySem.Challenge.rw_hidelater_k04_rows_of_numbers_beside_one.Holds := by
  w_on; o_law; k_head; (case hw => w_witness2)
  k_fill
  refine L2.walk_of (l := PySem.Challenge.rw_hidelater_k04_rows_of_numbers_beside_one) (n := 63) (k := 9) (x := "_law_script") (CX := fun _ => L2.CX0) (sp := fun w => Lw.spLaw _) rfl (by decide) rfl ⟨rfl, by decide, by decide⟩ (fun w h Y => PySem.W.kIn_of Y) ?F (fun _ _ a ns hl hO hS => ⟨a, ns, rfl, hS, hl, fun _ => rfl⟩) (fun _ _ _ _ _ h => h)
  case F =>
    intro w mg fa h KX G hmg
    refine' Lw.all_mk KX G hmg ?a_lesser ?l_lesser ?c_lesser ?k_lesser ?a_greater ?l_greater ?c_greater ?k_greater ?a_within ?l_within ?c_within ?k_within ?a_apart ?l_apart ?c_apart ?k_apart ?a_law_open ?l_law_open ?c_law_open ?k_law_open ?a_law_take ?l_law_take ?c_law_take ?k_law_take ?a_law_pick ?l_law_pick ?c_law_pick ?k_law_pick ?a_law_same ?l_law_same ?c_law_same ?k_law_same ?a_law_lesser ?l_law_lesser ?c_law_lesser ?k_law_lesser ?a_law_greater ?l_law_greater ?c_law_greater ?k_law_greater ?a_law_apart ?l_law_apart ?c_law_apart ?k_law_apart ?a_law ?l_law ?c_law ?k_law ?z_tuple ?z_min ?z_zip ?z_max ?z_all ?z_sum ?z_abs ?z_list ?z_len ?z_isinstance ?z_bool ?z_int ?z_str ?z_range
    (case a_lesser => k_is); (case l_lesser => k_is); (case c_lesser => k_is); (case k_lesser => k_is); (case a_greater => k_is); (case l_greater => k_is); (case c_greater => k_is); (case k_greater => k_is); (case a_within => k_is); (case l_within => k_is); (case c_within => k_is); (case k_within => k_is); (case a_apart => k_is); (case l_apart => k_is); (case c_apart => k_is); (case k_apart => k_is); (case a_law_open => k_is); (case l_law_open => k_is); (case c_law_open => k_is); (case k_law_open => k_is); (case a_law_take => k_is); (case l_law_take => k_is); (case c_law_take => k_is); (case k_law_take => k_is); (case a_law_pick => k_is); (case l_law_pick => k_is); (case c_law_pick => k_is); (case k_law_pick => k_is); (case a_law_same => k_is); (case l_law_same => k_is); (case c_law_same => k_is); (case k_law_same => k_is); (case a_law_lesser => k_is); (case l_law_lesser => k_is); (case c_law_lesser => k_is); (case k_law_lesser => k_is); (case a_law_greater => k_is); (case l_law_greater => k_is); (case c_law_greater => k_is); (case k_law_greater => k_is); (case a_law_apart => k_is); (case l_law_apart => k_is); (case c_law_apart => k_is); (case k_law_apart => k_is); (case a_law => k_is); (case l_law => k_is); (case c_law => k_is); (case k_law => k_is); (case z_tuple => k_is); (case z_min => k_is); (case z_zip => k_is); (case z_max => k_is); (case z_all => k_is); (case z_sum => k_is); (case z_abs => k_is); (case z_list => k_is); (case z_len => k_is); (case z_isinstance => k_is); (case z_bool => k_is); (case z_int => k_is); (case z_str => k_is); (case z_range => k_is)
