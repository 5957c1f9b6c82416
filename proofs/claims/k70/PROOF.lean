import PyProof.Rows.All
import Wide.All
import OpenK.AllK
import Wide.FinOn
import HandS.ForMost
import HandS.Walk
import HandS.Zip
import HandS.IsInst
import HandS.Wide
import HandS.TupAny
import HandS.TupMul
import HandS.SetFor
import PyProof.Draws
import KE.GoesMore
import KE.GoesEnum
import HandS.EndBits
import HandS.Flow
import HandS.Lambda
import HandS.TupLen
import HandS.Conv
import KE.KeyNested
import KE.KDictDisplayH
import HandS.EndTab
import HandS.Defaults
import HandS.Codes
import HandS.ExcInit
import HandS.ExcField
import HandS.TryMany
import HandS.ExcOwn
import HandS.WordsExc
import HandS.ExcIs
import HandS.CallLocal
import HandS.SortInts
import HandS.Deep
import KE.KTupSum
import KE.KItemsList
import HandS.Style
import HandS.MakeKwOnly
import KE.KRevSl
import KE.KExcInit
import HandS.SortKw
import HandS.Text
import HandS.RaiseMore
import KE.KStateDown
import HandS.Head0
import HandS.Head1
import HandS.Head2
import HandS.HeadEnd
import HandS.HeadHook1
import HandS.HeadHook2
import HandS.HeadHook3
import HandS.HeadHook4
import HandS.HeadWalk
import HandS.Dict
import HandS.WordsDict
import HandS.More
import HandS.Iter
import HandS.DictComp
import KE.KEqNest
import HandS.Small
import PyProof.DictRoadsH
import HandS.OwnEq
import HandS.FStr
import HandS.SlotsOwn
import PyProof.InstSpecial
import PyProof.InstNe
import HandS.ListItems
import HandS.Star
import PySem.Challenge.RW_hidelater_k70_bad_sizes_at_every_door
set_option Elab.async false
set_option linter.all false
set_option maxRecDepth 100000
set_option maxHeartbeats 4000000
namespace DK
open PySem PySem.Spec PyProof.Rows L2
mutual
def plainKey : NestedKey → Bool
  | .num _ => true
  | .tup ks => plainKeys ks
  | _ => false
def plainKeys : List NestedKey → Bool
  | [] => true
  | k :: ks => plainKey k && plainKeys ks
end
mutual
def keyOf : PyData → Option NestedKey
  | .int i => some (.num i)
  | .tuple ds => match keysOf ds with
    | some ks => some (.tup ks)
    | none => none
  | _ => none
def keysOf : List PyData → Option (List NestedKey)
  | [] => some []
  | d :: ds => match keyOf d with
    | some k => match keysOf ds with
      | some ks => some (k :: ks)
      | none => none
    | none => none
end
abbrev Ent := NestedKey × Addr × V
def REnt (p : Ent) (q : NestedKey × Addr × Value) : Prop := p.1 = q.1 ∧ p.2.1 = q.2.1 ∧ RelV p.2.2 q.2.2
def dctP (a : Addr) (es : List Ent) (h : Heap) : Prop := (es.length ≤ sizeLine ∧ (a == sysModules) = false ∧ ∀ e ∈ es, plainKey e.1 = true ∧ e.1.depth ≤ 8) ∧
  ∃ xs, Paired REnt es xs ∧ ∃ o ds ep, h.get? a = some o ∧ o.ExactDict ∧ o.data = .dict ds ep ∧ (∀ (P : Program) (w : World), ds.toList = xs.map (entryOfKey (nestedKind P w))) ∧ (xs.map (·.1)).Nodup
def dctO (a : Addr) (es : List Ent) : HO := .ext (dctP a es)
end DK
namespace DL
open PySem L2
inductive DV where
  | dat (d : PyData)
  | own (ds : List PyData)
  | bor (ds : List PyData)
  | raw (v : V)
  | bag
  /-- a dict of this def's own (true), or lent -/
  | dct (own : Bool) (kvs : List (PyData × PyData))
abbrev dint (i : Int) : DV := .dat (.int i)
abbrev dbl (b : Bool) : DV := .dat (.bool b)
abbrev Env := List (Option DV)
theorem rd_mono {H H' : Hp} {a : Addr} {u : HO} (e : Same H H') (h : Rd H a u) : Rd H' a u := by
  rcases h with h | ⟨o, h⟩
  · exact .inl (e _ _ h)
  · exact .inr ⟨o, e _ _ h⟩
theorem sl_mono {K : PySem.W.Frag} {H H' : Hp} {a : Addr} {xs : List V} (e : Same H H') (h : SqL K H a xs) : SqL K H' a xs := h.imp (rd_mono e) id
theorem st_mono {K : PySem.W.Frag} {H H' : Hp} {a : Addr} {xs : List V} (e : Same H H') (h : SqT K H a xs) : SqT K H' a xs := h.imp (rd_mono e) id
mutual
theorem dp_mono {K : PySem.W.Frag} {H H' : Hp} (e : Same H H') : ∀ {v : V} {d : PyData}, Dp K H v d → Dp K H' v d
  | _, _, .non => .non
  | _, _, .bl b => .bl b
  | _, _, .int i => .int i
  | _, _, .str x => .str x
  | _, _, .lst q r => .lst (sl_mono e q) (dpa_mono e r)
  | _, _, .tup q r => .tup (st_mono e q) (dpa_mono e r)
theorem dpa_mono {K : PySem.W.Frag} {H H' : Hp} (e : Same H H') : ∀ {vs : List V} {ds : List PyData}, DpAll K H vs ds → DpAll K H' vs ds
  | _, _, .nil => .nil
  | _, _, .cons q r => .cons (dp_mono e q) (dpa_mono e r)
end
structure Bg where
  a : Addr
  T : List (Addr × Str)
def Fr (H : Hp) (a : Addr) : Prop := ∀ o, H a = some o → ∃ ps, o = .tbl ps
theorem fr_lst {H : Hp} {a : Addr} {xs : List V} (h : Fr H a) (e : H a = some (.lst xs)) : False := by
  obtain ⟨ps, z⟩ := h _ e
  cases z
theorem fr_not {H : Hp} {a : Addr} {o : HO} (h : Fr H a) (e : H a = some o) (n : ∀ ps, o ≠ .tbl ps) : False := by
  obtain ⟨ps, z⟩ := h _ e
  exact n ps z
def PlainO : HO → Prop
  | .lst _ => True
  | .frz o (.tup _) => o.dict = none
  | _ => False
theorem lst_tbl {xs : List V} : ∀ ps, HO.lst xs ≠ .tbl ps := fun _ z => by cases z
theorem tabs_upd {T : List (Addr × Str)} {H : Hp} {a : Addr} {xs : List V} {o : HO} (t : LamX.Tabs T H) (h : H a = some (.lst xs)) : LamX.Tabs T (upd H a o) := fun p hp => by
  obtain ⟨ps, h1, h2, h3⟩ := t p hp
  refine ⟨ps, by rw [upd_ne (ne_of h1 h (fun z => by cases z))]; exact h1, h2, fun pos cv hc => ?_⟩
  obtain ⟨c, e1, e2⟩ := h3 pos cv hc
  exact ⟨c, e1, by rw [upd_ne (ne_of e2 h (fun z => by unfold LamX.CodeO at z; cases z))]; exact e2⟩
def Bag (K : PySem.W.Frag) (b : Bg) (I H : Hp) : Prop := I b.a = none ∧ (∀ a o, I a = some o → PlainO o) ∧ LamX.Tabs b.T H ∧ ∃ (l : Addr) (ns : List Int) (p q m c : Int),
  H b.a = some (.lst [.ref l, .int p, .int q, .int m, .int c]) ∧ SqL K I l (ns.map V.int) ∧ 0 ≤ p ∧ 0 ≤ q ∧ 0 ≤ m ∧ m < 2147483647
structure Ext (K : PySem.W.Frag) (b : Bg) (I H I' H' : Hp) : Prop where
  i : Same I I'
  h : ∀ a o, a ≠ b.a → (∀ ps, o ≠ .tbl ps) → H a = some o → H' a = some o
  n : ∀ a o, I a = none → H a = some o → (∀ ps, o ≠ .tbl ps) → I' a = none
  k : ∀ l xs, H b.a = some (.lst (.ref l :: xs)) → ∃ ys, H' b.a = some (.lst (.ref l :: ys))
  s : Same I' H'
  b : Bag K b I' H'
section
variable {K : PySem.W.Frag} {b : Bg} {I H I' H' I2 H2 : Hp}
theorem Bag.lst (B : Bag K b I H) : ∃ xs, H b.a = some (.lst xs) := by
  obtain ⟨_, _, _, l, ns, p, q, m, c, e, _⟩ := B
  exact ⟨_, e⟩
theorem Ext.trans (e : Ext K b I H I' H') (f : Ext K b I' H' I2 H2) : Ext K b I H I2 H2 := by
  refine ⟨e.i.trans f.i, fun a o n t h => f.h a o n t (e.h a o n t h), fun a o n h t => ?_, fun l xs h => (let ⟨ys, h1⟩ := e.k l xs h; f.k l ys h1), f.s, f.b⟩
  by_cases z : a = b.a
  · subst z
    obtain ⟨xs, q⟩ := e.b.lst
    exact f.n _ _ (e.n _ o n h t) q lst_tbl
  · exact f.n a o (e.n a o n h t) (e.h a o z t h) t
theorem Ext.refl (S : Same I H) (B : Bag K b I H) : Ext K b I H I H := ⟨Same.refl I, fun _ _ _ _ h => h, fun _ _ n _ _ => n, fun _ xs h => ⟨xs, h⟩, S, B⟩
theorem Ext.free (e : Ext K b I H I' H') {a : Addr} (h : Fr H' a) : Fr H a := fun o q => by
  by_cases t : ∃ ps, o = .tbl ps
  · exact t
  · have t' : ∀ ps, o ≠ .tbl ps := fun ps z => t ⟨ps, z⟩
    by_cases z : a = b.a
    · subst z
      obtain ⟨xs, q2⟩ := e.b.lst
      exact (fr_lst h q2).elim
    · exact (fr_not h (e.h a o z t' q) t').elim
end
theorem dct_tbl {a : Addr} {es : List DK.Ent} : ∀ ps, DK.dctO a es ≠ .tbl ps := fun _ z => by cases z
def DEnt (K : PySem.W.Frag) (I : Hp) (e : DK.Ent) (kv : PyData × PyData) : Prop := DK.keyOf kv.1 = some e.1 ∧ Dp K I (.ref e.2.1) kv.1 ∧ Dp K I e.2.2 kv.2
abbrev DctR (K : PySem.W.Frag) (I : Hp) (es : List DK.Ent) (kvs : List (PyData × PyData)) : Prop := Paired (DEnt K I) es kvs
theorem dctR_mono {K : PySem.W.Frag} {I I' : Hp} (s : Same I I') : ∀ {es : List DK.Ent} {kvs : List (PyData × PyData)}, DctR K I es kvs → DctR K I' es kvs
  | _, _, .nil => .nil
  | _, _, .cons h t => .cons ⟨h.1, dp_mono s h.2.1, dp_mono s h.2.2⟩ (dctR_mono s t)
def Res (K : PySem.W.Frag) (b : Bg) (H0 I H : Hp) (v : V) : DV → Prop
  | .dat d => Dp K I v d
  | .own ds => ∃ a xs, v = .ref a ∧ Fr H0 a ∧ I a = none ∧ a ≠ b.a ∧ H a = some (.lst xs) ∧ DpAll K I xs ds
  | .bor ds => ∃ a xs, v = .ref a ∧ H a = some (.lst xs) ∧ a ≠ b.a ∧ I a = none ∧ DpAll K I xs ds
  | .raw u => v = u
  | .bag => v = .ref b.a
  | .dct own kvs => ∃ a es, v = .ref a ∧ (own = true → Fr H0 a) ∧ I a = none ∧ a ≠ b.a ∧ H a = some (DK.dctO a es) ∧ DctR K I es kvs
structure EnvR (K : PySem.W.Frag) (b : Bg) (H0 I H : Hp) (σ : St) (δ : Env) : Prop where
  len : σ.length = δ.length
  at_ : ∀ (i : Nat) (r : DV), δ[i]? = some (some r) → ∃ v, σ[i]? = some (some v) ∧ Res K b H0 I H v r
  nd : ∀ (i j : Nat) (a : Addr) (ds es : List PyData), δ[i]? = some (some (.own ds)) → σ[i]? = some (some (.ref a)) → δ[j]? = some (some (.own es)) → σ[j]? = some (some (.ref a)) → i = j
section
variable {K : PySem.W.Frag} {b : Bg} {H0 I H I' H' : Hp} {v : V} {r : DV} {σ : St} {δ : Env}
theorem Res.ext (e : Ext K b I H I' H') (h : Res K b H0 I H v r) : Res K b H0 I' H' v r := by
  cases r with
  | dat d => exact dp_mono e.i h
  | own ds =>
    obtain ⟨a, xs, rfl, h0, hi, hb, ha, hd⟩ := h
    exact ⟨a, xs, rfl, h0, e.n a _ hi ha lst_tbl, hb, e.h a _ hb lst_tbl ha, dpa_mono e.i hd⟩
  | bor ds =>
    obtain ⟨a, xs, rfl, ha, hb, hi, hd⟩ := h
    exact ⟨a, xs, rfl, e.h a _ hb lst_tbl ha, hb, e.n a _ hi ha lst_tbl, dpa_mono e.i hd⟩
  | raw u => exact h
  | bag => exact h
  | dct own kvs =>
    obtain ⟨a, es, rfl, h0, hi, hb, ha, hd⟩ := h
    exact ⟨a, es, rfl, h0, e.n a _ hi ha dct_tbl, hb, e.h a _ hb dct_tbl ha, dctR_mono e.i hd⟩
theorem EnvR.ext (e : Ext K b I H I' H') (h : EnvR K b H0 I H σ δ) : EnvR K b H0 I' H' σ δ :=
  ⟨h.len, fun i r q => (h.at_ i r q).imp fun v z => ⟨z.1, z.2.ext e⟩, h.nd⟩
def LstR (r : DV) (ds : List PyData) : Prop := r = .own ds ∨ r = .bor ds ∨ r = .dat (.list ds)
theorem EnvR.set (h : EnvR K b H0 I H σ δ) {i : Nat} (hi : i < δ.length) (q : Res K b H0 I H v r)
    (hf : ∀ a ds, r = .own ds → v = .ref a → ∀ (j : Nat) es, j ≠ i → δ[j]? = some (some (.own es)) → σ[j]? ≠ some (some (.ref a))) : EnvR K b H0 I H (σ.set i (some v)) (δ.set i (some r)) := by
  have hi' : i < σ.length := by rw [h.len]; exact hi
  refine ⟨by rw [List.length_set, List.length_set]; exact h.len, fun j u e => ?_, fun j k a ds es h1 h2 h3 h4 => ?_⟩
  · by_cases z : i = j
    · subst z
      rw [List.getElem?_set_self hi] at e
      cases e
      exact ⟨v, by rw [List.getElem?_set_self hi'], q⟩
    · rw [List.getElem?_set_ne z] at e
      obtain ⟨w, e1, e2⟩ := h.at_ j u e
      exact ⟨w, by rw [List.getElem?_set_ne z]; exact e1, e2⟩
  · by_cases zj : i = j
    · by_cases zk : i = k
      · rw [← zj, ← zk]
      · subst zj
        rw [List.getElem?_set_self hi] at h1
        rw [List.getElem?_set_self hi'] at h2
        rw [List.getElem?_set_ne zk] at h3 h4
        cases h1; cases h2
        exact absurd h4 (hf a ds rfl rfl k es (fun q => zk q.symm) h3)
    · by_cases zk : i = k
      · subst zk
        rw [List.getElem?_set_self hi] at h3
        rw [List.getElem?_set_self hi'] at h4
        rw [List.getElem?_set_ne zj] at h1 h2
        cases h3; cases h4
        exact absurd h2 (hf a es rfl rfl j ds (fun q => zj q.symm) h1)
      · rw [List.getElem?_set_ne zj] at h1 h2
        rw [List.getElem?_set_ne zk] at h3 h4
        exact h.nd j k a ds es h1 h2 h3 h4
end
end DL
namespace DL
open PySem L2
structure Ok (K : PySem.W.Frag) (b : Bg) (I H : Hp) : Prop where
  s : Same I H
  b : Bag K b I H
section
variable {K : PySem.W.Frag} {b : Bg} {I0 H0 I H I' H' : Hp}
theorem Ext.ok (e : Ext K b I0 H0 I H) : Ok K b I H := ⟨e.s, e.b⟩
theorem Ok.nb (k : Ok K b I H) {p : Addr} (hp : H p = none) : p ≠ b.a := fun z => by
  obtain ⟨xs, e⟩ := k.b.lst
  rw [← z, hp] at e
  cases e
end
section
variable (K : PySem.W.Frag) (b : Bg) (I0 H0 : Hp)
def EvD (te : TE) (δ : Env) (P : DV → Prop) : Prop := ∀ (σ : St) (I H : Hp), Ext K b I0 H0 I H → EnvR K b H0 I H σ δ → ∀ Q : VK,
  (∀ r v I' H', P r → Ext K b I H I' H' → Res K b H I' H' v r → Q v H') → te σ H Q
def EvT (tt : TT) (δ : Env) (P : Bool → Prop) : Prop := ∀ (σ : St) (I H : Hp), Ext K b I0 H0 I H → EnvR K b H0 I H σ δ → ∀ Q : Bool → Hp → Prop,
  (∀ c I' H', P c → Ext K b I H I' H' → Q c H') → tt σ H Q
inductive ResA (K : PySem.W.Frag) (b : Bg) (H0 I H : Hp) : List V → List DV → Prop
  | nil : ResA K b H0 I H [] []
  | cons {v : V} {vs : List V} {r : DV} {rs : List DV} : Res K b H0 I H v r → ResA K b H0 I H vs rs → ResA K b H0 I H (v :: vs) (r :: rs)
def EvA (ta : TA) (δ : Env) (P : List DV → Prop) : Prop := ∀ (σ : St) (I H : Hp), Ext K b I0 H0 I H → EnvR K b H0 I H σ δ → ∀ Q : List V → Hp → Prop,
  (∀ rs vs I' H', P rs → Ext K b I H I' H' → ResA K b H I' H' vs rs → Q vs H') → ta σ H Q
end
section
variable {K : PySem.W.Frag} {b : Bg} {I0 H0 H1 I H I' H' : Hp} {δ : Env} {ta tb te : TE} {P Pa Pb : DV → Prop}
theorem ResA.ext (e : Ext K b I H I' H') : ∀ {vs : List V} {rs : List DV}, ResA K b H0 I H vs rs → ResA K b H0 I' H' vs rs
  | _, _, .nil => .nil
  | _, _, .cons q r => .cons (q.ext e) (ResA.ext e r)
theorem EvD.mono (h : EvD K b I0 H0 te δ Pa) (m : ∀ r, Pa r → P r) : EvD K b I0 H0 te δ P := fun σ I H e n Q q => h σ I H e n Q fun r v I' H' p => q r v I' H' (m r p)
theorem EvT.mono {tt : TT} {A B : Bool → Prop} (h : EvT K b I0 H0 tt δ A) (m : ∀ r, A r → B r) : EvT K b I0 H0 tt δ B := fun σ I H e n Q q => h σ I H e n Q fun r I' H' p => q r I' H' (m r p)
theorem EvA.mono {ta : TA} {A B : List DV → Prop} (h : EvA K b I0 H0 ta δ A) (m : ∀ r, A r → B r) : EvA K b I0 H0 ta δ B := fun σ I H e n Q q => h σ I H e n Q fun r v I' H' p => q r v I' H' (m r p)
theorem Ext.frz {a : Addr} {xs : List V} (e : Ext K b I H I' H') (h0 : Fr H a) (hi : I' a = none) (hb : a ≠ b.a) (ha : H' a = some (.lst xs)) : Ext K b I H (upd I' a (.lst xs)) H' := by
  obtain ⟨n, pl, tb, l, ns, x, q, m, c, e1, sl, r⟩ := e.b
  refine ⟨fun c o h => ?_, e.h, fun c o n h t => ?_, e.k, fun c o h => ?_, by rw [upd_ne (fun z => hb z.symm)]; exact n, fun c ps h => ?_, tb, l, ns, x, q, m, c, e1, sl_mono (fun d u h => ?_) sl, r⟩
  · rw [upd_ne (ne_of_none (e.i c o h) hi)]; exact e.i c o h
  · rw [upd_ne (fun (z : c = a) => fr_not h0 (z ▸ h) t)]; exact e.n c o n h t
  · by_cases z : c = a
    · subst z; rw [upd_same] at h; rw [ha]; exact h
    · rw [upd_ne z] at h; exact e.s c o h
  · by_cases z : c = a
    · subst z; rw [upd_same] at h; cases h; exact True.intro
    · rw [upd_ne z] at h; exact pl c _ h
  · rw [upd_ne (ne_of_none h hi)]; exact h
end
end DL
namespace DL
open PySem L2 RZ
section
variable {K : PySem.W.Frag} {b : Bg} {i j : Int}
def cutD (ds : List PyData) (lo hi : Option Int) : List PyData := (ds.drop (HT.sIx ds.length 0 lo)).take (HT.sIx ds.length ds.length hi - HT.sIx ds.length 0 lo)
end
abbrev Rel := Hp → Hp → V → PyData → Prop
section
variable (K : PySem.W.Frag) (b : Bg) (Rl : Rel)
def IterOk (J : It) (I : Hp) (ds : List PyData) : Prop := ∃ G Y, Walk J ds.length G Y ∧ (∀ H, Same I H → G H) ∧
  ∀ (i : Nat) (I2 H : Hp) (x : V) (H' : Hp) (d : PyData), Same I I2 → Ok K b I2 H → Y i H x H' → ds[i]? = some d → ∃ I3, Ext K b I2 H I3 H' ∧ Rl I3 H' x d
def ItD (I0 H0 : Hp) (wi : TI) (δ : Env) (A : List PyData → Prop) : Prop := ∀ (σ : St) (I H : Hp), Ext K b I0 H0 I H → EnvR K b H0 I H σ δ → ∀ R : It → Hp → Prop,
  (∀ ds J I' H', A ds → Ext K b I H I' H' → IterOk K b Rl J I' ds → R J H') → wi σ H R
end
section
variable {K : PySem.W.Frag} {b : Bg} {I0 H0 : Hp} {δ : Env} {te : TE}
def rangeD (lo : Int) (n : Nat) : List PyData := (List.range n).map fun (k : Nat) => .int (lo + (k : Int))
def zipD (ds es : List PyData) : List PyData := List.zipWith (fun d e => .tuple [d, e]) ds es
def enumD (ds : List PyData) : List PyData := ds.zipIdx.map fun p => .tuple [.int (p.2 : Int), p.1]
end
end DL
namespace DL
open PySem PySem.Spec PyProof.Rows L2
section
variable (K : PySem.W.Frag) (b : Bg) (I0 H0 : Hp)
def SvD (ts : TS) (δ : Env) (N : Env → Prop) (R : DV → Prop) (Bk Ct : Env → Prop) : Prop := ∀ (σ : L2.St) (I H : Hp), Ext K b I0 H0 I H → EnvR K b H0 I H σ δ → ∀ D : Ends,
  (∀ δ' σ' I' H', N δ' → Ext K b I0 H0 I' H' → Same I I' → EnvR K b H0 I' H' σ' δ' → D.nx σ' H') →
  (∀ r v I' H', R r → Ext K b I0 H0 I' H' → Res K b H0 I' H' v r → D.rt v H') →
  (∀ δ' σ' I' H', Bk δ' → Ext K b I0 H0 I' H' → Same I I' → EnvR K b H0 I' H' σ' δ' → D.bk σ' H') →
  (∀ δ' σ' I' H', Ct δ' → Ext K b I0 H0 I' H' → Same I I' → EnvR K b H0 I' H' σ' δ' → D.ct σ' H') → ts D σ H
end
section
variable {K : PySem.W.Frag} {b : Bg} {I0 H0 : Hp} {δ δ' : Env} {N N' Bk Ct : Env → Prop} {R : DV → Prop} {te : TE} {t u : TS} {P : DV → Prop}
theorem SvD.mono {N2 B2 C2 : Env → Prop} {R2 : DV → Prop} (h : SvD K b I0 H0 t δ N R Bk Ct) (hn : ∀ d, N d → N2 d) (hr : ∀ r, R r → R2 r) (hb : ∀ d, Bk d → B2 d) (hc : ∀ d, Ct d → C2 d) : SvD K b I0 H0 t δ N2 R2 B2 C2 :=
  fun σ I H e n D h1 h2 h3 h4 => h σ I H e n D (fun d σ' I' H' p => h1 d σ' I' H' (hn d p)) (fun r v I' H' p => h2 r v I' H' (hr r p)) (fun d σ' I' H' p => h3 d σ' I' H' (hb d p)) (fun d σ' I' H' p => h4 d σ' I' H' (hc d p))
end
abbrev XD := Addr → List (Str × V) → Prop
end DL
namespace DL
open PySem PySem.Spec PyProof.Rows L2
def tyN : PyData → String
  | .none => "NoneType"
  | .bool _ => "bool"
  | .int _ => "int"
  | .str _ => "str"
  | .list _ => "list"
  | .tuple _ => "tuple"
  | .dict _ => "dict"
theorem Ext.bag {K : PySem.W.Frag} {b : Bg} {I H : Hp} {l : Addr} {ns : List Int} {p q m c : Int} (k : Ok K b I H) (hbl : ∃ xs, H b.a = some (.lst (.ref l :: xs))) (hl : SqL K I l (ns.map V.int)) (hp : 0 ≤ p) (hq : 0 ≤ q) (hm : 0 ≤ m) (hm2 : m < 2147483647) :
    Ext K b I H I (upd H b.a (.lst [.ref l, .int p, .int q, .int m, .int c])) := by
  obtain ⟨ib, pl, tb, l', ns', x, q', m', c', e, sl, r⟩ := k.b
  exact ⟨Same.refl I, fun a o n _ h => by rw [upd_ne n]; exact h, fun a o n _ _ => n, fun l0 xs h => (by obtain ⟨zs, hz⟩ := hbl; rw [hz] at h; cases h; exact ⟨_, upd_same⟩), fun a o h => by rw [upd_ne (ne_of_none h ib)]; exact k.s a o h, ib, pl, tabs_upd tb e, l, ns, p, q, m, c, upd_same, hl, hp, hq, hm, hm2⟩
end DL
namespace DL
open PySem PySem.Spec PyProof.Rows L2 RZ
abbrev nums (ns : List Int) : PyData := .tuple (ns.map .int)
section
variable {K : PySem.W.Frag} {b : Bg} {I0 H0 : Hp} {δ : Env} {ta te tb : TE} {P : DV → Prop}
theorem ItD.mono {Rl : Rel} {wi : TI} {A B : List PyData → Prop} (h : ItD K b Rl I0 H0 wi δ A) (m : ∀ x, A x → B x) : ItD K b Rl I0 H0 wi δ B := fun σ I H k n R q => h σ I H k n R fun ds J I' H' p => q ds J I' H' (m ds p)
end
section
variable (K : PySem.W.Frag) (b : Bg) (I0 H0 : Hp)
def EvI (te : TE) (δ : Env) (C : Int → Prop) : Prop := EvD K b I0 H0 te δ (fun r => ∃ i, r = dint i ∧ C i)
end
section
variable {K : PySem.W.Frag} {b : Bg} {I0 H0 : Hp} {δ : Env} {ta te tb : TE} {P : DV → Prop} {A B C : Int → Prop}
theorem EvI.mono (h : EvI K b I0 H0 te δ A) (m : ∀ i, A i → B i) : EvI K b I0 H0 te δ B := EvD.mono h fun _ ⟨i, e, a⟩ => ⟨i, e, m i a⟩
end
end DL
namespace DL
open PySem PySem.Spec PyProof.Rows L2 RZ
theorem all_nil {p : PyData → Prop} : ∀ x ∈ ([] : List PyData), p x := fun _ h => by cases h
theorem all_cons {p : PyData → Prop} {d : PyData} {ds : List PyData} (h : p d) (t : ∀ x ∈ ds, p x) : ∀ x ∈ d :: ds, p x := fun x hx => by
  rcases List.mem_cons.mp hx with e | e
  · rw [e]; exact h
  · exact t x e
def noBor (δ : Env) : Bool := δ.all fun x => match x with
  | some (.bor _) => false
  | some (.dct false _) => false
  | _ => true
theorem noBor_at {δ : Env} (h : noBor δ = true) : ∀ (j : Nat) es, δ[j]? ≠ some (some (.bor es)) := fun j es e => by
  have hm := List.mem_of_getElem? e
  have := List.all_eq_true.mp h _ hm
  cases this
section
variable {K : PySem.W.Frag} {b : Bg} {I0 H0 : Hp} {δ : Env} {N Bk Ct : Env → Prop} {R : DV → Prop} {te ti : TE} {t u : TS} {P : DV → Prop}
theorem EnvR.own {I H : Hp} {σ : L2.St} {i : Nat} {a : Addr} {ds es : List PyData} {ys : List V} (n : EnvR K b H0 I H σ δ) (hbor : noBor δ = true) (hi : δ[i]? = some (some (.own ds))) (hs : σ[i]? = some (some (.ref a))) (h0 : Fr H0 a) (hn : I a = none) (hb : a ≠ b.a) (hd : DpAll K I ys es) :
    EnvR K b H0 I (upd H a (.lst ys)) σ (δ.set i (some (.own es))) := by
  have hlt : i < δ.length := (List.getElem?_eq_some_iff.mp hi).1
  refine ⟨by rw [List.length_set]; exact n.len, fun j r hj => ?_, fun j k c ds' es' h1 h2 h3 h4 => ?_⟩
  · by_cases z : i = j
    · subst z
      rw [List.getElem?_set_self hlt] at hj
      cases hj
      exact ⟨_, hs, a, ys, rfl, h0, hn, hb, upd_same, hd⟩
    · rw [List.getElem?_set_ne z] at hj
      obtain ⟨w, g1, g2⟩ := n.at_ j r hj
      refine ⟨w, g1, ?_⟩
      cases r with
      | dat d => exact g2
      | raw u => exact g2
      | bag => exact g2
      | dct own kvs =>
        obtain ⟨c, zs, rfl, q0, qn, qb, qa, qd⟩ := g2
        obtain ⟨_, f1, f2⟩ := n.at_ i _ hi
        rw [hs] at f1
        cases f1
        obtain ⟨_, _, f3, _, _, _, f4, _⟩ := f2
        cases f3
        have nc : c ≠ a := fun zz => by
          subst zz
          rw [f4] at qa
          cases qa
        exact ⟨c, zs, rfl, q0, qn, qb, by rw [upd_ne nc]; exact qa, qd⟩
      | own es' =>
        obtain ⟨c, zs, rfl, q0, qn, qb, qa, qd⟩ := g2
        have nc : c ≠ a := fun zz => by
          subst zz
          exact z (n.nd i j c ds es' hi hs hj g1)
        exact ⟨c, zs, rfl, q0, qn, qb, by rw [upd_ne nc]; exact qa, qd⟩
      | bor es' => exact absurd hj (noBor_at hbor j es')
  · have fix : ∀ (m : Nat) xs, (δ.set i (some (.own es)))[m]? = some (some (.own xs)) → ∃ xs', δ[m]? = some (some (.own xs')) := fun m xs e => by
      by_cases z : i = m
      · subst z
        exact ⟨ds, hi⟩
      · rw [List.getElem?_set_ne z] at e
        exact ⟨xs, e⟩
    obtain ⟨x1, e1⟩ := fix j ds' h1
    obtain ⟨x2, e2⟩ := fix k es' h3
    exact n.nd j k c x1 x2 e1 h2 e2 h4
end
end DL
namespace DL
open PySem PySem.Spec PyProof.Rows L2 RZ
end DL
namespace DL
open PySem PySem.Spec PyProof.Rows L2
end DL
namespace DL
open PySem PySem.Spec PyProof.Rows L2
def XW (K : PySem.W.Frag) (b : Bg) (I H : Hp) (E : XK) (X : XD) : Prop := ∀ C fs d I' H', X C fs → Ext K b I H I' H' → I' d = none → H' d = some (.xd fs) → E (.ref C) (some d) H'
theorem XW.ext {K : PySem.W.Frag} {b : Bg} {I H I' H' : Hp} {E : XK} {X : XD} (x : XW K b I H E X) (e : Ext K b I H I' H') : XW K b I' H' E X := fun C fs d I2 H2 p e2 => x C fs d I2 H2 p (e.trans e2)
end DL
namespace DL
open PySem PySem.Spec PyProof.Rows L2
end DL
namespace DL
open PySem PySem.Spec PyProof.Rows L2 RZ
def KT (K : PySem.W.Frag) : Prop := ∀ a o, K.lookup a = some o → o.cls = .type "tuple" → o.dict = none
def ktB (K : PySem.W.Frag) : Bool := K.all fun p => !decide (p.2.cls = .type "tuple") || p.2.dict.isNone
section
variable {K : PySem.W.Frag} {b : Bg} {I0 H0 : Hp} {δ : Env} {ta te tb ti : TE} {P : DV → Prop} {N Bk Ct : Env → Prop} {R : DV → Prop}
def EvN (K : PySem.W.Frag) (b : Bg) (I0 H0 : Hp) (te : TE) (δ : Env) (D : List Int → Prop) : Prop := EvD K b I0 H0 te δ (fun r => ∃ ns : List Int, r = .dat (nums ns) ∧ D ns)
theorem EvN.mono {D D' : List Int → Prop} (h : EvN K b I0 H0 te δ D) (m : ∀ ns, D ns → D' ns) : EvN K b I0 H0 te δ D' := EvD.mono h fun _ ⟨ns, e, d⟩ => ⟨ns, e, m ns d⟩
end
end DL
namespace DL
open PySem PySem.Spec PyProof.Rows L2 RZ
inductive LessP : Env → Env → Prop
  | nil : LessP [] []
  | no {x : Option DV} {t' t : Env} : LessP t' t → LessP (none :: t') (x :: t)
  | dat {d : PyData} {t' t : Env} : LessP t' t → LessP (some (.dat d) :: t') (some (.dat d) :: t)
  | bag {t' t : Env} : LessP t' t → LessP (some .bag :: t') (some .bag :: t)
theorem LessP.len : ∀ {δ' δ : Env}, LessP δ' δ → δ'.length = δ.length
  | _, _, .nil => rfl
  | _, _, .no h => congrArg Nat.succ h.len
  | _, _, .dat h => congrArg Nat.succ h.len
  | _, _, .bag h => congrArg Nat.succ h.len
end DL
namespace DL
open PySem PySem.Spec PyProof.Rows L2 RZ
inductive LessO : Env → Env → Prop
  | nil : LessO [] []
  | no {x : Option DV} {t' t : Env} : LessO t' t → LessO (none :: t') (x :: t)
  | keep {x : DV} {t' t : Env} : LessO t' t → LessO (some x :: t') (some x :: t)
theorem LessO.len : ∀ {δ' δ : Env}, LessO δ' δ → δ'.length = δ.length
  | _, _, .nil => rfl
  | _, _, .no h => congrArg Nat.succ h.len
  | _, _, .keep h => congrArg Nat.succ h.len
def KL (K : PySem.W.Frag) : Prop := ∀ a o, K.lookup a = some o → o.cls ≠ .type "list"
def klB (K : PySem.W.Frag) : Bool := K.all fun p => !decide (p.2.cls = .type "list")
section
variable {K : PySem.W.Frag} {b : Bg} {I0 H0 : Hp} {δ : Env} {ta tb te : TE} {P : DV → Prop}
theorem LstR.lst {I H H1 : Hp} {r : DV} {v : V} {ds : List PyData} (kl : KL K) (k : Ok K b I H) (l : LstR r ds) (h : Res K b H1 I H v r) : ∃ a xs, v = .ref a ∧ H a = some (.lst xs) ∧ DpAll K I xs ds := by
  rcases l with rfl | rfl | rfl
  · obtain ⟨a, xs, rfl, _, _, _, ha, hd⟩ := h
    exact ⟨a, xs, rfl, ha, hd⟩
  · obtain ⟨a, xs, rfl, ha, _, _, hd⟩ := h
    exact ⟨a, xs, rfl, ha, hd⟩
  · have h : Dp K I v (.list ds) := h
    cases h with
    | @lst a xs _ q r =>
      rcases q with (q | ⟨o, q⟩) | ⟨o, its, n, q1, q2, _⟩
      · exact ⟨a, xs, rfl, k.s a _ q, r⟩
      · exact absurd (k.b.2.1 a _ q) (fun z => z)
      · exact absurd q2 (kl a o q1)
end
end DL
namespace DW
open PySem PySem.Spec PyProof.Rows L2 RZ DL
abbrev DP := DV → Prop
abbrev En := DL.Env
abbrev XN := Nat → List (Str × V) → Prop
structure Cn where
  x : XN
  fa : Nat → Addr
abbrev DE := Cn → En → DP → Prop
abbrev DT := Cn → En → (Bool → Prop) → Prop
abbrev DA := Cn → En → (List DV → Prop) → Prop
abbrev DO := Cn → En → (Option Int → Prop) → Prop
abbrev DI := Cn → En → (List PyData → Prop) → Prop
structure Ed where
  nx : En → Prop
  rt : DP
  bk : En → Prop
  ct : En → Prop
abbrev DS := Cn → En → Ed → Prop
abbrev Wt := List DV → DP → Cn → Prop
structure Sg where
  n : Nat
  E : XK
  cls : Nat → Addr
  fa : Nat → Addr
  tb : List (Addr × Str) → Prop
def toXD (cls : Nat → Addr) (x : XN) : XD := fun C fs => ∃ s, C = cls s ∧ x s fs
structure Cok (K : PySem.W.Frag) (S : Sg) (b : Bg) (I0 H0 : Hp) (c : Cn) : Prop where
  fa : c.fa = S.fa
  xw : XW K b I0 H0 S.E (toXD S.cls c.x)
  tb : S.tb b.T
structure NB (n : Nat) (δ : En) : Prop where
  len : δ.length = n
  nb : noBor δ = true
def isPl : DV → Bool
  | .own _ => false
  | .bor _ => false
  | .dct _ _ => false
  | _ => true
def fz : DV → DV
  | .own ds => .dat (.list ds)
  | r => r
def dVar (i : Nat) : DE := fun _ δ P => match δ[i]? with
  | some (some (.own ds)) => P (.bor ds)
  | some (some (.dct true kvs)) => P (.dct false kvs)
  | some (some r) => P r
  | _ => False
def dC (r : DV) : DE := fun _ _ P => P r
section
variable {X : Cx} {S : Sg} {a b e : Expr} {da db de : DE} {pos : Pos}
def dBin (o : DV → DV → DP → Prop) (da db : DE) : DE := fun c δ P => da c δ fun x => db c δ fun y => o (fz x) (fz y) P
def dUn (o : DV → DP → Prop) (da : DE) : DE := fun c δ P => da c δ fun x => o (fz x) P
def dChain (o o' : DV → DV → DP → Prop) (da db dc : DE) : DE := fun c δ P => da c δ fun x => db c δ fun y => o (fz x) (fz y) fun z => match z with
  | .dat (.bool k) => if k = true then dc c δ fun w => o' (fz y) (fz w) P else P (dbl false)
  | _ => False
def dTst (de : DE) : DT := fun c δ P => de c δ fun r => match r with
  | .dat (.bool k) => P k
  | _ => False
def dAnd (a b : DT) : DT := fun c δ P => a c δ fun v => if v = true then b c δ P else P false
def dOr (a b : DT) : DT := fun c δ P => a c δ fun v => if v = true then P true else b c δ P
def dNot (a : DT) : DT := fun c δ P => a c δ fun v => P (!v)
def dYes : DT := fun _ _ P => P true
def dAndV (a b : DE) : DE := fun c δ P => a c δ fun r => match r with
  | .dat (.bool k) => if k = true then b c δ P else P (dbl false)
  | _ => False
def dOrV (a b : DE) : DE := fun c δ P => a c δ fun r => match r with
  | .dat (.bool k) => if k = true then P (dbl true) else b c δ P
  | _ => False
def dNotV (a : DE) : DE := fun c δ P => a c δ fun r => match r with
  | .dat (.bool k) => P (dbl (!k))
  | _ => False
def dIfE (t : DT) (a b : DE) : DE := fun c δ P => t c δ fun v => if v = true then a c δ P else b c δ P
def dNil : DA := fun _ _ P => P []
def dCons (de : DE) (da : DA) : DA := fun c δ P => de c δ fun r => da c δ fun rs => P (fz r :: rs)
def dats : List DV → Option (List PyData)
  | [] => some []
  | .dat d :: rs => match dats rs with
    | some ds => some (d :: ds)
    | none => none
  | _ :: _ => none
def dTup (da : DA) : DE := fun c δ P => da c δ fun rs => match dats rs with
  | some ds => P (.dat (.tuple ds))
  | none => False
def dLst (da : DA) : DE := fun c δ P => da c δ fun rs => match dats rs with
  | some ds => P (.own ds)
  | none => False
def dNone : DO := fun _ _ P => P none
def dSome (de : DE) : DO := fun c δ P => de c δ fun r => match r with
  | .dat (.int i) => P (some i)
  | _ => False
def oCut (lo hi : Option Int) : DV → DP → Prop
  | .dat (.tuple ds), P => P (.dat (.tuple (cutD ds lo hi)))
  | .dat (.list ds), P => P (.own (cutD ds lo hi))
  | .bor ds, P => P (.own (cutD ds lo hi))
  | .dat (.str z), P => z.length ≤ 100000 ∧ P (.dat (.str (cutS z lo hi)))
  | _, _ => False
def dSl (de : DE) (dl dh : DO) : DE := fun c δ P => de c δ fun r => dl c δ fun lo => dh c δ fun hi => oCut lo hi (fz r) P
end
end DW
namespace DW
open PySem PySem.Spec PyProof.Rows L2 RZ DL
def toD : DV → Option PyData
  | .dat d => some d
  | .own ds => some (.list ds)
  | .bor ds => some (.list ds)
  | _ => none
def keyT (d : PyData) : Option NestedKey := match d with
  | .tuple ds => match DK.keyOf (.tuple ds) with
    | some k => if k.depth ≤ 8 then some k else none
    | none => none
  | _ => none
def lkD (kvs : List (PyData × PyData)) (k : NestedKey) : Option PyData := (kvs.find? fun kv => decide (DK.keyOf kv.1 = some k)).map (·.2)
def putD (kvs : List (PyData × PyData)) (d : PyData) (k : NestedKey) (v : PyData) : List (PyData × PyData) := if (lkD kvs k).isSome = true then kvs.map (fun kv => if DK.keyOf kv.1 = some k then (kv.1, v) else kv) else kvs ++ [(d, v)]
def oAdd : DV → DV → DP → Prop
  | .dat (.int i), .dat (.int j), P => P (dint (i + j))
  | .dat (.tuple xs), .dat (.tuple ys), P => xs.length + ys.length ≤ 100000 ∧ P (.dat (.tuple (xs ++ ys)))
  | .dat (.str s), .dat (.str t), P => s.length + t.length ≤ 100000 ∧ P (.dat (.str (s ++ t)))
  | .dat (.list xs), .dat (.list ys), P => xs.length + ys.length ≤ 100000 ∧ P (.own (xs ++ ys))
  | .bor xs, .dat (.list ys), P => xs.length + ys.length ≤ 100000 ∧ P (.own (xs ++ ys))
  | .dat (.list xs), .bor ys, P => xs.length + ys.length ≤ 100000 ∧ P (.own (xs ++ ys))
  | .bor xs, .bor ys, P => xs.length + ys.length ≤ 100000 ∧ P (.own (xs ++ ys))
  | _, _, _ => False
def oSub : DV → DV → DP → Prop
  | .dat (.int i), .dat (.int j), P => P (dint (i - j))
  | _, _, _ => False
def oMul : DV → DV → DP → Prop
  | .dat (.int i), .dat (.int j), P => (CMul i j ∨ CMulW i j) ∧ P (dint (i * j))
  | .dat (.tuple xs), .dat (.int k), P => (xs ≠ [] ∧ xs.length ≤ 1000 ∧ -1000 ≤ k ∧ k ≤ 1000) ∧ P (.dat (.tuple (List.replicate k.toNat xs).flatten))
  | .dat (.list xs), .dat (.int k), P => (-1000000 ≤ k ∧ k ≤ 1000000 ∧ xs.length * k.toNat ≤ 100000) ∧ P (.own (List.replicate k.toNat xs).flatten)
  | .bor xs, .dat (.int k), P => (-1000000 ≤ k ∧ k ≤ 1000000 ∧ xs.length * k.toNat ≤ 100000) ∧ P (.own (List.replicate k.toNat xs).flatten)
  | _, _, _ => False
def oMod : DV → DV → DP → Prop
  | .dat (.int i), .dat (.int j), P => 0 < j ∧ P (dint (i % j))
  | _, _, _ => False
def oDiv : DV → DV → DP → Prop
  | .dat (.int i), .dat (.int j), P => (0 < j ∧ j.natAbs.log2 < 9000) ∧ P (dint (i / j))
  | _, _, _ => False
def oCmp (g : Int → Int → Bool) : DV → DV → DP → Prop
  | .dat (.int i), .dat (.int j), P => P (dbl (g i j))
  | _, _, _ => False
abbrev oLe := oCmp fun i j => decide (i ≤ j)
def oEq (neg : Bool) (x y : DV) (P : DP) : Prop := match toD x, toD y with
  | some d, some e => (SeqAt.shaped d = true ∧ SeqAt.shaped e = true) ∧ P (dbl (if neg then !PyData.eqv d e else PyData.eqv d e))
  | _, _ => False
def oIsN (neg : Bool) (x y : DV) (P : DP) : Prop := match x, y with
  | .dat d, .dat .none => P (dbl (if neg then !decide (tyN d = "NoneType") else decide (tyN d = "NoneType")))
  | .dat (.bool a), .dat (.bool c) => P (dbl (if neg then a != c else a == c))
  | _, _ => False
def flD : PyData → Bool
  | .list _ => false
  | .tuple _ => false
  | .dict _ => false
  | _ => true
def seqD : DV → Option (List PyData)
  | .dat (.list ds) => some ds
  | .dat (.tuple ds) => some ds
  | .bor ds => some ds
  | .own ds => some ds
  | _ => none
def oIn (neg : Bool) (x y : DV) (P : DP) : Prop := match x with
  | .dat d => match seqD y with
    | some ds => ((flD d = true ∧ ds.all flD = true) ∨ (SeqAt.shaped d = true ∧ SeqAt.shaped (.list ds) = true ∧ ∃ e, toD y = some (.list e))) ∧ P (dbl (if neg then !ds.any fun z => PyData.eqv z d else ds.any fun z => PyData.eqv z d))
    | none => match d, y with
      | .str x, .dat (.str z) => match x.cps.toList with
        | [k] => P (dbl (if neg then !decide (k ∈ z.cps.toList) else decide (k ∈ z.cps.toList)))
        | _ => False
      | .tuple ds, .dct _ kvs => match keyT (.tuple ds) with
        | some k => P (dbl (if neg then !(lkD kvs k).isSome else (lkD kvs k).isSome))
        | none => False
      | _, _ => False
  | _ => False
section
variable {X : Cx}
def atD (ds : List PyData) (i : Int) : Option PyData := match ixN ds.length i with
  | some j => ds[j]?
  | none => none
def oIx (x y : DV) (P : DP) : Prop := match y with
  | .dat (.int i) => match seqD x with
    | some ds => match atD ds i with
      | some d => P (.dat d)
      | none => False
    | none => match x with
      | .dat (.str z) => z.length ≤ 100000 ∧ match atI z.cps.toList i with
        | some k => P (.dat (.str ⟨#[k]⟩))
        | none => False
      | _ => False
  | .dat (.tuple es) => match x with
    | .dct _ kvs => match keyT (.tuple es) with
      | some k => match lkD kvs k with
        | some d => P (.dat d)
        | none => False
      | none => False
    | _ => False
  | _ => False
def oNeg : DV → DP → Prop
  | .dat (.int i), P => P (dint (-i))
  | _, _ => False
def bLen : List DV → DP → Prop
  | [x], P => match seqD x with
    | some ds => P (dint ds.length)
    | none => match x with
      | .dat (.str z) => z.length ≤ 100000 ∧ P (dint z.length)
      | .dct _ kvs => P (dint kvs.length)
      | _ => False
  | _, _ => False
def intsD : List PyData → Option (List Int)
  | [] => some []
  | .int i :: ds => match intsD ds with
    | some is => some (i :: is)
    | none => none
  | _ :: _ => none
def boolsD : List PyData → Option (List Bool)
  | [] => some []
  | .bool i :: ds => match boolsD ds with
    | some is => some (i :: is)
    | none => none
  | _ :: _ => none
def lstD : DV → Option (List PyData)
  | .dat (.list ds) => some ds
  | .bor ds => some ds
  | .own ds => some ds
  | _ => none
def bTuple : List DV → DP → Prop
  | [x], P => match lstD x with
    | some ds => P (.dat (.tuple ds))
    | none => match x with
      | .dat (.tuple ds) => P (.dat (.tuple ds))
      | _ => False
  | _, _ => False
def bList : List DV → DP → Prop
  | [x], P => match seqD x with
    | some ds => P (.own ds)
    | none => match x with
      | .dct _ kvs => P (.own (kvs.map (·.1)))
      | _ => False
  | _, _ => False
def bAbs : List DV → DP → Prop
  | [.dat (.int i)], P => P (dint (if i < 0 then -i else i))
  | _, _ => False
def bMin : List DV → DP → Prop
  | [.dat (.int i), .dat (.int j)], P => P (dint (if j < i then j else i))
  | [x], P => match lstD x with
    | some ds => match intsD ds with
      | some ns => 0 < ns.length ∧ ∀ m, m ∈ ns → (∀ y, y ∈ ns → m ≤ y) → P (dint m)
      | none => False
    | none => False
  | _, _ => False
def bMax : List DV → DP → Prop
  | [.dat (.int i), .dat (.int j)], P => P (dint (if j > i then j else i))
  | [x], P => match lstD x with
    | some ds => match intsD ds with
      | some ns => 0 < ns.length ∧ ∀ m, m ∈ ns → (∀ y, y ∈ ns → y ≤ m) → P (dint m)
      | none => False
    | none => False
  | _, _ => False
def bSum : List DV → DP → Prop
  | [x], P => match seqD x with
    | some ds => match intsD ds with
      | some ns => P (dint ns.sum)
      | none => False
    | none => False
  | _, _ => False
def bAll : List DV → DP → Prop
  | [x], P => match lstD x with
    | some ds => match boolsD ds with
      | some ns => P (dbl (ns.all id))
      | none => False
    | none => False
  | _, _ => False
def bAny : List DV → DP → Prop
  | [x], P => match lstD x with
    | some ds => match boolsD ds with
      | some ns => P (dbl (ns.any id))
      | none => False
    | none => False
  | _, _ => False
def bSorted : List DV → DP → Prop
  | [x], P => match lstD x with
    | some ds => match intsD ds with
      | some ns => ∀ ms : List Int, ms.Perm ns → ms.Pairwise (· ≤ ·) → P (.own (ms.map .int))
      | none => False
    | none => False
  | _, _ => False
def bIsi : List DV → DP → Prop
  | [.dat d, .raw (.ty n)], P => match kitB (tyN d) n with
    | some k => P (dbl k)
    | none => False
  | _, _ => False
end
end DW
namespace DW
open PySem PySem.Spec PyProof.Rows L2 RZ DL
def dCall (W : Wt) (da : DA) : DE := fun c δ P => da c δ fun rs => rs.all isPl = true ∧ W rs P c
def dCb (o : List DV → DP → Prop) (da : DA) : DE := fun c δ P => da c δ fun rs => o rs P
section
variable {X : Cx} {S : Sg} {a b e : Expr} {es : List Expr} {da db de : DE} {pos p : Pos} {x : Str}
def bRange (n : Nat) : List PyData := (List.range n).map fun (k : Nat) => .int (k : Int)
def dLrg (de : DE) : DE := fun c δ P => de c δ fun r => match r with
  | .dat (.int n) => (0 ≤ n ∧ n ≤ 100000) ∧ P (.own (bRange n.toNat))
  | _ => False
section
variable {k : Nat} {f : Addr} {fd : FuncData} {ps : List Str} {W : Wt} {da : DA}
def pk (is : List Nat) {α : Type} (vs ws : List α) : List α := is.filterMap fun i => (vs ++ ws)[i]?
def dCallK (W : Wt) (is : List Nat) (da dk : DA) : DE := fun c δ P => da c δ fun rs => dk c δ fun zs => (pk is rs zs).all isPl = true ∧ W (pk is rs zs) P c
def dTab (tab : List (Str × Nat)) (de : DE) : DE := fun c δ P => de c δ fun r => match r with
  | .dat (.str s) => match tab.lookup s with
    | some f => P (.raw (.ref (c.fa f)))
    | none => False
  | _ => False
def dCallV (i : Nat) (ws : List (Nat × Wt)) (da : DA) : DE := fun c δ P => ∃ f W, (f, W) ∈ ws ∧ δ[i]? = some (some (.raw (.ref (c.fa f)))) ∧ da c δ fun rs => rs.all isPl = true ∧ W rs P c
end
end
def chars (z : Str) : List PyData := z.cps.toList.map fun k => .str ⟨#[k]⟩
def dISeq (de : DE) : DI := fun c δ A => de c δ fun r => match fz r with
  | .dat (.list ds) => A ds
  | .dat (.tuple ds) => A ds
  | .dat (.str z) => A (chars z)
  | _ => False
def dIRg1 (da : DA) : DI := fun c δ A => da c δ fun rs => match rs with
  | [.dat (.int n)] => (-(2 ^ 62) ≤ n ∧ n < 2 ^ 62) ∧ A (rangeD 0 n.toNat)
  | _ => False
def dIRg2 (da : DA) : DI := fun c δ A => da c δ fun rs => match rs with
  | [.dat (.int m), .dat (.int n)] => (-(2 ^ 62) ≤ m ∧ m < 2 ^ 62 ∧ -(2 ^ 62) ≤ n ∧ n < 2 ^ 62) ∧ A (rangeD m (n - m).toNat)
  | _ => False
def dIZip (da : DA) : DI := fun c δ A => da c δ fun rs => match rs with
  | [.dat (.tuple ds), .dat (.tuple es)] => A (zipD ds es)
  | _ => False
def dIEnum (da : DA) : DI := fun c δ A => da c δ fun rs => match rs with
  | [.dat (.tuple ds)] => A (enumD ds)
  | [.dat (.list ds)] => A (enumD ds)
  | _ => False
end DW
namespace DW
open PySem PySem.Spec PyProof.Rows L2 RZ DL
abbrev Tf := PyData → En → Option En
def tfName (i : Nat) : Tf := fun d δ => some (δ.set i (some (.dat d)))
def tfPair (i j : Nat) : Tf := fun d δ => match d with
  | .tuple [a, b] => some ((δ.set i (some (.dat a))).set j (some (.dat b)))
  | _ => none
def lcGo (step : PyData → (Option DV → Prop) → Prop) : List PyData → (List PyData → Prop) → Prop
  | [], P => P []
  | d :: ds, P => step d fun o => match o with
    | none => lcGo step ds P
    | some (.dat y) => lcGo step ds fun ys => P (y :: ys)
    | _ => False
def Cn.no (c : Cn) : Cn := ⟨fun _ _ => False, c.fa⟩
def Sg.no (S : Sg) : Sg := ⟨S.n, fun _ _ _ => False, S.cls, S.fa, S.tb⟩
def lcStep (tf : Tf) (dt : DT) (de : DE) (c : Cn) (δ : En) : PyData → (Option DV → Prop) → Prop := fun d k => match tf d δ with
  | some δ' => dt c.no δ' fun t => if t = true then de c.no δ' fun r => k (some (fz r)) else k none
  | none => False
def dLc (di : DI) (tf : Tf) (dt : DT) (de : DE) (vs : List Nat) : DE := fun c δ P => (∀ v ∈ vs, δ[v]? = some none) ∧ di c δ fun items => items.length ≤ 100000 ∧ lcGo (lcStep tf dt de c δ) items fun ys => P (.own ys)
theorem Cok.no {K : PySem.W.Frag} {S : Sg} {b : Bg} {I0 H0 : Hp} {c : Cn} (h : Cok K S b I0 H0 c) : Cok K S.no b I0 H0 c.no := ⟨h.fa, (fun C fs d I' H' hx => by
  obtain ⟨s, _, z⟩ := hx
  exact z.elim), h.tb⟩
end DW
namespace DW
open PySem PySem.Spec PyProof.Rows L2 RZ DL
def dNext : DS := fun _ δ D => D.nx δ
def later (b : DS) (c : Cn) (D : Ed) (δ : En) : Prop := b c δ D
def dSeq (a b : DS) : DS := fun c δ D => a c δ ⟨later b c D, D.rt, D.bk, D.ct⟩
def dIfS (t : DT) (a b : DS) : DS := fun c δ D => t c δ fun v => if v = true then a c δ D else b c δ D
def dAsg (i : Nat) (de : DE) : DS := fun c δ D => de c δ fun r => match r with
  | .bor _ => False
  | .dct false _ => False
  | r => D.nx (δ.set i (some r))
def dPar (i j : Nat) (da : DA) : DS := fun c δ D => da c δ fun rs => match rs with
  | [.dat a, .dat b] => D.nx ((δ.set i (some (.dat a))).set j (some (.dat b)))
  | _ => False
def dRet (de : DE) : DS := fun c δ D => de c δ D.rt
def dRetV (i : Nat) : DS := fun _ δ D => match δ[i]? with
  | some (some (.dct _ _)) => False
  | some (some r) => D.rt r
  | _ => False
def dRetN : DS := fun _ _ D => D.rt (.dat .none)
def dExpr (de : DE) : DS := fun c δ D => de c δ fun _ => D.nx δ
def dBrk : DS := fun _ δ D => D.bk δ
def dCnt : DS := fun _ δ D => D.ct δ
def forGo (c : Cn) (tf : Tf) (db : DS) (D : Ed) : List PyData → En → Prop
  | [], δ => D.nx δ
  | d :: ds, δ => match tf d δ with
    | some δ' => db c δ' ⟨forGo c tf db D ds, D.rt, D.nx, forGo c tf db D ds⟩
    | none => False
def dFor (di : DI) (tf : Tf) (db : DS) : DS := fun c δ D => di c δ fun items => forGo c tf db D items δ
def frzAt (i : Nat) (δ : En) : En := match δ[i]? with
  | some (some (.own ds)) => δ.set i (some (.dat (.list ds)))
  | _ => δ
def dFrz (i : Nat) (ds : DS) : DS := fun c δ D => ds c (frzAt i δ) D
abbrev DG := Cn → En → PyData → (En → Prop) → Prop
abbrev DGs := Cn → En → List PyData → (En → Prop) → Prop
def dGName (i : Nat) : DG := fun _ δ d N => N (δ.set i (some (.dat d)))
def oneDct : Nat → En → Bool
  | _, [] => true
  | 0, _ :: δ => δ.all fun x => match x with
    | some (.dct _ _) => false
    | _ => true
  | i + 1, x :: δ => (match x with
    | some (.dct _ _) => false
    | _ => true) && oneDct i δ
def dGSub (i : Nat) (di : DE) : DG := fun c δ d N => match δ[i]? with
  | some (some (.own ds)) => di c δ fun k => match k with
    | .dat (.int k) => match ixN ds.length k with
      | some j => N (δ.set i (some (.own (ds.set j d))))
      | none => False
    | _ => False
  | some (some (.dct true kvs)) => di c δ fun k => match k with
    | .dat kd => match keyT kd with
      | some kk => (oneDct i δ = true ∧ kvs.length < 100000) ∧ N (δ.set i (some (.dct true (putD kvs kd kk d))))
      | none => False
    | _ => False
  | _ => False
def dGNil : DGs := fun _ δ ds N => match ds with
  | [] => N δ
  | _ => False
def dGCons (g : DG) (gs : DGs) : DGs := fun c δ ds N => match ds with
  | d :: ds => g c δ d fun δ' => gs c δ' ds N
  | [] => False
def dGTup (n : Nat) (gs : DGs) : DG := fun c δ d N => match d with
  | .tuple ds => ds.length = n ∧ gs c δ ds N
  | _ => False
def dAsgG (de : DE) (dg : DG) : DS := fun c δ D => de c δ fun r => match fz r with
  | .dat d => dg c δ d D.nx
  | _ => False
def dAugI (i : Nat) (g : Int → Int → Int) (di de : DE) : DS := fun c δ D => match δ[i]? with
  | some (some (.own ds)) => di c δ fun k => match k with
    | .dat (.int k) => 0 ≤ k ∧ match ds[k.toNat]? with
      | some (.int m) => de c δ fun r => match r with
        | .dat (.int n) => D.nx (δ.set i (some (.own (ds.set k.toNat (.int (g m n))))))
        | _ => False
      | _ => False
    | _ => False
  | _ => False
def dAug (i : Nat) (g : Int → Int → Int) (de : DE) : DS := fun c δ D => match δ[i]? with
  | some (some (.dat (.int m))) => de c δ fun r => match r with
    | .dat (.int n) => D.nx (δ.set i (some (dint (g m n))))
    | _ => False
  | _ => False
def dApp (i : Nat) (de : DE) : DS := fun c δ D => match δ[i]? with
  | some (some (.own ds)) => de c δ fun r => match fz r with
    | .dat d => ds.length < 100000 ∧ D.nx (δ.set i (some (.own (ds ++ [d]))))
    | _ => False
  | _ => False
def dExt (i : Nat) (de : DE) : DS := fun c δ D => match δ[i]? with
  | some (some (.own ds)) => de c δ fun r => match fz r with
    | .dat (.list es) => ds.length + es.length ≤ 100000 ∧ D.nx (δ.set i (some (.own (ds ++ es))))
    | _ => False
  | _ => False
def scV : DV → Option V
  | .dat .none => some .non
  | .dat (.bool i) => some (.bl i)
  | .dat (.int i) => some (.int i)
  | .dat (.str i) => some (.str i)
  | _ => none
def scVs : List DV → Option (List V)
  | [] => some []
  | r :: rs => match scV r with
    | some v => match scVs rs with
      | some vs => some (v :: vs)
      | none => none
    | none => none
def dRaise (x : Nat) (mk : List V → List (Str × V)) (da : DA) : DS := fun c δ _ => da c δ fun rs => match scVs rs with
  | some vs => c.x x (mk vs)
  | none => False
def dCount (do_ de : DE) : DE := fun c δ P => do_ c δ fun x => match x with
  | .dat (.tuple ds) => match intsD ds with
    | some ns => de c δ fun y => match y with
      | .dat (.int k) => P (dint (ns.count k))
      | _ => False
    | none => False
  | _ => False
def wFn (n m : Nat) (D : DS) : Wt := fun rs P c => rs.length = n ∧ D c (rs.map some ++ List.replicate (m - n) none) ⟨fun _ => P (.dat .none), P, fun _ => False, fun _ => False⟩
end DW
namespace DW
open PySem PySem.Spec PyProof.Rows L2 RZ DL
end DW
namespace DW
open PySem PySem.Spec PyProof.Rows L2 RZ DL
end DW
namespace DW
open PySem PySem.Spec PyProof.Rows L2 RZ DL
def dNever : DS := fun _ _ _ => False
end DW
namespace DW
open PySem PySem.Spec PyProof.Rows L2 RZ DL
end DW
namespace DW
open PySem PySem.Spec PyProof.Rows L2 RZ DL
end DW
namespace DZ
open PySem PySem.Spec PyProof.Rows L2 RZ DL
end DZ
set_option maxHeartbeats 1000000
namespace DZ
open PySem PySem.Spec PyProof.Rows L2 RZ DL
end DZ
namespace DW
open PySem PySem.Spec PyProof.Rows L2 RZ DL DZ
end DW
namespace DW
open PySem PySem.Spec PyProof.Rows L2 RZ DL
end DW
namespace DW
open PySem PySem.Spec PyProof.Rows L2 RZ DL DZ
end DW
set_option maxHeartbeats 4000000
namespace DW
open PySem PySem.Spec PyProof.Rows L2 RZ DL
end DW
namespace DW
open PySem PySem.Spec PyProof.Rows L2 RZ DL
end DW
namespace DL
open PySem PySem.Spec PyProof.Rows L2
end DL
namespace DW
open PySem PySem.Spec PyProof.Rows L2 RZ DL
end DW
namespace DL
open PySem PySem.Spec PyProof.Rows L2 RZ
end DL
namespace DW
open PySem PySem.Spec PyProof.Rows L2 RZ DL
end DW
namespace DW
open PySem PySem.Spec PyProof.Rows L2 RZ DL
end DW
namespace DW
open PySem PySem.Spec PyProof.Rows L2 RZ DL
end DW
namespace DW
open PySem PySem.Spec PyProof.Rows L2 RZ DL
end DW
namespace DW
open PySem PySem.Spec PyProof.Rows L2 RZ DL
end DW
namespace DW
open PySem PySem.Spec PyProof.Rows L2 RZ DL
end DW
namespace DW
open PySem PySem.Spec PyProof.Rows L2 RZ DL
end DW
namespace DL
open PySem PySem.Spec PyProof.Rows L2
end DL
set_option maxHeartbeats 1000000
namespace DW
open PySem PySem.Spec PyProof.Rows L2 RZ DL
end DW
namespace HX
open PySem PySem.Spec PyProof.Rows L2 DL DW
abbrev dd (a x : Str) (st : Stmt) : He.DefD := ⟨(a, none), x, x, defArgs st, defBody st, defScope st, [], []⟩
abbrev dk (a x : Str) (st : Stmt) (y : Str) (i : Int) : He.DefD := ⟨(a, none), x, x, defArgs st, defBody st, defScope st, [], [(y, .int i)]⟩
abbrev di (c q : Str) (st : Stmt) : He.DefD := ⟨(c, some "__init__"), "__init__", q, defArgs st, defBody st, defScope st, [], []⟩
def exB (K : PySem.W.Frag) (C : Addr) : Bool := match K.lookup C with
  | some ⟨.type c, _, .cls cd, sl⟩ => (match cd.mro, sl.toList with
    | .ref C' :: bm, [_, _, _, _, some (.builtin n), _] => decide (c = "type") && (decide (C' = C) && (decide (n = "ValueError.__new__") && (!cd.hasDel && (cd.hasDict && PySem.HandSPX.refsVE bm))))
    | _, _ => false)
  | _ => false
def clsX (K : PySem.W.Frag) (x : Str) (fs : List Str) : Bool :=
  exB K (He.ga K x) && (He.eqO (PySem.W.findIn K (.ref (He.ga K x)) "__setattr__") (some (some (.builtin "object.__setattr__"))) && (decide (PySem.W.subIn K (.ref (He.ga K x)) (.type "BaseException") = some true) && (decide (PySem.W.typeIn K (.ref (He.ga K x)) = some (.type "type")) && (PySem.W.keepIn K (.ref (He.ga K x)) && (xfB K (He.ga K x) &&
    (decide (PySem.W.typeIn K (.ref (He.ma K (He.ga K x) "__init__")) = some (.type "function")) && (He.eqO (PySem.W.findIn K (.ref (He.ga K x)) "__init__") (some (some (.ref (He.ma K (He.ga K x) "__init__")))) && fs.all fun f => He.eqO (PySem.W.findIn K (.ref (He.ga K x)) f) (some none))))))))
end HX
namespace HX
open PySem PySem.Spec PyProof.Rows L2 DL DW
def topAs (g : Addr → Option Obj) (names : List Str) : List Addr := match g mainGlobals with
  | some o => (match o.data with
    | .dict es _ => es.toList.flatMap fun e => match names.any (fun x => e.key.isStr x) with
      | true => He.refV e.val
      | false => []
    | _ => [])
  | none => []
def upAs (g : Addr → Option Obj) (as : List Addr) : List Addr := as.flatMap fun a => match g a with
  | some o => He.refsD o
  | none => []
def accL (g : Addr → Option Obj) : Nat → List Addr → List Addr
  | 0, f => f
  | n + 1, f => f ++ accL g n (upAs g f)
def asL (g : Addr → Option Obj) (names : List Str) (n : Nat) : List Addr := mainGlobals :: accL g n (topAs g names)
def obsL (names : List Str) (n : Nat) (fa : List He.Fa) (fn : List He.DefD) (ts : List He.Tab) (tf : List He.Defn) (ex : PySem.W.Frag → Bool) (g : Addr → Option Obj) : He.AlX := (He.obsT fa fn ts (He.frT g (asL g names n)), ex (He.frT g (asL g names n)) && He.tabsB g tf (He.frT g (asL g names n)))
theorem saysL_of {names : List Str} {n : Nat} {fa : List He.Fa} {fn : List He.DefD} {ts : List He.Tab} {tf : List He.Defn} {ex : PySem.W.Frag → Bool} {w : World} {h : Heap} (e : obsL names n fa fn ts tf ex h.get? = He.valX fn ts w) : He.SaysX fa fn ts tf ex w h (He.frT h.get? (asL h.get? names n)) := by
  have e1 := congrArg Prod.fst e
  have e2 := congrArg Prod.snd e
  obtain ⟨m1, m2⟩ := Bool.and_eq_true_iff.mp e2
  have all := List.all_eq_true.mp m2
  have tab : ∀ p ∈ tf, ∃ o, h.get? (He.cT (He.frT h.get? (asL h.get? names n)) p).2 = some o ∧ He.emptyTab o = true := fun p hp => by
    obtain ⟨_, v⟩ := Bool.and_eq_true_iff.mp (all p hp)
    cases q : h.get? (He.cT (He.frT h.get? (asL h.get? names n)) p).2 with
    | none => rw [q] at v; cases v
    | some o => rw [q] at v; exact ⟨o, rfl, v⟩
  refine ⟨e1, m1, fun p hp => (Bool.and_eq_true_iff.mp (all p hp)).1, fun p hp => ?_, fun p hp => ?_⟩
  · obtain ⟨o, q, z⟩ := tab p hp
    exact He.frT_none q z
  · obtain ⟨o, q, z⟩ := tab p hp
    rw [q, He.emptyTab_eq z]
def hookL (names : List Str) (n : Nat) (fa : List He.Fa) (fn : List He.DefD) (ts : List He.Tab) (tf : List He.Defn) (ex : PySem.W.Frag → Bool) : PySem.W.Hook where
  α := He.AlX
  obs := fun s => obsL names n fa fn ts tf ex s.heap.get?
  val := fun w => He.valX fn ts w
  says := fun w h => ∃ K : PySem.W.Frag, K.In h ∧ He.SaysX fa fn ts tf ex w h K
  of := fun _ _ e => ⟨_, He.frT_in, saysL_of e⟩
  keeps := fun _ _ _ ⟨K, hK, c⟩ k => ⟨K, PySem.W.Frag.In.keeps hK k, ⟨c.t, c.more, c.hd, c.out, fun p hp => k _ _ (c.empty p hp)⟩⟩
theorem obsL_eq {names : List Str} {n : Nat} {fa : List He.Fa} {fn : List He.DefD} {ts : List He.Tab} {tf : List He.Defn} {ex : PySem.W.Frag → Bool} {g : Addr → Option Obj} {s : Shared} (h : ∀ a, g a = s.heap.get? a) : obsL names n fa fn ts tf ex g = (hookL names n fa fn ts tf ex).obs s := by
  have e : g = s.heap.get? := funext h
  rw [e] <;> rfl
end HX
set_option maxHeartbeats 4000000
namespace Lw
open PySem PySem.Spec PyProof.Rows L2 DL DW
def topS (i : Nat) : Stmt := PySem.Challenge.pw_hidelater_k70_bad_sizes_at_every_door.main.body.getD i (.Pass ⟨0, 0, 0, 0⟩)
abbrev s_look_sizes : Stmt := topS 18
abbrev s_look_counts : Stmt := topS 19
abbrev s_look_stand : Stmt := topS 21
abbrev s_stand_of : Stmt := topS 24
abbrev s_room : Stmt := topS 25
abbrev s_apart : Stmt := topS 30
abbrev s_look_deed : Stmt := topS 34
abbrev s_look_row : Stmt := topS 35
abbrev s_has_tap : Stmt := topS 36
abbrev s_poured : Stmt := topS 43
abbrev s_poured_all : Stmt := topS 44
abbrev s_by_counts : Stmt := topS 45
abbrev s_done : Stmt := topS 63
abbrev s_done_all : Stmt := topS 64
abbrev s_path : Stmt := topS 65
abbrev s_behind : Stmt := topS 84
abbrev s_behind_counts : Stmt := topS 85
abbrev s_ring : Stmt := topS 86
abbrev s_ring_of_counts : Stmt := topS 87
abbrev s_turns : Stmt := topS 88
abbrev s_trail_of_counts : Stmt := topS 92
abbrev s_ring_of_trail : Stmt := topS 93
abbrev s_ends : Stmt := topS 96
abbrev s_kin : Stmt := topS 97
abbrev s_kin_holds : Stmt := topS 98
abbrev s_when : Stmt := topS 107
abbrev s_first_time : Stmt := topS 108
abbrev s_never : Stmt := topS 109
abbrev s_never_holds : Stmt := topS 110
abbrev s_rows_and_ahead : Stmt := topS 111
abbrev s_meet : Stmt := topS 114
abbrev s_apart_at_last : Stmt := topS 115
abbrev s_pairs_behind : Stmt := topS 116
abbrev s_one_more : Stmt := topS 119
abbrev s_law_open : Stmt := topS 123
abbrev s_law_take : Stmt := topS 124
abbrev s_law_pick : Stmt := topS 125
abbrev s_law_same : Stmt := topS 126
abbrev s_law_sizes : Stmt := topS 127
abbrev s_law_any_sizes : Stmt := topS 128
abbrev s_law_told : Stmt := topS 129
abbrev s_law_doors : Stmt := topS 130
abbrev s_law_later_doors : Stmt := topS 131
abbrev s_law : Stmt := topS 132
abbrev s_BadSizes : Stmt := topS 2
abbrev si_BadSizes : Stmt := inClass s_BadSizes 0
end Lw
namespace Lw
open PySem PySem.Spec PyProof.Rows L2 DL DW
abbrev RR : PySem.W.OpenRow := PySem.W.OpenLaw.row PySem.Challenge.rw_hidelater_k70_bad_sizes_at_every_door
abbrev hd0 : He.DefD := HX.dd "look_sizes" "look_sizes" s_look_sizes
abbrev hd1 : He.DefD := HX.dd "look_counts" "look_counts" s_look_counts
abbrev hd2 : He.DefD := HX.dd "look_stand" "look_stand" s_look_stand
abbrev hd3 : He.DefD := HX.dd "stand_of" "stand_of" s_stand_of
abbrev hd4 : He.DefD := HX.dd "room" "room" s_room
abbrev hd5 : He.DefD := HX.dd "apart" "apart" s_apart
abbrev hd6 : He.DefD := HX.dd "look_deed" "look_deed" s_look_deed
abbrev hd7 : He.DefD := HX.dd "look_row" "look_row" s_look_row
abbrev hd8 : He.DefD := HX.dd "has_tap" "has_tap" s_has_tap
abbrev hd9 : He.DefD := HX.dd "poured" "poured" s_poured
abbrev hd10 : He.DefD := HX.dd "poured_all" "poured_all" s_poured_all
abbrev hd11 : He.DefD := HX.dd "by_counts" "by_counts" s_by_counts
abbrev hd12 : He.DefD := HX.dd "done" "done" s_done
abbrev hd13 : He.DefD := HX.dd "done_all" "done_all" s_done_all
abbrev hd14 : He.DefD := HX.dd "path" "path" s_path
abbrev hd15 : He.DefD := HX.dd "behind" "behind" s_behind
abbrev hd16 : He.DefD := HX.dd "behind_counts" "behind_counts" s_behind_counts
abbrev hd17 : He.DefD := HX.dd "ring" "ring" s_ring
abbrev hd18 : He.DefD := HX.dd "ring_of_counts" "ring_of_counts" s_ring_of_counts
abbrev hd19 : He.DefD := HX.dd "turns" "turns" s_turns
abbrev hd20 : He.DefD := HX.dd "trail_of_counts" "trail_of_counts" s_trail_of_counts
abbrev hd21 : He.DefD := HX.dd "ring_of_trail" "ring_of_trail" s_ring_of_trail
abbrev hd22 : He.DefD := HX.dd "ends" "ends" s_ends
abbrev hd23 : He.DefD := HX.dd "kin" "kin" s_kin
abbrev hd24 : He.DefD := HX.dd "kin_holds" "kin_holds" s_kin_holds
abbrev hd25 : He.DefD := HX.dk "when" "when" s_when "least" 1
abbrev hd26 : He.DefD := HX.dk "first_time" "first_time" s_first_time "least" 1
abbrev hd27 : He.DefD := HX.dk "never" "never" s_never "least" 1
abbrev hd28 : He.DefD := HX.dk "never_holds" "never_holds" s_never_holds "least" 1
abbrev hd29 : He.DefD := HX.dd "rows_and_ahead" "rows_and_ahead" s_rows_and_ahead
abbrev hd30 : He.DefD := HX.dd "meet" "meet" s_meet
abbrev hd31 : He.DefD := HX.dd "apart_at_last" "apart_at_last" s_apart_at_last
abbrev hd32 : He.DefD := HX.dd "pairs_behind" "pairs_behind" s_pairs_behind
abbrev hd33 : He.DefD := HX.dd "one_more" "one_more" s_one_more
abbrev hd34 : He.DefD := HX.dd "_law_open" "_law_open" s_law_open
abbrev hd35 : He.DefD := HX.dd "_law_take" "_law_take" s_law_take
abbrev hd36 : He.DefD := HX.dd "_law_pick" "_law_pick" s_law_pick
abbrev hd37 : He.DefD := HX.dd "_law_same" "_law_same" s_law_same
abbrev hd38 : He.DefD := HX.dd "_law_sizes" "_law_sizes" s_law_sizes
abbrev hd39 : He.DefD := HX.dd "_law_any_sizes" "_law_any_sizes" s_law_any_sizes
abbrev hd40 : He.DefD := HX.dd "_law_told" "_law_told" s_law_told
abbrev hd41 : He.DefD := HX.dd "_law_doors" "_law_doors" s_law_doors
abbrev hd42 : He.DefD := HX.dd "_law_later_doors" "_law_later_doors" s_law_later_doors
abbrev hd43 : He.DefD := HX.dd "law" "law" s_law
abbrev hd44 : He.DefD := HX.di "BadSizes" "BadSizes.__init__" si_BadSizes
def hfa : List He.Fa := [.glo "look_sizes",
  .glo "look_counts",
  .glo "look_stand",
  .glo "stand_of",
  .glo "room",
  .glo "apart",
  .glo "look_deed",
  .glo "look_row",
  .glo "has_tap",
  .glo "poured",
  .glo "poured_all",
  .glo "by_counts",
  .glo "done",
  .glo "done_all",
  .glo "path",
  .glo "behind",
  .glo "behind_counts",
  .glo "ring",
  .glo "ring_of_counts",
  .glo "turns",
  .glo "trail_of_counts",
  .glo "ring_of_trail",
  .glo "ends",
  .glo "kin",
  .glo "kin_holds",
  .glo "when",
  .glo "first_time",
  .glo "never",
  .glo "never_holds",
  .glo "rows_and_ahead",
  .glo "meet",
  .glo "apart_at_last",
  .glo "pairs_behind",
  .glo "one_more",
  .glo "_law_open",
  .glo "_law_take",
  .glo "_law_pick",
  .glo "_law_same",
  .glo "_law_sizes",
  .glo "_law_any_sizes",
  .glo "_law_told",
  .glo "_law_doors",
  .glo "_law_later_doors",
  .glo "law",
  .free "enumerate",
  .free "len",
  .free "_never",
  .free "sum",
  .free "abs",
  .free "zip",
  .free "list",
  .free "isinstance",
  .free "bool",
  .free "int",
  .free "str",
  .free "all",
  .free "tuple",
  .free "range",
  .int "MOST_CASKS" (6),
  .int "MOST_SIZE" (40),
  .glo "BadSizes",
  .exm "BadSizes" "BadSizes" true]
def hfn_a : List He.DefD := [hd0, hd1, hd2, hd3, hd4, hd5, hd6, hd7, hd8, hd9, hd10, hd11, hd12, hd13, hd14, hd15, hd16, hd17, hd18, hd19, hd20, hd21, hd22]
def hfn_b : List He.DefD := [hd23, hd24, hd25, hd26, hd27, hd28, hd29, hd30, hd31, hd32, hd33, hd34, hd35, hd36, hd37, hd38, hd39, hd40, hd41, hd42, hd43, hd44]
def hfn : List He.DefD := hfn_a ++ hfn_b
def hts : List He.Tab := []
def htf : List He.Defn := [("_law_doors", none), ("_law_later_doors", none)]
def hex (K : PySem.W.Frag) : Bool := (ktB K && (klB K && (HX.clsX K "BadSizes" ["word", "cask"] && (decide ((He.cT K ("_law_doors", none)).2 ≠ (He.cT K ("_law_later_doors", none)).2) && true))))
def hln : List Str := (["look_sizes", "look_counts", "look_stand", "stand_of", "room", "apart", "look_deed", "look_row", "has_tap", "poured", "poured_all", "by_counts", "done", "done_all", "path", "behind", "behind_counts", "ring", "ring_of_counts", "turns", "trail_of_counts", "ring_of_trail", "ends", "kin", "kin_holds", "when", "first_time", "never", "never_holds", "rows_and_ahead"] : List Str) ++ (["meet", "apart_at_last", "pairs_behind", "one_more", "_law_open", "_law_take", "_law_pick", "_law_same", "_law_sizes", "_law_any_sizes", "_law_told", "_law_doors", "_law_later_doors", "law", "BadSizes"] : List Str)
abbrev hk : PySem.W.Hook := HX.hookL hln 4 hfa hfn hts htf hex
def hob (s : PySem.W.SharedT) : He.AlX := HX.obsL hln 4 hfa hfn hts htf hex (HandSHeadRun.getT s)
theorem hob_eq (s : PySem.W.SharedT) : hob s = hk.obs s.abs := HX.obsL_eq (HandSHeadRun.getT_eq s)
def hnames : List Str := (["__name__", "HideError", "BadSizes", "BadCounts", "BadStand", "BadDeed", "BadRow", "BadTimes", "Tapped", "TooMany", "Missing", "NoDrop", "NoCask", "MOST_CASKS", "MOST_SIZE", "MOST_DROPS", "GONE", "look_sizes", "look_counts", "count_fault", "look_stand", "look_cask", "counts_of", "stand_of", "room", "hidden", "lesser", "greater", "within", "apart"] : List Str) ++ (["GREAT", "WORDS", "look_deed", "look_row", "has_tap", "look_dry", "fault_place", "length_fits", "swap_fault", "cask_fault", "poured", "poured_all", "by_counts", "gained", "led", "led_amounts", "over", "over_amounts", "down", "down_amounts", "swap", "swap_amounts", "tap", "tap_amounts", "drain", "drain_amounts", "POURINGS", "counts_behind", "counts_behind_row", "done"] : List Str) ++ (["done_all", "path", "ranks_in", "led_ranks", "over_ranks", "down_ranks", "swap_ranks", "tap_ranks", "drain_ranks", "DOINGS", "stand_behind", "stand_behind_row", "FAR", "behind", "behind_counts", "ring", "ring_of_counts", "turns", "look_again", "look_times", "trail", "trail_of_counts", "ring_of_trail", "far_behind", "ends", "kin", "kin_holds", "least_of", "greatest_of", "owners_of"] : List Str) ++ (["family_of", "members_fit", "goes_about", "built", "when", "first_time", "never", "never_holds", "rows_and_ahead", "times_of", "meet", "apart_at_last", "pairs_behind", "both_behind", "one_more", "table_behind", "end_of_one", "_law_open", "_law_take", "_law_pick", "_law_same", "_law_sizes", "_law_any_sizes", "_law_told", "_law_doors", "_law_later_doors"] : List Str)
def hK (s : PySem.W.SharedT) : PySem.W.Frag := He.frT (HandSHeadRun.getT s) (HX.asL (HandSHeadRun.getT s) hln 4)
theorem hTwo {S : Type} {x : Option S} {A : S → Bool} {F : S → List He.FnW} {T : S → List (Option (List (Option (Str × Int))))} {E : S → Bool} {f0 : List He.FnW} {t0 : List (Option (List (Option (Str × Int))))} {C N O : S → Bool} (hA : ∀ s, A s = (C s && (N s && O s))) (e1 : x.map C = some true) (e2 : x.map N = some true) (e4 : x.map O = some true) (e3 : x.map (fun s => ((F s, T s), E s)) = some ((f0, t0), true)) : x.map (fun s => (((A s, F s), T s), E s)) = some (((true, f0), t0), true) := by
  cases x with
  | none => cases e1
  | some s =>
    have a1 : C s = true := Option.some.inj e1
    have a2 : N s = true := Option.some.inj e2
    have a8 : O s = true := Option.some.inj e4
    have a3 := Option.some.inj e3
    show some (((A s, F s), T s), E s) = _
    rw [hA s, a1, a2, a8]
    injection a3 with a4 a5
    injection a4 with a6 a7
    rw [a5, a6, a7]
    rfl
theorem three {S A B C : Type} {x : Option S} {f : S → A} {g : S → B} {h : S → C} {a : A} {b : B} {c : C} (e1 : x.map f = some a) (e2 : x.map g = some b) (e3 : x.map h = some c) : x.map (fun s => (f s, g s, h s)) = some (a, b, c) := by
  cases x with
  | none => cases e1
  | some s => cases e1; cases e2; cases e3; rfl
theorem hrun1_false (w : World) (os : PySem.OsState) : (HandSHeadRun.endF (HandSHeadRun.stepQ (HandSHeadRun.denQ HandSHeadRun.tabQ) RR.prog (w.withFollow "special-get-raises" false)) 15000 RR.prog (w.withFollow "special-get-raises" false) os).map (fun s => HandSHeadRun.looksF RR.prog (PySem.W.boot_heap (w.withFollow "special-get-raises" false).params) s.abs) = some true := by
  kernel_rfl
theorem hrun2_false (w : World) (os : PySem.OsState) : (HandSHeadRun.endF (HandSHeadRun.stepQ (HandSHeadRun.denQ HandSHeadRun.tabQ) RR.prog (w.withFollow "special-get-raises" false)) 15000 RR.prog (w.withFollow "special-get-raises" false) os).map (fun s => HandSHeadRun.seenQ (PySem.W.view RR.prog [132]) hnames (importedModules RR.prog.main.body) (fun s => PySem.W.xlAt (PySem.W.view RR.prog [132]) [] s && PySem.W.recOk RR.toRowW.records s) s.abs) = some (PySem.W.openGood (PySem.W.view RR.prog [132]) hnames) := by
  kernel_rfl
theorem hrun3_false (w : World) (os : PySem.OsState) : (HandSHeadRun.endF (HandSHeadRun.stepQ (HandSHeadRun.denQ HandSHeadRun.tabQ) RR.prog (w.withFollow "special-get-raises" false)) 15000 RR.prog (w.withFollow "special-get-raises" false) os).map (fun s => hfa.all fun f => f.ok (hK s)) = some true := by
  kernel_rfl
theorem hrun4_false (w : World) (os : PySem.OsState) : (HandSHeadRun.endF (HandSHeadRun.stepQ (HandSHeadRun.denQ HandSHeadRun.tabQ) RR.prog (w.withFollow "special-get-raises" false)) 15000 RR.prog (w.withFollow "special-get-raises" false) os).map (fun s => hfn_a.all fun d => d.ok (hK s)) = some true := by
  kernel_rfl
theorem hrun5_false (w : World) (os : PySem.OsState) : (HandSHeadRun.endF (HandSHeadRun.stepQ (HandSHeadRun.denQ HandSHeadRun.tabQ) RR.prog (w.withFollow "special-get-raises" false)) 15000 RR.prog (w.withFollow "special-get-raises" false) os).map (fun s => hfn_b.all fun d => d.ok (hK s)) = some true := by
  kernel_rfl
theorem hrun6_false (w : World) (os : PySem.OsState) : (HandSHeadRun.endF (HandSHeadRun.stepQ (HandSHeadRun.denQ HandSHeadRun.tabQ) RR.prog (w.withFollow "special-get-raises" false)) 15000 RR.prog (w.withFollow "special-get-raises" false) os).map (fun s => ((hfn.map fun d => He.fnW (hK s) d.at_, hts.map fun t => He.dicW (hK s) (t.1 (hK s))), hex (hK s) && He.tabsB (HandSHeadRun.getT s) htf (hK s))) = some ((hfn.map He.DefD.val, hts.map fun t => some (He.keysIn ((w.withFollow "special-get-raises" false)).params t.2)), true) := by
  kernel_rfl
theorem hrun9_false (w : World) (os : PySem.OsState) : (HandSHeadRun.endF (HandSHeadRun.stepQ (HandSHeadRun.denQ HandSHeadRun.tabQ) RR.prog (w.withFollow "special-get-raises" false)) 15000 RR.prog (w.withFollow "special-get-raises" false) os).map (fun s => hob s) = some (hk.val (w.withFollow "special-get-raises" false)) := hTwo (A := fun s => (hfa.all fun f => f.ok (hK s)) && hfn.all fun d => d.ok (hK s)) (fun s => by
  show (hfa.all (fun f => f.ok (hK s)) && (hfn_a ++ hfn_b).all (fun d => d.ok (hK s))) = _
  rw [List.all_append]) (hrun3_false w os) (hrun4_false w os) (hrun5_false w os) (hrun6_false w os)
theorem hrun1_true (w : World) (os : PySem.OsState) : (HandSHeadRun.endF (HandSHeadRun.stepQ (HandSHeadRun.denQ HandSHeadRun.tabQ) RR.prog (w.withFollow "special-get-raises" true)) 15000 RR.prog (w.withFollow "special-get-raises" true) os).map (fun s => HandSHeadRun.looksF RR.prog (PySem.W.boot_heap (w.withFollow "special-get-raises" true).params) s.abs) = some true := by
  kernel_rfl
theorem hrun2_true (w : World) (os : PySem.OsState) : (HandSHeadRun.endF (HandSHeadRun.stepQ (HandSHeadRun.denQ HandSHeadRun.tabQ) RR.prog (w.withFollow "special-get-raises" true)) 15000 RR.prog (w.withFollow "special-get-raises" true) os).map (fun s => HandSHeadRun.seenQ (PySem.W.view RR.prog [132]) hnames (importedModules RR.prog.main.body) (fun s => PySem.W.xlAt (PySem.W.view RR.prog [132]) [] s && PySem.W.recOk RR.toRowW.records s) s.abs) = some (PySem.W.openGood (PySem.W.view RR.prog [132]) hnames) := by
  kernel_rfl
theorem hrun3_true (w : World) (os : PySem.OsState) : (HandSHeadRun.endF (HandSHeadRun.stepQ (HandSHeadRun.denQ HandSHeadRun.tabQ) RR.prog (w.withFollow "special-get-raises" true)) 15000 RR.prog (w.withFollow "special-get-raises" true) os).map (fun s => hfa.all fun f => f.ok (hK s)) = some true := by
  kernel_rfl
theorem hrun4_true (w : World) (os : PySem.OsState) : (HandSHeadRun.endF (HandSHeadRun.stepQ (HandSHeadRun.denQ HandSHeadRun.tabQ) RR.prog (w.withFollow "special-get-raises" true)) 15000 RR.prog (w.withFollow "special-get-raises" true) os).map (fun s => hfn_a.all fun d => d.ok (hK s)) = some true := by
  kernel_rfl
theorem hrun5_true (w : World) (os : PySem.OsState) : (HandSHeadRun.endF (HandSHeadRun.stepQ (HandSHeadRun.denQ HandSHeadRun.tabQ) RR.prog (w.withFollow "special-get-raises" true)) 15000 RR.prog (w.withFollow "special-get-raises" true) os).map (fun s => hfn_b.all fun d => d.ok (hK s)) = some true := by
  kernel_rfl
theorem hrun6_true (w : World) (os : PySem.OsState) : (HandSHeadRun.endF (HandSHeadRun.stepQ (HandSHeadRun.denQ HandSHeadRun.tabQ) RR.prog (w.withFollow "special-get-raises" true)) 15000 RR.prog (w.withFollow "special-get-raises" true) os).map (fun s => ((hfn.map fun d => He.fnW (hK s) d.at_, hts.map fun t => He.dicW (hK s) (t.1 (hK s))), hex (hK s) && He.tabsB (HandSHeadRun.getT s) htf (hK s))) = some ((hfn.map He.DefD.val, hts.map fun t => some (He.keysIn ((w.withFollow "special-get-raises" true)).params t.2)), true) := by
  kernel_rfl
theorem hrun9_true (w : World) (os : PySem.OsState) : (HandSHeadRun.endF (HandSHeadRun.stepQ (HandSHeadRun.denQ HandSHeadRun.tabQ) RR.prog (w.withFollow "special-get-raises" true)) 15000 RR.prog (w.withFollow "special-get-raises" true) os).map (fun s => hob s) = some (hk.val (w.withFollow "special-get-raises" true)) := hTwo (A := fun s => (hfa.all fun f => f.ok (hK s)) && hfn.all fun d => d.ok (hK s)) (fun s => by
  show (hfa.all (fun f => f.ok (hK s)) && (hfn_a ++ hfn_b).all (fun d => d.ok (hK s))) = _
  rw [List.all_append]) (hrun3_true w os) (hrun4_true w os) (hrun5_true w os) (hrun6_true w os)
theorem hrun (w : World) : HandSHeadRun.RunEq RR (PySem.W.view RR.prog [132]) hk hob 15000 hnames w := PySem.W.byRow2 "special-get-raises" (P := fun w => HandSHeadRun.RunEq RR (PySem.W.view RR.prog [132]) hk hob 15000 hnames w) (fun w os => three (hrun1_false w os) (hrun2_false w os) (hrun9_false w os)) (fun w os => three (hrun1_true w os) (hrun2_true w os) (hrun9_true w os)) w
open PySem.W PyProof.Rows in
theorem hhead (call : PySem.W.WalkO (PySem.W.view RR.prog [132]) hnames (PySem.W.XL (PySem.W.view RR.prog [132]) []) hk.says RR.toRowW (HandSHeadRun.topDef RR.prog 132) [] fun f vs => PySem.call f vs) : RR.Holds := by
  refine HandSHeadRun.head_any (r := RR) (q := (PySem.W.view RR.prog [132])) (H := hk) (ob := hob) (M := 15000) (loose := hnames) (d := HandSHeadRun.topDef RR.prog 132) (kwd := []) hob_eq
    (by kernel_rfl) (fun s => by kernel_rfl) hrun (by kernel_rfl) (by kernel_rfl) (by kernel_rfl) (by rfl) (by first | assumption | decide +kernel) (by decide +kernel) ⟨rfl, rfl, rfl, rfl, rfl, by decide +kernel⟩ ?hw call
  case hw => w_witness2
end Lw
set_option maxHeartbeats 1000000
namespace DL
open PySem PySem.Spec PyProof.Rows L2 RZ
end DL
namespace DW
open PySem PySem.Spec PyProof.Rows L2 RZ DL
end DW
set_option maxHeartbeats 4000000
namespace DW
open PySem PySem.Spec PyProof.Rows L2 RZ DL
theorem isPl_dat {d : PyData} : isPl (.dat d) = true := rfl
theorem isPl_raw {v : V} : isPl (.raw v) = true := rfl
theorem isPl_bag : isPl .bag = true := rfl
def at_ (ns : List Int) (i : Int) : Int := ns.getD i.toNat 0
end DW
namespace DW
open PySem PySem.Spec PyProof.Rows L2 RZ DL
end DW
namespace DW
open PySem PySem.Spec PyProof.Rows L2 RZ DL
end DW
namespace DW
open PySem PySem.Spec PyProof.Rows L2 RZ DL
end DW
namespace DW
open PySem PySem.Spec PyProof.Rows L2 RZ DL
end DW
namespace DW
open PySem PySem.Spec PyProof.Rows L2 RZ DL
end DW
namespace DW
open PySem PySem.Spec PyProof.Rows L2 RZ DL
end DW
namespace DW
open PySem PySem.Spec PyProof.Rows L2 RZ DL
end DW
set_option maxHeartbeats 1000000
namespace DW
open PySem PySem.Spec PyProof.Rows L2 RZ DL
abbrev WtM := List DV → (List PyData → Prop) → Cn → Prop
def wM (m : Nat) (D : DS) : WtM := fun rs P c => D c (rs.map some ++ List.replicate (m - 4) none) ⟨fun δ => ∃ ds, δ[1]? = some (some (.own ds)) ∧ P ds, fun _ => False, fun _ => False, fun _ => False⟩
end DW
namespace DW
open PySem PySem.Spec PyProof.Rows L2 RZ DL
structure Nest (K : PySem.W.Frag) (b : Bg) (H0 I H : Hp) (a : Addr) (cs : List Addr) (rows : List (List Int)) : Prop where
  fr : DL.Fr H0 a
  ni : I a = none
  nb : a ≠ b.a
  at_ : H a = some (.lst (cs.map V.ref))
  na : a ∉ cs
  nd : cs.Nodup
  len : cs.length = rows.length
  each : ∀ (j : Nat) c row, cs[j]? = some c → rows[j]? = some row → DL.Fr H0 c ∧ I c = none ∧ c ≠ b.a ∧ H c = some (.lst (row.map V.int))
section
variable {K : PySem.W.Frag} {b : Bg} {H0 I H I' H' I0 : Hp} {a : Addr} {cs : List Addr} {rows : List (List Int)}
theorem Nest.ext (n : Nest K b H0 I H a cs rows) (e : Ext K b I H I' H') : Nest K b H0 I' H' a cs rows :=
  ⟨n.fr, e.n a _ n.ni n.at_ lst_tbl, n.nb, e.h a _ n.nb lst_tbl n.at_, n.na, n.nd, n.len, fun j c row h1 h2 => (let ⟨f, i, b, h⟩ := n.each j c row h1 h2; ⟨f, e.n c _ i h lst_tbl, b, e.h c _ b lst_tbl h⟩)⟩
end
end DW
namespace DL
open PySem PySem.Spec PyProof.Rows L2 RZ
end DL
namespace DW
open PySem PySem.Spec PyProof.Rows L2 RZ DL
end DW
set_option maxHeartbeats 4000000
namespace DW
open PySem PySem.Spec PyProof.Rows L2 RZ DL LamX
end DW
namespace DM
open PySem PySem.Spec PyProof.Rows L2 RZ DL DW
structure Lam where
  qual : Str
  params : Arguments
  body : Expr
  scope : Scope
  msc : Scope
  ms : List Bool
  N : List Str
def Lam.cells (l : Lam) (L : Addr) : List (Str × Addr) := cloFrom (cellsFrom (L + 1) l.msc.names []) l.scope.names []
def CloO (a : Addr) (l : Lam) (L c' : Addr) : HO := .ext fun h => ∃ pm ctv : Value, h.get? a = some (PySem.W.kla_obj "<lambda>" (l.qual ++ "<lambda>") l.params l.body l.scope (l.cells L) pm c' ctv)
def CelO (c : Addr) (v : V) : HO := .ext fun h => ∃ u : Value, RelV v u ∧ h.IsCell c (some u)
inductive SO where
  | lst (xs : List DV)
  | dic (kvs : List (Key × DV))
  /-- a dict while a walk goes over it -/
  | dicL (kvs : List (Key × DV))
  | ins (C : Addr) (fs : List (Str × DV))
  /-- a tuple that holds things of the store -/
  | tup (xs : List DV)
  /-- a function made of a lambda, its maker's frame (at L) still running -/
  | clv (a : Addr) (l : Lam) (L : Addr)
  /-- .. gone; what its names stand for -/
  | clo (a : Addr) (l : Lam) (δ : List (Option DV))
abbrev Mem := Addr → Option SO
def um (M : Mem) (a : Addr) (o : SO) : Mem := fun b => if b = a then some o else M b
def VB (K : PySem.W.Frag) (b : Bg) (I : Hp) (v : V) : DV → Prop
  | .dat d => Dp K I v d
  | .raw u => v = u
  | .bag => v = .ref b.a
  | _ => False
def KVB {κ : Type} (K : PySem.W.Frag) (b : Bg) (I : Hp) (p : κ × V) (q : κ × DV) : Prop := p.1 = q.1 ∧ VB K b I p.2 q.2
def CelsOk (K : PySem.W.Frag) (b : Bg) (I H : Hp) (M : Mem) (l : Lam) (L : Addr) (δ : List (Option DV)) : Prop := ∀ y, (y, NameKind.free) ∈ l.scope.names → ∃ (j : Nat) (r : DV) (c : Addr) (v : V), l.N[j]? = some y ∧ δ[j]? = some (some r) ∧ (l.cells L).lookup y = some c ∧ H c = some (CelO c v) ∧ c ≠ b.a ∧ M c = none ∧ VB K b I v r
def SR (K : PySem.W.Frag) (b : Bg) (I H : Hp) (M : Mem) : SO → HO → Prop
  | .lst xs, ho => ∃ vs, ho = .lst vs ∧ Paired (VB K b I) vs xs
  | .dic kvs, ho => ∃ l, ho = .dK l ∧ Paired (KVB K b I) l kvs
  | .dicL kvs, ho => ∃ od l, ho = .frz od (.dK l) ∧ Paired (KVB K b I) l kvs
  | .ins C fs, ho => ∃ dx l, ho = .ins C dx l ∧ Paired (KVB K b I) l fs
  | .tup xs, ho => ∃ od vs, ho = .frz od (.tup vs) ∧ Paired (VB K b I) vs xs
  | .clv a l L, ho => ∃ c', ho = CloO a l L c' ∧ c' ≠ b.a ∧ H c' = some (LamX.CodeO c' (l.qual ++ "<lambda>"))
  | .clo a l δ, ho => ∃ L c', ho = CloO a l L c' ∧ c' ≠ b.a ∧ H c' = some (LamX.CodeO c' (l.qual ++ "<lambda>")) ∧ CelsOk K b I H M l L δ
def Kx (b : Bg) (H : Hp) (M : Mem) (H' : Hp) (M' : Mem) : Prop := ∀ a φ, a ≠ b.a → (∀ p l L c', HO.ext φ ≠ CloO p l L c') → M a = none → H a = some (.ext φ) → H' a = some (.ext φ) ∧ M' a = none
def MR (K : PySem.W.Frag) (b : Bg) (I H : Hp) (M : Mem) : Prop := ∀ a o, M a = some o → I a = none ∧ a ≠ b.a ∧ ∃ ho, H a = some ho ∧ SR K b I H M o ho
section
variable {K : PySem.W.Frag} {b : Bg} {I H I' H' I2 H2 : Hp} {M M' M2 : Mem}
theorem VB.mono (s : Same I I') {v : V} {r : DV} (h : VB K b I v r) : VB K b I' v r := by
  cases r with
  | dat d => exact dp_mono s h
  | raw u => exact h
  | bag => exact h
  | own _ => exact h.elim
  | bor _ => exact h.elim
  | dct _ _ => exact h.elim
theorem KVB.mono {κ : Type} (s : Same I I') {p : κ × V} {q : κ × DV} (h : KVB K b I p q) : KVB K b I' p q := ⟨h.1, h.2.mono s⟩
theorem SR.tbl {o : SO} {ho : HO} (h : SR K b I H M o ho) : ∀ ps, ho ≠ .tbl ps := fun ps z => by
  cases o with
  | lst xs => obtain ⟨vs, e, r⟩ := h; rw [e] at z; cases z
  | dic kvs => obtain ⟨l, e, r⟩ := h; rw [e] at z; cases z
  | dicL kvs => obtain ⟨od, l, e, r⟩ := h; rw [e] at z; cases z
  | ins C fs => obtain ⟨dx, l, e, r⟩ := h; rw [e] at z; cases z
  | tup xs => obtain ⟨od, l, e, r⟩ := h; rw [e] at z; cases z
  | clv a l L => obtain ⟨c', e, r⟩ := h; rw [e] at z; unfold CloO at z; cases z
  | clo a l δ => obtain ⟨L, c', e, r⟩ := h; rw [e] at z; unfold CloO at z; cases z
theorem heap_all (a : Addr) (o : Obj) (hf : ∀ x : Obj, x = o → x.data ≠ .freed) : ∃ h : Heap, h.get? a = some o ∧ ∀ b x, h.get? b = some x → x = o := by
  have h1 : ∀ b : Addr, (⟨Array.replicate (a + 1) o, {}⟩ : Heap).get? b = if b < a + 1 then some o else none := fun b => by
    unfold Heap.get?
    simp only [Array.getElem?_replicate]
    by_cases hb : b < a + 1
    · simp only [if_pos hb]
      have := hf o rfl
      split
      · rename_i e
        cases e
        exact absurd rfl this
      · rfl
    · simp only [if_neg hb]
  refine ⟨⟨Array.replicate (a + 1) o, {}⟩, ?_, fun b x e => ?_⟩
  · rw [h1, if_pos (Nat.lt_succ_self a)]
  · rw [h1] at e
    split at e
    · cases e; rfl
    · cases e
theorem clo_code {a : Addr} {l : Lam} {L c' p : Addr} {q : Str} : CloO a l L c' ≠ LamX.CodeO p q := fun z => by
  unfold CloO LamX.CodeO at z
  injection z with z
  obtain ⟨h, h1, h2⟩ := heap_all a (PySem.W.kla_obj "<lambda>" (l.qual ++ "<lambda>") l.params l.body l.scope (l.cells L) .none c' .none) (fun x e f => by rw [e] at f; cases f)
  have e := congrFun z h
  obtain ⟨oc, vs, t, y1, y2, _⟩ := e.mp ⟨_, _, h1⟩
  rw [h2 _ _ y1] at y2
  cases y2
theorem clo_cel {a : Addr} {l : Lam} {L c' p : Addr} {v : V} : CloO a l L c' ≠ CelO p v := fun z => by
  unfold CloO CelO at z
  injection z with z
  obtain ⟨h, h1, h2⟩ := heap_all a (PySem.W.kla_obj "<lambda>" (l.qual ++ "<lambda>") l.params l.body l.scope (l.cells L) .none c' .none) (fun x e f => by rw [e] at f; cases f)
  have e := congrFun z h
  obtain ⟨u, _, o, y1, y2⟩ := e.mp ⟨_, _, h1⟩
  rw [h2 _ _ y1] at y2
  cases y2
theorem SR.code {o : SO} {ho : HO} (h : SR K b I H M o ho) : ∀ a q, ho ≠ LamX.CodeO a q := fun a q z => by
  cases o with
  | lst xs => obtain ⟨vs, e, r⟩ := h; rw [e] at z; unfold LamX.CodeO at z; cases z
  | dic kvs => obtain ⟨l, e, r⟩ := h; rw [e] at z; unfold LamX.CodeO at z; cases z
  | dicL kvs => obtain ⟨od, l, e, r⟩ := h; rw [e] at z; unfold LamX.CodeO at z; cases z
  | ins C fs => obtain ⟨dx, l, e, r⟩ := h; rw [e] at z; unfold LamX.CodeO at z; cases z
  | tup xs => obtain ⟨od, l, e, r⟩ := h; rw [e] at z; unfold LamX.CodeO at z; cases z
  | clv p l L => obtain ⟨c', e, r⟩ := h; rw [e] at z; exact clo_code z
  | clo p l δ => obtain ⟨L, c', e, r⟩ := h; rw [e] at z; exact clo_code z
theorem SR.xd {o : SO} {fs : List (Str × V)} (h : SR K b I H M o (.xd fs)) : False := by
  cases o with
  | lst xs => obtain ⟨vs, e, r⟩ := h; cases e
  | dic kvs => obtain ⟨l, e, r⟩ := h; cases e
  | dicL kvs => obtain ⟨od, l, e, r⟩ := h; cases e
  | ins C fs => obtain ⟨dx, l, e, r⟩ := h; cases e
  | tup xs => obtain ⟨od, l, e, r⟩ := h; cases e
  | clv p l L => obtain ⟨c', e, r⟩ := h; unfold CloO at e; cases e
  | clo p l δ => obtain ⟨L, c', e, r⟩ := h; unfold CloO at e; cases e
theorem CelsOk.mono (s : Same I I') (k : Kx b H M H' M') {l : Lam} {L : Addr} {δ : List (Option DV)} (h : CelsOk K b I H M l L δ) : CelsOk K b I' H' M' l L δ := fun y hy => by
  obtain ⟨j, r, c, v, h1, h2, h3, h4, h0, h5, h6⟩ := h y hy
  obtain ⟨k1, k2⟩ := k c _ h0 (fun p l L c' => Ne.symm clo_cel) h5 h4
  exact ⟨j, r, c, v, h1, h2, h3, k1, h0, k2, h6.mono s⟩
theorem SR.mono (s : Same I I') (mr : MR K b I H M) (k : Kx b H M H' M') {o : SO} {ho : HO} (h : SR K b I H M o ho) : SR K b I' H' M' o ho := by
  have cd : ∀ {c' : Addr} {q : Str}, c' ≠ b.a → H c' = some (LamX.CodeO c' q) → H' c' = some (LamX.CodeO c' q) := fun {c' q} n e => by
    refine (k c' _ n (fun p l L c' => Ne.symm clo_code) ?_ e).1
    cases z : M c' with
    | none => rfl
    | some o =>
      obtain ⟨_, _, ho, e1, e2⟩ := mr c' o z
      rw [e] at e1
      cases e1
      exact absurd rfl (e2.code _ _)
  cases o with
  | lst xs => obtain ⟨vs, e, r⟩ := h; exact ⟨vs, e, Paired.mapP r fun _ _ z => z.mono s⟩
  | dic kvs => obtain ⟨l, e, r⟩ := h; exact ⟨l, e, Paired.mapP r fun _ _ z => z.mono s⟩
  | dicL kvs => obtain ⟨od, l, e, r⟩ := h; exact ⟨od, l, e, Paired.mapP r fun _ _ z => z.mono s⟩
  | ins C fs => obtain ⟨dx, l, e, r⟩ := h; exact ⟨dx, l, e, Paired.mapP r fun _ _ z => z.mono s⟩
  | tup xs => obtain ⟨od, l, e, r⟩ := h; exact ⟨od, l, e, Paired.mapP r fun _ _ z => z.mono s⟩
  | clv p l L => obtain ⟨c', e, n, r⟩ := h; exact ⟨c', e, n, cd n r⟩
  | clo p l δ => obtain ⟨L, c', e, n, r, q⟩ := h; exact ⟨L, c', e, n, cd n r, q.mono s k⟩
end
structure XM (K : PySem.W.Frag) (b : Bg) (I H : Hp) (M : Mem) (I' H' : Hp) (M' : Mem) : Prop where
  i : Same I I'
  h : ∀ a o, a ≠ b.a → (∀ ps, o ≠ .tbl ps) → M a = none → H a = some o → H' a = some o
  n : ∀ a o, I a = none → M a = none → H a = some o → (∀ ps, o ≠ .tbl ps) → I' a = none
  m : ∀ a o, M a = none → H a = some o → (∀ ps, o ≠ .tbl ps) → M' a = none
  k : ∀ l xs, H b.a = some (.lst (.ref l :: xs)) → ∃ ys, H' b.a = some (.lst (.ref l :: ys))
  ok : Ok K b I' H'
  r : MR K b I' H' M'
  lk : ∀ a kvs, M a = some (.dicL kvs) → M' a = some (.dicL kvs) ∧ H' a = H a
section
variable {K : PySem.W.Frag} {b : Bg} {I H I' H' I2 H2 : Hp} {M M' M2 : Mem}
theorem Kx.refl : Kx b H M H M := fun _ _ _ _ hm hc => ⟨hc, hm⟩
theorem Kx.rm {D : Addr} : Kx b H M H (fun x => if x = D then none else M x) := fun c φ _ _ hm hc => ⟨hc, by
  show (if c = D then none else M c) = none
  split
  · rfl
  · exact hm⟩
theorem Kx.trans (k : Kx b H M H' M') (k' : Kx b H' M' H2 M2) : Kx b H M H2 M2 := fun c φ n y hm hc => k' c φ n y (k c φ n y hm hc).2 (k c φ n y hm hc).1
theorem MR.at_ (r : MR K b I H M) (s : Same I I') (k : Kx b H M H' M') {a : Addr} {o : SO} (h : M a = some o) : a ≠ b.a ∧ ∃ ho, H a = some ho ∧ SR K b I' H' M' o ho := by
  obtain ⟨_, g2, ho, g3, g4⟩ := r a o h
  exact ⟨g2, ho, g3, g4.mono s r k⟩
theorem MR.none (r : MR K b I H M) {a : Addr} (h : H a = Option.none) : M a = Option.none := by
  cases q : M a with
  | none => rfl
  | some o =>
    obtain ⟨_, _, ho, e, _⟩ := r a o q
    rw [h] at e
    cases e
theorem MR.bag (r : MR K b I H M) : M b.a = Option.none := by
  cases q : M b.a with
  | none => rfl
  | some o =>
    obtain ⟨_, e, _⟩ := r _ o q
    exact absurd rfl e
theorem XM.refl (o : Ok K b I H) (r : MR K b I H M) : XM K b I H M I H M := ⟨Same.refl I, fun _ _ _ _ _ h => h, fun _ _ n _ _ _ => n, fun _ _ n _ _ => n, fun _ xs h => ⟨xs, h⟩, o, r, fun _ _ h => ⟨h, rfl⟩⟩
theorem XM.keep (e : XM K b I H M I' H' M') {a : Addr} {o : HO} (hm : M a = none) (h : H a = some o) (t : ∀ ps, o ≠ .tbl ps) : ∃ o', H' a = some o' ∧ ∀ ps, o' ≠ .tbl ps := by
  by_cases z : a = b.a
  · subst z
    obtain ⟨xs, q⟩ := e.ok.b.lst
    exact ⟨_, q, lst_tbl⟩
  · exact ⟨o, e.h a o z t hm h, t⟩
theorem XM.trans (e : XM K b I H M I' H' M') (f : XM K b I' H' M' I2 H2 M2) : XM K b I H M I2 H2 M2 := by
  refine ⟨e.i.trans f.i, fun a o n t hm h => f.h a o n t (e.m a o hm h t) (e.h a o n t hm h), fun a o n hm h t => ?_, fun a o hm h t => ?_, fun l xs h => (let ⟨ys, h1⟩ := e.k l xs h; f.k l ys h1), f.ok, f.r, fun a kvs h => (let z := e.lk a kvs h; let y := f.lk a kvs z.1; ⟨y.1, y.2.trans z.2⟩)⟩
  · obtain ⟨o', h', t'⟩ := e.keep hm h t
    exact f.n a o' (e.n a o n hm h t) (e.m a o hm h t) h' t'
  · obtain ⟨o', h', t'⟩ := e.keep hm h t
    exact f.m a o' (e.m a o hm h t) h' t'
theorem MR.ext (r : MR K b I H M) (e : Ext K b I H I' H') : MR K b I' H' M := fun a o h => by
  obtain ⟨h1, h2, ho, h3, h4⟩ := r a o h
  exact ⟨e.n a ho h1 h3 h4.tbl, h2, ho, e.h a ho h2 h4.tbl h3, h4.mono e.i r fun c φ n _ hm hc => ⟨e.h c _ n (fun ps z => by cases z) hc, hm⟩⟩
end
structure EnvM (K : PySem.W.Frag) (b : Bg) (I : Hp) (σ : L2.St) (δ : En) : Prop where
  len : σ.length = δ.length
  at_ : ∀ (i : Nat) (r : DV), δ[i]? = some (some r) → ∃ v, σ[i]? = some (some v) ∧ VB K b I v r
theorem EnvM.mono {K : PySem.W.Frag} {b : Bg} {I I' : Hp} {σ : L2.St} {δ : En} (s : Same I I') (h : EnvM K b I σ δ) : EnvM K b I' σ δ := ⟨h.len, fun i r q => (h.at_ i r q).imp fun v z => ⟨z.1, z.2.mono s⟩⟩
theorem EnvM.nb {K : PySem.W.Frag} {b : Bg} {I : Hp} {σ : L2.St} {δ : En} {n : Nat} (h : EnvM K b I σ δ) (hl : δ.length = n) : NB n δ := by
  refine ⟨hl, ?_⟩
  unfold noBor
  rw [List.all_eq_true]
  intro x hx
  obtain ⟨i, hi⟩ := List.mem_iff_getElem?.mp hx
  cases x with
  | none => rfl
  | some r =>
    obtain ⟨v, _, z⟩ := h.at_ i r hi
    cases r with
    | bor _ => exact z.elim
    | dct _ _ => exact z.elim
    | _ => rfl
theorem EnvM.set {K : PySem.W.Frag} {b : Bg} {I : Hp} {σ : L2.St} {δ : En} {i : Nat} {v : V} {r : DV} (h : EnvM K b I σ δ) (hi : i < δ.length) (q : VB K b I v r) : EnvM K b I (σ.set i (some v)) (δ.set i (some r)) := by
  have hi' : i < σ.length := by rw [h.len]; exact hi
  refine ⟨by rw [List.length_set, List.length_set]; exact h.len, fun j u e => ?_⟩
  by_cases z : i = j
  · subst z
    rw [List.getElem?_set_self hi] at e
    cases e
    exact ⟨v, by rw [List.getElem?_set_self hi'], q⟩
  · rw [List.getElem?_set_ne z] at e
    obtain ⟨w, e1, e2⟩ := h.at_ j u e
    exact ⟨w, by rw [List.getElem?_set_ne z]; exact e1, e2⟩
structure Cm where
  x : Nat → List (Str × V) → Mem → Prop
  fa : Nat → Addr
abbrev MP := DV → Mem → Prop
abbrev MPA := List DV → Mem → Prop
abbrev ME := Cm → En → Mem → MP → Prop
abbrev MT := Cm → En → Mem → (Bool → Mem → Prop) → Prop
abbrev MA := Cm → En → Mem → MPA → Prop
structure MEd where
  nx : En → Mem → Prop
  rt : MP
  bk : En → Mem → Prop
  ct : En → Mem → Prop
abbrev MS := Cm → En → Mem → MEd → Prop
abbrev MW := List DV → Mem → MP → Cm → Prop
structure Cmk (K : PySem.W.Frag) (S : Sg) (b : Bg) (I0 H0 : Hp) (M0 : Mem) (c : Cm) : Prop where
  fa : c.fa = S.fa
  xw : ∀ s fs d I' H' M', c.x s fs M' → XM K b I0 H0 M0 I' H' M' → I' d = none → H' d = some (.xd fs) → M' d = none → S.E (.ref (S.cls s)) (some d) H'
  tb : S.tb b.T
section
variable (K : PySem.W.Frag) (b : Bg) (I0 H0 : Hp) (M0 : Mem)
def EvM (te : TE) (δ : En) (M : Mem) (P : MP) : Prop := ∀ (σ : L2.St) (I H : Hp), XM K b I0 H0 M0 I H M → EnvM K b I σ δ → ∀ Q : VK,
  (∀ r v I' H' M', P r M' → XM K b I H M I' H' M' → VB K b I' v r → Q v H') → te σ H Q
end
section
variable (K : PySem.W.Frag) (S : Sg)
def CmE (te : TE) (de : ME) : Prop := ∀ b I0 H0 M0 c δ M P, δ.length = S.n → Cmk K S b I0 H0 M0 c → de c δ M P → EvM K b I0 H0 M0 te δ M P
end
end DM
namespace DM
open PySem PySem.Spec PyProof.Rows L2 RZ DL DW
def lftP (P : MP) (M : Mem) : DP := fun r => match r with
  | .dat d => P (.dat d) M
  | .own ds => P (.dat (.list ds)) M
  | .raw u => P (.raw u) M
  | .bag => P .bag M
  | _ => False
abbrev Fin := MP → Mem → DP
def mLft (f : Fin) (de : DE) : ME := fun c δ M P => de ⟨fun s fs => c.x s fs M, c.fa⟩ δ (f P M)
def mLftT (dt : DT) : MT := fun c δ M P => dt ⟨fun s fs => c.x s fs M, c.fa⟩ δ (fun v => P v M)
section
variable {X : Cx} {S : Sg} {a b e : Expr} {pos : Pos}
def mVar (i : Nat) : ME := fun _ δ M P => match δ[i]? with
  | some (some r) => P r M
  | _ => False
def insAt (M : Mem) (C : Addr) : DV → Option (Addr × List (Str × DV))
  | .raw (.ref a) => match M a with
    | some (.ins C' fs) => if C' = C then some (a, fs) else none
    | _ => none
  | _ => none
def mFld (j : Nat) (f : Str) (me : ME) : ME := fun c δ M P => me c δ M fun r M1 => match insAt M1 (c.fa j) r with
  | some (_, fs) => match fs.lookup f with
    | some x => P x M1
    | none => False
  | none => False
abbrev MO := DV → DV → Mem → MP → Prop
abbrev MU := DV → Mem → MP → Prop
abbrev MC := List DV → Mem → MP → Prop
def vw (M : Mem) : DV → DV
  | .raw (.ref a) => match M a with
    | some (.lst xs) => match dats xs with
      | some ds => .bor ds
      | none => .raw (.ref a)
    | _ => .raw (.ref a)
  | r => r
theorem vbs_dats {K : PySem.W.Frag} {b : Bg} {I : Hp} : ∀ {vs : List V} {ds : List PyData}, Paired (VB K b I) vs (ds.map .dat) → DpAll K I vs ds
  | _, [], .nil => .nil
  | _, _ :: _, .cons h t => .cons h (vbs_dats t)
def mo (f : Fin) (o : DV → DV → DP → Prop) : MO := fun x y M P => o (vw M x) (vw M y) (f P M)
def mu (f : Fin) (o : DV → DP → Prop) : MU := fun x M P => o (vw M x) (f P M)
def mc (f : Fin) (o : List DV → DP → Prop) : MC := fun rs M P => o (rs.map (vw M)) (f P M)
def mBin (o : MO) (ma mb : ME) : ME := fun c δ M P => ma c δ M fun x M1 => mb c δ M1 fun y M2 => o x y M2 P
def mUn (o : MU) (ma : ME) : ME := fun c δ M P => ma c δ M fun x M1 => o x M1 P
def mChain (o o' : MO) (ma mb md : ME) : ME := fun c δ M P => ma c δ M fun x M1 => mb c δ M1 fun y M2 => o x y M2 fun z M3 => match z with
  | .dat (.bool k) => if k = true then md c δ M3 fun w M4 => o' y w M4 P else P (dbl false) M3
  | _ => False
def mTst (me : ME) : MT := fun c δ M P => me c δ M fun r M1 => match r with
  | .dat (.bool k) => P k M1
  | _ => False
def mAnd (s t : MT) : MT := fun c δ M P => s c δ M fun v M1 => if v = true then t c δ M1 P else P false M1
def mOr (s t : MT) : MT := fun c δ M P => s c δ M fun v M1 => if v = true then P true M1 else t c δ M1 P
def mNot (s : MT) : MT := fun c δ M P => s c δ M fun v M1 => P (!v) M1
def mAndV (ma mb : ME) : ME := fun c δ M P => ma c δ M fun r M1 => match r with
  | .dat (.bool k) => if k = true then mb c δ M1 P else P (dbl false) M1
  | _ => False
def mOrV (ma mb : ME) : ME := fun c δ M P => ma c δ M fun r M1 => match r with
  | .dat (.bool k) => if k = true then P (dbl true) M1 else mb c δ M1 P
  | _ => False
def mNotV (ma : ME) : ME := fun c δ M P => ma c δ M fun r M1 => match r with
  | .dat (.bool k) => P (dbl (!k)) M1
  | _ => False
def mIfE (t : MT) (ma mb : ME) : ME := fun c δ M P => t c δ M fun v M1 => if v = true then ma c δ M1 P else mb c δ M1 P
def mNil : MA := fun _ _ M P => P [] M
def mCons (me : ME) (ma : MA) : MA := fun c δ M P => me c δ M fun r M1 => ma c δ M1 fun rs M2 => P (r :: rs) M2
def mTup (ma : MA) : ME := fun c δ M P => ma c δ M fun rs M1 => match dats rs with
  | some ds => P (.dat (.tuple ds)) M1
  | none => False
def mLstD (ma : MA) : ME := fun c δ M P => ma c δ M fun rs M1 => match dats rs with
  | some ds => P (.dat (.list ds)) M1
  | none => False
def mLstM (ma : MA) : ME := fun c δ M P => ma c δ M fun rs M1 => ∀ p, M1 p = none → P (.raw (.ref p)) (um M1 p (.lst rs))
end
end DM
namespace DM
open PySem PySem.Spec PyProof.Rows L2 RZ DL DW
def mCb (o : MC) (ma : MA) : ME := fun c δ M P => ma c δ M fun rs M1 => o rs M1 P
section
variable {X : Cx} {S : Sg} {a b e : Expr} {es : List Expr} {ma : MA} {me : ME} {pos p : Pos} {x : Str}
def mCallW (f : Fin) (W : Wt) (ma : MA) : ME := fun c δ M P => ma c δ M fun rs M1 => rs.all isPl = true ∧ W rs (f P M1) ⟨fun s fs => c.x s fs M1, c.fa⟩
end
end DM
namespace DM
open PySem PySem.Spec PyProof.Rows L2 RZ DL DW
def wM (n m : Nat) (D : MS) : MW := fun rs M P c => rs.length = n ∧ D c (rs.map some ++ List.replicate (m - n) none) M ⟨fun _ M' => P (.dat .none) M', P, fun _ _ => False, fun _ _ => False⟩
section
variable {X : Cx} {S : Sg} {a b e o : Expr} {es : List Expr} {ma : MA} {me : ME} {pos p apos : Pos} {x : Str}
section
variable {k : Nat} {f : Addr} {fd : FuncData} {ps : List Str} {W : MW} {tb : List (Addr × Str) → Prop}
def mCall (W : MW) (ma : MA) : ME := fun c δ M P => ma c δ M fun rs M1 => W rs M1 P c
def mMeth (j : Nat) (m : Str) (W : MW) (me : ME) (ma : MA) : ME := fun c δ M P => me c δ M fun r M1 => match insAt M1 (c.fa j) r with
  | some (_, fs) => fs.lookup m = none ∧ ma c δ M1 fun rs M2 => W (r :: rs) M2 P c
  | none => False
def mNew (j : Nat) (W : MW) (rs : List DV) (M : Mem) (P : MP) (c : Cm) : Prop := ∀ p, M p = none → W (.raw (.ref p) :: rs) (um M p (.ins (c.fa j) [])) (fun r M2 => r = .dat .none ∧ P (.raw (.ref p)) M2) c
def mMake (j : Nat) (W : MW) (ma : MA) : ME := fun c δ M P => ma c δ M fun rs M1 => mNew j W rs M1 P c
def mMakeK (j : Nat) (W : MW) (is : List Nat) (ma mk : MA) : ME := fun c δ M P => ma c δ M fun rs M1 => mk c δ M1 fun zs M2 => ∀ p, M2 p = none → W (pk is (.raw (.ref p) :: rs) zs) (um M2 p (.ins (c.fa j) [])) (fun r M3 => r = .dat .none ∧ P (.raw (.ref p)) M3) c
end
def keyD : DV → Option Key
  | .dat (.int i) => some (.inl i)
  | .dat (.str s) => some (.inr s)
  | _ => none
def dicAt (M : Mem) : DV → Option (Addr × List (Key × DV))
  | .raw (.ref a) => match M a with
    | some (.dic kvs) => some (a, kvs)
    | some (.dicL kvs) => some (a, kvs)
    | _ => none
  | _ => none
def gV (kvs : List (Key × DV)) (k : Key) : Option DV := (kvs.find? fun kv => decide (kv.1 = k)).map (·.2)
def gPut (kvs : List (Key × DV)) (k : Key) (v : DV) : List (Key × DV) :=
  if (gV kvs k).isSome = true then kvs.map (fun kv => if kv.1 = k then (kv.1, v) else kv) else kvs ++ [(k, v)]
def gDrop (kvs : List (Key × DV)) (k : Key) : List (Key × DV) := kvs.filter fun kv => decide (kv.1 ≠ k)
def oDGet : MO := fun x y M P => match dicAt M x, keyD y with
  | some (_, kvs), some k => match gV kvs k with
    | some r => P r M
    | none => False
  | _, _ => False
def oDIn (neg : Bool) : MO := fun y x M P => match dicAt M x, keyD y with
  | some (_, kvs), some k => P (dbl (if neg then !(gV kvs k).isSome else (gV kvs k).isSome)) M
  | _, _ => False
def cLenD : MC := fun rs M P => match rs with
  | [x] => match x with
    | .raw (.ref a) => match M a with
      | some (.dic kvs) => P (dint kvs.length) M
      | some (.lst xs) => P (dint xs.length) M
      | _ => False
    | _ => False
  | _ => False
def mDNew : ME := fun _ _ M P => ∀ p, M p = none → P (.raw (.ref p)) (um M p (.dic []))
def keyPD : Key → PyData
  | .inl i => .int i
  | .inr s => .str s
def cListD (f : Fin) : MC := fun rs M P => match rs with
  | [x] => match dicAt M x with
    | some (_, kvs) => f P M (.own (kvs.map fun kv => keyPD kv.1))
    | none => False
  | _ => False
def cDictD : MC := fun rs M P => match rs with
  | [x] => match dicAt M x with
    | some (_, kvs) => ∀ p, M p = none → P (.raw (.ref p)) (um M p (.dic kvs))
    | none => False
  | _ => False
def oIxR : MO := fun x y M P => match x, y with
  | .raw (.ref a), .dat (.int i) => match M a with
    | some (.lst xs) => match ixN xs.length i with
      | some j => match xs[j]? with
        | some r => P r M
        | none => False
      | none => False
    | _ => False
  | _, _ => False
end
end DM
namespace DM
open PySem PySem.Spec PyProof.Rows L2 RZ DL DW
def mNext : MS := fun _ δ M D => D.nx δ M
def laterM (b : MS) (c : Cm) (D : MEd) (δ : En) (M : Mem) : Prop := b c δ M D
def mSeq (a b : MS) : MS := fun c δ M D => a c δ M ⟨laterM b c D, D.rt, D.bk, D.ct⟩
def mIfS (t : MT) (a b : MS) : MS := fun c δ M D => t c δ M fun v M1 => if v = true then a c δ M1 D else b c δ M1 D
def mAsg (i : Nat) (me : ME) : MS := fun c δ M D => me c δ M fun r M1 => D.nx (δ.set i (some r)) M1
def mRet (me : ME) : MS := fun c δ M D => me c δ M D.rt
def mRetN : MS := fun _ _ M D => D.rt (.dat .none) M
def mExpr (me : ME) : MS := fun c δ M D => me c δ M fun _ M1 => D.nx δ M1
def mBrk : MS := fun _ δ M D => D.bk δ M
def mCnt : MS := fun _ δ M D => D.ct δ M
def okS : Option DV → Bool
  | none => true
  | some (.dat _) => true
  | some (.raw _) => true
  | some .bag => true
  | _ => false
def mLftS (ds : DS) : MS := fun c δ M D => ds ⟨fun s fs => c.x s fs M, c.fa⟩ δ ⟨fun δ' => δ'.all okS = true ∧ D.nx δ' M, fun r => lftP D.rt M r, fun δ' => δ'.all okS = true ∧ D.bk δ' M, fun δ' => δ'.all okS = true ∧ D.ct δ' M⟩
section
variable {K : PySem.W.Frag} {S : Sg} {b : Bg}
def fPut (f : Str) (r : DV) : List (Str × DV) → List (Str × DV)
  | [] => [(f, r)]
  | (k, w) :: t => if k = f then (f, r) :: t else (k, w) :: fPut f r t
def mFldS (j : Nat) (f : Str) (mo mv : ME) : MS := fun c δ M D => mv c δ M fun y M1 => mo c δ M1 fun r M2 => match insAt M2 (c.fa j) r with
  | some (a, fs) => fs.length < 1000 ∧ D.nx δ (um M2 a (.ins (c.fa j) (fPut f y fs)))
  | none => False
def mFldAug (j : Nat) (f : Str) (g : Int → Int → Int) (mo mv : ME) : MS := fun c δ M D => mo c δ M fun r M1 => match insAt M1 (c.fa j) r with
  | some (a, fs) => match fs.lookup f with
    | some (.dat (.int m)) => mv c δ M1 fun y M2 => match y with
      | .dat (.int n) => M2 a = some (.ins (c.fa j) fs) ∧ fs.length < 1000 ∧ D.nx δ (um M2 a (.ins (c.fa j) (fPut f (dint (g m n)) fs)))
      | _ => False
    | _ => False
  | none => False
def mDPut (md mk mv : ME) : MS := fun c δ M D => mv c δ M fun y M1 => md c δ M1 fun x M2 => mk c δ M2 fun k M3 => match x, keyD k with
  | .raw (.ref a), some kk => match M3 a with
    | some (.dic kvs) => kvs.length < 100000 ∧ D.nx δ (um M3 a (.dic (gPut kvs kk y)))
    | _ => False
  | _, _ => False
def mDDel (md mk : ME) : MS := fun c δ M D => md c δ M fun x M1 => mk c δ M1 fun k M2 => match x, keyD k with
  | .raw (.ref a), some kk => match M2 a with
    | some (.dic kvs) => (gV kvs kk).isSome = true ∧ D.nx δ (um M2 a (.dic (gDrop kvs kk)))
    | _ => False
  | _, _ => False
def mApp (mo mv : ME) : ME := fun c δ M P => mo c δ M fun x M1 => match x with
  | .raw (.ref a) => (∃ xs, M1 a = some (.lst xs)) ∧ mv c δ M1 fun y M2 => match M2 a with
    | some (.lst xs) => xs.length < 100000 ∧ P (.dat .none) (um M2 a (.lst (xs ++ [y])))
    | _ => False
  | _ => False
end
end DM
namespace DM
open PySem PySem.Spec PyProof.Rows L2 RZ DL DW
def forGoM (c : Cm) (tf : Tf) (db : MS) (D : MEd) : List PyData → En → Mem → Prop
  | [], δ, M => D.nx δ M
  | d :: ds, δ, M => match tf d δ with
    | some δ' => db c δ' M ⟨forGoM c tf db D ds, D.rt, D.nx, forGoM c tf db D ds⟩
    | none => False
abbrev MI := Cm → En → Mem → (List PyData → Mem → Prop) → Prop
def mLftI (di : DI) : MI := fun c δ M A => di ⟨fun s fs => c.x s fs M, c.fa⟩ δ (fun ds => A ds M)
def mFor (di : MI) (tf : Tf) (db : MS) : MS := fun c δ M D => di c δ M fun items M1 => forGoM c tf db D items δ M1
section
variable {K : PySem.W.Frag} {S : Sg} {b : Bg}
def Cm.no (c : Cm) : Cm := ⟨fun _ _ _ => False, c.fa⟩
theorem Cmk.no {I0 H0 : Hp} {M0 : Mem} {c : Cm} (h : Cmk K S b I0 H0 M0 c) : Cmk K S.no b I0 H0 M0 c.no := ⟨h.fa, fun _ _ _ _ _ _ z => z.elim, h.tb⟩
inductive LcK
  | dat
  | sto
def lcFin (k : LcK) (P : MP) (rs : List DV) (M : Mem) : Prop := match k with
  | .dat => match dats rs with
    | some ds => P (.dat (.list ds)) M
    | none => False
  | .sto => ∀ p, M p = none → P (.raw (.ref p)) (um M p (.lst rs))
def lcGoM {α : Type} (step : α → Mem → (Option DV → Mem → Prop) → Prop) : List α → Mem → (List DV → Mem → Prop) → Prop
  | [], M, P => P [] M
  | d :: ds, M, P => step d M fun o M1 => match o with
    | none => lcGoM step ds M1 P
    | some y => lcGoM step ds M1 fun ys M2 => P (y :: ys) M2
def lcStepM (tf : Tf) (dt : MT) (de : ME) (c : Cm) (δ : En) : PyData → Mem → (Option DV → Mem → Prop) → Prop := fun d M k => match tf d δ with
  | some δ' => dt c.no δ' M fun t M1 => if t = true then de c.no δ' M1 fun r M2 => k (some r) M2 else k none M1
  | none => False
def mLc (kd : LcK) (di : MI) (tf : Tf) (dt : MT) (de : ME) (vs : List Nat) : ME := fun c δ M P => (∀ v ∈ vs, δ[v]? = some none) ∧ di c δ M fun items M1 => items.length ≤ 100000 ∧ lcGoM (lcStepM tf dt de c δ) items M1 fun ys M2 => lcFin kd P ys M2
end
end DM
namespace DM
open PySem PySem.Spec PyProof.Rows L2 RZ DL DW
def mFrz (i : Nat) (ds : MS) : MS := fun c δ M D => match δ[i]? with
  | some (some (.raw (.ref a))) => match M a with
    | some (.lst xs) => match dats xs with
      | some es => ds c (δ.set i (some (.dat (.list es)))) (fun x => if x = a then none else M x) D
      | none => ds c δ M D
    | _ => ds c δ M D
  | _ => ds c δ M D
section
variable {K : PySem.W.Frag} {S : Sg} {b : Bg} {I H : Hp} {M : Mem}
theorem XM.frz {a : Addr} {vs : List V} {ds : List PyData} (o : Ok K b I H) (r : MR K b I H M) (hm : M a = some (.lst (ds.map .dat))) : ∃ vs, XM K b I H M (upd I a (.lst vs)) H (fun x => if x = a then none else M x) ∧ Dp K (upd I a (.lst vs)) (.ref a) (.list ds) := by
  obtain ⟨h1, h2, ho, h3, vs, rfl, pl⟩ := r a _ hm
  have hd := vbs_dats pl
  have s1 : Same I (upd I a (.lst vs)) := fun c o h => by rw [upd_ne (ne_of_none h h1)]; exact h
  obtain ⟨n, pln, tb, l, ns, x0, q0, m0, c0, e1, sl, r0⟩ := o.b
  refine ⟨vs, ⟨s1, fun _ _ _ _ _ h => h, fun c u hi hc h t => ?_, fun c u hc h t => ?_, fun l xs h => ⟨xs, h⟩, ⟨fun c u h => ?_, by rw [upd_ne (fun z => h2 z.symm)]; exact n, fun c u h => ?_, tb, l, ns, x0, q0, m0, c0, e1, sl_mono s1 sl, r0⟩, fun c so h => ?_, fun c kvs h => ?_⟩, .lst (.inl (.inl upd_same)) (dpa_mono s1 hd)⟩
  · rw [upd_ne (fun z => by rw [z, hm] at hc; cases hc)]
    exact hi
  · show (if c = a then none else M c) = none
    split
    · rfl
    · exact hc
  · by_cases z : c = a
    · subst z; rw [upd_same] at h; cases h; exact h3
    · rw [upd_ne z] at h; exact o.s c u h
  · by_cases z : c = a
    · subst z; rw [upd_same] at h; cases h; exact True.intro
    · rw [upd_ne z] at h; exact pln c u h
  · have h : (if c = a then none else M c) = some so := h
    by_cases z : c = a
    · rw [if_pos z] at h; cases h
    · rw [if_neg z] at h
      obtain ⟨g1, g2, ho, g3, g4⟩ := r c so h
      exact ⟨by rw [upd_ne z]; exact g1, g2, ho, g3, g4.mono s1 r .rm⟩
  · exact ⟨by show (if c = a then none else M c) = _; rw [if_neg (fun z => by rw [z, hm] at h; cases h)]; exact h, rfl⟩
def mExt (mo mv : ME) : ME := fun c δ M P => mo c δ M fun x M1 => match x with
  | .raw (.ref a) => (∃ xs, M1 a = some (.lst xs)) ∧ mv c δ M1 fun y M2 => match M2 a, y with
    | some (.lst xs), .dat (.tuple ds) => xs.length + ds.length ≤ 100000 ∧ P (.dat .none) (um M2 a (.lst (xs ++ ds.map .dat)))
    | _, _ => False
  | _ => False
end
section
variable {X : Cx} {S : Sg} {e a b o tg iter : Expr} {me mo mv mk : ME} {pos : Pos} {st : Stmt} {sts : List Stmt} {d d' : MS}
def mYes : MT := fun _ _ M P => P true M
end
end DM
namespace DM
open PySem PySem.Spec PyProof.Rows L2 RZ DL DW
def oMulE : DV → DV → DP → Prop := fun x y P => match x, y with
  | .dat (.tuple []), .dat (.int k) => (-1000 ≤ k ∧ k ≤ 1000) ∧ P (.dat (.tuple []))
  | x, y => oMul x y P
def setAll : List Nat → List DV → En → En
  | i :: is, r :: rs, δ => setAll is rs (δ.set i (some r))
  | _, _, δ => δ
def mParG (is : List Nat) (ma : MA) : MS := fun c δ M D => ma c δ M fun rs M1 => rs.length = is.length ∧ D.nx (setAll is rs δ) M1
end DM
namespace DM
open PySem PySem.Spec PyProof.Rows L2 RZ DL DW
def mFgt (i : Nat) (ds : MS) : MS := fun c δ M D => ds c (δ.set i none) M D
end DM
namespace DM
open PySem PySem.Spec PyProof.Rows L2 RZ DL DW
def mISeq (me : ME) : MI := fun c δ M A => me c δ M fun r M1 => match r with
  | .dat (.list ds) => A ds M1
  | .dat (.tuple ds) => A ds M1
  | .dat (.str z) => A (chars z) M1
  | _ => False
end DM
namespace DM
open PySem PySem.Spec PyProof.Rows L2 RZ DL DW
theorem vw_dat {M : Mem} {d : PyData} : vw M (.dat d) = .dat d := rfl
end DM
set_option maxHeartbeats 1000000
namespace DM
open PySem PySem.Spec PyProof.Rows L2 RZ DL DW
end DM
set_option maxHeartbeats 4000000
namespace DW
open PySem PySem.Spec PyProof.Rows L2 RZ DL
def Nw (I H0 : Hp) (v : V) (d : PyData) : Prop := ∀ es, d = .list es → ∃ p xs, v = .ref p ∧ I p = some (.lst xs) ∧ xs.length = es.length ∧ Fr H0 p
theorem Nw.mono {I I' H0 : Hp} {v : V} {d : PyData} (h : Nw I H0 v d) (s : Same I I') : Nw I' H0 v d := fun es e => by
  obtain ⟨p, xs, h1, h2, h3, h4⟩ := h es e
  exact ⟨p, xs, h1, s _ _ h2, h3, h4⟩
def FrS (fs : List Nat) (H0 I : Hp) (σ : L2.St) (δ : En) : Prop := ∀ i ∈ fs, ∀ v d, δ[i]? = some (some (.dat d)) → σ[i]? = some (some v) → Nw I H0 v d
section
variable {K : PySem.W.Frag} {S : Sg} {fs : List Nat}
theorem FrS.ext {b : Bg} {H0 I H I' H' : Hp} {σ : L2.St} {δ : En} (h : FrS fs H0 I σ δ) (x : Ext K b I H I' H') : FrS fs H0 I' σ δ := fun i hi v d e1 e2 => (h i hi v d e1 e2).mono x.i
end
end DW
namespace DM
open PySem PySem.Spec PyProof.Rows L2 RZ DL DW
abbrev MOp := Cm → En → Mem → (Option Int → Mem → Prop) → Prop
def mONone : MOp := fun _ _ M P => P none M
def mOSome (me : ME) : MOp := fun c δ M P => me c δ M fun r M1 => match r with
  | .dat (.int i) => P (some i) M1
  | _ => False
def cutR (xs : List DV) (lo hi : Option Int) : List DV := (xs.drop (HT.sIx xs.length 0 lo)).take (HT.sIx xs.length xs.length hi - HT.sIx xs.length 0 lo)
def oCutM (lo hi : Option Int) (r : DV) (M : Mem) (P : MP) : Prop := match r with
  | .raw (.ref a) => match M a with
    | some (.lst xs) => ∀ p, M p = none → P (.raw (.ref p)) (um M p (.lst (cutR xs lo hi)))
    | _ => False
  | .dat d => oCut lo hi (.dat d) (lftP P M)
  | _ => False
def mSl (me : ME) (ml mh : MOp) : ME := fun c δ M P => me c δ M fun r M1 => ml c δ M1 fun lo M2 => mh c δ M2 fun hi M3 => oCutM lo hi r M3 P
section
variable {X : Cx} {S : Sg} {a b e : Expr} {me : ME} {pos : Pos}
def oAddR : MO := fun x y M P => match x, y with
  | .raw (.ref a), .raw (.ref d) => match M a, M d with
    | some (.lst xs), some (.lst ys) => xs.length + ys.length ≤ 100000 ∧ ∀ p, M p = none → P (.raw (.ref p)) (um M p (.lst (xs ++ ys)))
    | _, _ => False
  | _, _ => False
end
def lcGoL (a : Addr) (xs : List DV) (step : DV → Mem → (Option DV → Mem → Prop) → Prop) : List DV → Mem → (List DV → Mem → Prop) → Prop
  | [], M, P => M a = some (.lst xs) ∧ P [] M
  | d :: ds, M, P => M a = some (.lst xs) ∧ step d M fun o M1 => match o with
    | none => lcGoL a xs step ds M1 P
    | some y => lcGoL a xs step ds M1 fun ys M2 => P (y :: ys) M2
def lcStepL (i : Nat) (dt : MT) (de : ME) (c : Cm) (δ : En) : DV → Mem → (Option DV → Mem → Prop) → Prop := fun r M k => dt c.no (δ.set i (some r)) M fun t M1 => if t = true then de c.no (δ.set i (some r)) M1 fun r M2 => k (some r) M2 else k none M1
def mLcL (kd : LcK) (me : ME) (i : Nat) (dt : MT) (de : ME) (vs : List Nat) : ME := fun c δ M P => (∀ v ∈ vs, δ[v]? = some none) ∧ me c δ M fun x M1 => match x with
  | .raw (.ref a) => match M1 a with
    | some (.lst xs) => xs.length ≤ 100000 ∧ lcGoL a xs (lcStepL i dt de c δ) xs M1 fun ys M2 => lcFin kd P ys M2
    | _ => False
  | _ => False
end DM
namespace DW
open PySem PySem.Spec PyProof.Rows L2 RZ DL
def downD (i : Int) (n : Nat) : List PyData := (List.range n).map fun (k : Nat) => .int (i - (k : Int))
def dIRg3 (da : DA) : DI := fun c δ A => da c δ fun rs => match rs with
  | [.dat (.int i), .dat (.int j), .dat (.int k)] => k = -1 ∧ (-(2 ^ 62) ≤ i ∧ i < 2 ^ 62 ∧ -(2 ^ 62) ≤ j ∧ j < 2 ^ 62) ∧ A (downD i (i - j).toNat)
  | _ => False
end DW
namespace DM
open PySem PySem.Spec PyProof.Rows L2 RZ DL DW
end DM
namespace DM
open PySem PySem.Spec PyProof.Rows L2 RZ DL DW
end DM
namespace DM
open PySem PySem.Spec PyProof.Rows L2 RZ DL DW
section
variable {X : Cx} {S : Sg} {o e : Expr} {es : List Expr} {ma : MA} {me mo mk : ME} {pos : Pos}
def mTupM (ma : MA) : ME := fun c δ M P => ma c δ M fun rs M1 => ∀ p, M1 p = none → P (.raw (.ref p)) (um M1 p (.tup rs))
def oIxT : MO := fun x y M P => match x, y with
  | .raw (.ref a), .dat (.int i) => match M a with
    | some (.tup xs) => match ixN xs.length i with
      | some j => match xs[j]? with
        | some r => P r M
        | none => False
      | none => False
    | _ => False
  | _, _ => False
def mUnp (is : List Nat) (me : ME) : MS := fun c δ M D => me c δ M fun r M1 => match r with
  | .raw (.ref a) => match M1 a with
    | some (.tup rs) => rs.length = is.length ∧ D.nx (setAll is rs δ) M1
    | _ => False
  | _ => False
def mPop (mo : ME) : ME := fun c δ M P => mo c δ M fun r M1 => match r with
  | .raw (.ref a) => match M1 a with
    | some (.lst xs) => match xs[xs.length - 1]? with
      | some y => P y (um M1 a (.lst xs.dropLast))
      | none => False
    | _ => False
  | _ => False
def mDPop (mo mk : ME) : ME := fun c δ M P => mo c δ M fun r M1 => match r with
  | .raw (.ref a) => (∃ kvs, M1 a = some (.dic kvs)) ∧ mk c δ M1 fun k M2 => match keyD k, M2 a with
    | some kk, some (.dic kvs) => match gV kvs kk with
      | some y => P y (um M2 a (.dic (gDrop kvs kk)))
      | none => False
    | _, _ => False
  | _ => False
end
end DM
namespace L2
open PySem PySem.Spec PyProof.Rows
end L2
namespace DM
open PySem PySem.Spec PyProof.Rows L2 RZ DL DW
section
variable {X : Cx} {S : Sg} {o e : Expr} {es : List Expr} {ma : MA} {me mo mk mv : ME} {pos : Pos}
def oEmp : MO := fun x y M P => match x, y with
  | .raw (.ref a), .raw (.ref b) => match M a, M b with
    | some (.lst xs), some (.lst []) => P (dbl xs.isEmpty) M
    | some (.dic kvs), some (.dic []) => P (dbl kvs.isEmpty) M
    | _, _ => False
  | _, _ => False
def oEmpN : MO := fun x y M P => match x, y with
  | .raw (.ref a), .raw (.ref b) => match M a, M b with
    | some (.dic kvs), some (.dic []) => P (dbl (!kvs.isEmpty)) M
    | _, _ => False
  | _, _ => False
def mPairs : List (Key × ME) → Cm → En → Mem → (List (Key × DV) → Mem → Prop) → Prop
  | [], _, _, M, Q => Q [] M
  | (k, mv) :: r, c, δ, M, Q => mv c δ M fun y M1 => mPairs r c δ M1 fun ps M2 => Q ((k, y) :: ps) M2
def gMerge (kvs more : List (Key × DV)) : List (Key × DV) := more.foldl (fun acc kv => gPut acc kv.1 kv.2) kvs
def mDisp (ps : List (Key × ME)) : ME := fun c δ M P => ∀ p, M p = none → mPairs ps c δ (um M p (.dic [])) fun kvs M2 => M2 p = some (.dic []) ∧ P (.raw (.ref p)) (um M2 p (.dic (gMerge [] kvs)))
inductive XPs (X : Cx) (S : Sg) (pos : Pos) : List (Option Expr) → List Expr → List (TE × TE) → List (Key × ME) → Prop
  | nil : XPs X S pos [] [] [] []
  | cons {k v : Expr} {ks : List (Option Expr)} {vs : List Expr} {tk tv : TE} {ts : List (TE × TE)} {kk : Key} {mv : ME} {ps : List (Key × ME)} : PE X k tk → (∀ σ H Q, Q (kV kk) H → tk σ H Q) → PE X v tv → CmE X.K S tv mv → XPs X S pos ks vs ts ps → XPs X S pos (some k :: ks) (v :: vs) ((tk, tv) :: ts) ((kk, mv) :: ps)
theorem XPs.len {ks : List (Option Expr)} {vs : List Expr} {ts : List (TE × TE)} {ps : List (Key × ME)} (h : XPs X S pos ks vs ts ps) : ks.length = ps.length ∧ ks.length = vs.length ∧ ks.all (·.isSome) = true := by
  induction h with
  | nil => exact ⟨rfl, rfl, rfl⟩
  | cons a _ c _ _ ih => exact ⟨by simp [ih.1], by simp [ih.2.1], by simp [ih.2.2]⟩
abbrev MG := Cm → En → Mem → DV → (En → Mem → Prop) → Prop
def mGName (i : Nat) : MG := fun _ δ M r P => P (δ.set i (some r)) M
def mGPut (md mk : ME) : MG := fun c δ M y P => md c δ M fun x M2 => mk c δ M2 fun k M3 => match x, keyD k with
  | .raw (.ref a), some kk => match M3 a with
    | some (.dic kvs) => kvs.length < 100000 ∧ P δ (um M3 a (.dic (gPut kvs kk y)))
    | _ => False
  | _, _ => False
def mGs : List MG → Cm → En → Mem → List DV → (En → Mem → Prop) → Prop
  | [], _, δ, M, [], P => P δ M
  | g :: gs, c, δ, M, r :: rs, P => g c δ M r fun δ1 M1 => mGs gs c δ1 M1 rs P
  | _, _, _, _, _, _ => False
def mAsgGs (gs : List MG) (ma : MA) : MS := fun c δ M D => ma c δ M fun rs M1 => rs.length = gs.length ∧ mGs gs c δ M1 rs D.nx
end
end DM
namespace DM
open PySem PySem.Spec PyProof.Rows L2 RZ DL DW
end DM
namespace DM
open PySem PySem.Spec PyProof.Rows L2 RZ DL DW
section
variable {X : Cx} {S : Sg} {tg e : Expr} {me : ME} {st : Stmt} {ds : MS}
def mLockE (me : ME) : ME := fun c δ M P => ∃ a kvs, M a = some (.dic kvs) ∧ me c δ (um M a (.dicL kvs)) fun r M' => P r (um M' a (.dic kvs))
def mIKeys (me : ME) : MI := fun c δ M A => me c δ M fun r M1 => match r with
  | .raw (.ref a) => match M1 a with
    | some (.dicL kvs) => A (kvs.map fun kv => keyPD kv.1) M1
    | _ => False
  | _ => False
end
end DM
namespace DM
open PySem PySem.Spec PyProof.Rows L2 RZ DL DW
end DM
namespace DM
open PySem PySem.Spec PyProof.Rows L2 RZ DL DW
def mLockS (ds : MS) : MS := fun c δ M D => ∃ a kvs, M a = some (.dic kvs) ∧ ds c δ (um M a (.dicL kvs)) ⟨fun δ' M' => D.nx δ' (um M' a (.dic kvs)), fun r M' => D.rt r (um M' a (.dic kvs)), fun δ' M' => D.bk δ' (um M' a (.dic kvs)), fun δ' M' => D.ct δ' (um M' a (.dic kvs))⟩
end DM
namespace DM
open PySem PySem.Spec PyProof.Rows L2 RZ DL DW
end DM
namespace DM
open PySem PySem.Spec PyProof.Rows L2 RZ DL DW
def mIRg1 (ma : MA) : MI := fun c δ M A => ma c δ M fun rs M1 => match rs with
  | [.dat (.int n)] => (-(2 ^ 62) ≤ n ∧ n < 2 ^ 62) ∧ A (rangeD 0 n.toNat) M1
  | _ => False
end DM
namespace PySem
open Sem (wp)
end PySem
namespace DW
open PySem PySem.Spec PyProof.Rows L2 RZ DL LamX
end DW
namespace DM
open PySem PySem.Spec PyProof.Rows L2 RZ DL DW
end DM
namespace DW
open PySem PySem.Spec PyProof.Rows L2 RZ DL
end DW
namespace DM
open PySem PySem.Spec PyProof.Rows L2 RZ DL DW
end DM
namespace DM
open PySem PySem.Spec PyProof.Rows L2 RZ DL DW
end DM
namespace DM
open PySem PySem.Spec PyProof.Rows L2 RZ DL DW
end DM
namespace DW
open PySem PySem.Spec PyProof.Rows L2 RZ DL
end DW
namespace DM
open PySem PySem.Spec PyProof.Rows L2 RZ DL DW
end DM
namespace DM
open PySem PySem.Spec PyProof.Rows L2 RZ DL DW
end DM
namespace DM
open PySem PySem.Spec PyProof.Rows L2 RZ DL DW
end DM
namespace DM
open PySem PySem.Spec PyProof.Rows L2 RZ DL DW
end DM
namespace DM
open PySem PySem.Spec PyProof.Rows L2 RZ DL DW
end DM
namespace DM
open PySem PySem.Spec PyProof.Rows L2 RZ DL DW
end DM
namespace DM
open PySem PySem.Spec PyProof.Rows L2 RZ DL DW
end DM
namespace DM
open PySem PySem.Spec PyProof.Rows L2 RZ DL DW
end DM
namespace DW
open PySem PySem.Spec PyProof.Rows L2 RZ DL
end DW
namespace DM
open PySem PySem.Spec PyProof.Rows L2 RZ DL DW
end DM
namespace DM
open PySem PySem.Spec PyProof.Rows L2 RZ DL DW
end DM
namespace DM
open PySem PySem.Spec PyProof.Rows L2 RZ DL DW
end DM
namespace DM
open PySem PySem.Spec PyProof.Rows L2 RZ DL DW
end DM
namespace DW
open PySem PySem.Spec PyProof.Rows L2 RZ DL
end DW
namespace DM
open PySem PySem.Spec PyProof.Rows L2 RZ DL DW
end DM
namespace DM
open PySem PySem.Spec PyProof.Rows L2 RZ DL DW
end DM
namespace DM
open PySem PySem.Spec PyProof.Rows L2 RZ DL DW
end DM
namespace Lw
open PySem PySem.Spec PyProof.Rows L2 DL DW DM
abbrev mk_BadSizes (vs : List V) : List (Str × V) := [("cask", vs.getD 0 .non), ("word", .str "bad sizes")]
def D_look_sizes : DS := (dSeq (dIfS (dNot (dTst (dChain oLe oLe (dC (dint 1)) (dCb bLen (dCons (dVar 0) dNil)) (dC (dint (6)))))) (dRaise 0 mk_BadSizes (dCons (dUn oNeg (dC (dint 1))) dNil)) dNext)
    (dFor (dIEnum (dCons (dVar 0) dNil)) (tfPair 1 2) (dIfS (dNot (dTst (dChain oLe oLe (dC (dint 1)) (dVar 2) (dC (dint (40)))))) (dRaise 0 mk_BadSizes (dCons (dVar 1) dNil)) dNext)))
def W_look_sizes : Wt := wFn 1 3 D_look_sizes
def D_look_counts : DS := (dSeq (dExpr (dCall W_look_sizes (dCons (dVar 0) dNil)))
    dNever)
def W_look_counts : Wt := wFn 2 2 D_look_counts
def D_trail_of_counts : DS := (dSeq (dExpr (dCall W_look_counts (dCons (dVar 0) (dCons (dVar 1) dNil))))
    dNever)
def W_trail_of_counts : Wt := wFn 3 3 D_trail_of_counts
def D_rows_and_ahead : DS := (dSeq (dAsgG (dCall W_trail_of_counts (dCons (dVar 0) (dCons (dVar 1) (dCons (dVar 2) dNil)))) (dGTup 2 (dGCons (dGName 4) (dGCons (dGName 5) dGNil))))
    dNever)
def W_rows_and_ahead : Wt := wFn 4 6 D_rows_and_ahead
def D_when : DS := (dSeq (dAsgG (dCall W_rows_and_ahead (dCons (dVar 0) (dCons (dVar 1) (dCons (dVar 2) (dCons (dVar 3) dNil))))) (dGTup 2 (dGCons (dGName 5) (dGCons (dGName 6) dGNil))))
    dNever)
def D_first_time : DS := (dSeq (dAsgG (dCall W_rows_and_ahead (dCons (dVar 0) (dCons (dVar 1) (dCons (dVar 2) (dCons (dVar 3) dNil))))) (dGTup 2 (dGCons (dGName 5) (dGCons (dGName 6) dGNil))))
    dNever)
def D_never : DS := (dSeq (dAsgG (dCall W_rows_and_ahead (dCons (dVar 0) (dCons (dVar 1) (dCons (dVar 2) (dCons (dVar 3) dNil))))) (dGTup 2 (dGCons (dGName 5) (dGCons (dGName 6) dGNil))))
    dNever)
def D_never_holds : DS := (dSeq (dExpr (dCall W_look_counts (dCons (dVar 0) (dCons (dVar 1) dNil))))
    dNever)
end Lw
namespace Lw
open PySem PySem.Spec PyProof.Rows L2 DL DW DM
structure Top (K : PySem.W.Frag) (mg : Str → Option Value) (w : World) : Type where
  a_look_sizes : Addr
  fd_look_sizes : FuncData
  F_look_sizes : Fun K "look_sizes" "look_sizes" s_look_sizes a_look_sizes fd_look_sizes
  g_look_sizes : mg "look_sizes" = some (.ref a_look_sizes)
  b_look_sizes : Binds K fd_look_sizes ["sizes"] []
  a_look_counts : Addr
  fd_look_counts : FuncData
  F_look_counts : Fun K "look_counts" "look_counts" s_look_counts a_look_counts fd_look_counts
  g_look_counts : mg "look_counts" = some (.ref a_look_counts)
  b_look_counts : Binds K fd_look_counts ["sizes", "counts"] []
  a_look_stand : Addr
  fd_look_stand : FuncData
  F_look_stand : Fun K "look_stand" "look_stand" s_look_stand a_look_stand fd_look_stand
  g_look_stand : mg "look_stand" = some (.ref a_look_stand)
  b_look_stand : Binds K fd_look_stand ["sizes", "stand"] []
  a_stand_of : Addr
  fd_stand_of : FuncData
  F_stand_of : Fun K "stand_of" "stand_of" s_stand_of a_stand_of fd_stand_of
  g_stand_of : mg "stand_of" = some (.ref a_stand_of)
  b_stand_of : Binds K fd_stand_of ["sizes", "counts"] []
  a_room : Addr
  fd_room : FuncData
  F_room : Fun K "room" "room" s_room a_room fd_room
  g_room : mg "room" = some (.ref a_room)
  b_room : Binds K fd_room ["sizes", "counts"] []
  a_apart : Addr
  fd_apart : FuncData
  F_apart : Fun K "apart" "apart" s_apart a_apart fd_apart
  g_apart : mg "apart" = some (.ref a_apart)
  b_apart : Binds K fd_apart ["one", "other"] []
  a_look_deed : Addr
  fd_look_deed : FuncData
  F_look_deed : Fun K "look_deed" "look_deed" s_look_deed a_look_deed fd_look_deed
  g_look_deed : mg "look_deed" = some (.ref a_look_deed)
  b_look_deed : Binds K fd_look_deed ["sizes", "deed"] []
  a_look_row : Addr
  fd_look_row : FuncData
  F_look_row : Fun K "look_row" "look_row" s_look_row a_look_row fd_look_row
  g_look_row : mg "look_row" = some (.ref a_look_row)
  b_look_row : Binds K fd_look_row ["sizes", "deeds"] []
  a_has_tap : Addr
  fd_has_tap : FuncData
  F_has_tap : Fun K "has_tap" "has_tap" s_has_tap a_has_tap fd_has_tap
  g_has_tap : mg "has_tap" = some (.ref a_has_tap)
  b_has_tap : Binds K fd_has_tap ["sizes", "deeds"] []
  a_poured : Addr
  fd_poured : FuncData
  F_poured : Fun K "poured" "poured" s_poured a_poured fd_poured
  g_poured : mg "poured" = some (.ref a_poured)
  b_poured : Binds K fd_poured ["sizes", "counts", "deed"] []
  a_poured_all : Addr
  fd_poured_all : FuncData
  F_poured_all : Fun K "poured_all" "poured_all" s_poured_all a_poured_all fd_poured_all
  g_poured_all : mg "poured_all" = some (.ref a_poured_all)
  b_poured_all : Binds K fd_poured_all ["sizes", "counts", "deeds"] []
  a_by_counts : Addr
  fd_by_counts : FuncData
  F_by_counts : Fun K "by_counts" "by_counts" s_by_counts a_by_counts fd_by_counts
  g_by_counts : mg "by_counts" = some (.ref a_by_counts)
  b_by_counts : Binds K fd_by_counts ["sizes", "stand", "deeds"] []
  a_done : Addr
  fd_done : FuncData
  F_done : Fun K "done" "done" s_done a_done fd_done
  g_done : mg "done" = some (.ref a_done)
  b_done : Binds K fd_done ["sizes", "stand", "deed"] []
  a_done_all : Addr
  fd_done_all : FuncData
  F_done_all : Fun K "done_all" "done_all" s_done_all a_done_all fd_done_all
  g_done_all : mg "done_all" = some (.ref a_done_all)
  b_done_all : Binds K fd_done_all ["sizes", "stand", "deeds"] []
  a_path : Addr
  fd_path : FuncData
  F_path : Fun K "path" "path" s_path a_path fd_path
  g_path : mg "path" = some (.ref a_path)
  b_path : Binds K fd_path ["sizes", "stand", "deeds", "rank"] []
  a_behind : Addr
  fd_behind : FuncData
  F_behind : Fun K "behind" "behind" s_behind a_behind fd_behind
  g_behind : mg "behind" = some (.ref a_behind)
  b_behind : Binds K fd_behind ["sizes", "stand", "deeds", "times"] []
  a_behind_counts : Addr
  fd_behind_counts : FuncData
  F_behind_counts : Fun K "behind_counts" "behind_counts" s_behind_counts a_behind_counts fd_behind_counts
  g_behind_counts : mg "behind_counts" = some (.ref a_behind_counts)
  b_behind_counts : Binds K fd_behind_counts ["sizes", "counts", "deeds", "times"] []
  a_ring : Addr
  fd_ring : FuncData
  F_ring : Fun K "ring" "ring" s_ring a_ring fd_ring
  g_ring : mg "ring" = some (.ref a_ring)
  b_ring : Binds K fd_ring ["sizes", "stand", "deeds"] []
  a_ring_of_counts : Addr
  fd_ring_of_counts : FuncData
  F_ring_of_counts : Fun K "ring_of_counts" "ring_of_counts" s_ring_of_counts a_ring_of_counts fd_ring_of_counts
  g_ring_of_counts : mg "ring_of_counts" = some (.ref a_ring_of_counts)
  b_ring_of_counts : Binds K fd_ring_of_counts ["sizes", "counts", "deeds"] []
  a_turns : Addr
  fd_turns : FuncData
  F_turns : Fun K "turns" "turns" s_turns a_turns fd_turns
  g_turns : mg "turns" = some (.ref a_turns)
  b_turns : Binds K fd_turns ["sizes", "counts", "deeds"] []
  a_trail_of_counts : Addr
  fd_trail_of_counts : FuncData
  F_trail_of_counts : Fun K "trail_of_counts" "trail_of_counts" s_trail_of_counts a_trail_of_counts fd_trail_of_counts
  g_trail_of_counts : mg "trail_of_counts" = some (.ref a_trail_of_counts)
  b_trail_of_counts : Binds K fd_trail_of_counts ["sizes", "counts", "deeds"] []
  a_ring_of_trail : Addr
  fd_ring_of_trail : FuncData
  F_ring_of_trail : Fun K "ring_of_trail" "ring_of_trail" s_ring_of_trail a_ring_of_trail fd_ring_of_trail
  g_ring_of_trail : mg "ring_of_trail" = some (.ref a_ring_of_trail)
  b_ring_of_trail : Binds K fd_ring_of_trail ["told"] []
  a_ends : Addr
  fd_ends : FuncData
  F_ends : Fun K "ends" "ends" s_ends a_ends fd_ends
  g_ends : mg "ends" = some (.ref a_ends)
  b_ends : Binds K fd_ends ["sizes", "counts", "deeds"] []
  a_kin : Addr
  fd_kin : FuncData
  F_kin : Fun K "kin" "kin" s_kin a_kin fd_kin
  g_kin : mg "kin" = some (.ref a_kin)
  b_kin : Binds K fd_kin ["sizes", "counts", "deeds"] []
  a_kin_holds : Addr
  fd_kin_holds : FuncData
  F_kin_holds : Fun K "kin_holds" "kin_holds" s_kin_holds a_kin_holds fd_kin_holds
  g_kin_holds : mg "kin_holds" = some (.ref a_kin_holds)
  b_kin_holds : Binds K fd_kin_holds ["sizes", "counts", "deeds", "paper"] []
  a_when : Addr
  fd_when : FuncData
  F_when : Fun K "when" "when" s_when a_when fd_when
  g_when : mg "when" = some (.ref a_when)
  a_first_time : Addr
  fd_first_time : FuncData
  F_first_time : Fun K "first_time" "first_time" s_first_time a_first_time fd_first_time
  g_first_time : mg "first_time" = some (.ref a_first_time)
  a_never : Addr
  fd_never : FuncData
  F_never : Fun K "never" "never" s_never a_never fd_never
  g_never : mg "never" = some (.ref a_never)
  a_never_holds : Addr
  fd_never_holds : FuncData
  F_never_holds : Fun K "never_holds" "never_holds" s_never_holds a_never_holds fd_never_holds
  g_never_holds : mg "never_holds" = some (.ref a_never_holds)
  a_rows_and_ahead : Addr
  fd_rows_and_ahead : FuncData
  F_rows_and_ahead : Fun K "rows_and_ahead" "rows_and_ahead" s_rows_and_ahead a_rows_and_ahead fd_rows_and_ahead
  g_rows_and_ahead : mg "rows_and_ahead" = some (.ref a_rows_and_ahead)
  b_rows_and_ahead : Binds K fd_rows_and_ahead ["sizes", "counts", "deeds", "cask"] []
  a_meet : Addr
  fd_meet : FuncData
  F_meet : Fun K "meet" "meet" s_meet a_meet fd_meet
  g_meet : mg "meet" = some (.ref a_meet)
  b_meet : Binds K fd_meet ["sizes", "one", "other", "deeds"] []
  a_apart_at_last : Addr
  fd_apart_at_last : FuncData
  F_apart_at_last : Fun K "apart_at_last" "apart_at_last" s_apart_at_last a_apart_at_last fd_apart_at_last
  g_apart_at_last : mg "apart_at_last" = some (.ref a_apart_at_last)
  b_apart_at_last : Binds K fd_apart_at_last ["sizes", "one", "other", "deeds"] []
  a_pairs_behind : Addr
  fd_pairs_behind : FuncData
  F_pairs_behind : Fun K "pairs_behind" "pairs_behind" s_pairs_behind a_pairs_behind fd_pairs_behind
  g_pairs_behind : mg "pairs_behind" = some (.ref a_pairs_behind)
  b_pairs_behind : Binds K fd_pairs_behind ["sizes", "one", "other", "deeds"] []
  a_one_more : Addr
  fd_one_more : FuncData
  F_one_more : Fun K "one_more" "one_more" s_one_more a_one_more fd_one_more
  g_one_more : mg "one_more" = some (.ref a_one_more)
  b_one_more : Binds K fd_one_more ["sizes", "counts", "deeds"] []
  a_law_open : Addr
  fd_law_open : FuncData
  F_law_open : Fun K "_law_open" "_law_open" s_law_open a_law_open fd_law_open
  g_law_open : mg "_law_open" = some (.ref a_law_open)
  b_law_open : Binds K fd_law_open ["_law_script"] []
  a_law_take : Addr
  fd_law_take : FuncData
  F_law_take : Fun K "_law_take" "_law_take" s_law_take a_law_take fd_law_take
  g_law_take : mg "_law_take" = some (.ref a_law_take)
  b_law_take : Binds K fd_law_take ["_law_bag", "_law_sides"] []
  a_law_pick : Addr
  fd_law_pick : FuncData
  F_law_pick : Fun K "_law_pick" "_law_pick" s_law_pick a_law_pick fd_law_pick
  g_law_pick : mg "_law_pick" = some (.ref a_law_pick)
  b_law_pick : Binds K fd_law_pick ["_law_bag", "_law_row"] []
  a_law_same : Addr
  fd_law_same : FuncData
  F_law_same : Fun K "_law_same" "_law_same" s_law_same a_law_same fd_law_same
  g_law_same : mg "_law_same" = some (.ref a_law_same)
  b_law_same : Binds K fd_law_same ["_law_found", "_law_due"] []
  a_law_sizes : Addr
  fd_law_sizes : FuncData
  F_law_sizes : Fun K "_law_sizes" "_law_sizes" s_law_sizes a_law_sizes fd_law_sizes
  g_law_sizes : mg "_law_sizes" = some (.ref a_law_sizes)
  b_law_sizes : Binds K fd_law_sizes ["_law_bag", "_law_mcasks", "_law_most"] []
  a_law_any_sizes : Addr
  fd_law_any_sizes : FuncData
  F_law_any_sizes : Fun K "_law_any_sizes" "_law_any_sizes" s_law_any_sizes a_law_any_sizes fd_law_any_sizes
  g_law_any_sizes : mg "_law_any_sizes" = some (.ref a_law_any_sizes)
  b_law_any_sizes : Binds K fd_law_any_sizes ["_law_bag"] []
  a_law_told : Addr
  fd_law_told : FuncData
  F_law_told : Fun K "_law_told" "_law_told" s_law_told a_law_told fd_law_told
  g_law_told : mg "_law_told" = some (.ref a_law_told)
  b_law_told : Binds K fd_law_told ["_law_ask"] []
  a_law_doors : Addr
  fd_law_doors : FuncData
  F_law_doors : Fun K "_law_doors" "_law_doors" s_law_doors a_law_doors fd_law_doors
  g_law_doors : mg "_law_doors" = some (.ref a_law_doors)
  b_law_doors : Binds K fd_law_doors ["_law_odd"] []
  a_law_later_doors : Addr
  fd_law_later_doors : FuncData
  F_law_later_doors : Fun K "_law_later_doors" "_law_later_doors" s_law_later_doors a_law_later_doors fd_law_later_doors
  g_law_later_doors : mg "_law_later_doors" = some (.ref a_law_later_doors)
  b_law_later_doors : Binds K fd_law_later_doors ["_law_odd"] []
  a_law : Addr
  fd_law : FuncData
  F_law : Fun K "law" "law" s_law a_law fd_law
  g_law : mg "law" = some (.ref a_law)
  b_law : Binds K fd_law ["_law_script"] []
  kt : KT K
  kl : KL K
  m_enumerate : mg "enumerate" = none
  m_len : mg "len" = none
  m__never : mg "_never" = none
  m_sum : mg "sum" = none
  m_abs : mg "abs" = none
  m_zip : mg "zip" = none
  m_list : mg "list" = none
  m_isinstance : mg "isinstance" = none
  m_bool : mg "bool" = none
  m_int : mg "int" = none
  m_str : mg "str" = none
  m_all : mg "all" = none
  m_tuple : mg "tuple" = none
  m_range : mg "range" = none
  c_MOST_CASKS : ∃ tk, mg "MOST_CASKS" = some (.int (6) tk)
  c_MOST_SIZE : ∃ tk, mg "MOST_SIZE" = some (.int (40) tk)
  C_BadSizes : Addr
  g_BadSizes : mg "BadSizes" = some (.ref C_BadSizes)
  o_BadSizes : OexC K C_BadSizes
  f_BadSizes : XfC K C_BadSizes
  fi_BadSizes : Addr
  fdi_BadSizes : FuncData
  Fi_BadSizes : Fun K "__init__" "BadSizes.__init__" si_BadSizes fi_BadSizes fdi_BadSizes
  ii_BadSizes : PySem.W.findIn K (.ref C_BadSizes) "__init__" = some (some (.ref fi_BadSizes))
  ti_BadSizes : PySem.W.typeIn K (.ref fi_BadSizes) = some (.type "function")
  bi_BadSizes : Binds K fdi_BadSizes ["self", "cask"] []
  n_BadSizes_word : PySem.W.findIn K (.ref C_BadSizes) "word" = some none
  n_BadSizes_cask : PySem.W.findIn K (.ref C_BadSizes) "cask" = some none
  e_BadSizes_BadSizes : PySem.W.exmOne K (.ref C_BadSizes) (.ref C_BadSizes) = some true
  k_law_doors : Addr
  P_law_doors : Addr
  L_law_doors : ∃ (oc : Value) (od : Option Addr) (kV doc pm : Value) (an : Option Addr) (ct : Value) (osl : Array (Option Value)), fd_law_doors = PySem.W.fnOf "_law_doors" "_law_doors" (defArgs s_law_doors) (defBody s_law_doors) (defScope s_law_doors) .none kV doc pm an (.ref k_law_doors) ct ∧ K.lookup a_law_doors = some ⟨oc, od, .func fd_law_doors, osl⟩ ∧ PySem.W.codeIn K (.ref k_law_doors) "_law_doors" = true
  k_law_later_doors : Addr
  P_law_later_doors : Addr
  L_law_later_doors : ∃ (oc : Value) (od : Option Addr) (kV doc pm : Value) (an : Option Addr) (ct : Value) (osl : Array (Option Value)), fd_law_later_doors = PySem.W.fnOf "_law_later_doors" "_law_later_doors" (defArgs s_law_later_doors) (defBody s_law_later_doors) (defScope s_law_later_doors) .none kV doc pm an (.ref k_law_later_doors) ct ∧ K.lookup a_law_later_doors = some ⟨oc, od, .func fd_law_later_doors, osl⟩ ∧ PySem.W.codeIn K (.ref k_law_later_doors) "_law_later_doors" = true
  D_when : FunD K "when" "when" (defArgs s_when) (defBody s_when) (defScope s_when) [] [("least", .int 1)] a_when fd_when
  D_first_time : FunD K "first_time" "first_time" (defArgs s_first_time) (defBody s_first_time) (defScope s_first_time) [] [("least", .int 1)] a_first_time fd_first_time
  D_never : FunD K "never" "never" (defArgs s_never) (defBody s_never) (defScope s_never) [] [("least", .int 1)] a_never fd_never
  D_never_holds : FunD K "never_holds" "never_holds" (defArgs s_never_holds) (defBody s_never_holds) (defScope s_never_holds) [] [("least", .int 1)] a_never_holds fd_never_holds

  dP : P_law_doors ≠ P_law_later_doors
section
variable {K : PySem.W.Frag} {mg : Str → Option Value} {w : World}
def Top.cls (T : Top K mg w) : Nat → Addr := fun n => [T.C_BadSizes, 0, 0, 0, 0, 0, 0, 0, 0, 0, 0, 0, 0, 0, 0, 0, 0, 0].getD n 0
def Top.fa (T : Top K mg w) : Nat → Addr := fun n => [].getD n 0
end
end Lw
namespace Lw
open PySem PySem.Spec PyProof.Rows L2 DL DW DM
theorem kb_NoneType_bool : kitB "NoneType" "bool" = some false := by decide +kernel
theorem kb_NoneType_int : kitB "NoneType" "int" = some false := by decide +kernel
theorem kb_NoneType_str : kitB "NoneType" "str" = some false := by decide +kernel
theorem kb_NoneType_tuple : kitB "NoneType" "tuple" = some false := by decide +kernel
theorem kb_NoneType_list : kitB "NoneType" "list" = some false := by decide +kernel
theorem kb_bool_bool : kitB "bool" "bool" = some true := by decide +kernel
theorem kb_bool_int : kitB "bool" "int" = some true := by decide +kernel
theorem kb_bool_str : kitB "bool" "str" = some false := by decide +kernel
theorem kb_bool_tuple : kitB "bool" "tuple" = some false := by decide +kernel
theorem kb_bool_list : kitB "bool" "list" = some false := by decide +kernel
theorem kb_int_bool : kitB "int" "bool" = some false := by decide +kernel
theorem kb_int_int : kitB "int" "int" = some true := by decide +kernel
theorem kb_int_str : kitB "int" "str" = some false := by decide +kernel
theorem kb_int_tuple : kitB "int" "tuple" = some false := by decide +kernel
theorem kb_int_list : kitB "int" "list" = some false := by decide +kernel
theorem kb_str_bool : kitB "str" "bool" = some false := by decide +kernel
theorem kb_str_int : kitB "str" "int" = some false := by decide +kernel
theorem kb_str_str : kitB "str" "str" = some true := by decide +kernel
theorem kb_str_tuple : kitB "str" "tuple" = some false := by decide +kernel
theorem kb_str_list : kitB "str" "list" = some false := by decide +kernel
theorem kb_list_bool : kitB "list" "bool" = some false := by decide +kernel
theorem kb_list_int : kitB "list" "int" = some false := by decide +kernel
theorem kb_list_str : kitB "list" "str" = some false := by decide +kernel
theorem kb_list_tuple : kitB "list" "tuple" = some false := by decide +kernel
theorem kb_list_list : kitB "list" "list" = some true := by decide +kernel
theorem kb_tuple_bool : kitB "tuple" "bool" = some false := by decide +kernel
theorem kb_tuple_int : kitB "tuple" "int" = some false := by decide +kernel
theorem kb_tuple_str : kitB "tuple" "str" = some false := by decide +kernel
theorem kb_tuple_tuple : kitB "tuple" "tuple" = some true := by decide +kernel
theorem kb_tuple_list : kitB "tuple" "list" = some false := by decide +kernel
theorem isN_b {b : Bool} : decide (tyN (.bool b) = "NoneType") = false := by simp [tyN]
theorem isN_i {b : Int} : decide (tyN (.int b) = "NoneType") = false := by simp [tyN]
theorem isN_s {b : Str} : decide (tyN (.str b) = "NoneType") = false := by simp [tyN]
theorem isN_l {b : List PyData} : decide (tyN (.list b) = "NoneType") = false := by simp [tyN]
theorem isN_t {b : List PyData} : decide (tyN (.tuple b) = "NoneType") = false := by simp [tyN]
end Lw
namespace Lw
open PySem PySem.Spec PyProof.Rows L2 DL DW DM
end Lw
namespace Lw
open PySem PySem.Spec PyProof.Rows L2 DL DW DM
end Lw
namespace Lw
open PySem PySem.Spec PyProof.Rows L2 DL DW DM
end Lw
namespace TF
open PySem PySem.Spec PyProof.Rows L2
def NewT (xs : List V) (H : Hp) (Q : VK) : Prop := ∀ (p : Addr) (o : Obj), H p = none → o.dict = none → Q (.ref p) (upd H p (.frz o (.tup xs)))
section
variable {X : Cx} {pins : List (Addr × Obj)} {σ : L2.St} {H : Hp} {s : Shared} {Q : VK}
theorem laidT {xs : List V} {us : List Value} {g : Heap} {tk : Nat} (J : Inv X pins σ H { s with heap := g }) (rel : Vals xs us) (small : xs.length ≤ sizeLine) (goal : NewT xs H Q) :
    EP X pins σ Q (.ref g.objs.size) { s with heap := g.push { cls := .type "tuple", data := .seq us.toArray }, toks := tk } := by
  have got : (g.push { cls := .type "tuple", data := .seq us.toArray }).get? g.objs.size = some { cls := .type "tuple", data := .seq us.toArray } := Heap.get?_push_size _ rfl
  refine ⟨.ref g.objs.size, upd H g.objs.size (.frz { cls := .type "tuple", data := .seq us.toArray } (.tup xs)), ?_, rfl, goal _ _ (J.hok.fresh (Nat.le_refl _)) rfl⟩
  exact J.laid (t' := tk) (fun _ _ old => Heap.get?_push_of_some _ old) (Nat.le_refl _) ⟨got, small, us, rel, _, got, rfl, _, rfl⟩
end
section
variable {X : Cx} {es : List Expr} {t : TA} {pos : Pos}
def tTupF (t : TA) : TE := fun σ H Q => t σ H fun xs H1 => xs.length ≤ sizeLine ∧ NewT xs H1 Q
theorem pe_tupF {x1} (h : PA X es t) : PE X (.Tuple es x1 pos) (tTupF t) :=
  ⟨fun pins s σ H Q I hq => wpAny_Tuple_spliced (thn (h.run pos pins s σ H _ I hq) fun us s1 ⟨xs, H1, I1, r, z, q⟩ => ⟨r.length ▸ z, laidT (tk := s1.toks) I1 r z q⟩)⟩
def rTupleF (K : PySem.W.Frag) : List V → Hp → VK → Prop := fun xs H Q => ∃ p ys, xs = [.ref p] ∧ ((SqL K H p ys ∧ NewT ys H Q) ∨ (SqT K H p ys ∧ Q (.ref p) H))
theorem call_tupleF : CallR X (.type "tuple") (rTupleF X.K) := fun pins s σ H xs us Q I r ⟨p, ys, e, h⟩ => by
  subst e
  obtain ⟨u, rfl, ru⟩ := vals1 r
  obtain rfl : u = Value.ref p := ru
  rcases h with ⟨isl, q⟩ | ⟨ist, q⟩
  · obtain ⟨its, rel, pl, small⟩ := I.list isl
    exact call_tuple_list pl.isList (fun g kept => laidT (tk := s.toks) (I.kept (t' := s.toks) kept) rel small q) (by rw [List.size_toArray, ← rel.length]; exact small)
  · obtain ⟨its, rel, pt, _⟩ := I.tuple ist
    exact call_tuple_same pt ⟨.ref p, H, I, rfl, q⟩
def rCatF (K : PySem.W.Frag) : R2 := fun x y H Q => ∃ a c xs ys, x = .ref a ∧ y = .ref c ∧ SqT K H a xs ∧ SqT K H c ys ∧ xs.length + ys.length ≤ sizeLine ∧ (xs = [] → Q (.ref c) H) ∧ (xs ≠ [] → ys = [] → Q (.ref a) H) ∧ (xs ≠ [] → ys ≠ [] → NewT (xs ++ ys) H Q)
theorem op_catF : OpR X (binaryOp .Add) (rCatF X.K) := fun pins s σ H x y v u Q I rx ry ⟨a, c, xs, ys, ex, ey, ha, hc, small, q0, q1, q2⟩ => by
  subst ex ey
  obtain rfl : v = Value.ref a := rx
  obtain rfl : u = Value.ref c := ry
  obtain ⟨vs, rel1, pt1, _⟩ := I.tuple ha
  obtain ⟨ws, rel2, pt2, _⟩ := I.tuple hc
  by_cases hx : xs = []
  · subst hx
    cases rel1
    exact cat_tup0 pt1 pt2 ⟨.ref c, H, I, rfl, q0 rfl⟩
  · have n1 := rel1.nil_iff
    have n2 := rel2.nil_iff
    exact HT.cat_tup pt1 pt2 (fun z => hx (n1.mp z)) (fun z => ⟨.ref a, H, I, rfl, q1 hx (n2.mp z)⟩) (fun z => laidT (tk := s.toks) I (rel1.append rel2) (by rw [List.length_append]; exact small) (q2 hx fun zz => z (n2.mpr zz))) (by rw [← rel1.length, ← rel2.length]; exact small)
def rSlF (K : PySem.W.Frag) : V → Option Int → Option Int → Hp → VK → Prop := fun x lo hi H Q => ∃ a xs, x = .ref a ∧ SqT K H a xs ∧
  (HT.sIx xs.length 0 lo = 0 ∧ HT.sIx xs.length xs.length hi = xs.length → Q (.ref a) H) ∧ (¬ (HT.sIx xs.length 0 lo = 0 ∧ HT.sIx xs.length xs.length hi = xs.length) → NewT (cutV xs lo hi) H Q)
theorem sl_tupF : SlR X (rSlF X.K) := fun pins s σ H x v vl vu lo hi sl Q I rx hs pl pu ⟨a, xs, ex, ha, q1, q2⟩ => by
  subst ex
  obtain rfl : v = Value.ref a := rx
  obtain ⟨vs, rel, pt, small⟩ := I.tuple ha
  have size : vs.toArray.size = xs.length := by rw [List.size_toArray, rel.length]
  refine ⟨"tuple", _, PyProof.Rows.slot_tuple_getitem.lookup, pt.typeIs, ?_⟩
  by_cases hw : HT.sIx xs.length 0 lo = 0 ∧ HT.sIx xs.length xs.length hi = xs.length
  · exact getItem_tuple_whole pt hs pl pu (by rw [size]; exact hw) ⟨.ref a, H, I, rfl, q1 hw⟩
  · refine HT.getItem_tuple_cut pt hs pl pu (by rw [size]; exact hw) ?_ (by rw [size]; exact small)
    rw [size]
    exact laidT (tk := s.toks) I ((rel.drop _).take _) (Nat.le_trans (cutV_length xs lo hi) small) (q2 hw)
end
def IteT (K : PySem.W.Frag) (a : Addr) : It :=
  ⟨fun i H => ∃ (xs : List V) (x : V), SqT K H a xs ∧ xs[i]? = some x, fun i H v H' => ∃ T x, v = .ref T ∧ H T = none ∧ H' = upd H T (.tup [.int (i : Nat), x]) ∧ ∀ xs, SqT K H a xs → xs[i]? = some x, fun i H => ∃ xs : List V, SqT K H a xs ∧ xs.length ≤ i⟩
theorem meets_enum1 {v : Value} {o : Obj} {S : Heap → Prop} (B : Begins v o S) : Meets (Builtin.«enumerate.__new__» ⟨[.type "enumerate", v], []⟩) (fun _ R s => S s.heap ∧
    R (.ok (.ret (.ref (s.heap.push o).objs.size))) { s with heap := (s.heap.push o).push { cls := .type "enumerate", data := .fields #[.none, .bool false, .ref s.heap.objs.size, rawInt 0, .none, .none] } }) :=
  .of_wp fun prog w A R s h => by
    obtain ⟨hp, g, d, tk, os⟩ := s
    obtain ⟨h1, h⟩ := h
    have sub := sub_enumerate
    have begin_ : ∀ {A' : Around} {E : Value → Shared → Prop} {Q : Value → Shared → Prop}, Q (.ref hp.objs.size) ⟨hp.push o, g, d, tk, os⟩ → wpAny (model prog w) A' (pyIter v) Q E ⟨hp, g, d, tk, os⟩ := fun q => B.iter prog w _ _ ⟨hp, g, d, tk, os⟩ _ h1 q
    wp_walk using begin_
    refine wpAny_stack_any fun st => wpAny_pure ?_
    split
    · rename_i c _ _ _ _ _
      cases (c == Value.type "enumerate") <;> (wp_walk using begin_; exact ⟨_, rfl, h⟩)
    · wp_walk using begin_
      exact ⟨_, rfl, h⟩
section
variable {prog : Program} {w : World} {A : Around} {E : Value → Shared → Prop} {s : Shared}
theorem call_enum1 {v : Value} {o : Obj} {S : Heap → Prop} {Q : Value → Shared → Prop} (B : Begins v o S) (h1 : S s.heap)
    (h : ∀ g, IsEnum g (s.heap.objs.size + 1) s.heap.objs.size 0 .none → g.get? s.heap.objs.size = some o → (∀ b u, s.heap.get? b = some u → g.get? b = some u) → Q (.ref (s.heap.objs.size + 1)) { s with heap := g }) :
    wpAny (model prog w) A (call (.type "enumerate") [v]) Q E s := by
  have size : (s.heap.push o).objs.size = s.heap.objs.size + 1 := Heap.size_push ..
  have isE : IsEnum ((s.heap.push o).push { cls := .type "enumerate", data := .fields #[.none, .bool false, .ref s.heap.objs.size, rawInt 0, .none, .none] }) (s.heap.objs.size + 1) s.heap.objs.size 0 .none := by
    have z := Heap.get?_push_size (s.heap.push o) (o := { cls := .type "enumerate", data := .fields #[.none, .bool false, .ref s.heap.objs.size, rawInt 0, .none, .none] }) rfl
    rw [size] at z
    exact z
  refine callType_new F.called_enumerate (by decide) (F.typeCall_enumerate_1 _) (F.newCall_enumerate_1 _) (fun obj => F.args_object_init_2 obj _) F.entry_enumerate_new (meets_enum1 B) ⟨h1, ?_⟩
  show _ ∧ _
  rw [size]
  exact ⟨⟨_, isE, rfl⟩, h _ isE (Heap.get?_push_of_some _ (Heap.get?_push_size _ B.free)) fun b u x => Heap.get?_push_of_some _ (Heap.get?_push_of_some _ x)⟩
end
section
variable {prog : Program} {w : World} {A : Around} {E : Value → Shared → Prop} {s : Shared}
theorem end_enumT {e it a : Addr} {i : Nat} {k : Int} {items : Array Value} {old : Value} {Q : Option Value → Shared → Prop} (calm : A.handled = none) (isE : IsEnum s.heap e it k old) (itr : s.heap.IsTupleIter it a i) (isT : s.heap.IsTuple a items) (out : items[i]? = none)
    (hQ : ∀ g, Heap.ExtBut it s.heap g → Q none { s with heap := g }) : wpAny (model prog w) A (pyNext (.ref e)) Q E s := by
  have ty : s.TypeIs (.ref e) "enumerate" := ⟨_, isE, rfl⟩
  unfold pyNext
  refine wpAny_bind (wpAny_attempt (wpAny_callSpecial?_slot (name := Str.ofString "__next__") ty F.slot_enumerate_next (wpAny_call_entry F.slot_enumerate_next ty F.entry_enumerate_next ?_ (F.args_enumerate_next_1 _))))
  show wpAny _ _ (field (.ref e) 2 >>= _) _ _ _
  refine wpAny_bind (wpAny_field isE rfl (x := .ref it) rfl (wpAny_bind (wpAny_nextOf_tuple_end calm itr isT out ?_)))
  rintro g x kept ⟨o, got, cls⟩
  exact wpAny_bind (wpAny_isInstance (T := "StopIteration") (b := true) ⟨o, got, cls⟩ isSubtype_stop (wpAny_pure (hQ g kept)))
end
theorem turn_enumT {P : Program} {w : World} {K : PySem.W.Frag} {elts : List Expr} {kk : Nat} {tpos : Pos} (a e it : Addr) :
    Turn P w K (.Tuple elts kk tpos) (IteT K a) [e, it] e (fun i h => (∃ old, IsEnum h e it ((i : Nat) : Int) old) ∧ h.IsTupleIter it a i ∧ e ≠ it) where
  mem := List.mem_cons_self
  obj := by
    rintro i h ⟨⟨old, isE⟩, ⟨o, got, _, dat⟩, _⟩ b hb
    rcases List.mem_cons.mp hb with z | z
    · exact ⟨_, z ▸ isE, by intro v q; cases q⟩
    · cases List.mem_singleton.mp z
      exact ⟨o, got, fun v q => by rw [dat] at q; cases q⟩
  keep := by
    rintro i h h' ⟨⟨old, isE⟩, ⟨o, got, r⟩, ne⟩ k
    exact ⟨⟨old, k e List.mem_cons_self _ isE⟩, ⟨o, k it (List.mem_cons_of_mem _ List.mem_cons_self) _ got, r⟩, ne⟩
  item := by
    rintro X rfl rfl rfl calm i pins s σ H E I off ⟨⟨old, isE⟩, itr, ne⟩ ⟨xs, x, isT, hx⟩
    obtain ⟨us, rel, pt, small⟩ := I.tuple isT
    have lt : i < us.toArray.size := by
      rw [List.size_toArray, ← rel.length]
      exact (List.getElem?_eq_some_iff.mp hx).1
    have pt' : s.heap.IsTuple a us.toArray := pt
    obtain ⟨oT, gotT, clsT, _⟩ := id pt'
    obtain ⟨oI, gotI, clsI, _⟩ := id itr
    have nai : a ≠ it := fun z => by
      rw [z, gotI] at gotT
      cases gotT
      rw [clsI] at clsT
      exact absurd (Value.type.inj clsT) (by decide)
    have nea : e ≠ a := fun z => by
      have q : s.heap.get? a = _ := z ▸ isE
      rw [gotT] at q
      rw [Option.some.inj q] at clsT
      exact absurd (Value.type.inj clsT) (by decide)
    refine wpAny_pyNext_enum_itemD (Draws.tuple (A := X.A.in1) (I.ok.hd calm) it a nai us.toArray) isE ⟨itr, pt'⟩ lt ne (fun hm => ?_) fun u h1 tk hu out st1 gotN size kept => ?_
    · rcases List.mem_cons.mp hm with z | z
      · exact ne z
      · exact nea (List.mem_singleton.mp z)
    refine ⟨_, rfl, wpAny_letOwnedTupleGo_enum (s := { s with heap := h1, toks := tk + 1 }) out fun h2 isE2 same => ?_⟩
    obtain ⟨u', hu', ru'⟩ := rel.get hx
    have eu : u = u' := by
      have z : us[i]? = some u := by simpa using hu
      rw [hu'] at z
      exact (Option.some.inj z).symm
    subst eu
    have le : e < s.heap.objs.size := Heap.lt_size isE
    have li : it < s.heap.objs.size := Heap.lt_size gotI
    have gotN2 : h2.get? s.heap.objs.size = some { cls := .type "tuple", data := .seq #[.int i tk, u] } := (same.2 _ (Nat.ne_of_gt le)).trans gotN
    have new : ObjOk X.prog X.w (upd H s.heap.objs.size (.tup [.int (i : Nat), x])) h2 s.heap.objs.size (.tup [.int (i : Nat), x]) := ⟨by show 2 ≤ sizeLine; decide, [.int i tk, u], .cons ⟨_, rfl⟩ (.cons ru' .nil), ⟨_, gotN2, rfl, _, rfl⟩⟩
    have J : Inv X pins σ (upd H s.heap.objs.size (.tup [.int (i : Nat), x])) { s with heap := h2, toks := tk + 1 } :=
      I.turnedNew (ch := [e, it]) (fun b o hb q => (same.2 b (fun z => hb (by simp [z]))).trans (kept b o (fun z => hb (by simp [z])) (fun z => hb (by simp [z])) q)) off (Nat.le_refl _) new
    obtain ⟨⟨oJ, gotJ, rJ⟩, _⟩ := st1
    refine ⟨.ref s.heap.objs.size, _, J, rfl, ⟨_, x, rfl, I.hok.fresh (Nat.le_refl _), rfl, fun ys hy => by rw [I.tuple_inj hy isT]; exact hx⟩, ⟨⟨u, ?_⟩, ⟨oJ, (same.2 it (fun z => ne z.symm)).trans gotJ, rJ⟩, ne⟩, fun b hb => ?_⟩
    · rw [show ((i + 1 : Nat) : Int) = (i : Int) + 1 by omega]
      exact isE2
    · rw [upd_ne (fun z => ?_)]
      · exact (off b hb).1
      · rcases List.mem_cons.mp hb with q | q
        · exact absurd (z.symm.trans q) (Nat.ne_of_gt le)
        · exact absurd (z.symm.trans (List.mem_singleton.mp q)) (Nat.ne_of_gt li)
  done := by
    rintro X rfl rfl rfl calm i pins s σ H E I off ⟨⟨old, isE⟩, itr, ne⟩ ⟨xs, isT, hx⟩
    obtain ⟨us, rel, pt, small⟩ := I.tuple isT
    obtain ⟨f0, f1, f2, f3, f4, f5⟩ := off it (List.mem_cons_of_mem _ List.mem_cons_self)
    refine end_enumT (I.ok.hd calm) isE itr (show s.heap.IsTuple a us.toArray from pt) ?_ fun g kept => ⟨rfl, I.turned (t' := s.toks) (fun b o hb q => kept b o hb q) f0 f1 f3 f4 f5⟩
    have len := rel.length
    simp
    omega
  self := by
    rintro A i s Q E ⟨⟨_, isE⟩, _⟩ h
    exact wpAny_pyIter_enum isE h
end TF
namespace TF
open PySem PySem.Spec PyProof.Rows L2
theorem mul_0 (l : Addr) (items : Array Value) (n : Nat) (dd : Option Addr) (sl : Array (Option Value)) (x : Int) (u : Tok) (c0 : (decide (x < -(2 ^ 63)) || decide (x ≥ 2 ^ 63)) = false) (c1 : (items.isEmpty || x == 1) = false) (c2 : (decide (x ≤ 0) || items.isEmpty) = true) :
    Meets (Builtin.«tuple.__mul__» ⟨[.ref l, .int x u], []⟩) (fun _ R s => s.heap.get? l = some { cls := .type "tuple", dict := dd, data := .seq items n, slots := sl } ∧
      R (.ok (.ret (Value.ref s.heap.objs.size))) { s with heap := s.heap.push { cls := Value.type "tuple", data := Data.seq #[] }, toks := s.toks }) :=
  .of_wp fun prog w A R s h => by
    obtain ⟨hp, g, d, tk, os⟩ := s
    obtain ⟨hl, h⟩ := h
    have idx := AutoSeq1.idx_int
    wp_walk using wpAny_loadPart' hl
    repeat (first
      | (refine wpAny_ite_false (decide_eq_false (by rw [c0]; exact Bool.false_ne_true)) ?_; wp_walk using wpAny_loadPart' hl)
      | (refine wpAny_ite_false (decide_eq_false (by rw [c1]; exact Bool.false_ne_true)) ?_; wp_walk using wpAny_loadPart' hl)
      | (refine wpAny_ite_true (decide_eq_true (by rw [c2])) ?_; wp_walk using wpAny_loadPart' hl))
    exact ⟨_, rfl, h⟩
theorem mul_1 (l : Addr) (items : Array Value) (n : Nat) (dd : Option Addr) (sl : Array (Option Value)) (x : Int) (u : Tok) (c0 : (decide (x < -(2 ^ 63)) || decide (x ≥ 2 ^ 63)) = false) (c1 : (items.isEmpty || x == 1) = true) :
    Meets (Builtin.«tuple.__mul__» ⟨[.ref l, .int x u], []⟩) (fun _ R s => s.heap.get? l = some { cls := .type "tuple", dict := dd, data := .seq items n, slots := sl } ∧ R (.ok (.ret (Value.ref l))) s) :=
  .of_wp fun prog w A R s h => by
    obtain ⟨hp, g, d, tk, os⟩ := s
    obtain ⟨hl, h⟩ := h
    have idx := AutoSeq1.idx_int
    wp_walk using wpAny_loadPart' hl
    repeat (first
      | (refine wpAny_ite_false (decide_eq_false (by rw [c0]; exact Bool.false_ne_true)) ?_; wp_walk using wpAny_loadPart' hl)
      | (refine wpAny_ite_true (decide_eq_true (by rw [c1])) ?_; wp_walk using wpAny_loadPart' hl))
    exact ⟨_, rfl, h⟩
def rRepF (K : PySem.W.Frag) : R2 := fun x y H Q => ∃ l k xs, x = .ref l ∧ y = .int k ∧ SqT K H l xs ∧ xs ≠ [] ∧ -1000 ≤ k ∧ k ≤ 1000 ∧ xs.length ≤ 1000 ∧ (k ≤ 0 → NewT [] H Q) ∧ (k = 1 → Q (.ref l) H) ∧ (2 ≤ k → NewT (List.replicate k.toNat xs).flatten H Q)
section
variable {X : Cx}
theorem op_repF : OpR X (binaryOp .Mult) (rRepF X.K) := fun pins s σ H x y v u Q I rx ry ⟨l, k, xs, ex, ey, isT, ne, k0, k1, small, q0, q1, q2⟩ => by
  subst ex ey
  obtain rfl : v = Value.ref l := rx
  obtain ⟨tk, rfl⟩ := ry
  obtain ⟨us, rel, ⟨⟨c, dd, dt, sl⟩, got, cls, n, dat⟩, _⟩ := I.tuple isT
  simp only at cls dat
  subst cls dat
  have len : us.length = xs.length := rel.length.symm
  have nonempty : us.toArray.isEmpty = false := by
    cases us with
    | nil => exact absurd (List.eq_nil_of_length_eq_zero len.symm) ne
    | cons _ _ => rfl
  have inside : (decide (k < -(2 ^ 63)) || decide (k ≥ 2 ^ 63)) = false := by
    rw [decide_eq_false (by omega), decide_eq_false (by omega), Bool.or_false]
  have go : ∀ {S : PySem.Spec}, Meets (Builtin.«tuple.__mul__» ⟨[.ref l, .int k tk], []⟩) S → S X.A (wants (EP X pins σ Q) X.xe) s → wpAny (model X.prog X.w) X.A (binaryOp .Mult (.ref l) (.int k tk)) (EP X pins σ Q) X.xe s := fun m h =>
    wpAny_binaryOp_repeat_ref (T := "tuple") (U := "int") (by decide) ⟨_, got, rfl⟩ (fun s' => typeIs_int s' k tk) noFill_tuple_mul F.fills_int_mul F.slot_int_rmul repeat_tuple F.slot_int_index.lookup
      (call_meets F.slot_int_rmul (typeIs_int s k tk) F.entry_int_rmul (F.args_int_rmul_2 _ _) (int_rmul_tuple k tk l us.toArray n dd sl) ⟨got, rfl, ⟨_, got, rfl⟩, call_meets F.slot_tuple_mul ⟨_, got, rfl⟩ F.entry_tuple_mul (F.args_tuple_mul_2 _ _) m h⟩)
  by_cases h1 : k = 1
  · exact go (mul_1 l us.toArray n dd sl k tk inside (by rw [h1, nonempty]; rfl)) ⟨got, ⟨.ref l, H, I, rfl, q1 h1⟩⟩
  · have one : (us.toArray.isEmpty || k == 1) = false := by
      rw [nonempty, Bool.false_or]
      exact beq_eq_false_iff_ne.mpr h1
    by_cases h0 : k ≤ 0
    · exact go (mul_0 l us.toArray n dd sl k tk inside one (by rw [decide_eq_true h0, Bool.true_or])) ⟨got, laidT (us := []) (tk := s.toks) I .nil (Nat.zero_le _) (q0 h0)⟩
    · have prod : ((us.toArray.size : Nat) : Int) * k ≤ 1000000 := by
        rw [List.size_toArray, len]
        have z : ((xs.length : Nat) : Int) * k ≤ 1000 * k := Int.mul_le_mul_of_nonneg_right (by omega) (by omega)
        omega
      have fits : (List.replicate k.toNat us).flatten.length ≤ 1000000 := by
        rw [PyProof.Rows.lm_len_rep_flat, len]
        have z : k.toNat * xs.length ≤ 1000 * 1000 := Nat.mul_le_mul (by omega) small
        omega
      have line : 1000000 ≤ sizeLine := by rw [sizeLine_eq]; decide
      refine go (tuple_mulW l us.toArray n dd sl k tk inside one (by rw [nonempty, Bool.or_false]; exact decide_eq_false (by omega)) (by omega) ?_ (by rw [size_rep, List.size_toArray]; exact Nat.le_trans fits line)) ⟨got, ?_⟩
      · unfold Builtin.Tuple.tupleTooMany
        rw [sizeLine_eq]
        exact decide_eq_false (by omega)
      · rw [size_rep]
        exact laidT (tk := s.toks) I (rel.rep k.toNat) (by rw [PyProof.Rows.lm_len_rep_flat, ← len]; rw [PyProof.Rows.lm_len_rep_flat] at fits; exact Nat.le_trans fits line) (q2 (by omega))
end
end TF
namespace DK
open PySem PySem.Spec PyProof.Rows L2
section
variable {X : Cx} {pins : List (Addr × Obj)} {σ : L2.St} {H : Hp} {s : Shared}
mutual
theorem dp_key (I : Inv X pins σ H s) : ∀ {d : PyData} {v : V} {u : Value} {k : NestedKey}, Dp X.K H v d → keyOf d = some k → RelV v u → NestedIs s.heap k u
  | .int i, _, _, _, .int _, h, r => by
    rw [keyOf] at h
    cases h
    obtain ⟨t, rfl⟩ := r
    exact .int i t
  | .tuple ds, _, _, k, .tup hs hd, h, r => by
    rw [keyOf] at h
    cases q : keysOf ds with
    | none => rw [q] at h; cases h
    | some ks =>
      rw [q] at h
      cases h
      obtain ⟨its, rv, ⟨o, e, c, n, hdat⟩, _⟩ := I.tuple hs
      cases r
      exact .tup e c hdat (by simpa using dpa_key I hd q rv)
  | .none, _, _, _, _, h, _ => by simp [keyOf] at h
  | .bool _, _, _, _, _, h, _ => by simp [keyOf] at h
  | .str _, _, _, _, _, h, _ => by simp [keyOf] at h
  | .list _, _, _, _, _, h, _ => by simp [keyOf] at h
  | .dict _, _, _, _, _, h, _ => by simp [keyOf] at h
theorem dpa_key (I : Inv X pins σ H s) : ∀ {ds : List PyData} {vs : List V} {us : List Value} {ks : List NestedKey}, DpAll X.K H vs ds → keysOf ds = some ks → Vals vs us → NestedAll s.heap ks us
  | [], _, _, ks, .nil, h, .nil => by
    rw [keysOf] at h
    cases h
    exact .nil
  | d :: ds, _, _, ks, .cons hd ht, h, .cons r rt => by
    rw [keysOf] at h
    cases q : keyOf d with
    | none => rw [q] at h; cases h
    | some k =>
      cases q2 : keysOf ds with
      | none => rw [q, q2] at h; cases h
      | some ks' =>
        rw [q, q2] at h
        cases h
        exact .cons (dp_key I hd q r) (dpa_key I ht q2 rt)
end
end
theorem dct_of {P : Program} {w : World} {H : Hp} {h : Heap} {a : Addr} {es : List Ent} (ok : HOk P w H h) (e : H a = some (dctO a es)) : dctP a es h := (ok a _ e).1
def KeysOk (K : PySem.W.Frag) (H : Hp) (es : List Ent) : Prop := ∀ e ∈ es, ∃ d, keyOf d = some e.1 ∧ Dp K H (.ref e.2.1) d
theorem paired_memR {α β : Type} {F : α → β → Prop} : ∀ {l : List α} {m : List β}, Paired F l m → ∀ y ∈ m, ∃ x ∈ l, F x y
  | _, _, .nil, _, h => by cases h
  | _, _, .cons r t, y, h => by
    rcases List.mem_cons.mp h with e | e
    · exact ⟨_, List.mem_cons_self .., e ▸ r⟩
    · obtain ⟨x, hx, hf⟩ := paired_memR t y e
      exact ⟨x, List.mem_cons_of_mem _ hx, hf⟩
theorem dct_dd {X : Cx} {pins : List (Addr × Obj)} {σ : L2.St} {H : Hp} {s : Shared} {a : Addr} {es : List Ent} (I : Inv X pins σ H s) (e : H a = some (dctO a es)) (hk : KeysOk X.K H es) :
    ∃ xs, Paired REnt es xs ∧ s.heap.DictOfH (nestedKind X.prog X.w) a xs := by
  obtain ⟨⟨_, _, pk⟩, xs, r, o, ds, ep, ho, hc, hd, he, hn⟩ := dct_of I.hok e
  refine ⟨xs, r, o, ds, ep, ho, hc, hd, he _ _, fun x hx => ?_, hn⟩
  obtain ⟨p, hp, e1, e2, _⟩ := paired_memR r x hx
  obtain ⟨d, hd1, hd2⟩ := hk p hp
  rw [← e1, ← e2]
  exact ⟨dp_key I hd2 hd1 rfl, (pk p hp).2⟩
def atE (es : List Ent) (k : NestedKey) : Option V := (es.find? fun e => decide (e.1 = k)).map (·.2.2)
theorem atE_rel {es : List Ent} {xs : List (NestedKey × Addr × Value)} (r : Paired REnt es xs) (k : NestedKey) : RelO (atE es k) ((atKey xs k).map (·.2)) := by
  unfold atE atKey
  induction r with
  | nil => exact True.intro
  | @cons p q ps qs h t ih =>
    obtain ⟨h1, h2, h3⟩ := h
    by_cases z : p.1 = k
    · rw [List.find?_cons_of_pos (by simpa using z), List.find?_cons_of_pos (by simpa using h1.symm.trans z)]
      exact h3
    · rw [List.find?_cons_of_neg (by simpa using z), List.find?_cons_of_neg (by simpa using fun y => z (h1.trans y))]
      exact ih
theorem room8 {A : Around} (hu : A.units + 64 < cLine) {P : Program} {w : World} : (nestedKind P w).room A.in1 := by
  show A.units + 1 + 8 < cLine
  omega
def KeyV (K : PySem.W.Frag) (H : Hp) (x : V) (b : Addr) (k : NestedKey) : Prop := x = .ref b ∧ k.depth ≤ 8 ∧ ∃ d, keyOf d = some k ∧ Dp K H x d
theorem keyV_is {X : Cx} {pins : List (Addr × Obj)} {σ : L2.St} {H : Hp} {s : Shared} {x : V} {b : Addr} {k : NestedKey} {u : Value} (I : Inv X pins σ H s) (h : KeyV X.K H x b k) (r : RelV x u) : u = .ref b ∧ (nestedKind X.prog X.w).is s.heap k b := by
  obtain ⟨rfl, hd, d, h1, h2⟩ := h
  obtain rfl : u = .ref b := r
  exact ⟨rfl, dp_key I h2 h1 rfl, hd⟩
def rDIx (K : PySem.W.Frag) : R2 := fun x y H Q => ∃ b k d es v, KeyV K H y b k ∧ x = .ref d ∧ H d = some (dctO d es) ∧ KeysOk K H es ∧ atE es k = some v ∧ Q v H
def rDLen (K : PySem.W.Frag) : List V → Hp → VK → Prop := fun vs H Q => ∃ d es, vs = [.ref d] ∧ H d = some (dctO d es) ∧ KeysOk K H es ∧ Q (.int (es.length : Int)) H
section
variable {X : Cx}
theorem ix_dct (hu : X.A.units + 64 < cLine) : IxR X (rDIx X.K) := fun value slice pins s σ H x y v u Q I rx ry h hs => by
  obtain ⟨b, k, d, es, z, hk, rfl, hd, ko, hz, q⟩ := h
  obtain ⟨rfl, is⟩ := keyV_is I hk ry
  obtain rfl : v = .ref d := rx
  obtain ⟨xs, r, dd⟩ := dct_dd I hd ko
  obtain ⟨w', hw, rw'⟩ := RelO.some_of (v := z) (o := (atKey xs k).map (·.2)) (by rw [← hz]; exact atE_rel r k)
  obtain ⟨p, hp, hp2⟩ := Option.map_eq_some_iff.mp hw
  refine tail_any dd.typeIs slot_dict_getitem.lookup (wpAny_getItem_heap (room8 hu) is dd hp ?_) hs
  rw [hp2]
  exact ⟨z, H, I.tok _, rw', q⟩
theorem call_lenDct : CallR X (.builtin "len") (rDLen X.K) := by
  intro pins s σ H xs us Q I r h
  obtain ⟨d, es, rfl, hd, ko, q⟩ := h
  obtain ⟨u, rfl, rx⟩ := vals1 r
  obtain rfl : u = .ref d := rx
  obtain ⟨⟨z, hs, _⟩, _⟩ := dct_of I.hok hd
  obtain ⟨ys, rel, dd⟩ := dct_dd I hd ko
  have hl : es.length = ys.length := Paired.length rel
  refine call_len_dictH hs dd (by rw [← hl]; rw [sizeLine_eq] at z; omega) ?_
  rw [← hl]
  exact ⟨.int (es.length : Int), H, I.tok _, ⟨_, rfl⟩, q⟩
end
end DK
namespace DL
open PySem L2
abbrev dstr (s : Str) : DV := .dat (.str s)
theorem dpa_len {K : PySem.W.Frag} {H : Hp} : ∀ {vs : List V} {ds : List PyData}, DpAll K H vs ds → vs.length = ds.length
  | _, _, .nil => rfl
  | _, _, .cons _ r => congrArg Nat.succ (dpa_len r)
theorem dpa_app {K : PySem.W.Frag} {H : Hp} : ∀ {vs ws : List V} {ds es : List PyData}, DpAll K H vs ds → DpAll K H ws es → DpAll K H (vs ++ ws) (ds ++ es)
  | _, _, _, _, .nil, r => r
  | _, _, _, _, .cons q t, r => .cons q (dpa_app t r)
theorem dpa_get {K : PySem.W.Frag} {H : Hp} : ∀ {vs : List V} {ds : List PyData} {i : Nat} {d : PyData}, DpAll K H vs ds → ds[i]? = some d → ∃ v, vs[i]? = some v ∧ Dp K H v d
  | _, _, _, _, .nil, h => by simp at h
  | _, _, 0, _, .cons q _, h => by
    have e := Option.some.inj h
    subst e
    exact ⟨_, rfl, q⟩
  | _, _, i + 1, _, .cons _ r, h => dpa_get (i := i) r h
theorem dpa_take {K : PySem.W.Frag} {H : Hp} : ∀ {vs : List V} {ds : List PyData} (n : Nat), DpAll K H vs ds → DpAll K H (vs.take n) (ds.take n)
  | _, _, 0, _ => .nil
  | _, _, _ + 1, .nil => .nil
  | _, _, n + 1, .cons q r => .cons q (dpa_take n r)
theorem dpa_drop {K : PySem.W.Frag} {H : Hp} : ∀ {vs : List V} {ds : List PyData} (n : Nat), DpAll K H vs ds → DpAll K H (vs.drop n) (ds.drop n)
  | _, _, 0, r => r
  | _, _, _ + 1, .nil => .nil
  | _, _, n + 1, .cons _ r => dpa_drop n r
theorem dpa_ints {K : PySem.W.Frag} {H : Hp} : ∀ {vs : List V} {ns : List Int}, DpAll K H vs (ns.map .int) → vs = ns.map V.int
  | [], [], _ => rfl
  | _ :: _, n :: ns, .cons q r => by
    cases q
    rw [dpa_ints r]
    rfl
theorem dpa_bools {K : PySem.W.Frag} {H : Hp} : ∀ {vs : List V} {ns : List Bool}, DpAll K H vs (ns.map .bool) → vs = ns.map V.bl
  | [], [], _ => rfl
  | _ :: _, n :: ns, .cons q r => by
    cases q
    rw [dpa_bools r]
    rfl
theorem fr_none {H : Hp} {a : Addr} (h : H a = none) : Fr H a := fun o e => by rw [h] at e; cases e
theorem plain_tbl {o : HO} (h : PlainO o) : ∀ ps, o ≠ .tbl ps := fun ps z => by subst z; exact h
section
variable {K : PySem.W.Frag} {b : Bg} {I H I' H' I2 H2 : Hp}
theorem Ext.re (e : Ext K b I H I' H') : Ext K b I' H' I' H' := Ext.refl e.s e.b
theorem Ext.new {p : Addr} {o : HO} (S : Same I H) (B : Bag K b I H) (hp : H p = none) (ho : PlainO o) : Ext K b I H (upd I p o) (upd H p o) := by
  have ip : I p = none := by
    cases q : I p with
    | none => rfl
    | some u => rw [S p u q] at hp; cases hp
  obtain ⟨n, pl, tb, l, ns, x, q, m, c, e, sl, r⟩ := B
  have pb : b.a ≠ p := ne_of_none e hp
  refine ⟨fun a u h => ?_, fun a u _ _ h => ?_, fun a u n h _ => ?_, fun l xs h => ⟨xs, by rw [upd_ne pb]; exact h⟩, fun a u h => ?_, ?_, fun a ps h => ?_, tb.ext fun a u h => ?_, l, ns, x, q, m, c, ?_, ?_, r⟩
  · rw [upd_ne (ne_of_none h ip)]; exact h
  · rw [upd_ne (ne_of_none h hp)]; exact h
  · rw [upd_ne (ne_of_none h hp)]; exact n
  · by_cases z : a = p
    · subst z; rw [upd_same] at h ⊢; exact h
    · rw [upd_ne z] at h ⊢; exact S a u h
  · rw [upd_ne pb]; exact n
  · by_cases z : a = p
    · subst z; rw [upd_same] at h; cases h; exact ho
    · rw [upd_ne z] at h; exact pl a _ h
  · rw [upd_ne (ne_of_none h hp)]; exact h
  · rw [upd_ne pb]; exact e
  · exact sl_mono (fun a u h => by rw [upd_ne (ne_of_none h ip)]; exact h) sl
theorem Ext.newH {p : Addr} {o : HO} (S : Same I H) (B : Bag K b I H) (hp : H p = none) : Ext K b I H I (upd H p o) := by
  obtain ⟨n, pl, tb, l, ns, x, q, m, c, e, sl, r⟩ := B
  refine ⟨Same.refl I, fun a u _ _ h => ?_, fun a u n _ _ => n, fun l xs h => ⟨xs, by rw [upd_ne (ne_of_none h hp)]; exact h⟩, fun a u h => ?_, n, pl, tb.ext fun a u h => ?_, l, ns, x, q, m, c, ?_, sl, r⟩
  · rw [upd_ne (ne_of_none h hp)]; exact h
  · rw [upd_ne (ne_of_none (S a u h) hp)]; exact S a u h
  · rw [upd_ne (ne_of_none h hp)]; exact h
  · rw [upd_ne (ne_of_none e hp)]; exact e
end
section
variable {K : PySem.W.Frag} {b : Bg} {H0 I H I' H' : Hp} {v : V} {r : DV} {σ : St} {δ : Env}
theorem LstR.read {ds : List PyData} (S : Same I H) (l : LstR r ds) (h : Res K b H0 I H v r) : ∃ a xs, v = .ref a ∧ SqL K H a xs ∧ DpAll K I xs ds := by
  rcases l with rfl | rfl | rfl
  · obtain ⟨a, xs, rfl, _, _, _, ha, hd⟩ := h
    exact ⟨a, xs, rfl, .inl (.inl ha), hd⟩
  · obtain ⟨a, xs, rfl, ha, _, _, hd⟩ := h
    exact ⟨a, xs, rfl, .inl (.inl ha), hd⟩
  · have h : Dp K I v (.list ds) := h
    cases h with
    | lst q r => exact ⟨_, _, rfl, sl_mono S q, r⟩
theorem tup_read {ds : List PyData} (S : Same I H) (h : Res K b H0 I H v (.dat (.tuple ds))) : ∃ a xs, v = .ref a ∧ SqT K H a xs ∧ DpAll K I xs ds := by
  have h : Dp K I v (.tuple ds) := h
  cases h with
  | tup q r => exact ⟨_, _, rfl, st_mono S q, r⟩
theorem int_read {i : Int} (h : Res K b H0 I H v (dint i)) : v = .int i := by
  have h : Dp K I v (.int i) := h
  cases h; rfl
theorem bl_read {i : Bool} (h : Res K b H0 I H v (dbl i)) : v = .bl i := by
  have h : Dp K I v (.bool i) := h
  cases h; rfl
theorem str_read {i : Str} (h : Res K b H0 I H v (dstr i)) : v = .str i := by
  have h : Dp K I v (.str i) := h
  cases h; rfl
theorem non_read (h : Res K b H0 I H v (.dat .none)) : v = .non := by
  have h : Dp K I v .none := h
  cases h; rfl
theorem EnvR.setD (h : EnvR K b H0 I H σ δ) {i : Nat} (hi : i < δ.length) (q : Res K b H0 I H v r) (hr : ∀ ds, r ≠ .own ds) : EnvR K b H0 I H (σ.set i (some v)) (δ.set i (some r)) :=
  h.set hi q fun _ ds e => absurd e (hr ds)
end
end DL
namespace DL
open PySem L2
section
variable {K : PySem.W.Frag} {b : Bg} {I0 H0 I H I' H' : Hp}
theorem Ok.re (o : Ok K b I H) : Ext K b I H I H := Ext.refl o.s o.b
theorem Ok.new {p : Addr} {o : HO} (k : Ok K b I H) (hp : H p = none) (ho : PlainO o) : Ext K b I H (upd I p o) (upd H p o) := Ext.new k.s k.b hp ho
theorem Ok.newH {p : Addr} {o : HO} (k : Ok K b I H) (hp : H p = none) : Ext K b I H I (upd H p o) := Ext.newH k.s k.b hp
theorem Ok.inone (k : Ok K b I H) {p : Addr} (hp : H p = none) : I p = none := by
  cases q : I p with
  | none => rfl
  | some u => rw [k.s p u q] at hp; cases hp
theorem Res.since {H1 : Hp} {v : V} {r : DV} (h : Res K b H1 I H v r) (f : ∀ a, Fr H1 a → Fr H0 a) : Res K b H0 I H v r := by
  cases r with
  | own ds =>
    obtain ⟨a, xs, rfl, h0, hi, hb, ha, hd⟩ := h
    exact ⟨a, xs, rfl, f a h0, hi, hb, ha, hd⟩
  | dct own kvs =>
    obtain ⟨a, xs, rfl, h0, h⟩ := h
    exact ⟨a, xs, rfl, fun z => f a (h0 z), h⟩
  | _ => exact h
end
section
variable (K : PySem.W.Frag) (b : Bg)
def OpD (r : R2) (x y : DV) (P : DV → Prop) : Prop := ∀ (H0 I H : Hp) (v w : V), Ok K b I H → Res K b H0 I H v x → Res K b H0 I H w y → ∀ Q : VK,
  (∀ z u I' H', P z → Ext K b I H I' H' → Res K b H I' H' u z → Q u H') → r v w H Q
def UnD (r : V → Hp → VK → Prop) (x : DV) (P : DV → Prop) : Prop := ∀ (H0 I H : Hp) (v : V), Ok K b I H → Res K b H0 I H v x → ∀ Q : VK,
  (∀ z u I' H', P z → Ext K b I H I' H' → Res K b H I' H' u z → Q u H') → r v H Q
def CbD (r : List V → Hp → VK → Prop) (rs : List DV) (P : DV → Prop) : Prop := ∀ (H0 I H : Hp) (vs : List V), Ok K b I H → ResA K b H0 I H vs rs → ∀ Q : VK,
  (∀ z u I' H', P z → Ext K b I H I' H' → Res K b H I' H' u z → Q u H') → r vs H Q
end
section
variable {K : PySem.W.Frag} {b : Bg} {I0 H0 H1 I H I' H' : Hp} {δ : Env} {ta tb te : TE} {P Pa Pb : DV → Prop}
theorem ResA.since (f : ∀ a, Fr H1 a → Fr H0 a) : ∀ {vs : List V} {rs : List DV}, ResA K b H1 I H vs rs → ResA K b H0 I H vs rs
  | _, _, .nil => .nil
  | _, _, .cons q r => .cons (q.since f) (ResA.since f r)
theorem ev_var {i : Nat} {r : DV} (h : δ[i]? = some (some r)) (hr : ∀ ds, r ≠ .own ds := by intro _ z; cases z) (hd2 : ∀ kvs, r ≠ .dct true kvs := by intro _ z; cases z) : EvD K b I0 H0 (tVar i) δ (fun x => x = r) := fun σ I H e n Q q => by
  obtain ⟨v, e1, e2⟩ := n.at_ i r h
  refine ⟨v, e1, q r v I H rfl e.re ?_⟩
  cases r with
  | own ds => exact absurd rfl (hr ds)
  | dat d => exact e2
  | bor ds => exact e2
  | raw u => exact e2
  | bag => exact e2
  | dct own kvs =>
    cases own with
    | true => exact absurd rfl (hd2 kvs)
    | false =>
      obtain ⟨a, es, rfl, _, z⟩ := e2
      exact ⟨a, es, rfl, (fun z => by cases z), z⟩
theorem ev_varK {i : Nat} {kvs : List (PyData × PyData)} (h : δ[i]? = some (some (.dct true kvs))) : EvD K b I0 H0 (tVar i) δ (fun x => x = .dct false kvs) := fun σ I H e n Q q => by
  obtain ⟨v, e1, e2⟩ := n.at_ i _ h
  obtain ⟨a, es, rfl, _, z⟩ := e2
  exact ⟨_, e1, q _ _ I H rfl e.re ⟨a, es, rfl, (fun z => by cases z), z⟩⟩
theorem ev_varB {i : Nat} {ds : List PyData} (h : δ[i]? = some (some (.own ds))) : EvD K b I0 H0 (tVar i) δ (fun x => x = .bor ds) := fun σ I H e n Q q => by
  obtain ⟨v, e1, e2⟩ := n.at_ i _ h
  obtain ⟨a, xs, rfl, _, hi, hb, ha, hd⟩ := e2
  exact ⟨_, e1, q _ _ I H rfl e.re ⟨a, xs, rfl, ha, hb, hi, hd⟩⟩
theorem frz_res {ds : List PyData} {v : V} {I2 H2 : Hp} (e : Ext K b I2 H2 I' H') (rs : Res K b H2 I' H' v (.own ds)) : ∃ I'', Ext K b I2 H2 I'' H' ∧ Res K b H2 I'' H' v (.dat (.list ds)) := by
  obtain ⟨a, xs, rfl, h0, hi, hb, ha, hd⟩ := rs
  have s1 : Same I' (upd I' a (.lst xs)) := fun c o h => by rw [upd_ne (ne_of_none h hi)]; exact h
  exact ⟨_, e.frz h0 hi hb ha, .lst (.inl (.inl upd_same)) (dpa_mono s1 hd)⟩
theorem free_of (e : Ext K b I H I' H') : ∀ a, Fr H' a → Fr H a := fun _ h => e.free h
theorem ev_un {r : V → Hp → VK → Prop} (ha : EvD K b I0 H0 ta δ Pa) (ho : ∀ x, Pa x → UnD K b r x P) : EvD K b I0 H0 (tUn r ta) δ P := fun σ I H e n Q q =>
  ha σ I H e n _ fun x v I1 H1 p1 x1 r1 => ho x p1 H I1 H1 v x1.ok r1 Q fun z u I3 H3 p3 x3 r3 => q z u I3 H3 p3 (x1.trans x3) (r3.since (free_of x1))
theorem ea_nil : EvA K b I0 H0 tNil δ (fun x => x = []) := fun σ I H e n Q q => q [] [] I H rfl e.re .nil
theorem ev_cb {r : List V → Hp → VK → Prop} {t : TA} {A : List DV → Prop} (ha : EvA K b I0 H0 t δ A) (hc : ∀ rs, A rs → CbD K b r rs P) : EvD K b I0 H0 (tCB r t) δ P := fun σ I H e n Q q =>
  ha σ I H e n _ fun rs vs I1 H1 p1 x1 r1 => hc rs p1 H I1 H1 vs x1.ok r1 Q fun z u I2 H2 p2 x2 r2 => q z u I2 H2 p2 (x1.trans x2) (r2.since (free_of x1))
theorem et_test {A : Bool → Prop} (h : EvD K b I0 H0 te δ (fun x => ∃ c, x = dbl c ∧ A c)) : EvT K b I0 H0 (tTest te) δ A := fun σ I H e n Q q =>
  h σ I H e n _ fun r v I' H' p x rs => by
    obtain ⟨c, rfl, p⟩ := p
    exact ⟨c, bl_read rs, q c I' H' p x⟩
theorem et_B {A : Bool → Prop} (h : EvD K b I0 H0 te δ (fun x => ∃ c, x = dbl c ∧ A c)) : EvT K b I0 H0 (tB te) δ A := fun σ I H e n Q q =>
  h σ I H e n _ fun r v I' H' p x rs => by
    obtain ⟨c, rfl, p⟩ := p
    exact ⟨c, bl_read rs, q c I' H' p x⟩
theorem et_or {t u : TT} {A B C : Bool → Prop} (h1 : EvT K b I0 H0 t δ A) (h2 : A false → EvT K b I0 H0 u δ B) (h3 : A true → C true) (h4 : A false → ∀ c, B c → C c) : EvT K b I0 H0 (tOr t u) δ C := fun σ I H e n Q q =>
  h1 σ I H e n _ fun c I1 H1 p x => by
    cases c with
    | false => exact h2 p σ I1 H1 (e.trans x) (n.ext x) Q fun c I2 H2 p2 x2 => q c I2 H2 (h4 p c p2) (x.trans x2)
    | true => exact q true I1 H1 (h3 p) x
theorem et_not {t : TT} {A : Bool → Prop} (h1 : EvT K b I0 H0 t δ A) : EvT K b I0 H0 (tNot t) δ (fun c => A (!c)) := fun σ I H e n Q q =>
  h1 σ I H e n _ fun c I1 H1 p x => q (!c) I1 H1 (by show A (!(!c)); rw [Bool.not_not]; exact p) x
theorem ev_andV {A : Bool → Prop} (h1 : EvD K b I0 H0 ta δ (fun x => ∃ c, x = dbl c ∧ A c)) (h2 : A true → EvD K b I0 H0 tb δ P) (h3 : A false → P (dbl false)) : EvD K b I0 H0 (tAndV ta tb) δ P := fun σ I H e n Q q =>
  h1 σ I H e n _ fun r v I1 H1 p x rs => by
    obtain ⟨c, rfl, p⟩ := p
    refine ⟨c, bl_read rs, ?_⟩
    cases c with
    | true => exact h2 p σ I1 H1 (e.trans x) (n.ext x) Q fun r v I2 H2 p2 x2 r2 => q r v I2 H2 p2 (x.trans x2) (r2.since (free_of x))
    | false => exact q _ _ I1 H1 (h3 p) x (Dp.bl false)
theorem ev_notV {A : Bool → Prop} (h1 : EvD K b I0 H0 ta δ (fun x => ∃ c, x = dbl c ∧ A c)) (h2 : ∀ c, A c → P (dbl (!c))) : EvD K b I0 H0 (tNotV ta) δ P := fun σ I H e n Q q =>
  h1 σ I H e n _ fun r v I1 H1 p x rs => by
    obtain ⟨c, rfl, p⟩ := p
    exact ⟨c, bl_read rs, q _ _ I1 H1 (h2 c p) x (Dp.bl _)⟩
theorem resA_dats : ∀ {vs : List V} {ds : List PyData}, ResA K b H0 I H vs (ds.map .dat) → DpAll K I vs ds
  | [], [], _ => .nil
  | _ :: _, d :: ds, .cons q r => .cons q (resA_dats r)
theorem newT_res {I1 H1 : Hp} {xs : List V} {ds : List PyData} {Q : VK} (k : Ok K b I1 H1) (hd : DpAll K I1 xs ds) (q : ∀ v I' H', Ext K b I1 H1 I' H' → Dp K I' v (.tuple ds) → Q v H') : TF.NewT xs H1 Q := fun p o hp ho => by
  have x2 := k.new (o := .frz o (.tup xs)) hp ho
  exact q _ _ _ x2 (.tup (.inl (.inr ⟨o, upd_same⟩)) (dpa_mono x2.i hd))
theorem ev_tup {t : TA} {A : List PyData → Prop} (h : EvA K b I0 H0 t δ (fun rs => ∃ ds, rs = ds.map .dat ∧ ds.length ≤ 100000 ∧ A ds)) : EvD K b I0 H0 (TF.tTupF t) δ (fun x => ∃ ds, x = .dat (.tuple ds) ∧ A ds) := fun σ I H e n Q q =>
  h σ I H e n _ fun rs vs I1 H1 p x r => by
    obtain ⟨ds, rfl, hl, p⟩ := p
    have hd := resA_dats r
    exact ⟨Nat.le_trans (by rw [dpa_len hd]; exact hl) (by decide : 100000 ≤ sizeLine), newT_res x.ok hd fun v I' H' x2 d => q _ v I' H' ⟨ds, rfl, p⟩ (x.trans x2) d⟩
theorem ev_lst {t : TA} {A : List PyData → Prop} (h : EvA K b I0 H0 t δ (fun rs => ∃ ds, rs = ds.map .dat ∧ ds.length ≤ 100000 ∧ A ds)) : EvD K b I0 H0 (tLst t) δ (fun x => ∃ ds, x = .own ds ∧ A ds) := fun σ I H e n Q q =>
  h σ I H e n _ fun rs vs I1 H1 p x r => by
    obtain ⟨ds, rfl, hl, p⟩ := p
    have hd := resA_dats r
    refine ⟨Nat.le_trans (by rw [dpa_len hd]; exact hl) (by decide : 100000 ≤ sizeLine), fun p' hp => ?_⟩
    have x2 := x.ok.newH (o := .lst vs) hp
    exact q _ _ _ _ ⟨ds, rfl, p⟩ (x.trans x2) ⟨p', vs, rfl, x.free (fr_none hp), x.ok.inone hp, x.ok.nb hp, upd_same, hd⟩
end
end DL
namespace DL
open PySem L2 RZ
section
variable {K : PySem.W.Frag} {b : Bg} {H0 I H I' H' : Hp}
theorem Ext.mut {D : Addr} {xs : List V} {o : HO} (e : Ext K b I H I' H') (h0 : Fr H D) (hi : I' D = none) (hb : D ≠ b.a) (hD : H' D = some (.lst xs)) : Ext K b I H I' (upd H' D o) := by
  obtain ⟨n, pl, tb, l, ns, x, q, m, c, e1, sl, r⟩ := e.b
  refine ⟨e.i, fun a u n t h => ?_, e.n, fun l xs h => (let ⟨ys, h1⟩ := e.k l xs h; ⟨ys, by rw [upd_ne (fun z => hb z.symm)]; exact h1⟩), fun a u h => ?_, n, pl, tabs_upd tb hD, l, ns, x, q, m, c, ?_, sl, r⟩
  · rw [upd_ne (fun (z : a = D) => fr_not h0 (z ▸ h) t)]; exact e.h a u n t h
  · rw [upd_ne (ne_of_none h hi)]; exact e.s a u h
  · rw [upd_ne (fun z => hb z.symm)]; exact e1
end
section
variable {K : PySem.W.Frag} {b : Bg} {i j : Int}
theorem cb_tupleL {x : DV} {ds : List PyData} (l : LstR x ds) : CbD K b (TF.rTupleF K) [x] (fun r => r = .dat (.tuple ds)) := fun H0 I H vs k rs Q q => by
  cases rs with
  | cons r1 rr =>
    cases rr
    obtain ⟨a, xs, rfl, hs, hd⟩ := l.read k.s r1
    exact ⟨a, xs, rfl, .inl ⟨hs, newT_res k hd fun v I' H' x2 d => q _ v I' H' rfl x2 d⟩⟩
theorem cb_tupleT {ds : List PyData} : CbD K b (TF.rTupleF K) [.dat (.tuple ds)] (fun r => r = .dat (.tuple ds)) := fun H0 I H vs k rs Q q => by
  cases rs with
  | cons r1 rr =>
    cases rr
    obtain ⟨a, xs, e, hs, hd⟩ := tup_read k.s r1
    subst e
    exact ⟨a, xs, rfl, .inr ⟨hs, q _ _ I H rfl k.re r1⟩⟩
theorem cb_abs : CbD K b (fun xs H Q => ∃ i, xs = [.int i] ∧ Q (.int (if i < 0 then -i else i)) H) [dint i] (fun r => r = dint (if i < 0 then -i else i)) := fun H0 I H vs k rs Q q => by
  cases rs with
  | cons r1 rr =>
    cases rr
    rw [int_read r1]
    exact ⟨i, rfl, q _ _ I H rfl k.re (Dp.int _)⟩
theorem cb_all {x : DV} {ns : List Bool} (l : LstR x (ns.map .bool)) : CbD K b (rAll K) [x] (fun r => r = dbl (ns.all id)) := fun H0 I H vs k rs Q q => by
  cases rs with
  | cons r1 rr =>
    cases rr
    obtain ⟨a, xs, rfl, hs, hd⟩ := l.read k.s r1
    rw [dpa_bools hd] at hs
    exact ⟨a, ns, rfl, hs, q _ _ I H rfl k.re (Dp.bl _)⟩
theorem od_cat {ds es : List PyData} (hl : ds.length + es.length ≤ 100000) : OpD K b (TF.rCatF K) (.dat (.tuple ds)) (.dat (.tuple es)) (fun x => x = .dat (.tuple (ds ++ es))) := fun H0 I H v w k r1 r2 Q q => by
  obtain ⟨a, xs, e1, hs, hd⟩ := tup_read k.s r1
  obtain ⟨c, ys, e2, ht, he⟩ := tup_read k.s r2
  subst e1 e2
  have l1 := dpa_len hd
  have l2 := dpa_len he
  refine ⟨a, c, xs, ys, rfl, rfl, hs, ht, Nat.le_trans (by omega) (by decide : 100000 ≤ sizeLine), fun z => ?_, fun _ z => ?_, fun _ _ => newT_res k (dpa_app hd he) fun v I' H' x2 d => q _ v I' H' rfl x2 d⟩
  · subst z
    cases hd
    exact q _ _ I H rfl k.re r2
  · subst z
    cases he
    rw [List.append_nil] at q
    exact q _ _ I H rfl k.re r1
theorem dpa_rep {I : Hp} {xs : List V} {ds : List PyData} (h : DpAll K I xs ds) : ∀ n : Nat, DpAll K I (List.replicate n xs).flatten (List.replicate n ds).flatten
  | 0 => .nil
  | n + 1 => by
    rw [List.replicate_succ, List.replicate_succ, List.flatten_cons, List.flatten_cons]
    exact dpa_app h (dpa_rep h n)
theorem od_rep {ds : List PyData} {n : Int} (h0 : ds ≠ []) (hl : ds.length ≤ 1000) (n0 : -1000 ≤ n) (n1 : n ≤ 1000) : OpD K b (TF.rRepF K) (.dat (.tuple ds)) (dint n) (fun x => x = .dat (.tuple (List.replicate n.toNat ds).flatten)) := fun H0 I H v w k r1 r2 Q q => by
  obtain ⟨a, xs, e1, hs, hd⟩ := tup_read k.s r1
  subst e1
  have l1 := dpa_len hd
  refine ⟨a, n, xs, rfl, int_read r2, hs, fun z => h0 ?_, n0, n1, by omega, fun z => ?_, fun z => ?_, fun _ => newT_res k (dpa_rep hd _) fun v I' H' x2 d => q _ v I' H' rfl x2 d⟩
  · subst z
    exact List.eq_nil_of_length_eq_zero l1.symm
  · have ez : (List.replicate n.toNat ds).flatten = [] := by
      rw [show n.toNat = 0 by omega]
      rfl
    exact newT_res k .nil fun v I' H' x2 d => q (.dat (.tuple [])) v I' H' (by rw [ez]) x2 d
  · subst z
    refine q (.dat (.tuple ds)) _ I H ?_ k.re r1
    simp
end
def DpR (K : PySem.W.Frag) : Rel := fun I _ v d => Dp K I v d
def PairR (K : PySem.W.Frag) : Rel := fun I H v d => ∃ T x1 x2 d1 d2, v = .ref T ∧ H T = some (.tup [x1, x2]) ∧ d = .tuple [d1, d2] ∧ Dp K I x1 d1 ∧ Dp K I x2 d2
section
variable (K : PySem.W.Frag) (b : Bg) (Rl : Rel)
def TgD (g : TG) (is : List Nat) (d : PyData) (δ δ' : Env) : Prop := ∀ (H0 I H : Hp) (σ : St) (v : V), Ok K b I H → EnvR K b H0 I H σ δ → Rl I H v d → ∀ Q : St → Hp → Prop,
  (∀ σ', EnvR K b H0 I H σ' δ' → (∀ j, j ∉ is → σ'[j]? = σ[j]?) → σ'.length = σ.length → Q σ' H) → g v σ H Q
end
section
variable {K : PySem.W.Frag} {b : Bg} {I0 H0 : Hp} {δ : Env} {te : TE}
theorem rangeD_len (lo : Int) (n : Nat) : (rangeD lo n).length = n := by simp [rangeD]
theorem rangeD_get {lo : Int} {n i : Nat} {d : PyData} (h : (rangeD lo n)[i]? = some d) : i < n ∧ d = .int (lo + i) := by
  unfold rangeD at h
  rw [List.getElem?_map] at h
  cases q : (List.range n)[i]? with
  | none => rw [q] at h; cases h
  | some j =>
    rw [q] at h
    obtain ⟨h1, h2⟩ := List.getElem?_eq_some_iff.mp q
    rw [List.getElem_range] at h2
    rw [List.length_range] at h1
    subst h2
    exact ⟨h1, (Option.some.inj h).symm⟩
theorem range_ok {lo : Int} {n : Nat} {I : Hp} : IterOk K b (DpR K) (Itr lo n) I (rangeD lo n) := by
  refine ⟨_, _, by rw [rangeD_len]; exact walk_range, fun _ _ => True.intro, fun i I2 H x H' d e k2 y hd => ?_⟩
  obtain ⟨rfl, rfl⟩ := y
  obtain ⟨_, rfl⟩ := rangeD_get hd
  exact ⟨I2, k2.re, Dp.int _⟩
theorem itd_rng1 {ta : TA} {A : Int → Prop} (h : EvA K b I0 H0 ta δ (fun rs => ∃ n, rs = [dint n] ∧ n < 2 ^ 62 ∧ -(2 ^ 62) ≤ n ∧ A n)) : ItD K b (DpR K) I0 H0 (iRng1 ta) δ (fun ds => ∃ n, ds = rangeD 0 n.toNat ∧ A n) := fun σ I H k n R q =>
  h σ I H k n _ fun rs vs I1 H1 p x r => by
    obtain ⟨m, rfl, h1, h2, p⟩ := p
    cases r with
    | cons r1 rr =>
      cases rr
      rw [int_read r1]
      exact ⟨m, rfl, h2, h1, q _ _ I1 H1 ⟨m, rfl, p⟩ x range_ok⟩
theorem walk_zipT {a c : Addr} {xs ys : List V} {n : Nat} (hn : n = min xs.length ys.length) : Walk (ItzT K a c) n (fun H => SqT K H a xs ∧ SqT K H c ys) (YPair (fun i => xs[i]?) (fun i => ys[i]?)) := by
  subst hn
  refine ⟨fun i _ hi q => ?_, fun _ q => ⟨xs, ys, q.1, q.2, by omega⟩, fun i H v H' _ q y => ?_⟩
  · have h1 : i < xs.length := by omega
    have h2 : i < ys.length := by omega
    exact ⟨xs, ys, xs[i], ys[i], q.1, q.2, by simp [h1], by simp [h2]⟩
  · obtain ⟨T, x, z, h1, h2, h3, h4, h5⟩ := y
    exact ⟨T, x, z, h1, h2, h3, h4 xs q.1, h5 ys q.2⟩
theorem itd_zipT {ta : TA} {A : List PyData → List PyData → Prop} (h : EvA K b I0 H0 ta δ (fun rs => ∃ ds es, rs = [.dat (.tuple ds), .dat (.tuple es)] ∧ A ds es)) : ItD K b (PairR K) I0 H0 (iZipA K ta) δ (fun zs => ∃ ds es, zs = zipD ds es ∧ A ds es) := fun σ I H k n R q =>
  h σ I H k n _ fun rs vs I1 H1 p x r => by
    obtain ⟨ds, es, rfl, p⟩ := p
    cases r with
    | cons r1 rr =>
      cases rr with
      | cons r2 rr =>
        cases rr
        have r1 : Dp K I1 _ (.tuple ds) := r1
        have r2 : Dp K I1 _ (.tuple es) := r2
        cases r1 with
        | @tup a xs _ hs hd =>
          cases r2 with
          | @tup c ys _ ht he =>
            refine ⟨a, c, xs, ys, rfl, .inr ⟨st_mono x.s hs, st_mono x.s ht, q _ _ I1 H1 ⟨ds, es, rfl, p⟩ x ⟨fun H => SqT K H a xs ∧ SqT K H c ys, YPair (fun i => xs[i]?) (fun i => ys[i]?), walk_zipT ?_, fun H e => ⟨st_mono e hs, st_mono e ht⟩, fun i I2 H x H' d e k2 y hz => ?_⟩⟩⟩
            · unfold zipD
              rw [List.length_zipWith, dpa_len hd, dpa_len he]
            · obtain ⟨T, x1, x2, rfl, nT, rfl, g1, g2⟩ := y
              unfold zipD at hz
              rw [List.getElem?_zipWith] at hz
              cases q1 : ds[i]? with
              | none => rw [q1] at hz; cases hz
              | some d1 =>
                cases q2 : es[i]? with
                | none => rw [q1, q2] at hz; cases hz
                | some d2 =>
                  rw [q1, q2] at hz
                  cases hz
                  obtain ⟨u1, e1, f1⟩ := dpa_get hd q1
                  obtain ⟨u2, e2, f2⟩ := dpa_get he q2
                  have g1 : xs[i]? = some x1 := g1
                  have g2 : ys[i]? = some x2 := g2
                  rw [g1] at e1
                  rw [g2] at e2
                  cases e1
                  cases e2
                  exact ⟨I2, k2.newH nT, T, x1, x2, d1, d2, rfl, upd_same, rfl, dp_mono e f1, dp_mono e f2⟩
theorem tg_name {i : Nat} {d : PyData} (hi : i < δ.length) : TgD K b (DpR K) (gName i) [i] d δ (δ.set i (some (.dat d))) := fun H0 I H σ v k n hd Q q =>
  q _ (n.setD hi (r := .dat d) hd (fun _ z => by cases z)) (fun j hj => List.getElem?_set_ne (fun z => hj (by simp [z]))) List.length_set
theorem tg_pair {i j : Nat} {d e : PyData} (hi : i < δ.length) (hj : j < δ.length) : TgD K b (PairR K) (gTup K 2 (gCons (gName i) (gCons (gName j) gNil))) [i, j] (.tuple [d, e]) δ ((δ.set i (some (.dat d))).set j (some (.dat e))) := fun H0 I H σ v k n hd Q q => by
  obtain ⟨T, v1, v2, d1, d2, rfl, hT, ed, h1, h2⟩ := hd
  cases ed
  refine ⟨T, [v1, v2], rfl, .inl (.inl hT), rfl, v1, [v2], rfl, v2, [], rfl, rfl, q _ ?_ (fun m hm => ?_) ?_⟩
  · exact (n.setD hi (r := .dat d) h1 (fun _ z => by cases z)).setD (by rw [List.length_set]; exact hj) (r := .dat e) h2 (fun _ z => by cases z)
  · have n1 : m ≠ i := fun z => hm (by simp [z])
    have n2 : m ≠ j := fun z => hm (by simp [z])
    rw [List.getElem?_set_ne (fun z => n2 z.symm), List.getElem?_set_ne (fun z => n1 z.symm)]
  · rw [List.length_set, List.length_set]
theorem tg_pairD {i j : Nat} {d e : PyData} (hi : i < δ.length) (hj : j < δ.length) : TgD K b (DpR K) (gTup K 2 (gCons (gName i) (gCons (gName j) gNil))) [i, j] (.tuple [d, e]) δ ((δ.set i (some (.dat d))).set j (some (.dat e))) := fun H0 I H σ v k n hd Q q => by
  have hd : Dp K I v (.tuple [d, e]) := hd
  cases hd with
  | @tup a xs _ hs ha =>
    cases ha with
    | @cons v1 _ _ _ h1 ha =>
      cases ha with
      | @cons v2 _ _ _ h2 ha =>
        cases ha
        refine ⟨a, [v1, v2], rfl, st_mono k.s hs, rfl, v1, [v2], rfl, v2, [], rfl, rfl, q _ ?_ (fun m hm => ?_) ?_⟩
        · exact (n.setD hi (r := .dat d) h1 (fun _ z => by cases z)).setD (by rw [List.length_set]; exact hj) (r := .dat e) h2 (fun _ z => by cases z)
        · have n1 : m ≠ i := fun z => hm (by simp [z])
          have n2 : m ≠ j := fun z => hm (by simp [z])
          rw [List.getElem?_set_ne (fun z => n2 z.symm), List.getElem?_set_ne (fun z => n1 z.symm)]
        · rw [List.length_set, List.length_set]
theorem walk_enumT {a : Addr} {xs : List V} : Walk (TF.IteT K a) xs.length (fun H => SqT K H a xs) (YPair (fun i => some (.int (i : Nat))) (fun i => xs[i]?)) := by
  refine ⟨fun i _ hi q => ⟨xs, xs[i], q, by simp [hi]⟩, fun _ q => ⟨xs, q, Nat.le_refl _⟩, fun i H v H' _ q y => ?_⟩
  obtain ⟨T, x, h1, h2, h3, h4⟩ := y
  exact ⟨T, .int (i : Nat), x, h1, h2, h3, rfl, h4 xs q⟩
end
theorem wipe_get {σ : St} {i : Nat} : ∀ {vs : List Nat}, i ∈ vs → i < σ.length → (wipe σ vs)[i]? = some none
  | [], h, _ => by cases h
  | v :: vs, h, hl => by
    unfold wipe
    by_cases z : v = i
    · subst z
      exact List.getElem?_set_self (by rw [wipe_length]; exact hl)
    · rw [List.getElem?_set_ne z]
      exact wipe_get ((List.mem_cons.mp h).resolve_left (fun q => z q.symm)) hl
theorem wipe_eq {σ τ : St} {vs : List Nat} (hl : τ.length = σ.length) (h : ∀ j, j ∉ vs → τ[j]? = σ[j]?) : wipe τ vs = wipe σ vs := by
  refine List.ext_getElem? fun i => ?_
  by_cases hi : i ∈ vs
  · by_cases hs : i < σ.length
    · rw [wipe_get hi hs, wipe_get hi (by omega)]
    · rw [List.getElem?_eq_none (by rw [wipe_length]; omega), List.getElem?_eq_none (by rw [wipe_length]; omega)]
  · rw [wipe_out hi, wipe_out hi]
    exact h i hi
theorem EnvR.wipe {K : PySem.W.Frag} {b : Bg} {H0 I H : Hp} {σ : St} {δ : Env} (n : EnvR K b H0 I H σ δ) {vs : List Nat} (hv : ∀ v ∈ vs, δ[v]? = some none) : EnvR K b H0 I H (L2.wipe σ vs) δ := by
  have nin : ∀ (i : Nat) (r : DV), δ[i]? = some (some r) → i ∉ vs := fun i r h z => by
    rw [hv i z] at h
    cases h
  refine ⟨by rw [wipe_length]; exact n.len, fun i r h => ?_, fun i j a ds es h1 h2 h3 h4 => ?_⟩
  · rw [wipe_out (nin i r h)]
    exact n.at_ i r h
  · rw [wipe_out (nin i _ h1)] at h2
    rw [wipe_out (nin j _ h3)] at h4
    exact n.nd i j a ds es h1 h2 h3 h4
theorem paired_snoc {α β : Type} {F : α → β → Prop} : ∀ {l : List α} {m : List β} {x : α} {y : β}, Paired F l m → F x y → Paired F (l ++ [x]) (m ++ [y])
  | _, _, _, _, .nil, h => .cons h .nil
  | _, _, _, _, .cons r t, h => .cons r (paired_snoc t h)
end DL
namespace DL
open PySem PySem.Spec PyProof.Rows L2
section
variable {K : PySem.W.Frag} {b : Bg} {I0 H0 : Hp} {δ δ' : Env} {N N' Bk Ct : Env → Prop} {R : DV → Prop} {te : TE} {t u : TS} {P : DV → Prop}
theorem sv_nil (h : N δ) : SvD K b I0 H0 tNext δ N R Bk Ct := fun σ I H e n D h1 _ _ _ => h1 δ σ I H h e (Same.refl I) n
theorem sv_seq (h1 : SvD K b I0 H0 t δ N' R Bk Ct) (h2 : ∀ δ', N' δ' → SvD K b I0 H0 u δ' N R Bk Ct) : SvD K b I0 H0 (tSeq t u) δ N R Bk Ct := fun σ I H e n D a1 a2 a3 a4 =>
  h1 σ I H e n _ (fun d σ' I' H' p e' s' n' => h2 d p σ' I' H' e' n' D (fun d σ2 I2 H2 p e2 s2 n2 => a1 d σ2 I2 H2 p e2 (s'.trans s2) n2) a2 (fun d σ2 I2 H2 p e2 s2 n2 => a3 d σ2 I2 H2 p e2 (s'.trans s2) n2) (fun d σ2 I2 H2 p e2 s2 n2 => a4 d σ2 I2 H2 p e2 (s'.trans s2) n2)) a2 a3 a4
theorem sv_asg {i : Nat} (h : EvD K b I0 H0 te δ P) (hi : i < δ.length) (hN : ∀ r, P r → (∀ ds, r ≠ .bor ds) ∧ N (δ.set i (some r))) : SvD K b I0 H0 (tAsg te (gName i)) δ N R Bk Ct := fun σ I H e n D a1 _ _ _ =>
  h σ I H e n _ fun r v I' H' p x rs => by
    refine a1 _ _ I' H' (hN r p).2 (e.trans x) x.i ((n.ext x).set hi (rs.since (free_of e)) fun a ds er ev j es hj hd => ?_)
    subst er
    subst ev
    obtain ⟨a', xs, ea, h0, hi', hb, ha, hdd⟩ := rs
    cases ea
    intro z
    obtain ⟨w, e1, e2⟩ := n.at_ j _ hd
    rw [z] at e1
    cases e1
    obtain ⟨a'', xs', ea, h0', hi'', hb', ha', hdd'⟩ := e2
    cases ea
    exact fr_lst h0 ha'
theorem sv_ret (h : EvD K b I0 H0 te δ P) (hR : ∀ r, P r → R r) : SvD K b I0 H0 (tRet te) δ N R Bk Ct := fun σ I H e n D _ a2 _ _ =>
  h σ I H e n _ fun r v I' H' p x rs => a2 r v I' H' (hR r p) (e.trans x) (rs.since (free_of e))
theorem sv_retO {i : Nat} {ds : List PyData} (h : δ[i]? = some (some (.own ds))) (hR : R (.own ds)) : SvD K b I0 H0 (tRet (tVar i)) δ N R Bk Ct := fun σ I H e n D _ a2 _ _ => by
  obtain ⟨v, e1, e2⟩ := n.at_ i _ h
  exact ⟨v, e1, a2 _ _ I H hR e e2⟩
theorem sv_if {c : TT} {A : Bool → Prop} (h : EvT K b I0 H0 c δ A) (h1 : A true → SvD K b I0 H0 t δ N R Bk Ct) (h2 : A false → SvD K b I0 H0 u δ N R Bk Ct) : SvD K b I0 H0 (tIfS c t u) δ N R Bk Ct := fun σ I H e n D a1 a2 a3 a4 =>
  h σ I H e n _ fun c I' H' p x => by
    cases c with
    | true => exact h1 p σ I' H' (e.trans x) (n.ext x) D (fun d σ2 I2 H2 p e2 s2 n2 => a1 d σ2 I2 H2 p e2 (x.i.trans s2) n2) a2 (fun d σ2 I2 H2 p e2 s2 n2 => a3 d σ2 I2 H2 p e2 (x.i.trans s2) n2) (fun d σ2 I2 H2 p e2 s2 n2 => a4 d σ2 I2 H2 p e2 (x.i.trans s2) n2)
    | false => exact h2 p σ I' H' (e.trans x) (n.ext x) D (fun d σ2 I2 H2 p e2 s2 n2 => a1 d σ2 I2 H2 p e2 (x.i.trans s2) n2) a2 (fun d σ2 I2 H2 p e2 s2 n2 => a3 d σ2 I2 H2 p e2 (x.i.trans s2) n2) (fun d σ2 I2 H2 p e2 s2 n2 => a4 d σ2 I2 H2 p e2 (x.i.trans s2) n2)
theorem sv_for {Rl : Rel} {wi : TI} {g : TG} {tb : TS} {A : List PyData → Prop} (it : ItD K b Rl I0 H0 wi δ A)
    (body : ∀ ds, A ds → ∃ J : Nat → Env → Prop, J 0 δ ∧ (∀ (k : Nat) d δk, ds[k]? = some d → J k δk → ∃ δ' is, TgD K b Rl g is d δk δ' ∧ SvD K b I0 H0 tb δ' (J (k + 1)) R N (J (k + 1))) ∧ ∀ δn, J ds.length δn → N δn) :
    SvD K b I0 H0 (tFor wi g tb) δ N R Bk Ct := fun σ I H e n D a1 a2 a3 a4 =>
  it σ I H e n _ fun ds Jt I1 H1 p x ok => by
    obtain ⟨G, Y, w, hG, hY⟩ := ok
    obtain ⟨J, j0, js, jn⟩ := body ds p
    refine for_it w (fun k σ' H' => ∃ I' δk, J k δk ∧ Ext K b I0 H0 I' H' ∧ Same I1 I' ∧ EnvR K b H0 I' H' σ' δk) ⟨I1, δ, j0, e.trans x, Same.refl _, n.ext x⟩ (fun k σ' H' _ ⟨I', δk, _, e', s', _⟩ => hG H' (s'.trans e'.s)) ?_ ?_
    · rintro k v σ' H' H'' hk ⟨I', δk, jk, e', s', n'⟩ y
      have hd1 : ds[k]? = some ds[k] := List.getElem?_eq_getElem hk
      generalize ds[k] = d at hd1
      obtain ⟨I3, e3, d3⟩ := hY k I' H' v H'' d s' e'.ok y hd1
      obtain ⟨δ', is, tg, sb⟩ := js k d δk hd1 jk
      refine tg H0 I3 H'' σ' v e3.ok (n'.ext e3) d3 _ fun σ2 n2 _ _ => ?_
      have s3 : Same I1 I3 := s'.trans e3.i
      exact sb σ2 I3 H'' (e'.trans e3) n2 _ (fun d σ4 I4 H4 p4 e4 s4 n4 => ⟨I4, d, p4, e4, s3.trans s4, n4⟩) a2 (fun d σ4 I4 H4 p4 e4 s4 n4 => a1 d σ4 I4 H4 p4 e4 ((x.i.trans s3).trans s4) n4) (fun d σ4 I4 H4 p4 e4 s4 n4 => ⟨I4, d, p4, e4, s3.trans s4, n4⟩)
    · rintro σ' H' ⟨I', δn, jk, e', s', n'⟩
      exact a1 δn σ' I' H' (jn δn jk) e' (x.i.trans s') n'
end
def spD {α : Type} (K : PySem.W.Frag) (args : α → List DV) (ok : α → Prop) (out : α → DV → Prop) (exc : α → XD) : Sp := fun vs H Q E => ∃ a b I, Ok K b I H ∧ ResA K b H I H vs (args a) ∧ ok a ∧
  (∀ r v I' H', out a r → Ext K b I H I' H' → Res K b H I' H' v r → Q v H') ∧
  (∀ C fs d I' H', exc a C fs → Ext K b I H I' H' → I' d = none → H' d = some (.xd fs) → E (.ref C) (some d) H')
abbrev noX {α : Type} : α → XD := fun _ _ _ => False
section
variable {K : PySem.W.Frag} {b : Bg} {I0 H0 : Hp} {δ : Env} {P : DV → Prop}
def envOf (N : List Str) (rs : List DV) : Env := rs.map some ++ List.replicate (N.length - rs.length) none
theorem resA_len {I H : Hp} : ∀ {vs : List V} {rs : List DV}, ResA K b H0 I H vs rs → vs.length = rs.length
  | _, _, .nil => rfl
  | _, _, .cons _ r => congrArg Nat.succ (resA_len r)
theorem resA_get {I H : Hp} : ∀ {vs : List V} {rs : List DV} {i : Nat} {r : DV}, ResA K b H0 I H vs rs → rs[i]? = some r → ∃ v, vs[i]? = some v ∧ Res K b H0 I H v r
  | _, _, _, _, .nil, h => by simp at h
  | _, _, 0, _, .cons q _, h => by
    cases Option.some.inj h
    exact ⟨_, rfl, q⟩
  | _, _, i + 1, _, .cons _ t, h => resA_get (i := i) t h
theorem env_start {N : List Str} {I H : Hp} {vs : List V} {rs : List DV} (h : ResA K b H I H vs rs) : EnvR K b H I H (start N vs) (envOf N rs) := by
  have hl := resA_len h
  have at_ : ∀ (i : Nat) (r : DV), (envOf N rs)[i]? = some (some r) → ∃ v, (start N vs)[i]? = some (some v) ∧ Res K b H I H v r := fun i r hi => by
    unfold envOf at hi
    unfold L2.start
    by_cases z : i < rs.length
    · rw [List.getElem?_append_left (by rw [List.length_map]; exact z), List.getElem?_map] at hi
      cases q : rs[i]? with
      | none => rw [q] at hi; cases hi
      | some r' =>
        rw [q] at hi
        cases hi
        obtain ⟨v, e1, e2⟩ := resA_get h q
        refine ⟨v, ?_, e2⟩
        rw [List.getElem?_append_left (by rw [List.length_map]; omega), List.getElem?_map, e1]
        rfl
    · rw [List.getElem?_append_right (by rw [List.length_map]; omega), List.getElem?_replicate] at hi
      split at hi <;> cases hi
  refine ⟨?_, at_, fun i j a ds es h1 h2 _ _ => ?_⟩
  · unfold L2.start envOf
    simp only [List.length_append, List.length_map, List.length_replicate]
    omega
  · obtain ⟨v, e1, a', xs, rfl, h0, _, _, ha, _⟩ := at_ i _ h1
    exact (fr_lst h0 ha).elim
def NoOwn (rs : List DV) : Prop := ∀ r ∈ rs, (∀ ds, r ≠ .own ds) ∧ ∀ kvs, r ≠ .dct true kvs
theorem resA_now {I H H1 : Hp} : ∀ {vs : List V} {rs : List DV}, ResA K b H I H1 vs rs → NoOwn rs → ResA K b H1 I H1 vs rs
  | _, _, .nil, _ => .nil
  | _, r :: rs, .cons q1 t, p2 => by
    refine .cons ?_ (resA_now t fun r hr => p2 r (List.mem_cons_of_mem _ hr))
    cases r with
    | own ds => exact absurd rfl ((p2 _ (List.mem_cons_self ..)).1 ds)
    | dct own kvs =>
      cases own with
      | true => exact absurd rfl ((p2 _ (List.mem_cons_self ..)).2 kvs)
      | false =>
        obtain ⟨a, es, rfl, _, z⟩ := q1
        exact ⟨a, es, rfl, (fun z => by cases z), z⟩
    | dat d => exact q1
    | bor ds => exact q1
    | raw u => exact q1
    | bag => exact q1
end
end DL
namespace DL
open PySem PySem.Spec PyProof.Rows L2
theorem dp_ty {K : PySem.W.Frag} {H : Hp} {v : V} {d : PyData} (h : Dp K H v d) : TyX K H v (.type (tyN d)) := by
  cases h with
  | non => exact .base .non
  | bl b => exact .base (.bl b)
  | int i => exact .base (.int i)
  | str x => exact .base (.str x)
  | lst q r =>
    rcases q with (q | ⟨o, q⟩) | ⟨o, its, n, q, c, _⟩
    · exact .base (.lst q)
    · exact .base (.frz q)
    · exact .kList q c
  | tup q r =>
    rcases q with (q | ⟨o, q⟩) | ⟨o, its, n, q, c, _⟩
    · exact .base (.tup q)
    · exact .fTuple q
    · exact .kTuple q c
theorem cb_isi {K : PySem.W.Frag} {b : Bg} {d : PyData} {n : String} {c : Bool} (h : kitB (tyN d) n = some c) : CbD K b (rIsi K) [.dat d, .raw (.ty n)] (fun r => r = dbl c) := fun H0 I H vs k rs Q q => by
  cases rs with
  | cons r1 rr =>
    cases rr with
    | cons r2 rr =>
      cases rr
      have e : _ = V.ty n := r2
      subst e
      exact ⟨_, _, _, _, c, rfl, .ty n, dp_ty (dp_mono k.s r1), kit_ty h, q _ _ I H rfl k.re (Dp.bl c)⟩
theorem dp_isN {K : PySem.W.Frag} {I : Hp} {v : V} {d : PyData} (h : Dp K I v d) : decide (v = V.non) = decide (tyN d = "NoneType") := by
  cases h <;> simp [tyN]
end DL
namespace DL
open PySem PySem.Spec PyProof.Rows L2 RZ
theorem ltr {a c : Nat} (h : Nat.ble (a + 1) c = true) : a < c := Nat.le_of_ble_eq_true h
section
variable {X : Cx} (K : PySem.W.Frag)
theorem k_ix_list (h : X.K = K := by rfl) : IxR X (rIxL K) := h ▸ ix_list
theorem k_ix_seq (h : X.K = K := by rfl) : IxR X (rIx K) := h ▸ ix_seq
theorem k_len (h : X.K = K := by rfl) : CallR X (.builtin "len") (fun xs H Q => ∃ p ys, xs = [.ref p] ∧ (SqL K H p ys ∨ SqT K H p ys) ∧ Q (.int ys.length) H) := h ▸ call_len_seq
theorem k_list (h : X.K = K := by rfl) : CallR X (.type "list") (fun xs H Q => ∃ p ys, xs = [.ref p] ∧ (SqL K H p ys ∨ SqT K H p ys) ∧ ∀ l, H l = none → Q (.ref l) (upd H l (.lst ys))) := h ▸ call_list_of
theorem k_sl_list (h : X.K = K := by rfl) : SlR X (rSlL K) := h ▸ sl_list
end
section
variable {K : PySem.W.Frag} {b : Bg} {I0 H0 : Hp} {δ : Env} {ta te tb : TE} {P : DV → Prop}
theorem paired_fun {α β : Type} {f : α → β} : ∀ {l : List α} {ys : List β}, Paired (fun x y => y = f x) l ys → ys = l.map f
  | _, _, .nil => rfl
  | _, _, .cons r t => by rw [List.map_cons, ← paired_fun t, r]
end
end DL
namespace DL
open PySem PySem.Spec PyProof.Rows L2 RZ
def Flat : Nat → PyData → Prop
  | 0, _ => False
  | n + 1, d => match d with
    | .none => True
    | .bool _ => True
    | .int _ => True
    | .str _ => True
    | .list ds => ds.length ≤ 100000 ∧ ∀ x ∈ ds, Flat n x
    | .tuple ds => ds.length ≤ 100000 ∧ ∀ x ∈ ds, Flat n x
    | .dict _ => False
theorem cut_ints (ns : List Int) (lo hi : Option Int) : ∃ ms : List Int, cutV (ns.map V.int) lo hi = ms.map V.int := by
  unfold cutV
  rw [← List.map_drop, ← List.map_take]
  exact ⟨_, rfl⟩
end DL
namespace DL
open PySem PySem.Spec PyProof.Rows L2 RZ
abbrev aTake (n : Int) : List DV := [.bag, dint n]
abbrev okTake (n : Int) : Prop := 0 < n ∧ n < 10000000000000000000000000000000000000000000000000000000000000000000000000000000000000000000000000000000000000000000000000000000000000000000000000000000000000000000000000000000000000000000000000000000000000000000000000000000000000000000000000000000000000000000000000000000000000000000000000000000000000000000000
abbrev outTake (n : Int) (r : DV) : Prop := ∃ i, r = dint i ∧ 0 ≤ i ∧ i < n
section
variable {K : PySem.W.Frag} {b : Bg} {I0 H0 : Hp} {δ : Env} {ta te tb tn : TE} {P : DV → Prop} {E : XK} {i : Nat} {n : Int}
theorem paired_ints {β : Type} {C : β → Int → Prop} : ∀ {l : List β} {ys : List PyData}, Paired (fun x y => ∃ k : Int, y = .int k ∧ C x k) l ys → ∃ ns : List Int, ys = ns.map .int ∧ Paired C l ns
  | _, _, .nil => ⟨[], rfl, .nil⟩
  | _, _, .cons ⟨k, e, c⟩ t => by
    obtain ⟨ns, f, p⟩ := paired_ints t
    exact ⟨k :: ns, by rw [e, f]; rfl, .cons c p⟩
end
end DL
namespace DL
open PySem PySem.Spec PyProof.Rows L2
abbrev Cls := Value × (Addr → Value → Option Addr → TS)
def endsN (i : Nat) (D : Ends) : Ends := ⟨fun σ H => D.nx (σ.set i none) H, D.rt, fun σ H => D.bk (σ.set i none) H, fun σ H => D.ct (σ.set i none) H⟩
def wNs (K : PySem.W.Frag) (i : Nat) (D : Ends) : List Cls → WX
  | [] => fun _ _ _ _ => False
  | cl :: more => fun k dd σ H => ∃ y, PySem.W.exmOne K k cl.1 = some y ∧ (y = true → ∀ x, H x = none → cl.2 x k dd (endsN i D) (σ.set i (some (.ref x))) H) ∧ (y = false → wNs K i D more k dd σ H)
inductive ClsOk (X : Cx) (n : Str) : List ExceptHandler → List Cls → Prop
  | nil : ClsOk X n [] []
  | cons {nm : Str} {c : Value} {r : Addr → Value → Option Addr → TS} {st : Stmt} {sts : List Stmt} {q1 q2 : Pos} {hs : List ExceptHandler} {cs : List Cls} (named : Names X nm c)
      (suite : ∀ (x : Addr) (o : Obj) (k : Value) (dd : Option Addr) (ps : List (Addr × Obj)), Zc k dd o → (∃ vs, o.data = .fields vs) → PSs (X.suite x ((x, o) :: ps)) (st :: sts) (r x k dd)) (more : ClsOk X n hs cs) :
      ClsOk X n (.ExceptHandler (some (.Name nm q1)) (some n) (st :: sts) q2 :: hs) ((c, r) :: cs)
section
variable {X : Cx} {n : Str} {i : Nat}
theorem clauses {D : Ends} {ground : Heap} {pins : List (Addr × Obj)} {σ : L2.St} {H : Hp} {k : Value} {dd : Option Addr} {x : Addr} {s : Shared} {ho : Heap} (ok : X.Ok) (nod : X.N.Nodup) (at_ : X.N[i]? = some n) (loc : X.env.kindOf n = some .local)
    (stands : ∀ hh : Heap, HandSPX.FlyingZ ground (X.env :: X.outer) x (Zc k dd) hh → s.heap.UpToSlots hh → Inv X pins σ H { s with heap := hh }) (free : H x = none) (offL : x ≠ X.env.locals) (offF : x ∉ X.fs)
    (fly : HandSPX.FlyingZ ground (X.env :: X.outer) x (Zc k dd) ho) (grew : s.heap.UpToSlots ho) {hs : List ExceptHandler} {cs : List Cls} (h : ClsOk X n hs cs) : wNs X.K i D cs k dd σ H →
    wpAny (model X.prog X.w) X.A (handleBy (.ref x) X.env hs) (SP X pins D) X.xe { s with heap := ho } := by
  induction h with
  | nil => exact fun z => z.elim
  | @cons nm c r st sts q1 q2 hs' cs' named suite more ih =>
    rintro ⟨y, hy, yes, no⟩
    obtain ⟨o1, v1, got1, zc1, dat1⟩ := fly.there
    have inv1 := stands ho fly grew
    have insuite := inv1.suite got1 dat1 free offL offF
    have isCls : PySem.W.Looks (model X.prog X.w) ho (typeOf (.ref x)) k := fun _ _ _ _ keep q => wpAny_typeOf_ref (keep _ _ got1) (by rw [zc1.1]; exact q)
    refine wpAny_handleBy_cons (codeAny_handlers_test ?_) (by intro e; cases e)
    have named' : ∀ {Q E : Value → Shared → Prop}, Q c { s with heap := ho } → wpAny (model X.prog X.w) (X.A.mark (some (.ref x))) (eval (.Name nm q1) X.env) Q E { s with heap := ho } := by
      rcases named with ⟨g1, g2, g3⟩
      rcases g3 with g3 | ⟨g3, g4, g5⟩
      · exact fun q => ld_glob (X := X.suite x ((x, o1) :: (X.pn ++ pins))) insuite g1 g3 q g2
      · exact fun q => ld_blt (X := X.suite x ((x, o1) :: (X.pn ++ pins))) insuite g1 g3 g4 q g5 g2
    refine named' ((PySem.W.exm_one (M := model X.prog X.w) inv1.kIn isCls hy).here ?_)
    match y, yes, no with
    | false, _, no => exact ih (no rfl)
    | true, yes, _ =>
      refine codeAny_handlers_suite_as (HandSPX.lands_againZ fly fun h2 fly2 grew2 => ?_)
      obtain ⟨o2, v2, got2, zc2, dat2⟩ := fly2.there
      have insuite2 := (stands h2 fly2 (grew.trans grew2)).suite got2 dat2 free offL offF
      refine store_ok (X := X.suite x ((x, o2) :: (X.pn ++ pins))) (v := .ref x) insuite2 nod at_ (.inl loc) rfl (fun s2 inv2 => ?_) (.inr loc)
      refine wpAny_mono ((suite x o2 k dd (X.pn ++ pins) zc2 ⟨_, dat2⟩).run [] s2 _ H _ inv2 (yes rfl x free)) (fun fl s3 hsp => ?_) fun _ _ z => z.elim
      have off : ∀ {τ : L2.St} {G : Hp} {Q : Shared → Prop}, Inv (X.suite x ((x, o2) :: (X.pn ++ pins))) [] τ G s3 → (∀ s4, Inv X pins (τ.set i none) G s4 → Q s4) → wpAny (model X.prog X.w) X.A (do bindName X.env n .none; unbindBehindTheSuite X.env n q2) (fun _ s4 => Q s4) X.xe s3 :=
        fun iv go => gone_ok (iv.unsuite ok) nod at_ loc go
      match fl, hsp with
      | .next, ⟨_, _, iv, q⟩ => exact off iv fun _ j => ⟨_, _, j, q⟩
      | .brk, ⟨_, _, iv, q⟩ => exact off iv fun _ j => ⟨_, _, j, q⟩
      | .cont, ⟨_, _, iv, q⟩ => exact off iv fun _ j => ⟨_, _, j, q⟩
      | .ret _, ⟨_, _, _, iv, rv, q⟩ => exact off iv fun _ j => ⟨_, _, _, j, rv, q⟩
theorem ps_tryN {body : List Stmt} {hd : ExceptHandler} {hs : List ExceptHandler} {cs : List Cls} {pos : Pos} {tb : WX → TS} (nod : X.N.Nodup) (at_ : X.N[i]? = some n) (loc : X.env.kindOf n = some .local) (hcs : ClsOk X n (hd :: hs) cs)
    (hb : ∀ (W : WX) (ps : List (Addr × Obj)) (xe : Value → Shared → Prop), Takes (X.tr ps xe) W → PassesOwn (model X.prog X.w) X.A X.env xe → PSs (X.tr ps xe) body (tb W)) (stk : X.stack = X.env :: X.outer := by rfl) (frm : X.env.frame = some X.env.locals := by rfl) :
    PS X (.Try body (hd :: hs) [] [] pos) (fun D σ H => tb (wNs X.K i D cs) D σ H) := by
  refine ⟨fun pins s σ H D I h => wpAny_Try_except ?_⟩
  have ok := I.ok
  refine wpAny_mono ((hb _ (X.pn ++ pins) (fun e t => wpAny (model X.prog X.w) X.A (noteFrame e X.env) (fun _ t2 => wpAny (model X.prog X.w) X.A (setFlight e none) (fun _ t3 => wpAny (model X.prog X.w) X.A (handleBy e X.env (hd :: hs)) (SP X pins D) X.xe t3) X.xe t2) X.xe t) ?_ PassesOwn.looking).run [] s σ H D (I.toTry _) h) ?_ fun _ _ z => z
  · rintro _ s1 ⟨x, ground, s0, ps, τ, G, k, dd, rfl, inv0, nb, up, sky, free, os, ag, w⟩
    have inv := inv0.ofTry ok
    rw [show (X.tr (X.pn ++ pins) _).stack = X.env :: X.outer from stk] at sky
    have fr : X.A.frames = some (X.env :: X.outer) := by rw [ok.frames, stk]
    refine Sky.land Zc.steady fr frm sky fun h3 fly up3 => ?_
    obtain ⟨o3, v3, got3, _, dat3⟩ := fly.there
    have off : x ∉ frs (X.env :: X.outer) := fun hm => by
      obtain ⟨_, o', e', hn⟩ := fly.2.2.1.mem hm
      rw [got3] at e'
      exact hn _ (Option.some.inj e' ▸ dat3)
    refine clauses ok nod at_ loc (fun hh f u => inv.landed nb f.1 (up.trans u) os ag) free (fun z => off (List.mem_filterMap.mpr ⟨X.env, List.mem_cons_self, by rw [frm, z]⟩)) (fun hm => ?_) fly up3 hcs w
    obtain ⟨e, he, q⟩ := List.mem_filterMap.mp hm
    exact off (List.mem_filterMap.mpr ⟨e, List.mem_cons_of_mem _ he, q⟩)
  · intro fl s1 hsp
    match fl, hsp with
    | .next, ⟨_, _, iv, q⟩ => exact wpAny_execs_nil ⟨_, _, iv.ofTry ok, q⟩
    | .brk, ⟨_, _, iv, q⟩ => exact ⟨_, _, iv.ofTry ok, q⟩
    | .cont, ⟨_, _, iv, q⟩ => exact ⟨_, _, iv.ofTry ok, q⟩
    | .ret _, ⟨_, _, _, iv, rv, q⟩ => exact ⟨_, _, _, iv.ofTry ok, rv, q⟩
end
end DL
namespace DL
open PySem PySem.Spec PyProof.Rows L2
def spInit (C : Addr) (m : Nat) (mk : List V → List (Str × V)) : Sp := fun vs H Q _ => ∃ a ws, vs = .ref a :: ws ∧ ws.length = m ∧ H a = some (exo a C none) ∧
  ∀ dx H', H dx = none → dx ≠ a → H' a = some (exo a C (some dx)) → H' dx = some (exd dx (mk ws)) → (∀ c, c ≠ a → c ≠ dx → H' c = H c) → Q .non H'
section
variable {P : Program} {w : World} {K : PySem.W.Frag} {mg : Str → Option Value} {base : Heap}
theorem ok_init1 {qual x : Str} {st : Stmt} {f C : Addr} {fd : FuncData} {wd : Str} {j : Nat} {p1 p2 p3 p4 p5 p6 p7 p8 : Pos} (F : Fun K "__init__" qual st f fd) (sc : FnScope ["self", x] ["self", x] (defScope st)) (T : OexC K C) (n1 : PySem.W.findIn K (.ref C) "word" = some none) (n2 : PySem.W.findIn K (.ref C) x = some none)
    (hb : defBody st = [.Assign [.Attribute (.Name "self" p1) "word" p2] (.Constant (.str wd) j p3) p4, .Assign [.Attribute (.Name "self" p5) x p6] (.Name x p7) p8]) (v0 : Vis (defScope st) "self") (v1 : Vis (defScope st) x)
    (d1 : (x == ("__debug__" : Str)) = false) (d2 : (x == ("__classdict__" : Str)) = false) : FnOk P w K mg base CX0 1 f fd ["self", x] (spInit C 1 fun vs => [(x, vs.getD 0 .non), ("word", .str wd)]) := by
  refine F.ok sc (fun vs H Q E h => ?_) (fun cdv A outer s H vs Q E hr h => ?_)
  · obtain ⟨a, ws, rfl, hl, _⟩ := h
    show ws.length + 1 = 2
    omega
  · obtain ⟨a, ws, rfl, hl, ha, q⟩ := h
    obtain ⟨v, rfl⟩ : ∃ v, ws = [v] := by
      match ws, hl with
      | [v], _ => exact ⟨v, rfl⟩
    rw [hb]
    refine ⟨_, pss_cons (ps_ost (pv 0 (hv := v0)) pe_str) (pss_one (ps_ost (pv 0 (hv := v0)) (pv 1 (hv := v1) (hd := d1) (hcd := d2)))), ?_⟩
    refine ⟨.ref a, rfl, a, C, rfl, T, n1, .inl ⟨ha, fun dx nd ne => ?_⟩⟩
    refine ⟨v, rfl, .ref a, rfl, a, C, rfl, T, n2, .inr ⟨dx, [("word", .str wd)], upd_same, ?_, (by simp), ?_⟩⟩
    · rw [upd_ne ne, upd_same]
    · refine q dx _ nd ne ?_ upd_same fun c h1 h2 => ?_
      · rw [upd_ne ne.symm, upd_same]
      · rw [upd_ne h2, upd_ne h1, upd_ne h2]
end
section
variable {K : PySem.W.Frag} {b : Bg} {I0 H0 : Hp} {δ : Env} {N Bk Ct : Env → Prop} {R : DV → Prop} {P : DV → Prop} {E : XK}
theorem ev_callX {α : Type} {args : α → List DV} {ok : α → Prop} {out : α → DV → Prop} {exc : α → XD} {X : XD} {ta : TA} {A : List DV → Prop} (xw : XW K b I0 H0 E X) (ha : EvA K b I0 H0 ta δ A)
    (hp : ∀ rs, A rs → ∃ a, rs = args a ∧ ok a ∧ NoOwn rs ∧ (∀ r, out a r → P r) ∧ ∀ C fs, exc a C fs → X C fs) : EvD K b I0 H0 (tCall (spD K args ok out exc) [] E ta) δ P := fun σ I H k n Q q =>
  ha σ I H k n _ fun rs vs I1 H1 p x r => by
    obtain ⟨a, rfl, p1, p2, p3, p4⟩ := hp rs p
    rw [List.append_nil]
    exact ⟨a, b, I1, x.ok, resA_now r p2, p1, fun r v I' H' o x2 rs' => q r v I' H' (p3 r o) (x.trans x2) (rs'.since (free_of x)), fun C fs d I' H' he x2 h1 h2 => xw C fs d I' H' (p4 C fs he) ((k.trans x).trans x2) h1 h2⟩
end
section
variable {P : Program} {w : World} {K : PySem.W.Frag} {mg : Str → Option Value} {base : Heap}
theorem fn_okX {α : Type} {x qual : Str} {st : Stmt} {f : Addr} {fd : FuncData} {N ps : List Str} {k : Nat} {args : α → List DV} {ok : α → Prop} {out : α → DV → Prop} {exc : α → XD} (F : Fun K x qual st f fd) (S : FnScope N ps (defScope st)) (len : ∀ a, ok a → (args a).length = ps.length)
    (hbody : ∀ (cdv : Value) (A : Around) (outer : List PySem.Env) (s : Shared) (H : Hp) (E : XK), Room k (A.deeper (envOfC qual (defScope st) s.heap.objs.size f cdv)) →
      ∃ t, PSs (cxOf (L2.CX P w) P w K mg base N qual (defScope st) f cdv A outer s H E) (defBody st) t ∧ ∀ b I a, ok a → XW K b I H E (exc a) → SvD K b I H t (envOf N (args a)) (fun _ => out a (.dat .none)) (out a) (fun _ => False) (fun _ => False)) :
    FnOk P w K mg base (L2.CX P w) (k + 1) f fd ps (spD K args ok out exc) := by
  refine F.okX S (fun vs H Q E h => ?_) (fun cdv A outer s H vs Q E hr h => ?_)
  · obtain ⟨a, b, I, _, r, p, _⟩ := h
    rw [resA_len r]
    exact len a p
  · obtain ⟨a, b, I, k, r, p, q, xw⟩ := h
    obtain ⟨t, ht, hs⟩ := hbody cdv A outer s H E hr
    exact ⟨t, ht, hs b I a p (fun C fs d I' H' hx e h1 h2 => xw C fs d I' H' hx e h1 h2) _ I H k.re (env_start r) _ (fun δ' σ' I' H' o e _ _ => q _ _ I' H' o e Dp.non) (fun r v I' H' o e rs => q r v I' H' o e rs) (fun _ _ _ _ z => z.elim) (fun _ _ _ _ z => z.elim)⟩
end
theorem passX {P : Program} {w : World} {K : PySem.W.Frag} {mg : Str → Option Value} {base : Heap} {N : List Str} {q : Str} {sc : Scope} {f : Addr} {cdv : Value} {A : Around} {outer : List PySem.Env} {s : Shared} {H : Hp} {E : XK} :
    Passes (L2.CX P w) (cxOf (L2.CX P w) P w K mg base N q sc f cdv A outer s H E) E := passes_call (X := cxOf (L2.CX P w) P w K mg base N q sc f cdv A outer s H E) (takes_of rfl rfl rfl rfl) fun _ _ _ _ h => h
end DL
namespace DL
open PySem PySem.Spec PyProof.Rows L2
def TTx (r0 : V) (After : Addr → List (Str × V) → Hp → VK → Prop) : (XK → Hp → VK → Prop) → Hp → VK → Prop := fun tl H Q =>
  tl (fun cls d H' => ∃ C dd fs, cls = .ref C ∧ d = some dd ∧ H' dd = some (.xd fs) ∧ After C fs H' Q) H fun _ H' => Q r0 H'
section
variable {K : PySem.W.Frag} {b : Bg} {I0 H0 : Hp} {δ δ' : Env} {P Pb : DV → Prop} {t : XK → TE} {T : List (Addr × Str)} {After : Addr → List (Str × V) → Hp → VK → Prop}
theorem ext_tab {I H H1 : Hp} (k : Ok K b I H) (x : LamX.ExtN H H1) (t : LamX.Tabs b.T H1) : Ext K b I H I H1 := by
  obtain ⟨n, pl, tb, l, ns, x', q, m, c, e, sl, r⟩ := k.b
  exact ⟨Same.refl I, fun a o _ t h => x a o h t, fun a o n _ _ => n, fun l0 xs h => ⟨xs, x _ _ h lst_tbl⟩, fun a o h => x a o (k.s a o h) (plain_tbl (pl a o h)), n, pl, t, l, ns, x', q, m, c, x _ _ e lst_tbl, sl, r⟩
end
theorem takes_len {X : Cx} {W : WX} (tk : Takes X W) : Takes X (fun cls d σ H => σ.length = X.N.length → W cls d σ H) := fun u s' ⟨a, B, sI, pins, σ, H, cls, d, e, I, nb, up, sky, na, os, ag, w⟩ =>
  tk u s' ⟨a, B, sI, pins, σ, H, cls, d, e, I, nb, up, sky, na, os, ag, w I.len⟩
end DL
namespace DL
open PySem PySem.Spec PyProof.Rows L2 RZ
theorem gc_int {mg : Str → Option Value} {x : Str} {i : Int} (h : ∃ tk, mg x = some (.int i tk)) : ∃ u, mg x = some u ∧ RelV (.int i) u := by
  obtain ⟨tk, e⟩ := h
  exact ⟨_, e, tk, rfl⟩
theorem mem_lk : ∀ {K : List (Addr × Obj)} {a : Addr} {o : Obj}, K.lookup a = some o → (a, o) ∈ K
  | [], _, _, h => by cases h
  | (c, u) :: K, a, o, h => by
    rw [List.lookup_cons] at h
    by_cases z : a = c
    · subst z
      rw [show (a == a) = true by simp] at h
      cases h
      exact List.mem_cons_self ..
    · have z' : (a == c) = false := by simp [z]
      rw [z'] at h
      exact List.mem_cons_of_mem _ (mem_lk h)
theorem kt_by {K : PySem.W.Frag} (h : ktB K = true) : KT K := fun a o e c => by
  have m := mem_lk e
  have := List.all_eq_true.mp h _ m
  simp only [c, decide_true, Bool.not_true, Bool.false_or] at this
  exact Option.isNone_iff_eq_none.mp this
section
variable (K : PySem.W.Frag) (b : Bg) (I0 H0 : Hp)
def EvO (to : TO) (δ : Env) (P : Option Int → Prop) : Prop := ∀ (σ : L2.St) (I H : Hp), Ext K b I0 H0 I H → EnvR K b H0 I H σ δ → ∀ Q : Option Int → Hp → Prop,
  (∀ o I' H', P o → Ext K b I H I' H' → Q o H') → to σ H Q
end
section
variable {K : PySem.W.Frag} {b : Bg} {I0 H0 : Hp} {δ : Env} {ta te tb ti : TE} {P : DV → Prop} {N Bk Ct : Env → Prop} {R : DV → Prop}
theorem dpa_cut {I : Hp} {xs : List V} {ds : List PyData} (lo hi : Option Int) (h : DpAll K I xs ds) : DpAll K I (cutV xs lo hi) (cutD ds lo hi) := by
  unfold cutV cutD
  rw [dpa_len h]
  exact dpa_take _ (dpa_drop _ h)
theorem cutD_whole {ds : List PyData} {lo hi : Option Int} (h : HT.sIx ds.length 0 lo = 0 ∧ HT.sIx ds.length ds.length hi = ds.length) : cutD ds lo hi = ds := by
  unfold cutD
  rw [h.1, h.2]
  simp
end
theorem passLam {X : Cx} {A : Around} {outer : List PySem.Env} {s : Shared} {H : Hp} {E : XK} {scope : Scope} {f c' : Addr} : Passes (L2.CX X.prog X.w) (LamX.lamCx X A outer s H E scope f c') E := passes_call (takes_of rfl rfl rfl rfl) fun _ _ _ _ h => h
end DL
namespace DL
open PySem PySem.Spec PyProof.Rows L2 RZ
theorem pe_weak {X : Cx} {e : Expr} {te : TE} (h : PE X e te) : PE X e (fun σ H Q => ∃ QQ : VK, (∀ v H1, QQ v H1 → Q v H1) ∧ te σ H QQ) :=
  ⟨fun pins s σ H Q I ⟨QQ, m, h'⟩ => wpAny_mono (h.run pins s σ H QQ I h') (fun v s1 ⟨x, H1, I1, r1, q1⟩ => ⟨x, H1, I1, r1, m x H1 q1⟩) fun _ _ z => z⟩
end DL
namespace DL
open PySem PySem.Spec PyProof.Rows L2 RZ
theorem kl_by {K : PySem.W.Frag} (h : klB K = true) : KL K := fun a o e c => by
  have := List.all_eq_true.mp h _ (mem_lk e)
  simp [c] at this
end DL
namespace DW
open PySem PySem.Spec PyProof.Rows L2 RZ DL
theorem isPl_own {rs : List DV} (h : rs.all isPl = true) : NoOwn rs := fun r hr => by
  have := List.all_eq_true.mp h r hr
  constructor
  · intro ds e
    rw [e] at this
    cases this
  · intro ds e
    rw [e] at this
    cases this
section
variable (K : PySem.W.Frag) (S : Sg)
def CE (te : TE) (de : DE) : Prop := ∀ b I0 H0 c δ P, NB S.n δ → Cok K S b I0 H0 c → de c δ P → EvD K b I0 H0 te δ P
def CT (tt : TT) (dt : DT) : Prop := ∀ b I0 H0 c δ P, NB S.n δ → Cok K S b I0 H0 c → dt c δ P → EvT K b I0 H0 tt δ P
def CA (m : Nat) (ta : TA) (da : DA) : Prop := ∀ b I0 H0 c δ P, NB S.n δ → Cok K S b I0 H0 c → da c δ P → EvA K b I0 H0 ta δ (fun rs => rs.length = m ∧ P rs)
def CO (to : TO) (d : DO) : Prop := ∀ b I0 H0 c δ P, NB S.n δ → Cok K S b I0 H0 c → d c δ P → EvO K b I0 H0 to δ P
def CI (Rl : Rel) (wi : TI) (di : DI) : Prop := ∀ b I0 H0 c δ A, NB S.n δ → Cok K S b I0 H0 c → di c δ A → ItD K b Rl I0 H0 wi δ A
def CS (ts : TS) (ds : DS) : Prop := ∀ b I0 H0 c δ D, NB S.n δ → Cok K S b I0 H0 c → ds c δ D → SvD K b I0 H0 ts δ (fun d => NB S.n d ∧ D.nx d) D.rt (fun d => NB S.n d ∧ D.bk d) (fun d => NB S.n d ∧ D.ct d)
end
section
variable (X : Cx) (S : Sg)
def JE (e : Expr) (de : DE) : Prop := ∃ te, PE X e te ∧ CE X.K S te de
def JT (e : Expr) (dt : DT) : Prop := ∃ t, PT X e t ∧ CT X.K S t dt
def JW (e : Expr) (dt : DT) : Prop := ∃ t, PW X e t ∧ CT X.K S t dt
def JA (es : List Expr) (da : DA) : Prop := ∃ t, PA X es t ∧ CA X.K S es.length t da
def JK (ks : List Keyword) (da : DA) : Prop := ∃ t, PK X ks t ∧ CA X.K S ks.length t da
def JO (e : Option Expr) (d : DO) : Prop := ∃ t, PO X e t ∧ CO X.K S t d
def JI (Rl : Rel) (tg e : Expr) (di : DI) : Prop := ∃ t, PI X tg e t ∧ CI X.K S Rl t di
def JS (st : Stmt) (ds : DS) : Prop := ∃ t, PS X st t ∧ CS X.K S t ds
def JSs (sts : List Stmt) (ds : DS) : Prop := ∃ t, PSs X sts t ∧ CS X.K S t ds
def JOp (f : Value → Value → Sem Value) (o : DV → DV → DP → Prop) : Prop := ∃ r, OpR X f r ∧ ∀ b x y P, o x y P → OpD X.K b r x y P
def JIx (o : DV → DV → DP → Prop) : Prop := ∃ r, IxR X r ∧ ∀ b x y P, o x y P → OpD X.K b r x y P
def JUn (f : Value → Sem Value) (o : DV → DP → Prop) : Prop := ∃ r, UnR X f r ∧ ∀ b x P, o x P → UnD X.K b r x P
def JCb (f : Value) (o : List DV → DP → Prop) : Prop := ∃ r, CallR X f r ∧ ∀ b rs P, o rs P → CbD X.K b r rs P
end
section
variable {K : PySem.W.Frag} {b : Bg} {I0 H0 : Hp} {δ : En} {te ta tb : TE} {P : DP}
theorem ev_fz {Q : DP} (h : EvD K b I0 H0 te δ (fun r => Q (fz r))) : EvD K b I0 H0 te δ Q := fun σ I H e n R q =>
  h σ I H e n R fun r v I' H' p x rs => by
    cases r with
    | own ds =>
      obtain ⟨I'', x', rs'⟩ := frz_res x rs
      exact q _ _ I'' H' p x' rs'
    | dat d => exact q _ _ I' H' p x rs
    | bor ds => exact q _ _ I' H' p x rs
    | raw u => exact q _ _ I' H' p x rs
    | bag => exact q _ _ I' H' p x rs
    | dct o kvs => exact q _ _ I' H' p x rs
theorem ev_opC {r : R2} {Pa : DP} {Pb : DV → DP} (ha : EvD K b I0 H0 ta δ Pa) (hb : ∀ x, Pa x → EvD K b I0 H0 tb δ (Pb x)) (ho : ∀ x y, Pb x y → OpD K b r x y P) : EvD K b I0 H0 (tOp r ta tb) δ P := fun σ I H e n Q q =>
  ha σ I H e n _ fun x v I1 H1 p1 x1 r1 => hb x p1 σ I1 H1 (e.trans x1) (n.ext x1) _ fun y w I2 H2 p2 x2 r2 =>
    ho x y p2 H I2 H2 v w x2.ok (r1.ext x2) (r2.since (free_of x1)) Q fun z u I3 H3 p3 x3 r3 => q z u I3 H3 p3 ((x1.trans x2).trans x3) (r3.since (free_of (x1.trans x2)))
theorem ev_chainC {r r' : R2} {tc : TE} {Pa : DP} {Pb : DV → DP} {Pm : DV → Bool → Prop} {Pc : DV → DP} (ha : EvD K b I0 H0 ta δ Pa) (hb : ∀ x, Pa x → EvD K b I0 H0 tb δ (Pb x)) (ho : ∀ x y, Pb x y → OpD K b r x y (fun z => ∃ c, z = dbl c ∧ Pm y c))
    (hf : ∀ y, Pm y false → P (dbl false)) (hc : ∀ y, Pm y true → EvD K b I0 H0 tc δ (Pc y)) (ho' : ∀ y z, Pc y z → OpD K b r' y z P) : EvD K b I0 H0 (tChain r r' ta tb tc) δ P := fun σ I H e n Q q =>
  ha σ I H e n _ fun x v I1 H1 p1 x1 r1 => hb x p1 σ I1 H1 (e.trans x1) (n.ext x1) _ fun y w I2 H2 p2 x2 r2 =>
    ho x y p2 H I2 H2 v w x2.ok (r1.ext x2) (r2.since (free_of x1)) _ fun z u I3 H3 p3 x3 r3 => by
      obtain ⟨c, rfl, pm⟩ := p3
      refine ⟨c, bl_read r3, ?_⟩
      cases c with
      | false => exact q _ _ I3 H3 (hf y pm) ((x1.trans x2).trans x3) (Dp.bl false)
      | true =>
        exact hc y pm σ I3 H3 (e.trans ((x1.trans x2).trans x3)) (n.ext ((x1.trans x2).trans x3)) _ fun zz ww I4 H4 p4 x4 r4 =>
          ho' y zz p4 H I4 H4 w ww x4.ok (((r2.since (free_of x1)).ext x3).ext x4) (r4.since (free_of ((x1.trans x2).trans x3))) Q fun z5 u5 I5 H5 p5 x5 r5 =>
            q z5 u5 I5 H5 p5 ((((x1.trans x2).trans x3).trans x4).trans x5) (r5.since (free_of (((x1.trans x2).trans x3).trans x4)))
theorem ea_consC {tr : TA} {Pa : DP} {B : List DV → Prop} (ha : EvD K b I0 H0 ta δ Pa) (hr : ∀ x, Pa x → EvA K b I0 H0 tr δ (fun rs => B (x :: rs))) : EvA K b I0 H0 (tCons ta tr) δ B := fun σ I H e n Q q =>
  ha σ I H e n _ fun x v I1 H1 p1 x1 r1 => hr x p1 σ I1 H1 (e.trans x1) (n.ext x1) _ fun rs vs I2 H2 p2 x2 r2 =>
    q (x :: rs) (v :: vs) I2 H2 p2 (x1.trans x2) (.cons (r1.ext x2) (r2.since (free_of x1)))
end
section
variable {X : Cx} {S : Sg} {a b e : Expr} {da db de : DE} {pos : Pos}
theorem je_var {i : Nat} (h : PE X e (tVar i)) : JE X S e (dVar i) := ⟨_, h, fun b I0 H0 c δ P nb ok hd => by
  unfold dVar at hd
  split at hd
  · rename_i ds e1
    exact (ev_varB e1).mono fun _ z => z ▸ hd
  · rename_i kvs e1
    exact (ev_varK e1).mono fun _ z => z ▸ hd
  · rename_i r no nk e1
    exact (ev_var e1 (fun ds z => no ds (z ▸ rfl)) (fun ds z => nk ds (z ▸ rfl))).mono fun _ z => z ▸ hd
  · exact hd.elim⟩
theorem je_c {v : V} {d : PyData} (h : PE X e (tC v)) (hd : ∀ I, Dp X.K I v d) : JE X S e (dC (.dat d)) := ⟨_, h, fun b I0 H0 c δ P nb ok p σ I H ex n Q q => q _ _ I H p ex.re (hd I)⟩
theorem je_int {i j} : JE X S (.Constant (.int i) j pos) (dC (dint i)) := je_c pe_int fun _ => Dp.int _
theorem je_bl {i j} : JE X S (.Constant (.bool i) j pos) (dC (dbl i)) := je_c pe_bl fun _ => Dp.bl _
theorem je_non {j} : JE X S (.Constant .none j pos) (dC (.dat .none)) := je_c pe_non fun _ => Dp.non
theorem je_raw {v : V} (h : PE X e (tC v)) : JE X S e (dC (.raw v)) := ⟨_, h, fun b I0 H0 c δ P nb ok p σ I H ex n Q q => q _ _ I H p ex.re rfl⟩
theorem ce_bin {K : PySem.W.Frag} {r : R2} {o : DV → DV → DP → Prop} {ta tb : TE} (ho : ∀ b x y P, o x y P → OpD K b r x y P) (ha : CE K S ta da) (hb : CE K S tb db) : CE K S (tOp r ta tb) (dBin o da db) := fun b I0 H0 c δ P nb ok p =>
  ev_opC (Pa := fun x => db c δ fun y => o x (fz y) P) (Pb := fun x y => o x y P) (ev_fz (ha b I0 H0 c δ _ nb ok p)) (fun x px => ev_fz (hb b I0 H0 c δ _ nb ok px)) fun x y h => ho b x y P h
theorem je_op {op : Operator} {o : DV → DV → DP → Prop} (ho : JOp X (binaryOp op) o) (ha : JE X S a da) (hb : JE X S b db) : JE X S (.BinOp a op b pos) (dBin o da db) := by
  obtain ⟨r, h1, h2⟩ := ho
  obtain ⟨ta, ha1, ha2⟩ := ha
  obtain ⟨tb, hb1, hb2⟩ := hb
  exact ⟨_, pe_op h1 ha1 hb1, ce_bin h2 ha2 hb2⟩
theorem je_cmp {op : CmpOp} {o : DV → DV → DP → Prop} (ho : JOp X (compareOp op) o) (ha : JE X S a da) (hb : JE X S b db) (hm : behindInMarks op b = false) : JE X S (.Compare a [op] [b] pos) (dBin o da db) := by
  obtain ⟨r, h1, h2⟩ := ho
  obtain ⟨ta, ha1, ha2⟩ := ha
  obtain ⟨tb, hb1, hb2⟩ := hb
  exact ⟨_, pe_cmpR h1 ha1 hb1 hm, ce_bin h2 ha2 hb2⟩
theorem je_ix {o : DV → DV → DP → Prop} (ho : JIx X o) (ha : JE X S a da) (hb : JE X S b db) (hs : PlainIx b) : JE X S (.Subscript a b pos) (dBin o da db) := by
  obtain ⟨r, h1, h2⟩ := ho
  obtain ⟨ta, ha1, ha2⟩ := ha
  obtain ⟨tb, hb1, hb2⟩ := hb
  exact ⟨_, pe_ix h1 ha1 hb1 hs, ce_bin h2 ha2 hb2⟩
theorem je_un {op : UnaryOp} {o : DV → DP → Prop} (ho : JUn X (unaryOp op) o) (ha : JE X S a da) : JE X S (.UnaryOp op a pos) (dUn o da) := by
  obtain ⟨r, h1, h2⟩ := ho
  obtain ⟨ta, ha1, ha2⟩ := ha
  exact ⟨_, pe_un h1 ha1, fun b I0 H0 c δ P nb ok p => ev_un (Pa := fun x => o x P) (ev_fz (ha2 b I0 H0 c δ _ nb ok p)) fun x h => h2 b x P h⟩
theorem ce_chain {K : PySem.W.Frag} {r r' : R2} {o o' : DV → DV → DP → Prop} {ta tb tc : TE} {dc : DE} (ho : ∀ b x y P, o x y P → OpD K b r x y P) (ho' : ∀ b x y P, o' x y P → OpD K b r' x y P) (ha : CE K S ta da) (hb : CE K S tb db) (hc : CE K S tc dc) :
    CE K S (tChain r r' ta tb tc) (dChain o o' da db dc) := fun b I0 H0 c δ P nb ok p => by
  refine ev_chainC (Pa := fun x => db c δ fun y => o x (fz y) fun z => match z with
    | .dat (.bool k) => if k = true then dc c δ fun w => o' (fz y) (fz w) P else P (dbl false)
    | _ => False) (Pb := fun x y => o x y fun z => match z with
    | .dat (.bool k) => if k = true then dc c δ fun w => o' y (fz w) P else P (dbl false)
    | _ => False) (Pm := fun y k => if k = true then dc c δ fun w => o' y (fz w) P else P (dbl false)) (Pc := fun y w => o' y w P) (ev_fz (ha b I0 H0 c δ _ nb ok p)) (fun x px => ev_fz (hb b I0 H0 c δ _ nb ok px)) (fun x y h => ?_) (fun y h => h) (fun y h => ev_fz (hc b I0 H0 c δ _ nb ok h)) fun y z h => ho' b y z P h
  have := ho b x y _ h
  intro H0' I H v w k r1 r2 Q q
  refine this H0' I H v w k r1 r2 Q fun z u I' H' hz => ?_
  dsimp only at hz
  split at hz
  · exact q _ u I' H' ⟨_, rfl, hz⟩
  · exact hz.elim
theorem tst_of {K : PySem.W.Frag} {b : Bg} {I0 H0 : Hp} {δ : En} {te : TE} {P : Bool → Prop} (h : EvD K b I0 H0 te δ (fun r => match r with
  | .dat (.bool k) => P k
  | _ => False)) : EvD K b I0 H0 te δ (fun x => ∃ c, x = dbl c ∧ P c) := h.mono fun r hr => by
  split at hr
  · exact ⟨_, rfl, hr⟩
  · exact hr.elim
theorem jt_val (h : JE X S e de) (he : ∀ whole, isTrue e X.env whole = (do let v ← whole; standAt e.pos; holding [v] (truthy v)) := by intro _; rfl) : JT X S e (dTst de) := by
  obtain ⟨te, h1, h2⟩ := h
  exact ⟨_, pt_val h1 he, fun b I0 H0 c δ P nb ok p => et_B (tst_of (h2 b I0 H0 c δ _ nb ok p))⟩
theorem jt_cmp {op : CmpOp} {o : DV → DV → DP → Prop} (ho : JOp X (compareOp op) o) (ha : JE X S a da) (hb : JE X S b db) (hm : behindInMarks op b = false) : JT X S (.Compare a [op] [b] pos) (dTst (dBin o da db)) := by
  obtain ⟨r, h1, h2⟩ := ho
  obtain ⟨ta, ha1, ha2⟩ := ha
  obtain ⟨tb, hb1, hb2⟩ := hb
  exact ⟨_, pt_cmpR h1 ha1 hb1 hm, fun b I0 H0 c δ P nb ok p => et_test (tst_of (ce_bin h2 ha2 hb2 b I0 H0 c δ _ nb ok p))⟩
theorem jt_chain {op op' : CmpOp} {o o' : DV → DV → DP → Prop} {c' : Expr} {dc : DE} (ho : JOp X (compareOp op) o) (ho' : JOp X (compareOp op') o') (ha : JE X S a da) (hb : JE X S b db) (hc : JE X S c' dc) (hm : lastMarks [op, op'] [b, c'] = false := by with_unfolding_all rfl) :
    JT X S (.Compare a [op, op'] [b, c'] pos) (dTst (dChain o o' da db dc)) := by
  obtain ⟨r, h1, h2⟩ := ho
  obtain ⟨r', h3, h4⟩ := ho'
  obtain ⟨ta, ha1, ha2⟩ := ha
  obtain ⟨tb, hb1, hb2⟩ := hb
  obtain ⟨tc, hc1, hc2⟩ := hc
  exact ⟨_, pt_chain h1 h3 ha1 hb1 hc1 hm, fun b I0 H0 c δ P nb ok p => et_test (tst_of (ce_chain h2 h4 ha2 hb2 hc2 b I0 H0 c δ _ nb ok p))⟩
theorem jt_not {dt : DT} (h : JT X S a dt) : JT X S (.UnaryOp .Not a pos) (dNot dt) := by
  obtain ⟨t, h1, h2⟩ := h
  exact ⟨_, pt_not h1, fun b I0 H0 c δ P nb ok p => (et_not (h2 b I0 H0 c δ _ nb ok p)).mono fun r hr => by simpa using hr⟩
theorem jt_w {dt : DT} (h : JW X S a dt) : JT X S a dt := by
  obtain ⟨t, h1, h2⟩ := h
  exact ⟨_, h1.pt, h2⟩
theorem jw_or1 {dt : DT} (h : JT X S a dt) : JW X S (.BoolOp .Or [a] pos) dt := by
  obtain ⟨t, h1, h2⟩ := h
  exact ⟨_, pw_or1 h1, h2⟩
theorem ct_or {K : PySem.W.Frag} {t u : TT} {dt du : DT} (h : CT K S t dt) (h' : CT K S u du) : CT K S (tOr t u) (dOr dt du) := fun b I0 H0 c δ P nb ok p =>
  et_or (A := fun v => if v = true then P true else du c δ P) (B := P) (h b I0 H0 c δ _ nb ok p) (fun hA => h' b I0 H0 c δ _ nb ok hA) (fun hA => hA) fun _ _ hB => hB
theorem jw_or {rest : List Expr} {dt du : DT} (h : JT X S a dt) (h' : JW X S (.BoolOp .Or (b :: rest) pos) du) : JW X S (.BoolOp .Or (a :: b :: rest) pos) (dOr dt du) := by
  obtain ⟨t, h1, h2⟩ := h
  obtain ⟨u, h3, h4⟩ := h'
  exact ⟨_, pw_or h1 h3, ct_or h2 h4⟩
theorem je_one {op} (h : JE X S a da) : JE X S (.BoolOp op [a] pos) da := by
  obtain ⟨t, h1, h2⟩ := h
  exact ⟨_, pe_one h1, h2⟩
theorem je_and {rest : List Expr} (h : JE X S a da) (h' : JE X S (.BoolOp .And (b :: rest) pos) db) : JE X S (.BoolOp .And (a :: b :: rest) pos) (dAndV da db) := by
  obtain ⟨t, h1, h2⟩ := h
  obtain ⟨u, h3, h4⟩ := h'
  exact ⟨_, pe_and h1 h3, fun b I0 H0 c δ P nb ok p => ev_andV (A := fun k => if k = true then db c δ P else P (dbl false)) (tst_of (h2 b I0 H0 c δ _ nb ok p)) (fun hA => h4 b I0 H0 c δ _ nb ok hA) fun hA => hA⟩
theorem je_not (h : JE X S a da) : JE X S (.UnaryOp .Not a pos) (dNotV da) := by
  obtain ⟨t, h1, h2⟩ := h
  exact ⟨_, pe_not h1, fun b I0 H0 c δ P nb ok p => ev_notV (A := fun k => P (dbl (!k))) (tst_of (h2 b I0 H0 c δ _ nb ok p)) fun k hk => hk⟩
theorem ca_nil {K : PySem.W.Frag} : CA K S 0 tNil dNil := fun b I0 H0 c δ P nb ok p => ea_nil.mono fun _ e => by
  subst e
  exact ⟨rfl, p⟩
theorem ca_cons {K : PySem.W.Frag} {m : Nat} {te : TE} {ta : TA} {da : DA} (h : CE K S te de) (h' : CA K S m ta da) : CA K S (m + 1) (tCons te ta) (dCons de da) := fun b I0 H0 c δ P nb ok p =>
  ea_consC (Pa := fun r => da c δ fun rs => P (r :: rs)) (ev_fz (h b I0 H0 c δ _ nb ok p)) fun r hr => (h' b I0 H0 c δ _ nb ok hr).mono fun rs ⟨l, p⟩ => ⟨congrArg Nat.succ l, p⟩
theorem ja_nil : JA X S [] dNil := ⟨_, pa_nil, ca_nil⟩
theorem ja_cons {es : List Expr} {da : DA} (h : JE X S e de) (h' : JA X S es da) (hs : starEach (e :: es) X.env = (false, eval e X.env) :: starEach es X.env := by rfl) : JA X S (e :: es) (dCons de da) := by
  obtain ⟨t, h1, h2⟩ := h
  obtain ⟨u, h3, h4⟩ := h'
  exact ⟨_, pa_cons h1 h3 hs, ca_cons h2 h4⟩
theorem jk_nil : JK X S [] dNil := ⟨_, pk_nil, ca_nil⟩
theorem jk_cons {nm : Option Str} {kpos : Pos} {ks : List Keyword} {da : DA} (h : JE X S e de) (h' : JK X S ks da) : JK X S (⟨nm, e, kpos⟩ :: ks) (dCons de da) := by
  obtain ⟨t, h1, h2⟩ := h
  obtain ⟨u, h3, h4⟩ := h'
  exact ⟨_, pk_cons h1 h3, ca_cons h2 h4⟩
theorem dats_ok : ∀ {rs : List DV} {ds : List PyData}, dats rs = some ds → rs = ds.map .dat
  | [], ds, h => by
    cases h
    rfl
  | .dat d :: rs, ds, h => by
    unfold dats at h
    cases q : dats rs with
    | none => rw [q] at h; cases h
    | some es =>
      rw [q] at h
      cases h
      rw [dats_ok q]
      rfl
  | .own _ :: _, _, h => by cases h
  | .bor _ :: _, _, h => by cases h
  | .raw _ :: _, _, h => by cases h
  | .bag :: _, _, h => by cases h
  | .dct _ _ :: _, _, h => by cases h
theorem dats_ev {K : PySem.W.Frag} {b : Bg} {I0 H0 : Hp} {δ : En} {ta : TA} {m : Nat} {A : List PyData → Prop} (hl : m ≤ 100000) (h : EvA K b I0 H0 ta δ (fun rs => rs.length = m ∧ match dats rs with
  | some ds => A ds
  | none => False)) : EvA K b I0 H0 ta δ (fun rs => ∃ ds, rs = ds.map .dat ∧ ds.length ≤ 100000 ∧ A ds) := h.mono fun rs ⟨l, p⟩ => by
  cases q : dats rs with
  | none => rw [q] at p; exact p.elim
  | some ds =>
    rw [q] at p
    have e := dats_ok q
    refine ⟨ds, e, ?_, p⟩
    rw [e, List.length_map] at l
    omega
theorem je_tup {es : List Expr} {da : DA} {x1} (h : JA X S es da) (hl : es.length ≤ 100000 := by decide) : JE X S (.Tuple es x1 pos) (dTup da) := by
  obtain ⟨t, h1, h2⟩ := h
  exact ⟨_, TF.pe_tupF h1, fun b I0 H0 c δ P nb ok p => (ev_tup (A := fun ds => P (.dat (.tuple ds))) (dats_ev hl (h2 b I0 H0 c δ _ nb ok p))).mono fun r ⟨ds, e, q⟩ => e ▸ q⟩
theorem je_lst {es : List Expr} {da : DA} (h : JA X S es da) (hl : es.length ≤ 100000 := by decide) : JE X S (.List es pos) (dLst da) := by
  obtain ⟨t, h1, h2⟩ := h
  exact ⟨_, pe_lst h1, fun b I0 H0 c δ P nb ok p => (ev_lst (A := fun ds => P (.own ds)) (dats_ev hl (h2 b I0 H0 c δ _ nb ok p))).mono fun r ⟨ds, e, q⟩ => e ▸ q⟩
theorem jo_none : JO X S none dNone := ⟨_, po_none, fun b I0 H0 c δ P nb ok p => fun σ I H e n Q q => q none I H p e.re⟩
theorem jo_some (h : JE X S e de) : JO X S (some e) (dSome de) := by
  obtain ⟨t, h1, h2⟩ := h
  refine ⟨_, po_some h1, fun b I0 H0 c δ P nb ok p => fun σ I H e n Q q => ?_⟩
  refine h2 b I0 H0 c δ _ nb ok p σ I H e n _ fun r v I' H' hr x rs => ?_
  split at hr
  · rename_i i
    exact ⟨i, int_read rs, q _ I' H' hr x⟩
  · exact hr.elim
theorem je_sl {lo hi : Option Expr} {dl dh : DO} {p2 : Pos} (h : JE X S e de) (hl : JO X S lo dl) (hh : JO X S hi dh) : JE X S (.Subscript e (.Slice lo hi none p2) pos) (dSl de dl dh) := by
  obtain ⟨te, h1, h2⟩ := h
  obtain ⟨tl, l1, l2⟩ := hl
  obtain ⟨th, g1, g2⟩ := hh
  refine ⟨_, pe_slice (TF.sl_tupF.or (sl_list.or sl_str)) h1 l1 g1, fun b I0 H0 c δ P nb ok p => fun σ I H e n Q q => ?_⟩
  refine ev_fz (Q := fun r => dl c δ fun lo => dh c δ fun hi => oCut lo hi r P) (h2 b I0 H0 c δ _ nb ok p) σ I H e n _ fun r v I1 H1 p1 x rs => ?_
  refine l2 b I0 H0 c δ _ nb ok p1 σ I1 H1 (e.trans x) (n.ext x) _ fun lo I2 H2 pl x2 => ?_
  refine g2 b I0 H0 c δ _ nb ok pl σ I2 H2 (e.trans (x.trans x2)) (n.ext (x.trans x2)) _ fun hi I3 H3 ph x3 => ?_
  have rs3 := (rs.ext x2).ext x3
  have x13 := (x.trans x2).trans x3
  have lst : ∀ ds, LstR r ds → P (.own (cutD ds lo hi)) → rSlL X.K v lo hi H3 Q := fun ds hr hp => by
    obtain ⟨p, xs, rfl, hs, hd⟩ := hr.read x3.s rs3
    exact ⟨p, xs, rfl, hs, fun c nc => q _ _ _ _ hp (x13.trans (x3.ok.newH nc)) ⟨c, _, rfl, x13.free (fr_none nc), x3.ok.inone nc, x3.ok.nb nc, upd_same, dpa_cut lo hi hd⟩⟩
  unfold oCut at ph
  split at ph
  · rename_i ds
    obtain ⟨a, xs, ev, hs, hd⟩ := tup_read x3.s rs3
    subst ev
    refine .inl ⟨a, xs, rfl, hs, fun z => ?_, fun _ => newT_res x3.ok (dpa_cut lo hi hd) fun v I' H' x4 d => q _ v I' H' ph (x13.trans x4) d⟩
    rw [dpa_len hd] at z
    rw [cutD_whole z] at ph
    exact q _ _ I3 H3 ph x13 rs3
  · exact .inr (.inl (lst _ (.inr (.inr rfl)) ph))
  · exact .inr (.inl (lst _ (.inr (.inl rfl)) ph))
  · obtain ⟨hz, ph⟩ := ph
    rw [str_read rs3]
    exact .inr (.inr ⟨_, rfl, Nat.le_trans hz (by decide : 100000 ≤ sizeLine), q _ _ I3 H3 ph x13 (Dp.str _)⟩)
  · exact ph.elim
end
end DW
namespace DW
open PySem PySem.Spec PyProof.Rows L2 RZ DL
theorem opr_or {X : Cx} {f : Value → Value → Sem Value} {r r' : R2} (h : OpR X f r) (h' : OpR X f r') : OpR X f (fun x y H Q => r x y H Q ∨ r' x y H Q) := fun pins s σ H x y v u Q I rx ry q => q.elim (h pins s σ H x y v u Q I rx ry) (h' pins s σ H x y v u Q I rx ry)
theorem cbr_or {X : Cx} {f : Value} {r r' : List V → Hp → VK → Prop} (h : CallR X f r) (h' : CallR X f r') : CallR X f (fun x H Q => r x H Q ∨ r' x H Q) := fun pins s σ H x v Q I rx q => q.elim (h pins s σ H x v Q I rx) (h' pins s σ H x v Q I rx)
theorem toD_ok {K : PySem.W.Frag} {b : Bg} {H0 I H : Hp} {v : V} {r : DV} {d : PyData} (s : Same I H) (e : toD r = some d) (h : Res K b H0 I H v r) : Dp K H v d := by
  cases r with
  | dat x =>
    cases e
    exact dp_mono s h
  | own ds =>
    cases e
    obtain ⟨a, xs, rfl, _, _, _, ha, hd⟩ := h
    exact .lst (.inl (.inl ha)) (dpa_mono s hd)
  | bor ds =>
    cases e
    obtain ⟨a, xs, rfl, ha, _, _, hd⟩ := h
    exact .lst (.inl (.inl ha)) (dpa_mono s hd)
  | raw u => cases e
  | bag => cases e
  | dct _ _ => cases e
theorem keyT_ok {d : PyData} {k : NestedKey} (h : keyT d = some k) : DK.keyOf d = some k ∧ k.depth ≤ 8 ∧ ∃ ds, d = .tuple ds := by
  unfold keyT at h
  split at h
  · split at h
    · rename_i k' e
      split at h
      · cases h
        exact ⟨e, by assumption, _, rfl⟩
      · cases h
    · cases h
  · cases h
theorem keyV_of {K : PySem.W.Frag} {I H : Hp} {v : V} {d : PyData} {k : NestedKey} (s : Same I H) (h : keyT d = some k) (hd : Dp K I v d) : ∃ b, DK.KeyV K H v b k := by
  obtain ⟨h1, h2, ds, rfl⟩ := keyT_ok h
  have hd' := dp_mono s hd
  cases hd with
  | @tup a xs _ hs ha => exact ⟨a, rfl, h2, _, h1, hd'⟩
theorem keys_ok {K : PySem.W.Frag} {I H : Hp} (s : Same I H) : ∀ {es : List DK.Ent} {kvs : List (PyData × PyData)}, DctR K I es kvs → DK.KeysOk K H es
  | _, _, .nil => fun _ h => by cases h
  | _, _, .cons h t => fun e he => by
    rcases List.mem_cons.mp he with z | z
    · rw [z]; exact ⟨_, h.1, dp_mono s h.2.1⟩
    · exact keys_ok s t e z
theorem lk_rel {K : PySem.W.Frag} {I : Hp} (k : NestedKey) : ∀ {es : List DK.Ent} {kvs : List (PyData × PyData)}, DctR K I es kvs → (lkD kvs k = none ∧ DK.atE es k = none) ∨ ∃ v d, lkD kvs k = some d ∧ DK.atE es k = some v ∧ Dp K I v d
  | _, _, .nil => .inl ⟨rfl, rfl⟩
  | _, _, .cons (a := e) (b := kv) h t => by
    unfold lkD DK.atE
    by_cases z : e.1 = k
    · refine .inr ⟨e.2.2, kv.2, ?_, ?_, h.2.2⟩
      · rw [List.find?_cons_of_pos (by rw [h.1, z]; simp)]; rfl
      · rw [List.find?_cons_of_pos (by simpa using z)]; rfl
    · rw [List.find?_cons_of_neg (by rw [h.1]; simpa using z), List.find?_cons_of_neg (by simpa using z)]
      exact lk_rel k t
theorem ixr_or {X : Cx} {r r' : R2} (h : IxR X r) (h' : IxR X r') : IxR X (fun x y H Q => r x y H Q ∨ r' x y H Q) := fun v sl pins s σ H x y u w Q I rx ry q hs => q.elim (fun q => h v sl pins s σ H x y u w Q I rx ry q hs) fun q => h' v sl pins s σ H x y u w Q I rx ry q hs
def CPowG (i j : Int) : Prop := 0 ≤ j ∧ (Builtin.Int.intBits i : Int) * j ≤ 2 ^ 27
theorem op_powG {X : Cx} : OpR X (binaryOp .Pow) (rI CPowG fun i j => .int (i ^ j.toNat)) := opI fun _ _ _ _ _ _ _ hc q => pow_int hc.1 hc.2 q
def oPow : DV → DV → DP → Prop
  | .dat (.int i), .dat (.int j), P => (CPow i j ∨ CPowG i j) ∧ P (dint (i ^ j.toNat))
  | _, _, _ => False
theorem op_isB {X : Cx} : OpR X (compareOp .Is) (fun x y H Q => ∃ a c, x = .bl a ∧ y = .bl c ∧ Q (.bl (a == c)) H) := by
  intro pins s σ H x y v u Q I rx ry h
  obtain ⟨a, c, rfl, rfl, q⟩ := h
  cases rx
  cases ry
  exact is_bool (fin_bl I q rfl)
section
variable {X : Cx}
theorem jo_I0 {f : Value → Value → Sem Value} {g : Int → Int → Int} {o : DV → DV → DP → Prop} (h : OpR X f (rI0 fun i j => .int (g i j))) (ho : ∀ x y P, o x y P → ∃ i j, x = dint i ∧ y = dint j ∧ P (dint (g i j))) : JOp X f o := ⟨_, h, fun b x y P p => by
  obtain ⟨i, j, rfl, rfl, p'⟩ := ho x y P p
  intro H0 I H v w k r1 r2 Q q
  exact ⟨i, j, int_read r1, int_read r2, q _ _ I H p' k.re (Dp.int _)⟩⟩
theorem jo_cmp {f : Value → Value → Sem Value} {g : Int → Int → Bool} (h : OpR X f (rI0 fun i j => .bl (g i j))) : JOp X f (oCmp g) := ⟨_, h, fun b x y P p => by
  unfold oCmp at p
  split at p
  · intro H0 I H v w k r1 r2 Q q
    exact ⟨_, _, int_read r1, int_read r2, q _ _ I H p k.re (Dp.bl _)⟩
  · exact p.elim⟩
theorem jo_le : JOp X (compareOp .LtE) oLe := jo_cmp op_le
theorem jo_sub : JOp X (binaryOp .Sub) oSub := jo_I0 op_sub fun x y P p => by
  unfold oSub at p
  split at p
  · exact ⟨_, _, rfl, rfl, p⟩
  · exact p.elim
theorem lst_of {K : PySem.W.Frag} {b : Bg} {I H H1 : Hp} {r : DV} {v : V} {ds : List PyData} (kl : KL K) (k : Ok K b I H) (e : r = .bor ds ∨ r = .dat (.list ds)) (h : Res K b H1 I H v r) : ∃ a xs, v = .ref a ∧ H a = some (.lst xs) ∧ DpAll K I xs ds :=
  LstR.lst kl k (.inr e) h
theorem cat_lst {b : Bg} {x y : DV} {P : DP} {xs ys : List PyData} (kl : KL X.K) (ex : x = .bor xs ∨ x = .dat (.list xs)) (ey : y = .bor ys ∨ y = .dat (.list ys)) (hl : xs.length + ys.length ≤ 100000) (p : P (.own (xs ++ ys))) : OpD X.K b rCat x y P := fun H0 I H v w k r1 r2 Q q => by
  obtain ⟨a, us, rfl, ha, hd⟩ := lst_of kl k ex r1
  obtain ⟨c, ws, rfl, hc, he⟩ := lst_of kl k ey r2
  have l1 := dpa_len hd
  have l2 := dpa_len he
  exact ⟨a, c, us, ws, rfl, rfl, ha, hc, Nat.le_trans (by omega) (by decide : 100000 ≤ sizeLine), fun n hn => q _ _ _ _ p (k.newH hn) ⟨n, _, rfl, fr_none hn, k.inone hn, k.nb hn, upd_same, dpa_app hd he⟩⟩
theorem jo_add (kl : KL X.K) : JOp X (binaryOp .Add) oAdd := ⟨_, opr_or op_add (opr_or TF.op_catF (opr_or op_cat op_add_str)), fun b x y P p => by
  unfold oAdd at p
  split at p
  · intro H0 I H v w k r1 r2 Q q
    exact .inl ⟨_, _, int_read r1, int_read r2, q _ _ I H p k.re (Dp.int _)⟩
  · intro H0 I H v w k r1 r2 Q q
    exact .inr (.inl (od_cat p.1 H0 I H v w k r1 r2 Q fun z u I' H' e => q z u I' H' (e ▸ p.2)))
  · intro H0 I H v w k r1 r2 Q q
    exact .inr (.inr (.inr ⟨_, _, str_read r1, str_read r2, Nat.le_trans p.1 (by decide : 100000 ≤ sizeLine), q _ _ I H p.2 k.re (Dp.str _)⟩))
  · exact fun H0 I H v w k r1 r2 Q q => .inr (.inr (.inl (cat_lst kl (.inr rfl) (.inr rfl) p.1 p.2 H0 I H v w k r1 r2 Q q)))
  · exact fun H0 I H v w k r1 r2 Q q => .inr (.inr (.inl (cat_lst kl (.inl rfl) (.inr rfl) p.1 p.2 H0 I H v w k r1 r2 Q q)))
  · exact fun H0 I H v w k r1 r2 Q q => .inr (.inr (.inl (cat_lst kl (.inr rfl) (.inl rfl) p.1 p.2 H0 I H v w k r1 r2 Q q)))
  · exact fun H0 I H v w k r1 r2 Q q => .inr (.inr (.inl (cat_lst kl (.inl rfl) (.inl rfl) p.1 p.2 H0 I H v w k r1 r2 Q q)))
  · exact p.elim⟩
theorem rep_lst {b : Bg} {x : DV} {P : DP} {xs : List PyData} {n : Int} (kl : KL X.K) (ex : x = .bor xs ∨ x = .dat (.list xs)) (h : -1000000 ≤ n ∧ n ≤ 1000000 ∧ xs.length * n.toNat ≤ 100000) (p : P (.own (List.replicate n.toNat xs).flatten)) : OpD X.K b rRep x (dint n) P := fun H0 I H v w k r1 r2 Q q => by
  obtain ⟨a, us, rfl, ha, hd⟩ := lst_of kl k ex r1
  have l1 := dpa_len hd
  refine ⟨a, n, us, rfl, int_read r2, ha, by omega, by omega, Nat.le_trans (by rw [l1]; exact h.2.2) (by decide : 100000 ≤ sizeLine), fun c hc => q _ _ _ _ p (k.newH hc) ⟨c, _, rfl, fr_none hc, k.inone hc, k.nb hc, upd_same, dpa_rep hd _⟩⟩
theorem jo_mul (kl : KL X.K) : JOp X (binaryOp .Mult) oMul := ⟨_, opr_or op_mul (opr_or op_mulW (opr_or TF.op_repF op_rep)), fun b x y P p => by
  unfold oMul at p
  split at p
  · intro H0 I H v w k r1 r2 Q q
    rcases p with ⟨p | p, pp⟩
    · exact .inl ⟨_, _, int_read r1, int_read r2, p, q _ _ I H pp k.re (Dp.int _)⟩
    · exact .inr (.inl ⟨_, _, int_read r1, int_read r2, p, q _ _ I H pp k.re (Dp.int _)⟩)
  · intro H0 I H v w k r1 r2 Q q
    exact .inr (.inr (.inl (od_rep p.1.1 p.1.2.1 p.1.2.2.1 p.1.2.2.2 H0 I H v w k r1 r2 Q fun z u I' H' e => q z u I' H' (e ▸ p.2))))
  · exact fun H0 I H v w k r1 r2 Q q => .inr (.inr (.inr (rep_lst kl (.inr rfl) p.1 p.2 H0 I H v w k r1 r2 Q q)))
  · exact fun H0 I H v w k r1 r2 Q q => .inr (.inr (.inr (rep_lst kl (.inl rfl) p.1 p.2 H0 I H v w k r1 r2 Q q)))
  · exact p.elim⟩
theorem jo_pow : JOp X (binaryOp .Pow) oPow := ⟨_, opr_or op_pow op_powG, fun b x y P p => by
  unfold oPow at p
  split at p
  · intro H0 I H v w k r1 r2 Q q
    rcases p with ⟨p | p, pp⟩
    · exact .inl ⟨_, _, int_read r1, int_read r2, p, q _ _ I H pp k.re (Dp.int _)⟩
    · exact .inr ⟨_, _, int_read r1, int_read r2, p, q _ _ I H pp k.re (Dp.int _)⟩
  · exact p.elim⟩
theorem jo_eq (hu : X.A.units + 64 < cLine) : JOp X (compareOp .Eq) (oEq false) := ⟨_, op_eqD hu, fun b x y P p => by
  unfold oEq at p
  split at p
  · rename_i d e ex ey
    intro H0 I H v w k r1 r2 Q q
    exact ⟨d, e, toD_ok k.s ex r1, toD_ok k.s ey r2, p.1.1, p.1.2, q _ _ I H p.2 k.re (Dp.bl _)⟩
  · exact p.elim⟩
theorem jo_ne (hu : X.A.units + 64 < cLine) : JOp X (compareOp .NotEq) (oEq true) := ⟨_, op_neD hu, fun b x y P p => by
  unfold oEq at p
  split at p
  · rename_i d e ex ey
    intro H0 I H v w k r1 r2 Q q
    exact ⟨d, e, toD_ok k.s ex r1, toD_ok k.s ey r2, p.1.1, p.1.2, q _ _ I H p.2 k.re (Dp.bl _)⟩
  · exact p.elim⟩
theorem jo_isN : JOp X (compareOp .Is) (oIsN false) := ⟨_, opr_or op_isN op_isB, fun b x y P p => by
  unfold oIsN at p
  split at p
  · intro H0 I H v w k r1 r2 Q q
    refine .inl ⟨non_read r2, q _ _ I H p k.re ?_⟩
    rw [dp_isN r1]
    exact Dp.bl _
  · intro H0 I H v w k r1 r2 Q q
    exact .inr ⟨_, _, bl_read r1, bl_read r2, q _ _ I H p k.re (Dp.bl _)⟩
  · exact p.elim⟩
theorem seqD_ok {K : PySem.W.Frag} {b : Bg} {H0 I H : Hp} {v : V} {r : DV} {ds : List PyData} (s : Same I H) (e : seqD r = some ds) (h : Res K b H0 I H v r) : ∃ a xs, v = .ref a ∧ (SqL K H a xs ∨ SqT K H a xs) ∧ DpAll K I xs ds := by
  unfold seqD at e
  split at e
  · cases e
    obtain ⟨a, xs, e1, hs, hd⟩ := LstR.read s (.inr (.inr rfl)) h
    exact ⟨a, xs, e1, .inl hs, hd⟩
  · cases e
    obtain ⟨a, xs, e1, hs, hd⟩ := tup_read s h
    exact ⟨a, xs, e1, .inr hs, hd⟩
  · cases e
    obtain ⟨a, xs, e1, hs, hd⟩ := LstR.read s (.inr (.inl rfl)) h
    exact ⟨a, xs, e1, .inl hs, hd⟩
  · cases e
    obtain ⟨a, xs, e1, hs, hd⟩ := LstR.read s (.inl rfl) h
    exact ⟨a, xs, e1, .inl hs, hd⟩
  · cases e
theorem atD_nat {ds : List PyData} {i : Int} (h : 0 ≤ i) : atD ds i = ds[i.toNat]? := by
  unfold atD ixN
  rw [if_pos h]
  split
  · rename_i j e
    split at e
    · cases e; rfl
    · cases e
  · rename_i e
    split at e
    · cases e
    · rename_i hh
      rw [List.getElem?_eq_none]
      omega
theorem atD_ok {K : PySem.W.Frag} {I : Hp} {xs : List V} {ds : List PyData} {i : Int} {d : PyData} (hd : DpAll K I xs ds) (e : atD ds i = some d) : ∃ v, atI xs i = some v ∧ Dp K I v d := by
  unfold atD at e
  unfold atI
  rw [dpa_len hd]
  split at e
  · rename_i j ej
    obtain ⟨v, h1, h2⟩ := dpa_get hd e
    rw [ej]
    exact ⟨v, h1, h2⟩
  · cases e
theorem jx_seq (hu : X.A.units + 65 < cLine) : JIx X oIx := ⟨_, ixr_or ix_seq (DK.ix_dct (by omega)), fun b x y P p => by
  unfold oIx at p
  split at p
  · rename_i i
    split at p
    · rename_i ds ex
      split at p
      · rename_i d ed
        intro H0 I H v w k r1 r2 Q q
        obtain ⟨a, xs, rfl, hs, hd⟩ := seqD_ok k.s ex r1
        obtain ⟨u, h1, h2⟩ := atD_ok hd ed
        rcases hs with hs | hs
        · exact .inl (.inl ⟨a, xs, i, u, rfl, int_read r2, hs, h1, q _ _ I H p k.re h2⟩)
        · exact .inl (.inr (.inl ⟨a, xs, i, u, rfl, int_read r2, hs, h1, q _ _ I H p k.re h2⟩))
      · exact p.elim
    · split at p
      · obtain ⟨hz, p⟩ := p
        split at p
        · rename_i kk ek
          intro H0 I H v w k r1 r2 Q q
          exact .inl (.inr (.inr ⟨_, i, kk, str_read r1, int_read r2, Nat.le_trans hz (by decide : 100000 ≤ sizeLine), ek, q _ _ I H p k.re (Dp.str _)⟩))
        · exact p.elim
      · exact p.elim
  · split at p
    · split at p
      · rename_i k ek
        split at p
        · rename_i d ed
          intro H0 I H v w kk r1 r2 Q q
          obtain ⟨bb, hkv⟩ := keyV_of kk.s ek r2
          obtain ⟨a, es, rfl, _, _, _, ha, hr⟩ := r1
          rcases lk_rel k hr with ⟨h1, h2⟩ | ⟨x, y, h1, h2, h3⟩
          · rw [h1] at ed; cases ed
          · rw [h1] at ed
            cases ed
            exact .inr ⟨bb, k, a, es, x, hkv, rfl, ha, keys_ok kk.s hr, h2, q _ _ I H p kk.re h3⟩
        · exact p.elim
      · exact p.elim
    · exact p.elim
  · exact p.elim⟩
theorem ju_neg : JUn X (unaryOp .USub) oNeg := ⟨_, un_neg, fun b x P p => by
  unfold oNeg at p
  split at p
  · intro H0 I H v k r1 Q q
    exact ⟨_, int_read r1, q _ _ I H p k.re (Dp.int _)⟩
  · exact p.elim⟩
theorem jb_len : JCb X (.builtin "len") bLen := ⟨_, cbr_or (cbr_or call_len_seq call_len_str) DK.call_lenDct, fun b rs P p => by
  unfold bLen at p
  split at p
  · split at p
    · rename_i ds ex
      intro H0 I H vs k r Q q
      cases r with
      | cons r1 rr =>
        cases rr
        obtain ⟨a, xs, rfl, hs, hd⟩ := seqD_ok k.s ex r1
        exact .inl (.inl ⟨a, xs, rfl, hs, q _ _ I H p k.re (by rw [dpa_len hd]; exact Dp.int _)⟩)
    · split at p
      · intro H0 I H vs k r Q q
        cases r with
        | cons r1 rr =>
          cases rr
          rw [str_read r1]
          exact .inl (.inr ⟨_, rfl, Nat.le_trans p.1 (by decide : 100000 ≤ sizeLine), q _ _ I H p.2 k.re (Dp.int _)⟩)
      · intro H0 I H vs k r Q q
        cases r with
        | cons r1 rr =>
          cases rr
          obtain ⟨a, es, rfl, _, _, _, ha, hr⟩ := r1
          exact .inr ⟨a, es, rfl, ha, keys_ok k.s hr, q _ _ I H p k.re (by rw [Paired.length hr]; exact Dp.int _)⟩
      · exact p.elim
  · exact p.elim⟩
theorem ints_ok : ∀ {ds : List PyData} {ns : List Int}, intsD ds = some ns → ds = ns.map .int
  | [], ns, h => by cases h; rfl
  | .int i :: ds, ns, h => by
    unfold intsD at h
    cases q : intsD ds with
    | none => rw [q] at h; cases h
    | some es =>
      rw [q] at h
      cases h
      rw [ints_ok q]
      rfl
  | .none :: _, _, h => by cases h
  | .bool _ :: _, _, h => by cases h
  | .str _ :: _, _, h => by cases h
  | .list _ :: _, _, h => by cases h
  | .tuple _ :: _, _, h => by cases h
  | .dict _ :: _, _, h => by cases h
theorem bools_ok : ∀ {ds : List PyData} {ns : List Bool}, boolsD ds = some ns → ds = ns.map .bool
  | [], ns, h => by cases h; rfl
  | .bool i :: ds, ns, h => by
    unfold boolsD at h
    cases q : boolsD ds with
    | none => rw [q] at h; cases h
    | some es =>
      rw [q] at h
      cases h
      rw [bools_ok q]
      rfl
  | .none :: _, _, h => by cases h
  | .int _ :: _, _, h => by cases h
  | .str _ :: _, _, h => by cases h
  | .list _ :: _, _, h => by cases h
  | .tuple _ :: _, _, h => by cases h
  | .dict _ :: _, _, h => by cases h
theorem bools_map (ns : List Bool) : boolsD (ns.map .bool) = some ns := by
  induction ns with
  | nil => rfl
  | cons n ns ih =>
    show (match boolsD (ns.map .bool) with
      | some is => some (n :: is)
      | none => none) = _
    rw [ih]
theorem lstD_ok {r : DV} {ds : List PyData} (e : lstD r = some ds) : LstR r ds := by
  unfold lstD at e
  split at e
  · cases e; exact .inr (.inr rfl)
  · cases e; exact .inr (.inl rfl)
  · cases e; exact .inl rfl
  · cases e
theorem jb_tuple : JCb X (.type "tuple") bTuple := ⟨_, TF.call_tupleF, fun b rs P p => by
  unfold bTuple at p
  split at p
  · split at p
    · rename_i ds ex
      intro H0 I H vs k r Q q
      exact cb_tupleL (lstD_ok ex) H0 I H vs k r Q fun z u I' H' e => q z u I' H' (e ▸ p)
    · split at p
      · intro H0 I H vs k r Q q
        exact cb_tupleT H0 I H vs k r Q fun z u I' H' e => q z u I' H' (e ▸ p)
      · exact p.elim
  · exact p.elim⟩
theorem jb_abs : JCb X (.builtin "abs") bAbs := ⟨_, call_abs, fun b rs P p => by
  unfold bAbs at p
  split at p
  · intro H0 I H vs k r Q q
    exact cb_abs H0 I H vs k r Q fun z u I' H' e => q z u I' H' (e ▸ p)
  · exact p.elim⟩
def rSumT (K : PySem.W.Frag) : List V → Hp → VK → Prop := fun vs H Q => ∃ (a : Addr) (ns : List Int), vs = [V.ref a] ∧ SqT K H a (ns.map V.int) ∧ Q (.int ns.sum) H
theorem cr_sumT (hc : X.calm = true) : CallR X (.builtin "sum") (rSumT X.K) := by
  intro pins s σ H vs us Q I r h
  obtain ⟨a, ns, rfl, hs, q⟩ := h
  obtain ⟨its, rv, hl, _⟩ := I.tuple hs
  rw [Vals.ref1 r]
  have hi : IntsAre its ns := rv.ints
  obtain ⟨xs, hx⟩ := hi.allInts.items
  have hn : numsOf its.toArray.toList = ns := by rw [show its.toArray.toList = its from rfl, hi.numsOf]
  have hl' : s.heap.IsTuple a its.toArray := hl
  rw [hx] at hl' hn
  rw [nums_intItems] at hn
  refine PySem.W.ktm_sumG (I.ok.hd hc) hl' fun h' tk t' hk => ?_
  rw [preSum_eq, List.take_of_length_le (by simp), hn]
  exact ⟨.int _, H, I.kept hk, ⟨_, rfl⟩, q⟩
theorem jb_sum (hc : X.calm = true) : JCb X (.builtin "sum") bSum := ⟨_, cbr_or (cr_sum hc) (cr_sumT hc), fun b rs P p => by
  unfold bSum at p
  split at p
  · split at p
    · rename_i ds ex
      split at p
      · rename_i ns en
        intro H0 I H vs k r Q q
        cases r with
        | cons r1 rr =>
          cases rr
          obtain ⟨a, xs, rfl, hs, hd⟩ := seqD_ok k.s ex r1
          rw [ints_ok en] at hd
          rw [dpa_ints hd] at hs
          rcases hs with hs | hs
          · exact .inl ⟨a, ns, rfl, hs, q _ _ I H p k.re (Dp.int _)⟩
          · exact .inr ⟨a, ns, rfl, hs, q _ _ I H p k.re (Dp.int _)⟩
      · exact p.elim
    · exact p.elim
  · exact p.elim⟩
theorem jb_all (hc : X.calm = true) : JCb X (.builtin "all") bAll := ⟨_, cr_all hc, fun b rs P p => by
  unfold bAll at p
  split at p
  · split at p
    · rename_i ds ex
      split at p
      · rename_i ns en
        intro H0 I H vs k r Q q
        exact cb_all (by rw [← bools_ok en]; exact lstD_ok ex) H0 I H vs k r Q fun z u I' H' e => q z u I' H' (e ▸ p)
      · exact p.elim
    · exact p.elim
  · exact p.elim⟩
theorem jb_isi : JCb X (.builtin "isinstance") bIsi := ⟨_, call_isi, fun b rs P p => by
  unfold bIsi at p
  split at p
  · split at p
    · rename_i k ek
      intro H0 I H vs kk r Q q
      exact cb_isi ek H0 I H vs kk r Q fun z u I' H' e => q z u I' H' (e ▸ p)
    · exact p.elim
  · exact p.elim⟩
end
end DW
namespace DW
open PySem PySem.Spec PyProof.Rows L2 RZ DL
def spW (K : PySem.W.Frag) (cls fa : Nat → Addr) (W : Wt) : Sp := spD K (fun a : List DV × DP × Cn => a.1) (fun a => a.2.2.fa = fa ∧ a.1.all isPl = true ∧ W a.1 a.2.1 a.2.2) (fun a => a.2.1) (fun a => toXD cls a.2.2.x)
section
variable {X : Cx} {S : Sg} {a b e : Expr} {es : List Expr} {da db de : DE} {pos p : Pos} {x : Str}
theorem ce_cb {K : PySem.W.Frag} {m : Nat} {r : List V → Hp → VK → Prop} {o : List DV → DP → Prop} {ta : TA} {da : DA} (ho : ∀ b rs P, o rs P → CbD K b r rs P) (ha : CA K S m ta da) : DW.CE K S (tCB r ta) (dCb o da) := fun b I0 H0 c δ P nb ok p =>
  ev_cb (A := fun rs => o rs P) ((ha b I0 H0 c δ _ nb ok p).mono fun rs h => h.2) fun rs h => ho b rs P h
theorem je_callB {id : String} {o : List DV → DP → Prop} {da : DA} (hc : JCb X (.builtin id) o) (hg : Gl X x) (hm : X.mg x = none) (hv : bootBuiltins x = some (.builtin id)) (ha : JA X S (e :: es) da) (hn : x ≠ "__name__" := by decide) (hdb : (x == ("__debug__" : Str)) = false := by decide)
    (he : starEach (e :: es) X.env = (false, eval e X.env) :: starEach es X.env := by rfl) (hpl : (backTo pos (starEach es X.env)).any (·.1) = false := by rfl) : JE X S (.Call (.Name x p) (e :: es) [] pos) (dCb o da) := by
  obtain ⟨r, h1, h2⟩ := hc
  obtain ⟨t, a1, a2⟩ := ha
  exact ⟨_, pe_callB h1 hg hm hv a1 hn hdb he hpl, ce_cb h2 a2⟩
theorem je_callT {T : String} {o : List DV → DP → Prop} {da : DA} (hc : JCb X (.type T) o) (hg : Gl X x) (hm : X.mg x = none) (hv : bootBuiltins x = some (.type T)) (ha : JA X S (e :: es) da) (hn : x ≠ "__name__" := by decide) (hdb : (x == ("__debug__" : Str)) = false := by decide)
    (he : starEach (e :: es) X.env = (false, eval e X.env) :: starEach es X.env := by rfl) (hpl : (backTo pos (starEach es X.env)).any (·.1) = false := by rfl) : JE X S (.Call (.Name x p) (e :: es) [] pos) (dCb o da) := by
  obtain ⟨r, h1, h2⟩ := hc
  obtain ⟨t, a1, a2⟩ := ha
  exact ⟨_, pe_callTy h1 hg hm hv a1 hn hdb he hpl, ce_cb h2 a2⟩
theorem ev_w {K : PySem.W.Frag} {bg : Bg} {I0 H0 : Hp} {c : Cn} {δ : En} {W : Wt} {P : DP} {ta : TA} (ok : Cok K S bg I0 H0 c) (ha : EvA K bg I0 H0 ta δ (fun rs => rs.all isPl = true ∧ W rs P c)) : EvD K bg I0 H0 (tCall (spW K S.cls S.fa W) [] S.E ta) δ P :=
  ev_callX ok.xw ha fun rs h => ⟨(rs, P, c), rfl, ⟨ok.fa, h⟩, isPl_own h.1, fun r o => o, fun C fs e => e⟩
section
variable {k : Nat} {f : Addr} {fd : FuncData} {ps : List Str} {W : Wt} {da : DA}
theorem je_call (F : FnOk X.prog X.w X.K X.mg X.base (L2.CX X.prog X.w) k f fd ps (spW X.K S.cls S.fa W)) (hr : Room k X.A) (hg : Gl X x) (hm : X.mg x = some (.ref f)) (hk : PySem.W.keepIn X.K (.ref f) = true) (hb : Binds X.K fd ps []) (hx : Passes (L2.CX X.prog X.w) X S.E)
    (ha : JA X S (e :: es) da) (hdb : (x == ("__debug__" : Str)) = false := by decide) (he : starEach (e :: es) X.env = (false, eval e X.env) :: starEach es X.env := by rfl) (hpl : (backTo pos (starEach es X.env)).any (·.1) = false := by rfl) :
    JE X S (.Call (.Name x p) (e :: es) [] pos) (dCall W da) := by
  obtain ⟨t, a1, a2⟩ := ha
  exact ⟨_, pe_call F hr hg hm hk hb .nil hx a1 hdb he hpl, fun b I0 H0 c δ P nb ok p => ev_w ok ((a2 b I0 H0 c δ _ nb ok p).mono fun rs h => h.2)⟩
theorem vals_app {vs zs : List V} {us ws : List Value} (h : Vals vs us) (h' : Vals zs ws) : Vals (vs ++ zs) (us ++ ws) := Vals.append h h'
theorem pk_rel (is : List Nat) {vs : List V} {us : List Value} {zs : List V} {ws : List Value} (h : Vals vs us) (h' : Vals zs ws) : Vals (pk is vs zs) (pk is us ws) := by
  have g := vals_app h h'
  unfold pk
  induction is with
  | nil => exact .nil
  | cons i is ih =>
    rw [List.filterMap_cons, List.filterMap_cons]
    cases q : (vs ++ zs)[i]? with
    | none =>
      have l := g.length
      rw [List.getElem?_eq_none (by have := List.getElem?_eq_none_iff.mp q; omega)]
      exact ih
    | some v =>
      obtain ⟨u, e1, e2⟩ := g.get q
      rw [e1]
      exact .cons e2 ih
theorem resA_app {K : PySem.W.Frag} {b : Bg} {H0 I H : Hp} : ∀ {vs ws : List V} {rs zs : List DV}, ResA K b H0 I H vs rs → ResA K b H0 I H ws zs → ResA K b H0 I H (vs ++ ws) (rs ++ zs)
  | _, _, _, _, .nil, r => r
  | _, _, _, _, .cons q t, r => .cons q (resA_app t r)
theorem pk_res {K : PySem.W.Frag} {b : Bg} {H0 I H : Hp} (is : List Nat) {vs ws : List V} {rs zs : List DV} (h : ResA K b H0 I H vs rs) (h' : ResA K b H0 I H ws zs) : ResA K b H0 I H (pk is vs ws) (pk is rs zs) := by
  have g := resA_app h h'
  unfold pk
  induction is with
  | nil => exact .nil
  | cons i is ih =>
    rw [List.filterMap_cons, List.filterMap_cons]
    cases q : (rs ++ zs)[i]? with
    | none =>
      have l := resA_len g
      rw [List.getElem?_eq_none (by have := List.getElem?_eq_none_iff.mp q; omega)]
      exact ih
    | some r =>
      obtain ⟨v, e1, e2⟩ := resA_get g q
      rw [e1]
      exact .cons e2 ih
end
end
def iSeq (K : PySem.W.Frag) (te : TE) : TI := fun σ H R => te σ H fun x H1 => (∃ a xs, x = .ref a ∧ SqL K H1 a xs ∧ R (Itl K a) H1) ∨ (∃ a xs, x = .ref a ∧ SqT K H1 a xs ∧ R (Itt K a) H1) ∨ ∃ z, x = .str z ∧ R (Its z) H1
def iEnumS (K : PySem.W.Frag) (ta : TA) : TI := fun σ H R => ta σ H fun vs H1 => ∃ a xs, vs = [.ref a] ∧ ((SqL K H1 a xs ∧ R (Ite K a) H1) ∨ (SqT K H1 a xs ∧ R (TF.IteT K a) H1))
section
variable {X : Cx} {tg e : Expr} {te : TE}
theorem pi_seqS (he : PE X e te) : PI X tg e (iSeq X.K te) := by
  refine ⟨fun pins s σ H R I h => thn (he.run pins s σ H _ I h) ?_⟩
  rintro v s1 ⟨x, H1, I1, r1, ⟨a, xs, ex, hs, q⟩ | ⟨a, xs, ex, hs, q⟩ | ⟨z, ex, q⟩⟩
  · subst ex
    obtain rfl : v = Value.ref a := r1
    obtain ⟨us, rel, pl, _⟩ := I1.list hs
    exact wpAny_pyIter_list pl.isList (pi_one (tk := s1.toks) I1 _ (turn_list a _) ⟨_, Heap.get?_push_size _ rfl, rfl, rfl⟩ q)
  · subst ex
    obtain rfl : v = Value.ref a := r1
    obtain ⟨us, rel, pt, _⟩ := I1.tuple hs
    exact wpAny_pyIter_tuple (show s1.heap.IsTuple a us.toArray from pt) (pi_one (tk := s1.toks) I1 _ (turn_tuple a _) ⟨_, Heap.get?_push_size _ rfl, rfl, rfl⟩ q)
  · subst ex
    obtain ⟨tk, rfl⟩ := r1
    by_cases hz : z.cps.all (· < 128) = true
    · exact wpAny_pyIter_ascii hz (pi_one (tk := s1.toks) I1 _ (turn_str _ z tk "str_ascii_iterator" (.inl rfl)) ⟨_, Heap.get?_push_size _ rfl, rfl, rfl⟩ q)
    · exact wpAny_pyIter_wide (by simpa using hz) (pi_one (tk := s1.toks) I1 _ (turn_str _ z tk "str_iterator" (.inr rfl)) ⟨_, Heap.get?_push_size _ rfl, rfl, rfl⟩ q)
theorem pi_enumS {ta : TA} {p pos tpos : Pos} {elts : List Expr} {kk : Nat} (hg : Gl X "enumerate") (hm : X.mg "enumerate" = none) (ha : PA X [e] ta) (one : starEach [e] X.env = [(false, eval e X.env)] := by rfl) :
    PI X (.Tuple elts kk tpos) (.Call (.Name "enumerate" p) [e] [] pos) (iEnumS X.K ta) := by
  refine ⟨fun pins s σ H R I h => Call_ (ld_blt I hg hm boot_enumerate (PyProof.Rows.callWith_type1 (thn (ha.run pos pins s σ H _ I h) ?_) one rfl))⟩
  rintro us s1 ⟨vs, H1, I1, r1, a, xs, rfl, z⟩
  obtain ⟨u, rfl, ru⟩ := vals1 r1
  obtain rfl : u = Value.ref a := ru
  have off : ∀ b ∈ [s1.heap.objs.size + 1, s1.heap.objs.size], FpOk X pins H1 b → True := fun _ _ _ => trivial
  have big : ∀ b, b ∈ [s1.heap.objs.size + 1, s1.heap.objs.size] → s1.heap.objs.size ≤ b := fun b hb => by
    rcases List.mem_cons.mp hb with z | z
    · rw [z]
      exact Nat.le_succ _
    · rw [List.mem_singleton.mp z]
      exact Nat.le_refl _
  rcases z with ⟨hs, q⟩ | ⟨hs, q⟩
  · obtain ⟨ws, rel, pl, _⟩ := I1.list hs
    refine call_enumerate_list pl.isList fun g isE itr _ kept => wpAny_pyIter_enum isE ?_
    have J : Inv X pins σ H1 { s1 with heap := g } := I1.kept (t' := s1.toks) kept
    exact ⟨s1.heap.objs.size + 1, [s1.heap.objs.size + 1, s1.heap.objs.size], _, _, H1, rfl, J, turn_enum a (s1.heap.objs.size + 1) s1.heap.objs.size, ⟨⟨.none, isE⟩, itr, Nat.succ_ne_self _⟩, fun b hb => I1.fpOk (big b hb) (I1.hok.fresh (big b hb)), q⟩
  · obtain ⟨ws, rel, pt, _⟩ := I1.tuple hs
    refine TF.call_enum1 (begins_tuple a ws.toArray) pt fun g isE itr kept => wpAny_pyIter_enum isE ?_
    have J : Inv X pins σ H1 { s1 with heap := g } := I1.kept (t' := s1.toks) kept
    exact ⟨s1.heap.objs.size + 1, [s1.heap.objs.size + 1, s1.heap.objs.size], _, _, H1, rfl, J, TF.turn_enumT a (s1.heap.objs.size + 1) s1.heap.objs.size, ⟨⟨.none, isE⟩, ⟨_, itr, rfl, rfl⟩, Nat.succ_ne_self _⟩, fun b hb => I1.fpOk (big b hb) (I1.hok.fresh (big b hb)), q⟩
end
section
variable {K : PySem.W.Frag} {b : Bg}
theorem io_list {I : Hp} {a : Addr} {xs : List V} {ds : List PyData} (hs : SqL K I a xs) (hd : DpAll K I xs ds) : IterOk K b (DpR K) (Itl K a) I ds := by
  refine ⟨fun H => SqL K H a xs, YAt xs, ?_, fun H e => sl_mono e hs, fun i I2 H x H' d e k2 y hd' => ?_⟩
  · rw [← dpa_len hd]
    exact walk_list
  · obtain ⟨rfl, y⟩ := y
    obtain ⟨u, e1, e2⟩ := dpa_get hd hd'
    rw [y] at e1
    cases e1
    exact ⟨I2, k2.re, dp_mono e e2⟩
theorem io_tup {I : Hp} {a : Addr} {xs : List V} {ds : List PyData} (hs : SqT K I a xs) (hd : DpAll K I xs ds) : IterOk K b (DpR K) (Itt K a) I ds := by
  refine ⟨fun H => SqT K H a xs, YAt xs, ?_, fun H e => st_mono e hs, fun i I2 H x H' d e k2 y hd' => ?_⟩
  · rw [← dpa_len hd]
    exact walk_tup
  · obtain ⟨rfl, y⟩ := y
    obtain ⟨u, e1, e2⟩ := dpa_get hd hd'
    rw [y] at e1
    cases e1
    exact ⟨I2, k2.re, dp_mono e e2⟩
theorem io_str {I : Hp} {z : Str} : IterOk K b (DpR K) (Its z) I (chars z) := by
  refine ⟨fun _ => True, fun i H x H' => H' = H ∧ ∃ c, z.cps[i]? = some c ∧ x = .str ⟨#[c]⟩, ⟨fun i _ hi _ => ?_, fun _ _ => ?_, fun i H v H' _ _ y => y⟩, fun _ _ => trivial, fun i I2 H x H' d e k2 y hd => ?_⟩
  · unfold chars at hi
    rw [List.length_map, Array.length_toList] at hi
    exact hi
  · show z.cps.size ≤ (chars z).length
    unfold chars
    rw [List.length_map, Array.length_toList]
    exact Nat.le_refl _
  · obtain ⟨rfl, c, hc, rfl⟩ := y
    unfold chars at hd
    rw [List.getElem?_map, Array.getElem?_toList, hc] at hd
    cases hd
    exact ⟨I2, k2.re, Dp.str _⟩
theorem io_enum {I : Hp} {J : It} {G : Hp → Prop} {xs : List V} {ds : List PyData} (w : Walk J xs.length G (YPair (fun i => some (.int (i : Nat))) (fun i => xs[i]?))) (hG : ∀ H, Same I H → G H) (hd : DpAll K I xs ds) : IterOk K b (PairR K) J I (enumD ds) := by
  refine ⟨G, YPair (fun i => some (.int (i : Nat))) (fun i => xs[i]?), ?_, hG, fun i I2 H x H' d e k2 y hz => ?_⟩
  · unfold enumD
    rw [List.length_map, List.length_zipIdx, ← dpa_len hd]
    exact w
  · obtain ⟨T, x1, x2, rfl, nT, rfl, g1, g2⟩ := y
    have g1 : some (V.int (i : Nat)) = some x1 := g1
    have g2 : xs[i]? = some x2 := g2
    cases g1
    unfold enumD at hz
    rw [List.getElem?_map, List.getElem?_zipIdx] at hz
    cases q1 : ds[i]? with
    | none => rw [q1] at hz; cases hz
    | some d1 =>
      rw [q1] at hz
      have hz := (Option.some.inj hz).symm
      subst hz
      obtain ⟨u1, e1, f1⟩ := dpa_get hd q1
      rw [g2] at e1
      cases e1
      refine ⟨I2, k2.newH nT, T, _, x2, .int (i : Int), d1, rfl, upd_same, ?_, .int _, dp_mono e f1⟩
      simp
end
section
variable {X : Cx} {S : Sg} {tg e : Expr} {de : DE} {pos p : Pos}
theorem ji_seq (h : JE X S e de) : JI X S (DpR X.K) tg e (dISeq de) := by
  obtain ⟨t, h1, h2⟩ := h
  refine ⟨_, pi_seqS h1, fun b I0 H0 c δ A nb ok p σ I H k n R q => ?_⟩
  refine ev_fz (Q := fun r => match r with
    | .dat (.list ds) => A ds
    | .dat (.tuple ds) => A ds
    | .dat (.str z) => A (chars z)
    | _ => False) (h2 b I0 H0 c δ _ nb ok p) σ I H k n _ fun r v I1 H1 pr x rs => ?_
  dsimp only at pr
  split at pr
  · rename_i ds
    have rs : Dp X.K I1 v (.list ds) := rs
    cases rs with
    | @lst a xs _ hs hd => exact .inl ⟨a, xs, rfl, sl_mono x.s hs, q _ _ I1 H1 pr x (io_list hs hd)⟩
  · rename_i ds
    have rs : Dp X.K I1 v (.tuple ds) := rs
    cases rs with
    | @tup a xs _ hs hd => exact .inr (.inl ⟨a, xs, rfl, st_mono x.s hs, q _ _ I1 H1 pr x (io_tup hs hd)⟩)
  · exact .inr (.inr ⟨_, str_read rs, q _ _ I1 H1 pr x io_str⟩)
  · exact pr.elim
theorem ji_rg1 {a : Expr} {da : DA} (hg : Gl X "range") (hm : X.mg "range" = none) (ha : JA X S [a] da) (hs : starEach [a] X.env = [(false, eval a X.env)] := by rfl) : JI X S (DpR X.K) tg (.Call (.Name "range" p) [a] [] pos) (dIRg1 da) := by
  obtain ⟨t, a1, a2⟩ := ha
  refine ⟨_, pi_range1 hg hm a1 hs, fun b I0 H0 c δ A nb ok p => ?_⟩
  refine (itd_rng1 (A := fun n => A (rangeD 0 n.toNat)) ((a2 b I0 H0 c δ _ nb ok p).mono fun rs h => ?_)).mono fun ds ⟨n, e, h⟩ => e ▸ h
  obtain ⟨_, h⟩ := h
  split at h
  · exact ⟨_, rfl, h.1.2, h.1.1, h.2⟩
  · exact h.elim
theorem ji_zip {a a' : Expr} {da : DA} {tpos : Pos} {elts : List Expr} {kk : Nat} (hg : Gl X "zip") (hm : X.mg "zip" = none) (ha : JA X S [a, a'] da) (hs : starEach [a, a'] X.env = (false, eval a X.env) :: starEach [a'] X.env := by rfl) (hpl : (backTo pos (starEach [a'] X.env)).any (·.1) = false := by rfl) :
    JI X S (PairR X.K) (.Tuple elts kk tpos) (.Call (.Name "zip" p) [a, a'] [] pos) (dIZip da) := by
  obtain ⟨t, a1, a2⟩ := ha
  refine ⟨_, pi_zipA hg hm a1 hs hpl, fun b I0 H0 c δ A nb ok p => ?_⟩
  refine (itd_zipT (A := fun m n => A (zipD m n)) ((a2 b I0 H0 c δ _ nb ok p).mono fun rs h => ?_)).mono fun ds ⟨m, n, e, h⟩ => e ▸ h
  obtain ⟨_, h⟩ := h
  split at h
  · exact ⟨_, _, rfl, h⟩
  · exact h.elim
theorem ji_enum {a : Expr} {da : DA} {tpos : Pos} {elts : List Expr} {kk : Nat} (hg : Gl X "enumerate") (hm : X.mg "enumerate" = none) (ha : JA X S [a] da) (hs : starEach [a] X.env = [(false, eval a X.env)] := by rfl) :
    JI X S (PairR X.K) (.Tuple elts kk tpos) (.Call (.Name "enumerate" p) [a] [] pos) (dIEnum da) := by
  obtain ⟨t, a1, a2⟩ := ha
  refine ⟨_, pi_enumS hg hm a1 hs, fun b I0 H0 c δ A nb ok p σ I H k n R q => ?_⟩
  refine a2 b I0 H0 c δ _ nb ok p σ I H k n _ fun rs vs I1 H1 pr x r => ?_
  obtain ⟨_, pr⟩ := pr
  split at pr
  · rename_i ds _
    cases r with
    | cons r1 rr =>
      cases rr
      have r1 : Dp X.K I1 _ (.tuple ds) := r1
      cases r1 with
      | @tup a xs _ hs hd => exact ⟨a, xs, rfl, .inr ⟨st_mono x.s hs, q _ _ I1 H1 pr x (io_enum walk_enumT (fun H e => st_mono e hs) hd)⟩⟩
  · rename_i ds _
    cases r with
    | cons r1 rr =>
      cases rr
      have r1 : Dp X.K I1 _ (.list ds) := r1
      cases r1 with
      | @lst a xs _ hs hd => exact ⟨a, xs, rfl, .inl ⟨sl_mono x.s hs, q _ _ I1 H1 pr x (io_enum walk_enum (fun H e => sl_mono e hs) hd)⟩⟩
  · exact pr.elim
end
end DW
namespace DW
open PySem PySem.Spec PyProof.Rows L2 RZ DL
theorem nb_set {n i : Nat} {δ : En} {r : DV} (h : NB n δ) (hr : ∀ ds, r ≠ .bor ds) (hk : ∀ kvs, r ≠ .dct false kvs := by intro _ z; cases z) : NB n (δ.set i (some r)) := by
  refine ⟨by rw [List.length_set]; exact h.len, ?_⟩
  have h2 := h.nb
  unfold noBor at h2 ⊢
  rw [List.all_eq_true] at h2 ⊢
  intro x hx
  rcases List.mem_or_eq_of_mem_set hx with z | z
  · exact h2 x z
  · subst z
    cases r with
    | bor ds => exact absurd rfl (hr ds)
    | dct o kvs =>
      cases o with
      | true => rfl
      | false => exact absurd rfl (hk kvs)
    | _ => rfl
theorem nb_dat {n i : Nat} {δ : En} {d : PyData} (h : NB n δ) : NB n (δ.set i (some (.dat d))) := nb_set h fun _ z => by cases z
theorem nb_own {n i : Nat} {δ : En} {d : List PyData} (h : NB n δ) : NB n (δ.set i (some (.own d))) := nb_set h fun _ z => by cases z
section
variable (X : Cx) (S : Sg)
def JG (Rl : Rel) (is : List Nat) (tg : Expr) (tf : Tf) : Prop := ∃ g, PG X tg g ∧ ∀ b d δ δ', NB S.n δ → tf d δ = some δ' → TgD X.K b Rl g is d δ δ'
def TfOk (n : Nat) (tf : Tf) : Prop := ∀ d δ δ', NB n δ → tf d δ = some δ' → NB n δ'
end
section
variable {X : Cx} {S : Sg} {pos : Pos}
theorem jg_name {i : Nat} {tg : Expr} (h : PG X tg (gName i)) (hi : i < S.n) : JG X S (DpR X.K) [i] tg (tfName i) := ⟨_, h, fun b d δ δ' nb e => by
  cases e
  exact tg_name (by rw [nb.len]; exact hi)⟩
theorem jg_pair {i j : Nat} {tg : Expr} (h : PG X tg (gTup X.K 2 (gCons (gName i) (gCons (gName j) gNil)))) (hi : i < S.n) (hj : j < S.n) : JG X S (PairR X.K) [i, j] tg (tfPair i j) := ⟨_, h, fun b d δ δ' nb e => by
  unfold tfPair at e
  split at e
  · cases e
    exact tg_pair (by rw [nb.len]; exact hi) (by rw [nb.len]; exact hj)
  · cases e⟩
theorem jg_pairD {i j : Nat} {tg : Expr} (h : PG X tg (gTup X.K 2 (gCons (gName i) (gCons (gName j) gNil)))) (hi : i < S.n) (hj : j < S.n) : JG X S (DpR X.K) [i, j] tg (tfPair i j) := ⟨_, h, fun b d δ δ' nb e => by
  unfold tfPair at e
  split at e
  · cases e
    exact tg_pairD (by rw [nb.len]; exact hi) (by rw [nb.len]; exact hj)
  · cases e⟩
end
theorem to_name {n i : Nat} : TfOk n (tfName i) := fun d δ δ' nb e => by
  cases e
  exact nb_dat nb
theorem to_pair {n i j : Nat} : TfOk n (tfPair i j) := fun d δ δ' nb e => by
  unfold tfPair at e
  split at e
  · cases e
    exact nb_dat (nb_dat nb)
  · cases e
theorem ce_lc {K : PySem.W.Frag} {S : Sg} {Rl : Rel} {wi : TI} {g : TG} {tt : TT} {te : TE} {vs is : List Nat} {di : DI} {tf : Tf} {dt : DT} {de : DE} (hi : CI K S Rl wi di) (ho : TfOk S.n tf) (hg : ∀ b d δ δ', NB S.n δ → tf d δ = some δ' → TgD K b Rl g is d δ δ') (his : ∀ v ∈ is, v ∈ vs) (ht : CT K S.no tt dt) (he : DW.CE K S.no te de) :
    DW.CE K S (tLc wi g tt te vs) (dLc di tf dt de vs) := fun b I0 H0 c δ P nb ok p σ I H k n Q q => by
  obtain ⟨hv, p⟩ := p
  refine hi b I0 H0 c δ _ nb ok p σ I H k n _ fun items J I1 H1 pg x okI => fun D hD => ?_
  obtain ⟨hlen, go⟩ := pg
  obtain ⟨G, Y, w, hG, hY⟩ := okI
  have nDb : D ≠ b.a := x.ok.nb hD
  refine lc_it w (fun i Hk => ∃ Ik acc ys, Ext K b I1 H1 Ik Hk ∧ Ik D = none ∧ Hk D = some (.lst acc) ∧ DpAll K Ik acc ys ∧ acc.length ≤ i ∧ lcGo (lcStep tf dt de c δ) (items.drop i) fun zs => P (.own (ys ++ zs))) ?_ (fun i Hk _ ⟨Ik, acc, ys, e, _⟩ => hG Hk (e.i.trans e.s)) ?_ ?_
  · exact ⟨I1, [], [], x.ok.newH hD, x.ok.inone hD, upd_same, .nil, Nat.le_refl _, go⟩
  · rintro i v Hk Hk' hi' ⟨Ik, acc, ys, e, iD, aD, hd, al, go'⟩ hy
    have hd1 : items[i]? = some items[i] := List.getElem?_eq_getElem hi'
    rw [List.drop_eq_getElem_cons hi'] at go'
    generalize items[i] = d at hd1 go'
    obtain ⟨I3, e3, d3⟩ := hY i Ik Hk v Hk' d e.i e.ok hy hd1
    have e13 := e.trans e3
    have n3 : EnvR K b H0 I3 Hk' (wipe σ vs) δ := ((n.ext x).ext e13).wipe hv
    unfold lcGo lcStep at go'
    split at go'
    · rename_i δ' et
      have nb' := ho d δ δ' nb et
      have tg := hg b d δ δ' nb et
      refine tg H0 I3 Hk' _ v e3.ok n3 d3 _ fun σ2 n2 out hl => ⟨?_, ?_⟩
      · rw [wipe_eq (σ := wipe σ vs) (τ := σ2) hl (fun j hj => out j (fun z => hj (his j z)))]
        exact wipe_eq (wipe_length _ _) fun j hj => wipe_out hj
      · refine ht b I0 H0 c.no δ' _ nb' ok.no go' σ2 I3 Hk' (k.trans (x.trans e13)) n2 _ fun t I4 H4 pc e4 => ?_
        have e14 := e13.trans e4
        have aD3 : Hk' D = some (.lst acc) := e3.h D _ nDb lst_tbl aD
        have iD4 : I4 D = none := e4.n D _ (e3.n D _ iD aD lst_tbl) aD3 lst_tbl
        have aD4 : H4 D = some (.lst acc) := e4.h D _ nDb lst_tbl aD3
        have hd4 := dpa_mono (e3.i.trans e4.i) hd
        cases t with
        | false =>
          rw [if_neg (by decide)] at pc
          rw [if_neg (by decide)]
          exact ⟨I4, acc, ys, e14, iD4, aD4, hd4, by omega, pc⟩
        | true =>
          rw [if_pos rfl] at pc
          rw [if_pos rfl]
          refine ev_fz (Q := fun r => match some r with
            | none => lcGo (lcStep tf dt de c δ) (items.drop (i + 1)) fun zs => P (.own (ys ++ zs))
            | some (.dat y) => lcGo (lcStep tf dt de c δ) (items.drop (i + 1)) fun zs => P (.own (ys ++ y :: zs))
            | _ => False) (he b I0 H0 c.no δ' _ nb' ok.no pc) σ2 I4 H4 (k.trans (x.trans e14)) (n2.ext e4) _ fun r y I5 H5 pr e5 rs => ?_
          have iD5 : I5 D = none := e5.n D _ iD4 aD4 lst_tbl
          have aD5 : H5 D = some (.lst acc) := e5.h D _ nDb lst_tbl aD4
          cases r with
          | dat yd =>
            refine ⟨acc, aD5, Nat.lt_of_lt_of_le (by omega : acc.length < 100000) (by decide : 100000 ≤ sizeLine), I5, acc ++ [y], ys ++ [yd], (e14.trans e5).mut (fr_none hD) iD5 nDb aD5, iD5, upd_same, dpa_app (dpa_mono e5.i hd4) (.cons rs .nil), by rw [List.length_append]; simp; omega, ?_⟩
            have ez : (fun zs => P (.own (ys ++ [yd] ++ zs))) = fun zs => P (.own (ys ++ yd :: zs)) := by
              funext zs
              rw [List.append_assoc]
              rfl
            rw [ez]
            exact pr
          | own _ => exact (pr : False).elim
          | bor _ => exact (pr : False).elim
          | raw _ => exact (pr : False).elim
          | bag => exact (pr : False).elim
          | dct _ _ => exact (pr : False).elim
    · exact go'.elim
  · rintro Hk ⟨Ik, acc, ys, e, iD, aD, hd, al, go'⟩
    rw [List.drop_length] at go'
    unfold lcGo at go'
    rw [List.append_nil] at go'
    exact q _ _ Ik Hk go' (x.trans e) ⟨D, acc, rfl, x.free (fr_none hD), iD, nDb, aD, hd⟩
theorem all_e {ι : Type} {Xi : ι → Cx} {K : PySem.W.Frag} {S : Sg} {e : Expr} {de : DE} (hK : ∀ i, (Xi i).K = K) (h : ∀ i, JE (Xi i) S e de) : ∃ te, (∀ i, PE (Xi i) e te) ∧ DW.CE K S te de := by
  have h' : ∀ i, ∃ te, PE (Xi i) e te ∧ DW.CE K S te de := fun i => by
    obtain ⟨te, h1, h2⟩ := h i
    exact ⟨te, h1, hK i ▸ h2⟩
  refine ⟨fun σ H Q => ∀ i, Classical.choose (h' i) σ H Q, fun i => ⟨fun pins s σ H Q I q => (Classical.choose_spec (h' i)).1.run pins s σ H Q I (q i)⟩, fun b I0 H0 c δ P nb ok p σ I H k n Q q i => (Classical.choose_spec (h' i)).2 b I0 H0 c δ P nb ok p σ I H k n Q q⟩
theorem all_t {ι : Type} {Xi : ι → Cx} {K : PySem.W.Frag} {S : Sg} {es : List Expr} {de : DT} (hK : ∀ i, (Xi i).K = K) (h : ∀ i, ∃ t, PTs (Xi i) es t ∧ CT (Xi i).K S t de) : ∃ te, (∀ i, PTs (Xi i) es te) ∧ CT K S te de := by
  have h' : ∀ i, ∃ te, PTs (Xi i) es te ∧ CT K S te de := fun i => by
    obtain ⟨te, h1, h2⟩ := h i
    exact ⟨te, h1, hK i ▸ h2⟩
  refine ⟨fun σ H Q => ∀ i, Classical.choose (h' i) σ H Q, fun i => ⟨fun pins s σ H Q I q => (Classical.choose_spec (h' i)).1.run pins s σ H Q I (q i)⟩, fun b I0 H0 c δ P nb ok p σ I H k n Q q i => (Classical.choose_spec (h' i)).2 b I0 H0 c δ P nb ok p σ I H k n Q q⟩
theorem all_g {ι : Type} {Xi : ι → Cx} {K : PySem.W.Frag} {S : Sg} {Rl : Rel} {is : List Nat} {tg : Expr} {tf : Tf} (hK : ∀ i, (Xi i).K = K) (h : ∀ i, JG (Xi i) S Rl is tg tf) : ∃ g, (∀ i, PG (Xi i) tg g) ∧ ∀ b d δ δ', NB S.n δ → tf d δ = some δ' → TgD K b Rl g is d δ δ' := by
  have h' : ∀ i, ∃ g, PG (Xi i) tg g ∧ ∀ b d δ δ', NB S.n δ → tf d δ = some δ' → TgD K b Rl g is d δ δ' := fun i => by
    obtain ⟨te, h1, h2⟩ := h i
    exact ⟨te, h1, hK i ▸ h2⟩
  exact ⟨fun v σ H Q => ∀ i, Classical.choose (h' i) v σ H Q, fun i => ⟨fun pins s σ H v u Q I r q => (Classical.choose_spec (h' i)).1.run pins s σ H v u Q I r (q i)⟩, fun b d δ δ' nb e H0 I H σ v k n hd Q q i => (Classical.choose_spec (h' i)).2 b d δ δ' nb e H0 I H σ v k n hd Q q⟩
def JTs (X : Cx) (S : Sg) (es : List Expr) (dt : DT) : Prop := ∃ t, PTs X es t ∧ CT X.K S t dt
theorem jts_nil {X : Cx} {S : Sg} : JTs X S [] dYes := ⟨_, pts_nil, fun b I0 H0 c δ P nb ok p σ I H k n Q q => q true I H p k.re⟩
section
variable {X : Cx} {S : Sg} {elt tg iter : Expr} {ifs : List Expr} {scope : Scope} {own : List (Str × Nat)} {pos spos : Pos} {Rl : Rel} {is : List Nat} {di : DI} {tf : Tf} {dt : DT} {de : DE}
abbrev Blk := Shared × Hp × Addr × List (Str × Addr) × List Addr
abbrev Xb (X : Cx) (scope : Scope) (q : Blk) : Cx := X.blk q.1 q.2.1 scope (compEnvC scope q.2.2.2.1 q.2.2.1 X.env) q.2.2.2.2
theorem je_lc (hc : X.calm = true) (hN : X.N.Nodup) (hi : JI X S Rl tg iter di) (ok : BlkOk X.N X.env.scope scope own) (ho : TfOk S.n tf) (hg : ∀ q : Blk, JG (Xb X scope q) S Rl is tg tf) (his : ∀ v ∈ is, v ∈ own.map (·.2))
    (ht : ∀ q : Blk, JTs (Xb X scope q) S.no ifs dt) (he : ∀ q : Blk, JE (Xb X scope q) S.no elt de) (hs : ∀ x, foldedSetIterable iter X.env x = pure x := by intro _; rfl) : JE X S (.ListComp elt [⟨tg, iter, ifs, 0⟩] scope pos) (dLc di tf dt de (own.map (·.2))) := by
  obtain ⟨wi, i1, i2⟩ := hi
  obtain ⟨g, g1, g2⟩ := all_g (Xi := Xb X scope) (K := X.K) (fun _ => rfl) hg
  obtain ⟨tt, t1, t2⟩ := all_t (Xi := Xb X scope) (K := X.K) (fun _ => rfl) ht
  obtain ⟨te, e1, e2⟩ := all_e (Xi := Xb X scope) (K := X.K) (fun _ => rfl) he
  exact ⟨_, pe_lc hc hN i1 ok (fun s H C cl fp => g1 (s, H, C, cl, fp)) (fun s H C cl fp => t1 (s, H, C, cl, fp)) (fun s H C cl fp => e1 (s, H, C, cl, fp)) hs, ce_lc i2 ho g2 his t2 e2⟩
end
end DW
namespace DW
open PySem PySem.Spec PyProof.Rows L2 RZ DL
section
variable {K : PySem.W.Frag} {S : Sg}
theorem cs_next : CS K S tNext dNext := fun b I0 H0 c δ D nb ok p => sv_nil ⟨nb, p⟩
theorem cs_seq {t u : TS} {a d : DS} (h : CS K S t a) (h' : CS K S u d) : CS K S (tSeq t u) (dSeq a d) := fun b I0 H0 c δ D nb ok p =>
  sv_seq (N' := fun δ' => NB S.n δ' ∧ d c δ' D) (h b I0 H0 c δ _ nb ok p) fun δ' ⟨nb', p'⟩ => h' b I0 H0 c δ' D nb' ok p'
theorem cs_if {t : TT} {u w : TS} {dt : DT} {a d : DS} (ht : CT K S t dt) (h : CS K S u a) (h' : CS K S w d) : CS K S (tIfS t u w) (dIfS dt a d) := fun b I0 H0 c δ D nb ok p =>
  sv_if (A := fun v => if v = true then a c δ D else d c δ D) (ht b I0 H0 c δ _ nb ok p) (fun hA => h b I0 H0 c δ D nb ok hA) fun hA => h' b I0 H0 c δ D nb ok hA
theorem cs_asg {i : Nat} {te : TE} {de : DE} (hi : i < S.n) (h : DW.CE K S te de) : CS K S (tAsg te (gName i)) (dAsg i de) := fun b I0 H0 c δ D nb ok p =>
  sv_asg (h b I0 H0 c δ _ nb ok p) (by rw [nb.len]; exact hi) fun r hr => by
    cases r with
    | bor ds => exact hr.elim
    | dat d => exact ⟨(fun _ z => by cases z), nb_dat nb, hr⟩
    | own d => exact ⟨(fun _ z => by cases z), nb_own nb, hr⟩
    | raw d => exact ⟨(fun _ z => by cases z), nb_set nb (fun _ z => by cases z), hr⟩
    | bag => exact ⟨(fun _ z => by cases z), nb_set nb (fun _ z => by cases z), hr⟩
    | dct o kvs =>
      cases o with
      | true => exact ⟨(fun _ z => by cases z), nb_set nb (fun _ z => by cases z) (fun _ z => by cases z), hr⟩
      | false => exact hr.elim
theorem cs_ret {te : TE} {de : DE} (h : DW.CE K S te de) : CS K S (tRet te) (dRet de) := fun b I0 H0 c δ D nb ok p => sv_ret (h b I0 H0 c δ _ nb ok p) fun r hr => hr
theorem cs_retV {i : Nat} : CS K S (tRet (tVar i)) (dRetV i) := fun b I0 H0 c δ D nb ok p => by
  unfold dRetV at p
  split at p
  · exact p.elim
  · rename_i r nd er
    cases r with
    | dct o kvs => exact absurd rfl (nd o kvs)
    | own ds => exact sv_retO er p
    | bor ds => exact absurd er (noBor_at nb.nb i ds)
    | dat d => exact sv_ret (ev_var er) fun _ e => e ▸ p
    | raw d => exact sv_ret (ev_var er) fun _ e => e ▸ p
    | bag => exact sv_ret (ev_var er) fun _ e => e ▸ p
  · exact p.elim
theorem cs_expr {te : TE} {de : DE} (h : DW.CE K S te de) : CS K S (tDrop te) (dExpr de) := fun b I0 H0 c δ D nb ok p σ I H e n Dd a1 a2 a3 a4 =>
  h b I0 H0 c δ _ nb ok p σ I H e n _ fun r v I' H' hr x rs => a1 _ _ I' H' ⟨nb, hr⟩ (e.trans x) x.i (n.ext x)
theorem cs_for {Rl : Rel} {wi : TI} {g : TG} {tb : TS} {is : List Nat} {di : DI} {tf : Tf} {db : DS} (hi : CI K S Rl wi di) (ho : TfOk S.n tf) (hg : ∀ b d δ δ', NB S.n δ → tf d δ = some δ' → TgD K b Rl g is d δ δ') (hb : CS K S tb db) : CS K S (tFor wi g tb) (dFor di tf db) := fun b I0 H0 c δ D nb ok p =>
  sv_for (A := fun items => forGo c tf db D items δ) (hi b I0 H0 c δ _ nb ok p) fun items go => by
    refine ⟨fun k δk => NB S.n δk ∧ forGo c tf db D (items.drop k) δk, ⟨nb, go⟩, fun k d δk hd h => ?_, fun δn h => ?_⟩
    · obtain ⟨nbk, h⟩ := h
      have hk : k < items.length := (List.getElem?_eq_some_iff.mp hd).1
      rw [List.drop_eq_getElem_cons hk] at h
      have e : items[k] = d := (List.getElem?_eq_some_iff.mp hd).2
      rw [e] at h
      unfold forGo at h
      split at h
      · rename_i δ' et
        have nb' := ho d δk δ' nbk et
        exact ⟨δ', is, hg b d δk δ' nbk et, hb b I0 H0 c δ' _ nb' ok h⟩
      · exact h.elim
    · obtain ⟨nbn, h⟩ := h
      rw [List.drop_length] at h
      exact ⟨nbn, h⟩
end
section
variable (K : PySem.W.Frag) (b : Bg) (I0 H0 : Hp)
def GvD (g : TG) (δ : En) (d : PyData) (N : En → Prop) : Prop := ∀ (σ : L2.St) (I H : Hp) (v : V), Ext K b I0 H0 I H → EnvR K b H0 I H σ δ → Dp K I v d → ∀ Q : L2.St → Hp → Prop,
  (∀ δ' σ' I' H', N δ' → Ext K b I0 H0 I' H' → Same I I' → EnvR K b H0 I' H' σ' δ' → Q σ' H') → g v σ H Q
def GsD (g : TGs) (δ : En) (ds : List PyData) (N : En → Prop) : Prop := ∀ (σ : L2.St) (I H : Hp) (vs : List V), Ext K b I0 H0 I H → EnvR K b H0 I H σ δ → DpAll K I vs ds → ∀ Q : L2.St → Hp → Prop,
  (∀ δ' σ' I' H', N δ' → Ext K b I0 H0 I' H' → Same I I' → EnvR K b H0 I' H' σ' δ' → Q σ' H') → g vs σ H Q
end
def CG (K : PySem.W.Frag) (S : Sg) (g : TG) (dg : DG) : Prop := ∀ b I0 H0 c δ d N, NB S.n δ → Cok K S b I0 H0 c → dg c δ d N → GvD K b I0 H0 g δ d (fun δ' => NB S.n δ' ∧ N δ')
def CGs (K : PySem.W.Frag) (S : Sg) (g : TGs) (dg : DGs) : Prop := ∀ b I0 H0 c δ ds N, NB S.n δ → Cok K S b I0 H0 c → dg c δ ds N → GsD K b I0 H0 g δ ds (fun δ' => NB S.n δ' ∧ N δ')
section
variable {K : PySem.W.Frag} {S : Sg}
theorem cg_name {i : Nat} (hi : i < S.n) : CG K S (gName i) (dGName i) := fun b I0 H0 c δ d N nb ok p σ I H v e n hd Q q =>
  q _ _ I H ⟨nb_dat nb, p⟩ e (Same.refl I) (n.setD (by rw [nb.len]; exact hi) (r := .dat d) hd (fun _ z => by cases z))
theorem cgs_nil : CGs K S gNil dGNil := fun b I0 H0 c δ ds N nb ok p σ I H vs e n hd Q q => by
  unfold dGNil at p
  split at p
  · cases hd
    exact ⟨rfl, q _ _ I H ⟨nb, p⟩ e (Same.refl I) n⟩
  · exact p.elim
theorem cgs_cons {g : TG} {gs : TGs} {dg : DG} {dgs : DGs} (h : CG K S g dg) (h' : CGs K S gs dgs) : CGs K S (gCons g gs) (dGCons dg dgs) := fun b I0 H0 c δ ds N nb ok p σ I H vs e n hd Q q => by
  unfold dGCons at p
  split at p
  · cases hd with
    | @cons v vs _ _ hv hvs =>
      exact ⟨v, vs, rfl, h b I0 H0 c δ _ _ nb ok p σ I H v e n hv _ fun δ' σ' I' H' ⟨nb', p'⟩ e' s' n' => h' b I0 H0 c δ' _ N nb' ok p' σ' I' H' vs e' n' (dpa_mono s' hvs) Q fun δ2 σ2 I2 H2 p2 e2 s2 n2 => q δ2 σ2 I2 H2 p2 e2 (s'.trans s2) n2⟩
  · exact p.elim
theorem cg_tup {m : Nat} {gs : TGs} {dgs : DGs} (h : CGs K S gs dgs) : CG K S (gTup K m gs) (dGTup m dgs) := fun b I0 H0 c δ d N nb ok p σ I H v e n hd Q q => by
  unfold dGTup at p
  split at p
  · cases hd with
    | @tup a xs _ hs ha =>
      exact ⟨a, xs, rfl, st_mono e.s hs, by rw [dpa_len ha]; exact p.1, h b I0 H0 c δ _ N nb ok p.2 σ I H xs e n ha Q q⟩
  · exact p.elim
theorem cs_asgG {te : TE} {g : TG} {de : DE} {dg : DG} (h : DW.CE K S te de) (hg : CG K S g dg) : CS K S (tAsg te g) (dAsgG de dg) := fun b I0 H0 c δ D nb ok p σ I H e n Dd a1 a2 a3 a4 =>
  ev_fz (Q := fun r => match r with
    | .dat d => dg c δ d D.nx
    | _ => False) (h b I0 H0 c δ _ nb ok p) σ I H e n _ fun r v I' H' hr x rs => by
    dsimp only at hr
    split at hr
    · exact hg b I0 H0 c δ _ _ nb ok hr σ I' H' v (e.trans x) (n.ext x) rs _ fun δ' σ' I2 H2 p2 e2 s2 n2 => a1 δ' σ' I2 H2 p2 e2 (x.i.trans s2) n2
    · exact hr.elim
end
theorem scV_ok {K : PySem.W.Frag} {b : Bg} {H0 I H : Hp} {v w : V} {r : DV} (e : scV r = some w) (h : Res K b H0 I H v r) : v = w := by
  unfold scV at e
  split at e
  · cases e; exact non_read h
  · cases e; exact bl_read h
  · cases e; exact int_read h
  · cases e; exact str_read h
  · cases e
theorem scVs_ok {K : PySem.W.Frag} {b : Bg} {H0 I H : Hp} : ∀ {vs ws : List V} {rs : List DV}, scVs rs = some ws → ResA K b H0 I H vs rs → vs = ws
  | _, _, [], e, .nil => by cases e; rfl
  | _, _, r :: rs, e, .cons q t => by
    unfold scVs at e
    cases e1 : scV r with
    | none => rw [e1] at e; cases e
    | some v =>
      cases e2 : scVs rs with
      | none => rw [e1, e2] at e; cases e
      | some vs =>
        rw [e1, e2] at e
        cases e
        rw [scV_ok e1 q, scVs_ok e2 t]
theorem cs_raise {K : PySem.W.Frag} {S : Sg} {x : Nat} {m : Nat} {mk : List V → List (Str × V)} {ta : TA} {da : DA} (hm : m ≤ 1000) (ha : CA K S m ta da) : CS K S (fun _ σ H => tMkO (S.cls x) (spInit (S.cls x) m mk) [] ta σ H fun cls d H' => S.E cls d H') (dRaise x mk da) := fun b I0 H0 c δ D nb ok p σ I H e n Dd _ _ _ _ =>
  ha b I0 H0 c δ _ nb ok p σ I H e n _ fun rs ws I1 H1 pr x' r => by
    obtain ⟨hl, pr⟩ := pr
    split at pr
    · rename_i vs evs
      have ew := scVs_ok evs r
      subst ew
      have hlv : ws.length = m := by rw [resA_len r]; exact hl
      refine ⟨by omega, fun a na => ?_⟩
      rw [List.append_nil]
      refine ⟨a, ws, rfl, hlv, upd_same, fun dx H' nd ne h1 h2 h3 => ⟨rfl, dx, mk ws, h1, h2, ?_, ?_⟩⟩
      · rw [upd_ne ne] at nd
        exact nd
      · have nd' : H1 dx = none := by rw [upd_ne ne] at nd; exact nd
        have eG : upd (del H' a) dx (.xd (mk ws)) = upd H1 dx (.xd (mk ws)) := by
          funext c
          by_cases z : c = dx
          · rw [z, upd_same, upd_same]
          · rw [upd_ne z, upd_ne z]
            by_cases z2 : c = a
            · rw [z2, del_same, na]
            · rw [del_ne z2, h3 c z2 z, upd_ne z2]
        rw [eG]
        exact ok.xw _ (mk ws) dx I1 _ ⟨x, rfl, pr⟩ ((e.trans x').trans (x'.ok.newH nd')) (x'.ok.inone nd') upd_same
    · exact pr.elim
section
variable {X : Cx} {S : Sg} {e a b tg iter : Expr} {de : DE} {pos : Pos} {st : Stmt} {sts : List Stmt} {d d' : DS}
theorem jss_nil : JSs X S [] dNext := ⟨_, pss_nil, cs_next⟩
theorem jss_one (h : JS X S st d) : JSs X S [st] d := by
  obtain ⟨t, h1, h2⟩ := h
  exact ⟨_, pss_one h1, h2⟩
theorem jss_cons (h : JS X S st d) (h' : JSs X S sts d') : JSs X S (st :: sts) (dSeq d d') := by
  obtain ⟨t, h1, h2⟩ := h
  obtain ⟨u, h3, h4⟩ := h'
  exact ⟨_, pss_cons h1 h3, cs_seq h2 h4⟩
theorem js_if {c : Expr} {u v : List Stmt} {dt : DT} (hc : JT X S c dt) (h : JSs X S u d) (h' : JSs X S v d') : JS X S (.If c u v pos) (dIfS dt d d') := by
  obtain ⟨t, t1, t2⟩ := hc
  obtain ⟨t', h1, h2⟩ := h
  obtain ⟨u', h3, h4⟩ := h'
  exact ⟨_, ps_if t1 h1 h3, cs_if t2 h2 h4⟩
theorem js_ret (h : JE X S e de) : JS X S (.Return (some e) pos) (dRet de) := by
  obtain ⟨t, h1, h2⟩ := h
  exact ⟨_, ps_ret h1, cs_ret h2⟩
theorem js_retV {i : Nat} (h : PE X e (tVar i)) : JS X S (.Return (some e) pos) (dRetV i) := ⟨_, ps_ret h, cs_retV⟩
theorem js_expr (h : JE X S e de) (hs : swapsWith e none pos.line X.env = pure false := by rfl) : JS X S (.Expr e pos) (dExpr de) := by
  obtain ⟨t, h1, h2⟩ := h
  exact ⟨_, ps_expr h1 hs, cs_expr h2⟩
theorem js_set {i : Nat} {x : Str} {pos' : Pos} (hN : X.N.Nodup) (hx : X.N[i]? = some x) (hi : i < S.n) (h : JE X S e de) (hp : ∀ te, PE X e te → PS X (.Assign [.Name x pos'] e pos) (tAsg te (gName i))) : JS X S (.Assign [.Name x pos'] e pos) (dAsg i de) := by
  obtain ⟨t, h1, h2⟩ := h
  exact ⟨_, hp t h1, cs_asg hi h2⟩
theorem js_setLc {i : Nat} {y : Str} {py : Pos} {elt tg iter : Expr} {ifs : List Expr} {scope : Scope} {own : List (Str × Nat)} {spos : Pos} {Rl : Rel} {is : List Nat} {di : DI} {tf : Tf} {dt : DT} (hc : X.calm = true) (hN : X.N.Nodup) (hy : X.N[i]? = some y) (hyl : X.env.scope.names.lookup y = some .local)
    (hsw : swapsWith (.ListComp elt [⟨tg, iter, ifs, 0⟩] scope pos) (some (.Name y py)) spos.line X.env = pure true) (hin : i < S.n) (hi : JI X S Rl tg iter di) (ok : BlkOk X.N X.env.scope scope own) (ho : TfOk S.n tf) (hg : ∀ q : Blk, JG (Xb X scope q) S Rl is tg tf) (his : ∀ v ∈ is, v ∈ own.map (·.2))
    (ht : ∀ q : Blk, JTs (Xb X scope q) S.no ifs dt) (he : ∀ q : Blk, JE (Xb X scope q) S.no elt de) (hs : ∀ x, foldedSetIterable iter X.env x = pure x := by intro _; rfl) :
    JS X S (.Assign [.Name y py] (.ListComp elt [⟨tg, iter, ifs, 0⟩] scope pos) spos) (dAsg i (dLc di tf dt de (own.map (·.2)))) := by
  obtain ⟨wi, i1, i2⟩ := hi
  obtain ⟨g, g1, g2⟩ := all_g (Xi := Xb X scope) (K := X.K) (fun _ => rfl) hg
  obtain ⟨tt, t1, t2⟩ := all_t (Xi := Xb X scope) (K := X.K) (fun _ => rfl) ht
  obtain ⟨te, e1, e2⟩ := all_e (Xi := Xb X scope) (K := X.K) (fun _ => rfl) he
  exact ⟨_, ps_setLc hc hN hy hyl hsw i1 ok (fun s H C cl fp => g1 (s, H, C, cl, fp)) (fun s H C cl fp => t1 (s, H, C, cl, fp)) (fun s H C cl fp => e1 (s, H, C, cl, fp)) hs, cs_asg hin (ce_lc i2 ho g2 his t2 e2)⟩
theorem js_for {Rl : Rel} {is : List Nat} {di : DI} {tf : Tf} {body : List Stmt} {db : DS} (hp : PassesOwn (model X.prog X.w) X.A X.env X.xe) (hc : X.calm = true) (hi : JI X S Rl tg iter di) (ho : TfOk S.n tf) (hg : JG X S Rl is tg tf) (hb : JSs X S body db)
    (hps : ∀ wi g tb, PI X tg iter wi → PG X tg g → PSs X body tb → PS X (.For tg iter body [] pos) (tFor wi g tb)) : JS X S (.For tg iter body [] pos) (dFor di tf db) := by
  obtain ⟨wi, i1, i2⟩ := hi
  obtain ⟨g, g1, g2⟩ := hg
  obtain ⟨tb, b1, b2⟩ := hb
  exact ⟨_, hps wi g tb i1 g1 b1, cs_for i2 ho g2 b2⟩
def JGt (X : Cx) (S : Sg) (tg : Expr) (dg : DG) : Prop := ∃ g, PG X tg g ∧ CG X.K S g dg
def JGs (X : Cx) (S : Sg) (ts : List Expr) (dg : DGs) : Prop := ∃ g, PGs X ts g ∧ CGs X.K S g dg
theorem jt_gname {i : Nat} (h : PG X tg (gName i)) (hi : i < S.n) : JGt X S tg (dGName i) := ⟨_, h, cg_name hi⟩
theorem jgs_nil : JGs X S [] dGNil := ⟨_, pgs_nil, cgs_nil⟩
theorem jgs_cons {es : List Expr} {dg : DG} {dgs : DGs} (h : JGt X S e dg) (h' : JGs X S es dgs) (hs : (assignEach (e :: es) X.env).map (·.2) = assign e X.env :: (assignEach es X.env).map (·.2) := by rfl) : JGs X S (e :: es) (dGCons dg dgs) := by
  obtain ⟨g, h1, h2⟩ := h
  obtain ⟨gs, h3, h4⟩ := h'
  exact ⟨_, pgs_cons h1 h3 hs, cgs_cons h2 h4⟩
theorem jt_gtup {es : List Expr} {k n : Nat} {dgs : DGs} (hc : X.calm = true) (h : JGs X S es dgs) (hn : (assignEach es X.env).length = n := by rfl) (hst : (assignEach es X.env).findIdx? (·.1) = none := by rfl) : JGt X S (.Tuple es k pos) (dGTup n dgs) := by
  obtain ⟨gs, h1, h2⟩ := h
  exact ⟨_, pg_tup hc h1 hn hst, cg_tup h2⟩
theorem js_asg {dg : DG} (h : JE X S e de) (hg : JGt X S tg dg) (hs : swapsWithSole [tg] e pos.line X.env = pure false := by rfl) (hw : swappedStores [tg] e X.env = pure none := by rfl) (h1 : (assignEach [tg] X.env).map (·.2) = [assign tg X.env] := by rfl) : JS X S (.Assign [tg] e pos) (dAsgG de dg) := by
  obtain ⟨t, a1, a2⟩ := h
  obtain ⟨g, g1, g2⟩ := hg
  exact ⟨_, ps_asg a1 g1 hs hw h1, cs_asgG a2 g2⟩
theorem js_raise {x : Nat} {es : List Expr} {mk : List V → List (Str × V)} {da : DA} (ha : JA X S es da) (hm : es.length ≤ 1000) (hp : ∀ ta, PA X es ta → PS X st (fun _ σ H => tMkO (S.cls x) (spInit (S.cls x) es.length mk) [] ta σ H fun cls d H' => S.E cls d H')) : JS X S st (dRaise x mk da) := by
  obtain ⟨t, h1, h2⟩ := ha
  exact ⟨_, hp t h1, cs_raise hm h2⟩
end
theorem nb_args {n : Nat} {N : List Str} {rs : List DV} (h : rs.all isPl = true) (hl : rs.length = n) (hn : n ≤ N.length) : NB N.length (envOf N rs) := by
  refine ⟨?_, ?_⟩
  · unfold DL.envOf
    rw [List.length_append, List.length_map, List.length_replicate]
    omega
  · unfold DL.envOf noBor
    rw [List.all_append, Bool.and_eq_true_iff]
    constructor
    · rw [List.all_map, List.all_eq_true]
      intro r hr
      have := List.all_eq_true.mp h r hr
      cases r with
      | bor _ => cases this
      | dct _ _ => cases this
      | _ => rfl
    · rw [List.all_eq_true]
      intro x hx
      rw [(List.mem_replicate.mp hx).2]
theorem fn_w {P : Program} {w : World} {K : PySem.W.Frag} {mg : Str → Option Value} {base : Heap} {cls fa : Nat → Addr} {x qual : Str} {st : Stmt} {f : Addr} {fd : FuncData} {N ps : List Str} {k : Nat} {D : DS} (n m : Nat) (F : Fun K x qual st f fd) (Sc : FnScope N ps (defScope st)) (hn : ps.length = n) (hm : N.length = m) (hnm : n ≤ m)
    (hbody : ∀ (cdv : Value) (A : Around) (outer : List PySem.Env) (s : Shared) (H : Hp) (E : XK), Room k (A.deeper (envOfC qual (defScope st) s.heap.objs.size f cdv)) →
      JSs (cxOf (L2.CX P w) P w K mg base N qual (defScope st) f cdv A outer s H E) ⟨m, E, cls, fa, fun _ => True⟩ (defBody st) D) :
    FnOk P w K mg base (L2.CX P w) (k + 1) f fd ps (spW K cls fa (wFn n m D)) := by
  subst hm
  refine fn_okX F Sc (fun a ha => ?_) fun cdv A outer s H E hr => ?_
  · rw [hn]
    exact ha.2.2.1
  · obtain ⟨t, h1, h2⟩ := hbody cdv A outer s H E hr
    refine ⟨t, h1, fun b I a ha xw => ?_⟩
    obtain ⟨hfa, hpl, hl, hD⟩ := ha
    have e : envOf N a.1 = a.1.map some ++ List.replicate (N.length - n) none := by
      unfold DL.envOf
      rw [hl]
    have := h2 b I H a.2.2 (envOf N a.1) ⟨fun _ => a.2.1 (.dat .none), a.2.1, fun _ => False, fun _ => False⟩ (nb_args hpl hl hnm) ⟨hfa, xw, True.intro⟩ (by rw [e]; exact hD)
    exact this.mono (fun d hd => hd.2) (fun r hr => hr) (fun d hd => hd.2) fun d hd => hd.2
end DW
namespace DW
open PySem PySem.Spec PyProof.Rows L2 RZ DL
theorem units65 {k : Nat} {A : Around} (r : Room k A) : A.units + 65 < cLine := by
  have := r.un
  omega
theorem passE0 {X : Cx} : Passes (L2.CX X.prog X.w) X (fun _ _ _ => False) := fun _ _ _ _ _ _ _ c => by
  obtain ⟨_, _, _, _, _, _, _, _, _, _, _, _, h⟩ := c
  exact h.elim
theorem fn_to {P : Program} {w : World} {K : PySem.W.Frag} {mg : Str → Option Value} {base : Heap} {cls fa : Nat → Addr} {k : Nat} {f : Addr} {fd : FuncData} {ps : List Str} {α : Type} {args : α → List DV} {ok : α → Prop} {out : α → DV → Prop} {W : Wt} (F : FnOk P w K mg base CX0 k f fd ps (spD K args ok out noX))
    (h : ∀ rs Q c, W rs Q c → ∃ a, rs = args a ∧ ok a ∧ ∀ r, out a r → Q r) : FnOk P w K mg base (L2.CX P w) k f fd ps (spW K cls fa W) := by
  have to : ∀ vs H Q E, spW K cls fa W vs H Q E → spD K args ok out noX vs H Q E := fun vs H Q E hs => by
    obtain ⟨⟨rs, R, c⟩, b, I, k, r, ⟨_, _, hw⟩, q, _⟩ := hs
    obtain ⟨a, e, ho, hout⟩ := h rs R c hw
    have e : rs = args a := e
    subst e
    exact ⟨a, b, I, k, r, ho, fun z v I' H' o => q z v I' H' (hout z o), fun _ _ _ _ _ z => z.elim⟩
  refine ⟨fun vs H Q E hs => F.len vs H Q E (to vs H Q E hs), fun A outer s H ar us vs Q E hr h0 hb hv hs => ?_⟩
  refine codeAny_mono (F.run A outer s H ar us vs Q E hr h0 hb hv (to vs H Q E hs)) fun r s' hr => ?_
  unfold CR at hr ⊢
  split at hr
  · exact hr
  · exact hr.elim
  · exact (hr : False).elim
def W_take : Wt := fun rs P _ => match rs with
  | [.bag, .dat (.int n)] => okTake n ∧ ∀ i, 0 ≤ i → i < n → P (dint i)
  | _ => False
theorem take_to : ∀ rs Q c, W_take rs Q c → ∃ a, rs = aTake a ∧ okTake a ∧ ∀ r, outTake a r → Q r := fun rs Q c h => by
  unfold W_take at h
  split at h
  · exact ⟨_, rfl, h.1, fun r ⟨i, e, h0, h1⟩ => e ▸ h.2 i h0 h1⟩
  · exact h.elim
end DW
namespace DW
open PySem PySem.Spec PyProof.Rows L2 RZ DL
theorem fn_none {P : Program} {w : World} {K : PySem.W.Frag} {mg : Str → Option Value} {base : Heap} {cls fa : Nat → Addr} {k : Nat} {f : Addr} {fd : FuncData} {ps : List Str} : FnOk P w K mg base (L2.CX P w) k f fd ps (spW K cls fa (fun _ _ _ => False)) :=
  ⟨fun vs H Q E ⟨_, _, _, _, _, h, _⟩ => h.2.2.elim, fun A outer s H ar us vs Q E hr h0 hb hv ⟨_, _, _, _, _, h, _⟩ => h.2.2.elim⟩
end DW
namespace DW
open PySem PySem.Spec PyProof.Rows L2 RZ DL
def dIndex (do_ de : DE) : DE := fun c δ P => do_ c δ fun x => match toD x with
  | some (.list ds) => de c δ fun y => match fz y with
    | .dat d => (SeqAt.shaped (.list ds) = true ∧ SeqAt.shaped d = true) ∧ ∃ (j : Nat) (z : PyData), ds[j]? = some z ∧ PyData.eqv z d = true ∧ (∀ (m : Nat) (z' : PyData), m < j → ds[m]? = some z' → PyData.eqv z' d = false) ∧ P (dint j)
    | _ => False
  | _ => False
theorem je_index {X : Cx} {S : Sg} {o e : Expr} {do_ de : DE} {apos cpos : Pos} (hu : X.A.units + 65 < cLine) (ho : JE X S o do_) (he : JE X S e de)
    (hp : ∀ to te, PE X o to → PE X e te → PE X (.Call (.Attribute o "index" apos) [e] [] cpos) (tBM X.K "list" (rIndexD X.K) to (tCons te tNil))) : JE X S (.Call (.Attribute o "index" apos) [e] [] cpos) (dIndex do_ de) := by
  obtain ⟨t, o1, o2⟩ := ho
  obtain ⟨u, e1, e2⟩ := he
  refine ⟨_, hp t u o1 e1, fun b I0 H0 c δ P nb ok p σ I H k n Q q => ?_⟩
  refine o2 b I0 H0 c δ _ nb ok p σ I H k n _ fun r v I1 H1 hr x rs => ?_
  split at hr
  · rename_i ds er
    have dx := toD_ok x.s er rs
    have dx' := dx
    cases dx with
    | @lst a xs _ hs hd =>
      refine ⟨.inl ⟨rfl, _, hs⟩, ?_⟩
      refine ev_fz (Q := fun y => match y with
        | .dat d => (SeqAt.shaped (.list ds) = true ∧ SeqAt.shaped d = true) ∧ ∃ (j : Nat) (z : PyData), ds[j]? = some z ∧ PyData.eqv z d = true ∧ (∀ (m : Nat) (z' : PyData), m < j → ds[m]? = some z' → PyData.eqv z' d = false) ∧ P (dint j)
        | _ => False) (e2 b I0 H0 c δ _ nb ok hr) σ I1 H1 (k.trans x) (n.ext x) _ fun r2 v2 I2 H2 p2 x2 rs2 => ?_
      dsimp only at p2
      split at p2
      · rename_i d
        obtain ⟨⟨s1, s2⟩, j, z, h1, h2, h3, h4⟩ := p2
        exact ⟨a, v2, d, ds, j, z, rfl, rfl, toD_ok x2.s er (rs.ext x2), dp_mono x2.s rs2, s1, s2, h1, h2, h3, q _ _ I2 H2 h4 (x.trans x2) (Dp.int _)⟩
      · exact p2.elim
  · exact hr.elim
end DW
namespace DW
open PySem PySem.Spec PyProof.Rows L2 RZ DL
end DW
namespace DW
open PySem PySem.Spec PyProof.Rows L2 RZ DL
def AftOk (K : PySem.W.Frag) (cls : Nat → Addr) (After : Addr → List (Str × V) → Hp → VK → Prop) (aft : Nat → List (Str × V) → Option PyData) : Prop :=
  ∀ s fs d, aft s fs = some d → ∀ (b : Bg) (I' H' : Hp) (Q : VK), Ok K b I' H' → (∀ v I'' H'', Ext K b I' H' I'' H'' → Dp K I'' v d → Q v H'') → After (cls s) fs H' Q
theorem passLamJ {X : Cx} {A : Around} {outer : List PySem.Env} {s : Shared} {H : Hp} {E : XK} {scope : Scope} {f c' : Addr} : Passes (L2.CX (LamX.lamCx X A outer s H E scope f c').prog (LamX.lamCx X A outer s H E scope f c').w) (LamX.lamCx X A outer s H E scope f c') E := passLam (X := X) (A := A) (outer := outer) (s := s) (H := H) (E := E) (scope := scope) (f := f) (c' := c')
def vD : V → Option PyData
  | .int i => some (.int i)
  | .str s => some (.str s)
  | .bl c => some (.bool c)
  | .non => some .none
  | _ => none
theorem vD_dp {K : PySem.W.Frag} {I : Hp} {v : V} {d : PyData} (h : vD v = some d) : Dp K I v d := by
  cases v with
  | int i => cases h; exact .int i
  | str s => cases h; exact .str s
  | bl c => cases h; exact .bl c
  | non => cases h; exact .non
  | _ => cases h
end DW
namespace DZ
open PySem PySem.Spec PyProof.Rows L2 RZ DL
end DZ
set_option maxHeartbeats 1000000
namespace DZ
open PySem PySem.Spec PyProof.Rows L2 RZ DL
end DZ
namespace DW
open PySem PySem.Spec PyProof.Rows L2 RZ DL DZ
def tfNest (i j k : Nat) : Tf := fun d δ => match d with
  | .tuple [a, .tuple [b, c]] => some (((δ.set i (some (.dat a))).set j (some (.dat b))).set k (some (.dat c)))
  | _ => none
theorem to_nest {n i j k : Nat} : TfOk n (tfNest i j k) := fun d δ δ' nb e => by
  unfold tfNest at e
  split at e
  · cases e
    exact nb_dat (nb_dat (nb_dat nb))
  · cases e
end DW
namespace DW
open PySem PySem.Spec PyProof.Rows L2 RZ DL
def pkD (is : List Nat) {α : Type} (ms vs ws : List α) : List α := pk is vs (ws ++ ms)
theorem pkD_rel (is : List Nat) {vs mz zs : List V} {us mv ws : List Value} (h : Vals vs us) (hm : Vals mz mv) (h' : Vals zs ws) : Vals (pkD is mz vs zs) (pkD is mv us ws) := pk_rel is h (vals_app h' hm)
end DW
namespace DW
open PySem PySem.Spec PyProof.Rows L2 RZ DL DZ
theorem jg_nestP {X : Cx} {S : Sg} {i j k : Nat} {tg : Expr} (h : PG X tg (gTup X.K 2 (gCons (gName i) (gCons (gTup X.K 2 (gCons (gName j) (gCons (gName k) gNil))) gNil)))) (hi : i < S.n) (hj : j < S.n) (hk : k < S.n) : JG X S (PairR X.K) [i, j, k] tg (tfNest i j k) := ⟨_, h, fun b d δ δ' nb e => by
  unfold tfNest at e
  split at e
  · rename_i a b' c
    cases e
    have li : i < δ.length := by rw [nb.len]; exact hi
    have lj : j < δ.length := by rw [nb.len]; exact hj
    have lk : k < δ.length := by rw [nb.len]; exact hk
    intro H0 I H σ v kk n hd Q q
    obtain ⟨T, x1, x2, d1, d2, rfl, hT, ed, h1, h2⟩ := hd
    cases ed
    cases h2 with
    | @tup T1 xs _ hs ha =>
      cases ha with
      | @cons v1 _ _ _ g1 ha =>
        cases ha with
        | @cons v2 _ _ _ g2 ha =>
          cases ha
          refine ⟨T, [x1, .ref T1], rfl, .inl (.inl hT), rfl, x1, [.ref T1], rfl, .ref T1, [], rfl, T1, [v1, v2], rfl, st_mono kk.s hs, rfl, v1, [v2], rfl, v2, [], rfl, rfl, rfl, q _ ?_ (fun z hz => ?_) ?_⟩
          · exact ((n.setD li (r := .dat a) h1 (fun _ z => by cases z)).setD (by rw [List.length_set]; exact lj) (r := .dat b') g1 (fun _ z => by cases z)).setD (by rw [List.length_set, List.length_set]; exact lk) (r := .dat c) g2 (fun _ z => by cases z)
          · have n1 : z ≠ i := fun u => hz (by simp [u])
            have n2 : z ≠ j := fun u => hz (by simp [u])
            have n3 : z ≠ k := fun u => hz (by simp [u])
            rw [List.getElem?_set_ne (fun u => n3 u.symm), List.getElem?_set_ne (fun u => n2 u.symm), List.getElem?_set_ne (fun u => n1 u.symm)]
          · rw [List.length_set, List.length_set, List.length_set]
  · cases e⟩
end DW
set_option maxHeartbeats 4000000
namespace DW
open PySem PySem.Spec PyProof.Rows L2 RZ DL
end DW
namespace DW
open PySem PySem.Spec PyProof.Rows L2 RZ DL
end DW
namespace DL
open PySem PySem.Spec PyProof.Rows L2
end DL
namespace DW
open PySem PySem.Spec PyProof.Rows L2 RZ DL
end DW
namespace DL
open PySem PySem.Spec PyProof.Rows L2 RZ
end DL
namespace DW
open PySem PySem.Spec PyProof.Rows L2 RZ DL
end DW
namespace DW
open PySem PySem.Spec PyProof.Rows L2 RZ DL
end DW
namespace DW
open PySem PySem.Spec PyProof.Rows L2 RZ DL
end DW
namespace DW
open PySem PySem.Spec PyProof.Rows L2 RZ DL
end DW
namespace DW
open PySem PySem.Spec PyProof.Rows L2 RZ DL
end DW
namespace DW
open PySem PySem.Spec PyProof.Rows L2 RZ DL
end DW
namespace DW
open PySem PySem.Spec PyProof.Rows L2 RZ DL
end DW
namespace DL
open PySem PySem.Spec PyProof.Rows L2
end DL
set_option maxHeartbeats 1000000
namespace DW
open PySem PySem.Spec PyProof.Rows L2 RZ DL
end DW
namespace HX
open PySem PySem.Spec PyProof.Rows L2 DL DW
theorem fun_of {K : PySem.W.Frag} {x q : Str} {st : Stmt} {kws : List (Str × V)} {f : Addr} {fd : FuncData} (F : FunD K x q (defArgs st) (defBody st) (defScope st) [] kws f fd) : Fun K x q st f fd := by
  obtain ⟨oc, od, dV, kV, doc, pm, an, cdv, ct, osl, e, lk, cd, d, _⟩ := F.ex
  have e2 : dV = .none := by
    rcases d with ⟨_, h⟩ | ⟨h, _⟩
    · exact h
    · exact absurd rfl h
  subst e2
  exact ⟨⟨oc, od, kV, doc, pm, an, cdv, ct, osl, e, lk, cd⟩, F.kp⟩
theorem exB_ok {K : PySem.W.Frag} {C : Addr} (h : exB K C = true) : ∃ nm q N bs bm sn sub ab col dd k0 k1 k2 k3 k5, K.lookup C = some (excClassObj nm q C N bs bm true sn sub ab col dd k0 k1 k2 k3 k5 "ValueError.__new__") ∧ PySem.HandSPX.refsVE bm = true := by
  unfold exB at h
  split at h
  · rename_i c dd cd sl ho
    split at h
    · rename_i C' bm k0 k1 k2 k3 n k5 hm hs
      obtain ⟨h1, h⟩ := He.ba h
      obtain ⟨h2, h⟩ := He.ba h
      obtain ⟨h3, h⟩ := He.ba h
      obtain ⟨h4, h⟩ := He.ba h
      obtain ⟨h5, h6⟩ := He.ba h
      have e1 := of_decide_eq_true h1
      have e2 := of_decide_eq_true h2
      have e3 := of_decide_eq_true h3
      subst e1 e2 e3
      obtain ⟨nm, bs, mro, ns, qn, hd, sn, sub, ab, col, del⟩ := cd
      dsimp only at hm h4 h5
      have h4' : del = false := by simpa using h4
      subst hm h4' h5
      have hsl : sl = #[k0, k1, k2, k3, some (.builtin "ValueError.__new__"), k5] := by
        obtain ⟨l⟩ := sl
        simp only at hs
        rw [hs]
      subst hsl
      exact ⟨_, _, _, _, bm, _, _, _, _, _, _, _, _, _, _, ho, h6⟩
    · cases h
  · cases h
structure ClsG (K : PySem.W.Frag) (C fI : Addr) (fs : List Str) : Prop where
  o : OexC K C
  f : XfC K C
  ti : PySem.W.typeIn K (.ref fI) = some (.type "function")
  ii : PySem.W.findIn K (.ref C) "__init__" = some (some (.ref fI))
  nf : ∀ f ∈ fs, PySem.W.findIn K (.ref C) f = some none
theorem clsX_ok {K : PySem.W.Frag} {x : Str} {fs : List Str} (h : clsX K x fs = true) : ClsG K (He.ga K x) (He.ma K (He.ga K x) "__init__") fs := by
  obtain ⟨h1, h⟩ := He.ba h
  obtain ⟨h2, h⟩ := He.ba h
  obtain ⟨h3, h⟩ := He.ba h
  obtain ⟨h4, h⟩ := He.ba h
  obtain ⟨h5, h⟩ := He.ba h
  obtain ⟨h6, h⟩ := He.ba h
  obtain ⟨h7, h⟩ := He.ba h
  obtain ⟨h8, h⟩ := He.ba h
  exact ⟨⟨exB_ok h1, He.eqO_ok h2, of_decide_eq_true h3, of_decide_eq_true h4, h5⟩, xfB_ok h6, of_decide_eq_true h7, He.eqO_ok h8, fun f hf => He.eqO_ok (List.all_eq_true.mp h f hf)⟩
end HX
set_option maxHeartbeats 4000000
namespace Lw
open PySem PySem.Spec PyProof.Rows L2 DL DW
abbrev N_look_sizes : List Str := ["sizes", "cask", "size"]
theorem sc_look_sizes : FnScope N_look_sizes ["sizes"] (defScope s_look_sizes) := ⟨rfl, rfl, rfl, by decide +kernel, rfl, by decide +kernel, by decide +kernel⟩
abbrev N_look_counts : List Str := ["sizes", "counts"]
theorem sc_look_counts : FnScope N_look_counts ["sizes", "counts"] (defScope s_look_counts) := ⟨rfl, rfl, rfl, by decide +kernel, rfl, by decide +kernel, by decide +kernel⟩
abbrev N_look_stand : List Str := ["sizes", "stand"]
theorem sc_look_stand : FnScope N_look_stand ["sizes", "stand"] (defScope s_look_stand) := ⟨rfl, rfl, rfl, by decide +kernel, rfl, by decide +kernel, by decide +kernel⟩
abbrev N_stand_of : List Str := ["sizes", "counts"]
theorem sc_stand_of : FnScope N_stand_of ["sizes", "counts"] (defScope s_stand_of) := ⟨rfl, rfl, rfl, by decide +kernel, rfl, by decide +kernel, by decide +kernel⟩
abbrev N_room : List Str := ["sizes", "counts"]
theorem sc_room : FnScope N_room ["sizes", "counts"] (defScope s_room) := ⟨rfl, rfl, rfl, by decide +kernel, rfl, by decide +kernel, by decide +kernel⟩
abbrev N_apart : List Str := ["one", "other", "a", "b"]
theorem sc_apart : FnScope N_apart ["one", "other"] (defScope s_apart) := ⟨rfl, rfl, rfl, by decide +kernel, rfl, by decide +kernel, by decide +kernel⟩
abbrev N_look_deed : List Str := ["sizes", "deed"]
theorem sc_look_deed : FnScope N_look_deed ["sizes", "deed"] (defScope s_look_deed) := ⟨rfl, rfl, rfl, by decide +kernel, rfl, by decide +kernel, by decide +kernel⟩
abbrev N_look_row : List Str := ["sizes", "deeds"]
theorem sc_look_row : FnScope N_look_row ["sizes", "deeds"] (defScope s_look_row) := ⟨rfl, rfl, rfl, by decide +kernel, rfl, by decide +kernel, by decide +kernel⟩
abbrev N_has_tap : List Str := ["sizes", "deeds"]
theorem sc_has_tap : FnScope N_has_tap ["sizes", "deeds"] (defScope s_has_tap) := ⟨rfl, rfl, rfl, by decide +kernel, rfl, by decide +kernel, by decide +kernel⟩
abbrev N_poured : List Str := ["sizes", "counts", "deed"]
theorem sc_poured : FnScope N_poured ["sizes", "counts", "deed"] (defScope s_poured) := ⟨rfl, rfl, rfl, by decide +kernel, rfl, by decide +kernel, by decide +kernel⟩
abbrev N_poured_all : List Str := ["sizes", "counts", "deeds"]
theorem sc_poured_all : FnScope N_poured_all ["sizes", "counts", "deeds"] (defScope s_poured_all) := ⟨rfl, rfl, rfl, by decide +kernel, rfl, by decide +kernel, by decide +kernel⟩
abbrev N_by_counts : List Str := ["sizes", "stand", "deeds"]
theorem sc_by_counts : FnScope N_by_counts ["sizes", "stand", "deeds"] (defScope s_by_counts) := ⟨rfl, rfl, rfl, by decide +kernel, rfl, by decide +kernel, by decide +kernel⟩
abbrev N_done : List Str := ["sizes", "stand", "deed"]
theorem sc_done : FnScope N_done ["sizes", "stand", "deed"] (defScope s_done) := ⟨rfl, rfl, rfl, by decide +kernel, rfl, by decide +kernel, by decide +kernel⟩
abbrev N_done_all : List Str := ["sizes", "stand", "deeds"]
theorem sc_done_all : FnScope N_done_all ["sizes", "stand", "deeds"] (defScope s_done_all) := ⟨rfl, rfl, rfl, by decide +kernel, rfl, by decide +kernel, by decide +kernel⟩
abbrev N_path : List Str := ["sizes", "stand", "deeds", "rank"]
theorem sc_path : FnScope N_path ["sizes", "stand", "deeds", "rank"] (defScope s_path) := ⟨rfl, rfl, rfl, by decide +kernel, rfl, by decide +kernel, by decide +kernel⟩
abbrev N_behind : List Str := ["sizes", "stand", "deeds", "times"]
theorem sc_behind : FnScope N_behind ["sizes", "stand", "deeds", "times"] (defScope s_behind) := ⟨rfl, rfl, rfl, by decide +kernel, rfl, by decide +kernel, by decide +kernel⟩
abbrev N_behind_counts : List Str := ["sizes", "counts", "deeds", "times"]
theorem sc_behind_counts : FnScope N_behind_counts ["sizes", "counts", "deeds", "times"] (defScope s_behind_counts) := ⟨rfl, rfl, rfl, by decide +kernel, rfl, by decide +kernel, by decide +kernel⟩
abbrev N_ring : List Str := ["sizes", "stand", "deeds"]
theorem sc_ring : FnScope N_ring ["sizes", "stand", "deeds"] (defScope s_ring) := ⟨rfl, rfl, rfl, by decide +kernel, rfl, by decide +kernel, by decide +kernel⟩
abbrev N_ring_of_counts : List Str := ["sizes", "counts", "deeds"]
theorem sc_ring_of_counts : FnScope N_ring_of_counts ["sizes", "counts", "deeds"] (defScope s_ring_of_counts) := ⟨rfl, rfl, rfl, by decide +kernel, rfl, by decide +kernel, by decide +kernel⟩
abbrev N_turns : List Str := ["sizes", "counts", "deeds", "rows", "again"]
theorem sc_turns : FnScope N_turns ["sizes", "counts", "deeds"] (defScope s_turns) := ⟨rfl, rfl, rfl, by decide +kernel, rfl, by decide +kernel, by decide +kernel⟩
abbrev N_trail_of_counts : List Str := ["sizes", "counts", "deeds"]
theorem sc_trail_of_counts : FnScope N_trail_of_counts ["sizes", "counts", "deeds"] (defScope s_trail_of_counts) := ⟨rfl, rfl, rfl, by decide +kernel, rfl, by decide +kernel, by decide +kernel⟩
abbrev N_ring_of_trail : List Str := ["told", "rows", "again", "ahead"]
theorem sc_ring_of_trail : FnScope N_ring_of_trail ["told"] (defScope s_ring_of_trail) := ⟨rfl, rfl, rfl, by decide +kernel, rfl, by decide +kernel, by decide +kernel⟩
abbrev N_ends : List Str := ["sizes", "counts", "deeds", "rows"]
theorem sc_ends : FnScope N_ends ["sizes", "counts", "deeds"] (defScope s_ends) := ⟨rfl, rfl, rfl, by decide +kernel, rfl, by decide +kernel, by decide +kernel⟩
abbrev N_kin : List Str := ["sizes", "counts", "deeds", "rows"]
theorem sc_kin : FnScope N_kin ["sizes", "counts", "deeds"] (defScope s_kin) := ⟨rfl, rfl, rfl, by decide +kernel, rfl, by decide +kernel, by decide +kernel⟩
abbrev N_kin_holds : List Str := ["sizes", "counts", "deeds", "paper"]
theorem sc_kin_holds : FnScope N_kin_holds ["sizes", "counts", "deeds", "paper"] (defScope s_kin_holds) := ⟨rfl, rfl, rfl, by decide +kernel, rfl, by decide +kernel, by decide +kernel⟩
abbrev N_when : List Str := ["sizes", "counts", "deeds", "cask", "least", "rows", "ahead"]
theorem sc_when : FnScope N_when ["sizes", "counts", "deeds", "cask", "least"] (defScope s_when) := ⟨rfl, rfl, rfl, by decide +kernel, rfl, by decide +kernel, by decide +kernel⟩
abbrev N_first_time : List Str := ["sizes", "counts", "deeds", "cask", "least", "rows", "ahead"]
theorem sc_first_time : FnScope N_first_time ["sizes", "counts", "deeds", "cask", "least"] (defScope s_first_time) := ⟨rfl, rfl, rfl, by decide +kernel, rfl, by decide +kernel, by decide +kernel⟩
abbrev N_never : List Str := ["sizes", "counts", "deeds", "cask", "least", "rows", "ahead"]
theorem sc_never : FnScope N_never ["sizes", "counts", "deeds", "cask", "least"] (defScope s_never) := ⟨rfl, rfl, rfl, by decide +kernel, rfl, by decide +kernel, by decide +kernel⟩
abbrev N_never_holds : List Str := ["sizes", "counts", "deeds", "paper", "cask", "least"]
theorem sc_never_holds : FnScope N_never_holds ["sizes", "counts", "deeds", "paper", "cask", "least"] (defScope s_never_holds) := ⟨rfl, rfl, rfl, by decide +kernel, rfl, by decide +kernel, by decide +kernel⟩
abbrev N_rows_and_ahead : List Str := ["sizes", "counts", "deeds", "cask", "rows", "again"]
theorem sc_rows_and_ahead : FnScope N_rows_and_ahead ["sizes", "counts", "deeds", "cask"] (defScope s_rows_and_ahead) := ⟨rfl, rfl, rfl, by decide +kernel, rfl, by decide +kernel, by decide +kernel⟩
abbrev N_meet : List Str := ["sizes", "one", "other", "deeds", "times", "first", "second"]
theorem sc_meet : FnScope N_meet ["sizes", "one", "other", "deeds"] (defScope s_meet) := ⟨rfl, rfl, rfl, by decide +kernel, rfl, by decide +kernel, by decide +kernel⟩
abbrev N_apart_at_last : List Str := ["sizes", "one", "other", "deeds", "gaps", "first", "second"]
theorem sc_apart_at_last : FnScope N_apart_at_last ["sizes", "one", "other", "deeds"] (defScope s_apart_at_last) := ⟨rfl, rfl, rfl, by decide +kernel, rfl, by decide +kernel, by decide +kernel⟩
abbrev N_pairs_behind : List Str := ["sizes", "one", "other", "deeds"]
theorem sc_pairs_behind : FnScope N_pairs_behind ["sizes", "one", "other", "deeds"] (defScope s_pairs_behind) := ⟨rfl, rfl, rfl, by decide +kernel, rfl, by decide +kernel, by decide +kernel⟩
abbrev N_one_more : List Str := ["sizes", "counts", "deeds"]
theorem sc_one_more : FnScope N_one_more ["sizes", "counts", "deeds"] (defScope s_one_more) := ⟨rfl, rfl, rfl, by decide +kernel, rfl, by decide +kernel, by decide +kernel⟩
abbrev N_law_open : List Str := ["_law_script"]
theorem sc_law_open : FnScope N_law_open ["_law_script"] (defScope s_law_open) := ⟨rfl, rfl, rfl, by decide +kernel, rfl, by decide +kernel, by decide +kernel⟩
abbrev N_law_take : List Str := ["_law_bag", "_law_sides", "_law_cell", "_law_side", "_law_mix"]
theorem sc_law_take : FnScope N_law_take ["_law_bag", "_law_sides"] (defScope s_law_take) := ⟨rfl, rfl, rfl, by decide +kernel, rfl, by decide +kernel, by decide +kernel⟩
abbrev N_law_pick : List Str := ["_law_bag", "_law_row"]
theorem sc_law_pick : FnScope N_law_pick ["_law_bag", "_law_row"] (defScope s_law_pick) := ⟨rfl, rfl, rfl, by decide +kernel, rfl, by decide +kernel, by decide +kernel⟩
abbrev N_law_same : List Str := ["_law_found", "_law_due", "_law_at"]
theorem sc_law_same : FnScope N_law_same ["_law_found", "_law_due"] (defScope s_law_same) := ⟨rfl, rfl, rfl, by decide +kernel, rfl, by decide +kernel, by decide +kernel⟩
abbrev N_law_sizes : List Str := ["_law_bag", "_law_mcasks", "_law_most", "_law_mcask"]
theorem sc_law_sizes : FnScope N_law_sizes ["_law_bag", "_law_mcasks", "_law_most"] (defScope s_law_sizes) := ⟨rfl, rfl, rfl, by decide +kernel, rfl, by decide +kernel, by decide +kernel⟩
abbrev N_law_any_sizes : List Str := ["_law_bag"]
theorem sc_law_any_sizes : FnScope N_law_any_sizes ["_law_bag"] (defScope s_law_any_sizes) := ⟨rfl, rfl, rfl, by decide +kernel, rfl, by decide +kernel, by decide +kernel⟩
abbrev N_law_told : List Str := ["_law_ask", "_law_mcask", "e"]
theorem sc_law_told : FnScope N_law_told ["_law_ask"] (defScope s_law_told) := ⟨rfl, rfl, rfl, by decide +kernel, rfl, by decide +kernel, by decide +kernel⟩
abbrev N_law_doors : List Str := ["_law_odd", "_law_asks"]
theorem sc_law_doors : FnScope N_law_doors ["_law_odd"] (defScope s_law_doors) := ⟨rfl, rfl, rfl, by decide +kernel, rfl, by decide +kernel, by decide +kernel⟩
abbrev N_law_later_doors : List Str := ["_law_odd", "_law_asks"]
theorem sc_law_later_doors : FnScope N_law_later_doors ["_law_odd"] (defScope s_law_later_doors) := ⟨rfl, rfl, rfl, by decide +kernel, rfl, by decide +kernel, by decide +kernel⟩
abbrev N_law : List Str := ["_law_script", "_law_bag", "_law_msizes", "_law_at", "_law_odd", "_law_how", "_law_due", "_law_found", "_law_ask"]
theorem sc_law : FnScope N_law ["_law_script"] (defScope s_law) := ⟨rfl, rfl, rfl, by decide +kernel, rfl, by decide +kernel, by decide +kernel⟩
theorem sc_BadSizes : FnScope ["self", "cask"] ["self", "cask"] (defScope si_BadSizes) := ⟨rfl, rfl, rfl, by decide +kernel, rfl, by decide +kernel, by decide +kernel⟩
end Lw
set_option maxHeartbeats 1000000
namespace DL
open PySem PySem.Spec PyProof.Rows L2 RZ
end DL
namespace DW
open PySem PySem.Spec PyProof.Rows L2 RZ DL
def isI : PyData → Bool
  | .int _ => true
  | _ => false
theorem dpa_ints {K : PySem.W.Frag} {I I' : Hp} : ∀ {xs : List V} {ds : List PyData}, ds.all isI = true → DpAll K I xs ds → DpAll K I' xs ds
  | _, _, _, .nil => .nil
  | _, d :: ds, h, .cons q t => by
    rw [List.all_cons] at h
    obtain ⟨h1, h2⟩ := Bool.and_eq_true_iff.mp h
    refine .cons ?_ (dpa_ints h2 t)
    cases d with
    | int i =>
      cases q
      exact .int i
    | _ => cases h1
end DW
set_option maxHeartbeats 4000000
namespace DW
open PySem PySem.Spec PyProof.Rows L2 RZ DL
theorem forGo_inv {c : Cn} {tf : Tf} {db : DS} {D : Ed} {δ : En} {items : List PyData} (J : Nat → En → Prop) (h0 : J 0 δ)
    (hs : ∀ (k : Nat) d δk, items[k]? = some d → J k δk → ∀ N : En → Prop, (∀ δ', J (k + 1) δ' → N δ') → ∃ δ', tf d δk = some δ' ∧ db c δ' ⟨N, D.rt, D.nx, N⟩) (hn : ∀ δn, J items.length δn → D.nx δn) : forGo c tf db D items δ := by
  have go : ∀ (l : List PyData) (k : Nat) (δk : En), items.drop k = l → J k δk → k + l.length = items.length → forGo c tf db D l δk := by
    intro l
    induction l with
    | nil =>
      intro k δk _ hj hl
      have e : k = items.length := by simpa using hl
      subst e
      exact hn δk hj
    | cons d l ih =>
      intro k δk hd hj hl
      have hk : k < items.length := by
        rw [List.length_cons] at hl
        omega
      have e := List.drop_eq_getElem_cons hk
      rw [e] at hd
      injection hd with h1 h2
      have hg : items[k]? = some d := by rw [List.getElem?_eq_getElem hk, h1]
      obtain ⟨δ', e1, e2⟩ := hs k d δk hg hj (forGo c tf db D l) fun δ'' hj' => ih (k + 1) δ'' h2 hj' (by
        rw [List.length_cons] at hl
        omega)
      unfold forGo
      rw [e1]
      exact e2
  exact go items 0 δ rfl h0 (by simp)
theorem lc_rel {β : Type} {step : PyData → (Option DV → Prop) → Prop} {P : List PyData → Prop} {l : List β} {gI : β → PyData} {f : β → Bool} {R : β → PyData → Prop}
    (h : ∀ x ∈ l, ∀ k : Option DV → Prop, (f x = true → ∀ y, R x y → k (some (.dat y))) → (f x = false → k none) → step (gI x) k) (hP : ∀ ys, Paired R (l.filter f) ys → P ys) : lcGo step (l.map gI) P := by
  induction l generalizing P with
  | nil => exact hP [] .nil
  | cons x l ih =>
    show step (gI x) _
    refine h x (List.mem_cons_self ..) _ (fun hf y hy => ?_) fun hf => ?_
    · refine ih (fun z hz => h z (List.mem_cons_of_mem _ hz)) fun ys hp => hP (y :: ys) ?_
      rw [List.filter_cons, if_pos hf]
      exact .cons hy hp
    · refine ih (fun z hz => h z (List.mem_cons_of_mem _ hz)) fun ys hp => hP ys ?_
      rw [List.filter_cons, if_neg (by rw [hf]; decide)]
      exact hp
theorem lc_all {β : Type} {step : PyData → (Option DV → Prop) → Prop} {P : List PyData → Prop} {l : List β} {gI : β → PyData} {R : β → PyData → Prop}
    (h : ∀ x ∈ l, ∀ k : Option DV → Prop, (∀ y, R x y → k (some (.dat y))) → step (gI x) k) (hP : ∀ ys, Paired R l ys → P ys) : lcGo step (l.map gI) P :=
  lc_rel (f := fun _ => true) (R := R) (fun x hx k h1 _ => h x hx k fun y hy => h1 rfl y hy) fun ys hp => hP ys (by
    have e : l.filter (fun _ => true) = l := by simp
    rw [e] at hp
    exact hp)
theorem lc_ints {β : Type} {step : PyData → (Option DV → Prop) → Prop} {P : List PyData → Prop} {l : List β} {gI : β → PyData} {R : β → Int → Prop}
    (h : ∀ x ∈ l, ∀ k : Option DV → Prop, (∀ i, R x i → k (some (dint i))) → step (gI x) k) (hP : ∀ ns : List Int, Paired R l ns → P (ns.map .int)) : lcGo step (l.map gI) P :=
  lc_all (R := fun x y => ∃ i : Int, y = .int i ∧ R x i) (fun x hx k h1 => h x hx k fun i hi => h1 _ ⟨i, rfl, hi⟩) fun ys hp => by
    obtain ⟨ns, e, hq⟩ := paired_ints hp
    rw [e]
    exact hP ns hq
theorem lc_map {β : Type} {step : PyData → (Option DV → Prop) → Prop} {P : List PyData → Prop} {l : List β} {gI : β → PyData} (g : β → PyData)
    (h : ∀ x ∈ l, ∀ k : Option DV → Prop, k (some (.dat (g x))) → step (gI x) k) (hP : P (l.map g)) : lcGo step (l.map gI) P :=
  lc_all (R := fun x y => y = g x) (fun x hx k h1 => h x hx k (h1 _ rfl)) fun ys hp => by
    rw [paired_fun hp]
    exact hP
theorem paired_mem {α β : Type} {F : α → β → Prop} : ∀ {l : List α} {m : List β}, Paired F l m → ∀ y ∈ m, ∃ x ∈ l, F x y
  | _, _, .nil, _, h => by cases h
  | _, _, .cons r t, y, h => by
    rcases List.mem_cons.mp h with e | e
    · exact ⟨_, List.mem_cons_self .., e ▸ r⟩
    · obtain ⟨x, hx, hf⟩ := paired_mem t y e
      exact ⟨x, List.mem_cons_of_mem _ hx, hf⟩
end DW
namespace DW
open PySem PySem.Spec PyProof.Rows L2 RZ DL
theorem enumD_get {ds : List PyData} {k : Nat} {d : PyData} (h : (enumD ds)[k]? = some d) : ∃ x, ds[k]? = some x ∧ d = .tuple [.int (k : Int), x] := by
  unfold enumD at h
  rw [List.getElem?_map, List.getElem?_zipIdx] at h
  cases q1 : ds[k]? with
  | none => rw [q1] at h; cases h
  | some x =>
    rw [q1] at h
    refine ⟨x, rfl, ?_⟩
    have := (Option.some.inj h).symm
    simpa using this
theorem enumD_ints {ns : List Int} {k : Nat} {d : PyData} (h : (enumD (ns.map .int))[k]? = some d) : k < ns.length ∧ d = .tuple [.int (k : Int), .int (at_ ns k)] := by
  obtain ⟨x, h1, h2⟩ := enumD_get h
  rw [List.getElem?_map] at h1
  cases q : ns[k]? with
  | none => rw [q] at h1; cases h1
  | some n =>
    rw [q] at h1
    have hk := (List.getElem?_eq_some_iff.mp q).1
    refine ⟨hk, ?_⟩
    rw [h2, ← Option.some.inj h1]
    have : at_ ns (k : Int) = n := by
      unfold at_
      rw [List.getD_eq_getElem?_getD]
      simp [q]
    rw [this]
theorem at_mem {ns : List Int} {i : Int} (h0 : 0 ≤ i) (h1 : i < ns.length) : at_ ns i ∈ ns := by
  unfold at_
  have h : i.toNat < ns.length := by omega
  rw [List.getD_eq_getElem?_getD, List.getElem?_eq_getElem h]
  exact List.getElem_mem h
end DW
namespace DW
open PySem PySem.Spec PyProof.Rows L2 RZ DL
theorem sh_int {i : Int} : SeqAt.shaped (.int i) = true := rfl
abbrev OkS (i : Str) : Prop := PyData.canLay0 (.str i) = true
theorem sh_str {i : Str} (h : OkS i) : SeqAt.shaped (.str i) = true := by
  unfold SeqAt.shaped
  rw [h]
  rfl
theorem sh_bl {i : Bool} : SeqAt.shaped (.bool i) = true := rfl
theorem sh_non : SeqAt.shaped .none = true := rfl
theorem eqv_ii {i j : Int} : PyData.eqv (.int i) (.int j) = decide (i = j) := by
  rw [PyData.eqv]
  by_cases h : i = j
  · subst h; simp
  · simp [h]
theorem eqv_ss {i j : Str} : PyData.eqv (.str i) (.str j) = decide (i = j) := by
  rw [PyData.eqv]
  by_cases h : i = j
  · subst h; simp
  · simp [h]
theorem cut_from {ds : List PyData} {a : Nat} (h : a ≤ ds.length) : cutD ds (some (a : Int)) none = ds.drop a := by
  unfold DL.cutD
  rw [HT.sIx_nat, HT.sIx_none, Nat.min_eq_left h]
  exact List.take_of_length_le (by rw [List.length_drop]; exact Nat.le_refl _)
theorem cut_to {ds : List PyData} {b : Nat} : cutD ds none (some (b : Int)) = ds.take b := by
  unfold DL.cutD
  rw [HT.sIx_none, HT.sIx_nat, List.drop_zero, Nat.sub_zero, Nat.min_def]
  split
  · rfl
  · rw [List.take_length, List.take_of_length_le (by omega)]
end DW
namespace DW
open PySem PySem.Spec PyProof.Rows L2 RZ DL
end DW
namespace DW
open PySem PySem.Spec PyProof.Rows L2 RZ DL
def Lay (n : Nat) (d : PyData) : Prop := PyData.canLay0 d = true ∧ PyData.depth d ≤ n
theorem lay_all {n : Nat} {ds : List PyData} (h : ∀ d ∈ ds, Lay n d) : PyData.canLayAll0 ds = true ∧ PyData.depthAll ds ≤ n := by
  induction ds with
  | nil => exact ⟨rfl, Nat.zero_le _⟩
  | cons d ds ih =>
    obtain ⟨h1, h2⟩ := ih fun x hx => h x (List.mem_cons_of_mem _ hx)
    obtain ⟨h3, h4⟩ := h d (List.mem_cons_self ..)
    refine ⟨?_, ?_⟩
    · rw [PyData.canLayAll0, h1, h3]
      rfl
    · rw [PyData.depthAll]
      omega
theorem lay_list {n : Nat} {ds : List PyData} (h : ∀ d ∈ ds, Lay n d) : Lay (n + 1) (.list ds) := by
  obtain ⟨h1, h2⟩ := lay_all h
  refine ⟨by rw [PyData.canLay0]; exact h1, ?_⟩
  rw [PyData.depth]
  omega
theorem lay_int {n : Nat} {i : Int} : Lay n (.int i) := ⟨rfl, Nat.zero_le _⟩
mutual
theorem eqv_self : ∀ {n : Nat} {d : PyData}, PyData.canLay0 d = true → PyData.eqv d d = true
  | _, .none, _ => rfl
  | _, .bool b, _ => by simp [PyData.eqv]
  | _, .int i, _ => by simp [PyData.eqv]
  | _, .str s, _ => by simp [PyData.eqv]
  | n, .list ds, h => by
    rw [PyData.eqv]
    exact eqvAll_self (n := n) (by rw [PyData.canLay0] at h; exact h)
  | n, .tuple ds, h => by
    rw [PyData.eqv]
    exact eqvAll_self (n := n) (by rw [PyData.canLay0] at h; exact h)
  | _, .dict _, h => by simp [PyData.canLay0] at h
theorem eqvAll_self : ∀ {n : Nat} {ds : List PyData}, PyData.canLayAll0 ds = true → PyData.eqvAll ds ds = true
  | _, [], _ => rfl
  | n, d :: ds, h => by
    rw [PyData.canLayAll0] at h
    obtain ⟨h1, h2⟩ := Bool.and_eq_true_iff.mp h
    rw [PyData.eqvAll, eqv_self (n := n) h1, eqvAll_self (n := n) h2]
    rfl
end
end DW
namespace DW
open PySem PySem.Spec PyProof.Rows L2 RZ DL
end DW
namespace DW
open PySem PySem.Spec PyProof.Rows L2 RZ DL
end DW
namespace DW
open PySem PySem.Spec PyProof.Rows L2 RZ DL
end DW
set_option maxHeartbeats 1000000
namespace DW
open PySem PySem.Spec PyProof.Rows L2 RZ DL
def spM (K : PySem.W.Frag) (fa : Nat → Addr) (W : WtM) : Sp := fun vs H Q _ => ∃ (b : Bg) (I : Hp) (v0 v2 v3 : V) (a : Addr) (d0 d2 d3 : PyData) (xs : List V) (ds : List PyData) (P : List PyData → Prop),
  vs = [v0, .ref a, v2, v3] ∧ Ok K b I H ∧ I a = none ∧ a ≠ b.a ∧ H a = some (.lst xs) ∧ DpAll K I xs ds ∧ Dp K I v0 d0 ∧ Dp K I v2 d2 ∧ Dp K I v3 d3 ∧ W [.dat d0, .own ds, .dat d2, .dat d3] P ⟨fun _ _ => False, fa⟩ ∧
  ∀ I' H' ys es, P es → Ext K b I (del H a) I' H' → I' a = none → H' a = some (.lst ys) → DpAll K I' ys es → Q .non H'
end DW
namespace DW
open PySem PySem.Spec PyProof.Rows L2 RZ DL
section
variable {K : PySem.W.Frag} {b : Bg} {H0 I H I' H' I0 : Hp} {a : Addr} {cs : List Addr} {rows : List (List Int)}
theorem nodup_at : ∀ {cs : List Addr} {i j : Nat} {c : Addr}, cs.Nodup → cs[i]? = some c → cs[j]? = some c → i = j
  | [], _, _, _, _, h, _ => by cases h
  | x :: t, 0, 0, _, _, _, _ => rfl
  | x :: t, 0, j + 1, c, h, h1, h2 => by
    rw [List.nodup_cons] at h
    cases h1
    exact absurd (List.mem_of_getElem? (show t[j]? = some x from h2)) h.1
  | x :: t, i + 1, 0, c, h, h1, h2 => by
    rw [List.nodup_cons] at h
    cases h2
    exact absurd (List.mem_of_getElem? (show t[i]? = some x from h1)) h.1
  | x :: t, i + 1, j + 1, c, h, h1, h2 => by
    rw [List.nodup_cons] at h
    rw [nodup_at (cs := t) (i := i) (j := j) h.2 h1 h2]
theorem Nest.app (n : Nest K b H0 I H a cs rows) {k : Nat} {c : Addr} {row : List Int} {x : Int} (h1 : cs[k]? = some c) (h2 : rows[k]? = some row) : Nest K b H0 I (upd H c (.lst ((row ++ [x]).map V.int))) a cs (rows.set k (row ++ [x])) := by
  have nac : a ≠ c := fun z => n.na (z ▸ List.mem_of_getElem? h1)
  refine ⟨n.fr, n.ni, n.nb, by rw [upd_ne nac]; exact n.at_, n.na, n.nd, by rw [List.length_set]; exact n.len, fun j c' row' g1 g2 => ?_⟩
  by_cases z : k = j
  · subst z
    rw [h1] at g1
    cases g1
    rw [List.getElem?_set_self (List.getElem?_eq_some_iff.mp h2).1] at g2
    cases g2
    obtain ⟨f, i, nb, h⟩ := n.each k c row h1 h2
    exact ⟨f, i, nb, upd_same⟩
  · rw [List.getElem?_set_ne z] at g2
    obtain ⟨f, i, nb, h⟩ := n.each j c' row' g1 g2
    have ne : c' ≠ c := fun y => z (nodup_at n.nd h1 (y ▸ g1))
    exact ⟨f, i, nb, by rw [upd_ne ne]; exact h⟩
end
end DW
namespace DL
open PySem PySem.Spec PyProof.Rows L2 RZ
end DL
namespace DW
open PySem PySem.Spec PyProof.Rows L2 RZ DL
end DW
set_option maxHeartbeats 4000000
namespace DW
open PySem PySem.Spec PyProof.Rows L2 RZ DL LamX
section
variable {X : Cx} {pins : List (Addr × Obj)} {σ : L2.St} {H : Hp} {s : Shared}
abbrev askZ (X : Cx) (CXg : CXT) (Eg : XK) (Ng : List Str) (qg : Str) (sg : Scope) (g : Addr) (cdg : Value) (s : Shared) (H : Hp) (pn : List (Addr × Obj)) (xe : Value → Shared → Prop) : Cx :=
  (cxOf CXg X.prog X.w X.K X.mg X.base Ng qg sg g cdg X.A X.stack s H Eg).tr pn xe
def AskTo (X : Cx) (Ng : List Str) (x : Str) (sg : Scope) (g : Addr) (cdg : Value) (bg : List Stmt) (a : Str) (q : Str) (TT : (XK → Hp → VK → Prop) → Hp → VK → Prop) : Prop :=
  ∀ (f c' : Addr) (s : Shared) (H : Hp) (Q : VK) (tl : XK → Hp → VK → Prop),
    (∀ (W : WX) (pn : List (Addr × Obj)) (xe : Value → Shared → Prop) (p1 p2 : Pos), Takes (askZ X C8.CX0 C8.E0 Ng x sg g cdg s H pn xe) W →
      PE (askZ X C8.CX0 C8.E0 Ng x sg g cdg s H pn xe) (.Call (.Name a p1) [] [] p2) (fun σZ HZ Q => σZ[0]? = some (some (.ref f)) ∧ HZ c' = some (CodeO c' q) ∧ ∃ E : XK, (∀ cls d H', E cls d H' → W cls d σZ H') ∧ tl E HZ Q)) →
    H c' = some (CodeO c' q) → TT tl H Q →
    ∃ t, PSs (cxOf C8.CX0 X.prog X.w X.K X.mg X.base Ng x sg g cdg X.A X.stack s H C8.E0).nox bg t ∧ t { nx := fun _ H' => Q .non H', rt := Q } (L2.start Ng [.ref f]) H
end
abbrev XKof (After : Addr → List (Str × V) → Hp → VK → Prop) (Q : VK) : XK := fun cls d H' => ∃ C dd fs, cls = .ref C ∧ d = some dd ∧ H' dd = some (.xd fs) ∧ After C fs H' Q
end DW
namespace DM
open PySem PySem.Spec PyProof.Rows L2 RZ DL DW
theorem um_same {M : Mem} {a : Addr} {o : SO} : um M a o a = some o := by unfold um; rw [if_pos rfl]
theorem um_ne {M : Mem} {a b : Addr} {o : SO} (h : b ≠ a) : um M a o b = M b := by unfold um; rw [if_neg h]
section
variable {K : PySem.W.Frag} {b : Bg} {I H I' H' I2 H2 : Hp} {M M' M2 : Mem}
theorem cel_code {c : Addr} {v : V} {p : Addr} {q : Str} : CelO c v ≠ LamX.CodeO p q := fun z => by
  unfold CelO LamX.CodeO at z
  injection z with z
  obtain ⟨u, hu⟩ : ∃ u : Value, RelV v u := by
    cases v with
    | non => exact ⟨_, rfl⟩
    | bl b => exact ⟨_, rfl⟩
    | int i => exact ⟨.int i 0, 0, rfl⟩
    | str x => exact ⟨.str x 0, 0, rfl⟩
    | byt x => exact ⟨.bytes x 0, 0, rfl⟩
    | flt x => exact ⟨.float x 0, 0, rfl⟩
    | ref a => exact ⟨_, rfl⟩
    | ty n => exact ⟨_, rfl⟩
  obtain ⟨h, h1, h2⟩ := heap_all c { cls := .none, data := .cell (some u) } (fun x e f => by rw [e] at f; cases f)
  have e := congrFun z h
  obtain ⟨oc, vs, t, y1, y2, _⟩ := e.mp ⟨u, hu, _, h1, rfl⟩
  rw [h2 _ _ y1] at y2
  cases y2
theorem tabs_updG {T : List (Addr × Str)} {a : Addr} {ho o : HO} (t : LamX.Tabs T H) (h : H a = some ho) (n1 : ∀ ps, ho ≠ .tbl ps) (n2 : ∀ a q, ho ≠ LamX.CodeO a q) : LamX.Tabs T (upd H a o) := fun p hp => by
  obtain ⟨ps, h1, h2, h3⟩ := t p hp
  refine ⟨ps, by rw [upd_ne (ne_of h1 h (fun z => n1 _ z.symm))]; exact h1, h2, fun pos cv hc => ?_⟩
  obtain ⟨c, e1, e2⟩ := h3 pos cv hc
  exact ⟨c, e1, by rw [upd_ne (ne_of e2 h (fun z => n2 _ _ z.symm))]; exact e2⟩
end
section
variable {K : PySem.W.Frag} {b : Bg} {I H I' H' I2 H2 : Hp} {M M' M2 : Mem}
theorem Kx.updL {D : Addr} {xs : List V} {o : HO} (hD : H D = some (.lst xs)) : Kx b H M (upd H D o) M := fun c φ _ _ hm hc => ⟨by rw [upd_ne (fun z => by rw [z, hD] at hc; cases hc)]; exact hc, hm⟩
theorem Kx.umL {D : Addr} {xs : List V} {so : SO} (hD : H D = some (.lst xs)) : Kx b H M H (um M D so) := fun c φ _ _ hm hc => ⟨hc, by rw [um_ne (fun z => by rw [z, hD] at hc; cases hc)]; exact hm⟩
theorem MR.lkE (r : MR K b I H M) (e : Ext K b I H I' H') {a : Addr} {kvs : List (Key × DV)} (h : M a = some (.dicL kvs)) : H' a = H a := by
  obtain ⟨_, h2, ho, h3, h4⟩ := r a _ h
  rw [h3]
  exact e.h a ho h2 h4.tbl h3
theorem XM.re (e : XM K b I H M I' H' M') : XM K b I' H' M' I' H' M' := XM.refl e.ok e.r
theorem XM.of (r : MR K b I H M) (e : Ext K b I H I' H') : XM K b I H M I' H' M := ⟨e.i, fun a o n t _ h => e.h a o n t h, fun a o n _ h t => e.n a o n h t, fun _ _ n _ _ => n, e.k, e.ok, r.ext e, fun a kvs h => ⟨h, r.lkE e h⟩⟩
theorem XM.new {p : Addr} {ho : HO} {so : SO} (o : Ok K b I H) (r : MR K b I H M) (hp : H p = none) (s : SR K b I (upd H p ho) (um M p so) so ho) : XM K b I H M I (upd H p ho) (um M p so) := by
  have e := o.newH (o := ho) hp
  have r' := r.ext e
  refine ⟨e.i, fun a u n t _ h => e.h a u n t h, fun a u n _ h t => e.n a u n h t, fun a u n h t => ?_, e.k, e.ok, fun a so' h => ?_, fun a kvs h => ?_⟩
  · rw [um_ne (ne_of_none h hp)]; exact n
  · by_cases z : a = p
    · subst z
      rw [um_same] at h
      cases h
      exact ⟨o.inone hp, o.nb hp, ho, upd_same, s⟩
    · rw [um_ne z] at h
      obtain ⟨g1, g2, ho', g3, g4⟩ := r a so' h
      exact ⟨g1, g2, ho', by rw [upd_ne z]; exact g3, g4.mono (Same.refl I) r fun c φ _ _ hm hc => ⟨by rw [upd_ne (ne_of_none hc hp)]; exact hc, by rw [um_ne (ne_of_none hc hp)]; exact hm⟩⟩
  · have z : a ≠ p := fun z => by
      subst z
      rw [r.none hp] at h
      cases h
    rw [um_ne z]
    exact ⟨h, r.lkE e h⟩
theorem XM.mut {p : Addr} {so0 so : SO} {ho : HO} (o : Ok K b I H) (r : MR K b I H M) (hp : M p = some so0) (s : SR K b I (upd H p ho) (um M p so) so ho) (nl : ∀ kvs, so0 ≠ .dicL kvs := by intro _ h; cases h) : XM K b I H M I (upd H p ho) (um M p so) := by
  obtain ⟨hi, hb, ho0, h0, s0⟩ := r p so0 hp
  obtain ⟨n, pl, tb, l, ns, x, q, m, c, e1, sl, rr⟩ := o.b
  have ok' : Ok K b I (upd H p ho) := ⟨fun a u h => by rw [upd_ne (ne_of_none h hi)]; exact o.s a u h, n, pl, tabs_updG tb h0 s0.tbl s0.code, l, ns, x, q, m, c, by rw [upd_ne (fun z => hb z.symm)]; exact e1, sl, rr⟩
  refine ⟨Same.refl I, fun a u _ _ hm h => ?_, fun a u n _ _ _ => n, fun a u hm h _ => ?_, fun l xs h => ⟨xs, by rw [upd_ne (fun z => hb z.symm)]; exact h⟩, ok', fun a so' h => ?_, fun a kvs h => ?_⟩
  · rw [upd_ne (fun z => by rw [z, hp] at hm; cases hm)]; exact h
  · rw [um_ne (fun z => by rw [z, hp] at hm; cases hm)]; exact hm
  · by_cases z : a = p
    · subst z
      rw [um_same] at h
      cases h
      exact ⟨hi, hb, ho, upd_same, s⟩
    · rw [um_ne z] at h
      obtain ⟨g1, g2, ho', g3, g4⟩ := r a so' h
      exact ⟨g1, g2, ho', by rw [upd_ne z]; exact g3, g4.mono (Same.refl I) r fun c φ _ _ hm hc => ⟨by rw [upd_ne (fun z => by rw [z, hp] at hm; cases hm)]; exact hc, by rw [um_ne (fun z => by rw [z, hp] at hm; cases hm)]; exact hm⟩⟩
  · have z : a ≠ p := fun z => by
      subst z
      rw [hp] at h
      cases h
      exact nl _ rfl
    rw [um_ne z, upd_ne z]
    exact ⟨h, rfl⟩
end
theorem VB.res {K : PySem.W.Frag} {b : Bg} {H0 I H : Hp} {v : V} {r : DV} (h : VB K b I v r) : Res K b H0 I H v r := by
  cases r with
  | dat d => exact h
  | raw u => exact h
  | bag => exact h
  | own _ => exact h.elim
  | bor _ => exact h.elim
  | dct _ _ => exact h.elim
theorem EnvM.env {K : PySem.W.Frag} {b : Bg} {H0 I H : Hp} {σ : L2.St} {δ : En} (h : EnvM K b I σ δ) : EnvR K b H0 I H σ δ := ⟨h.len, fun i r q => (h.at_ i r q).imp fun v z => ⟨z.1, z.2.res⟩, fun i j a ds es h1 _ _ _ => by
  obtain ⟨v, _, z⟩ := h.at_ i _ h1
  exact z.elim⟩
section
variable (K : PySem.W.Frag) (b : Bg) (I0 H0 : Hp) (M0 : Mem)
def EtM (tt : TT) (δ : En) (M : Mem) (P : Bool → Mem → Prop) : Prop := ∀ (σ : L2.St) (I H : Hp), XM K b I0 H0 M0 I H M → EnvM K b I σ δ → ∀ Q : Bool → Hp → Prop,
  (∀ c I' H' M', P c M' → XM K b I H M I' H' M' → Q c H') → tt σ H Q
def EaM (ta : TA) (δ : En) (M : Mem) (P : MPA) : Prop := ∀ (σ : L2.St) (I H : Hp), XM K b I0 H0 M0 I H M → EnvM K b I σ δ → ∀ Q : List V → Hp → Prop,
  (∀ rs vs I' H' M', P rs M' → XM K b I H M I' H' M' → Paired (VB K b I') vs rs → Q vs H') → ta σ H Q
def SvM (ts : TS) (δ : En) (M : Mem) (N : En → Mem → Prop) (R : MP) (Bk Ct : En → Mem → Prop) : Prop := ∀ (σ : L2.St) (I H : Hp), XM K b I0 H0 M0 I H M → EnvM K b I σ δ → ∀ D : Ends,
  (∀ δ' σ' I' H' M', N δ' M' → XM K b I H M I' H' M' → EnvM K b I' σ' δ' → D.nx σ' H') →
  (∀ r v I' H' M', R r M' → XM K b I H M I' H' M' → VB K b I' v r → D.rt v H') →
  (∀ δ' σ' I' H' M', Bk δ' M' → XM K b I H M I' H' M' → EnvM K b I' σ' δ' → D.bk σ' H') →
  (∀ δ' σ' I' H' M', Ct δ' M' → XM K b I H M I' H' M' → EnvM K b I' σ' δ' → D.ct σ' H') → ts D σ H
end
section
variable (K : PySem.W.Frag) (S : Sg)
def CmT (tt : TT) (dt : MT) : Prop := ∀ b I0 H0 M0 c δ M P, δ.length = S.n → Cmk K S b I0 H0 M0 c → dt c δ M P → EtM K b I0 H0 M0 tt δ M P
def CmA (m : Nat) (ta : TA) (da : MA) : Prop := ∀ b I0 H0 M0 c δ M P, δ.length = S.n → Cmk K S b I0 H0 M0 c → da c δ M P → EaM K b I0 H0 M0 ta δ M (fun rs M' => rs.length = m ∧ P rs M')
def CmS (ts : TS) (ds : MS) : Prop := ∀ b I0 H0 M0 c δ M D, δ.length = S.n → Cmk K S b I0 H0 M0 c → ds c δ M D → SvM K b I0 H0 M0 ts δ M (fun d M' => d.length = S.n ∧ D.nx d M') D.rt (fun d M' => d.length = S.n ∧ D.bk d M') (fun d M' => d.length = S.n ∧ D.ct d M')
end
section
variable (X : Cx) (S : Sg)
def XE (e : Expr) (de : ME) : Prop := ∃ te, PE X e te ∧ CmE X.K S te de
def XT (e : Expr) (dt : MT) : Prop := ∃ t, PT X e t ∧ CmT X.K S t dt
def XA (es : List Expr) (da : MA) : Prop := ∃ t, PA X es t ∧ CmA X.K S es.length t da
def XS (st : Stmt) (ds : MS) : Prop := ∃ t, PS X st t ∧ CmS X.K S t ds
def XSs (sts : List Stmt) (ds : MS) : Prop := ∃ t, PSs X sts t ∧ CmS X.K S t ds
end
end DM
namespace DM
open PySem PySem.Spec PyProof.Rows L2 RZ DL DW
def FinOk (f : Fin) : Prop := ∀ {K : PySem.W.Frag} {b : Bg} {I H I' H' : Hp} {M : Mem} {P : MP} {r : DV} {v : V} {Q : VK}, MR K b I H M → Ext K b I H I' H' → Res K b H I' H' v r → f P M r →
  (∀ r v I' H' M', P r M' → XM K b I H M I' H' M' → VB K b I' v r → Q v H') → Q v H'
theorem fin_lft : FinOk lftP := fun {K b I H I' H' M P r v Q} mr e rs p q => by
  cases r with
  | dat d => exact q (.dat d) v I' H' M p (.of mr e) rs
  | own ds =>
    obtain ⟨I'', e', rs'⟩ := frz_res e rs
    exact q (.dat (.list ds)) v I'' H' M p (.of mr e') rs'
  | raw u => exact q (.raw u) v I' H' M p (.of mr e) rs
  | bag => exact q .bag v I' H' M p (.of mr e) rs
  | bor _ => exact (p : False).elim
  | dct _ _ => exact (p : False).elim
section
variable {K : PySem.W.Frag} {S : Sg} {b : Bg} {I0 H0 I H : Hp} {M0 M : Mem} {c : Cm}
theorem Cmk.cok (ok : Cmk K S b I0 H0 M0 c) (x : XM K b I0 H0 M0 I H M) : Cok K S b I H ⟨fun s fs => c.x s fs M, c.fa⟩ := ⟨ok.fa, fun C fs d I' H' hx e h1 h2 => by
  obtain ⟨s, rfl, hx⟩ := hx
  have x2 := x.trans (.of x.r e)
  refine ok.xw s fs d I' H' M hx x2 h1 h2 ?_
  cases q : M d with
  | none => rfl
  | some o =>
    obtain ⟨_, _, ho, e1, e2⟩ := x2.r d o q
    rw [h2] at e1
    cases e1
    exact (e2.xd).elim, ok.tb⟩
theorem cm_lft {f : Fin} (hf : FinOk f) {te : TE} {de : DE} (h : DW.CE K S te de) : CmE K S te (mLft f de) := fun b I0 H0 M0 c δ M P nb ok p σ I H x en Q q =>
  h b I H _ δ _ (en.nb nb) (ok.cok x) p σ I H x.ok.re en.env Q fun r v I' H' pr e rs => hf x.r e rs pr q
theorem cm_lftT {tt : TT} {dt : DT} (h : CT K S tt dt) : CmT K S tt (mLftT dt) := fun b I0 H0 M0 c δ M P nb ok p σ I H x en Q q =>
  h b I H _ δ _ (en.nb nb) (ok.cok x) p σ I H x.ok.re en.env Q fun v I' H' pr e => q v I' H' M pr (.of x.r e)
end
section
variable {X : Cx} {S : Sg} {a b e : Expr} {pos : Pos}
theorem xe_lft {de : DE} (h : JE X S e de) : XE X S e (mLft lftP de) := by
  obtain ⟨t, h1, h2⟩ := h
  exact ⟨t, h1, cm_lft fin_lft h2⟩
theorem xt_lft {dt : DT} (h : JT X S e dt) : XT X S e (mLftT dt) := by
  obtain ⟨t, h1, h2⟩ := h
  exact ⟨t, h1, cm_lftT h2⟩
theorem xe_var {i : Nat} (h : PE X e (tVar i)) : XE X S e (mVar i) := ⟨_, h, fun b I0 H0 M0 c δ M P nb ok p σ I H x en Q q => by
  unfold mVar at p
  split at p
  · rename_i r e1
    obtain ⟨v, e2, e3⟩ := en.at_ i r e1
    exact ⟨v, e2, q r v I H M p x.re e3⟩
  · exact p.elim⟩
section
variable (K : PySem.W.Frag) (b : Bg)
def OpM (r : R2) (x y : DV) (M : Mem) (P : MP) : Prop := ∀ (I H : Hp) (v w : V), Ok K b I H → MR K b I H M → VB K b I v x → VB K b I w y → ∀ Q : VK,
  (∀ z u I' H' M', P z M' → XM K b I H M I' H' M' → VB K b I' u z → Q u H') → r v w H Q
end
def XOp (X : Cx) (f : Value → Value → Sem Value) (o : MO) : Prop := ∃ r, OpR X f r ∧ ∀ b x y M P, o x y M P → OpM X.K b r x y M P
theorem cm_bin {K : PySem.W.Frag} {r : R2} {o : MO} {ta tb : TE} {ma mb : ME} (ho : ∀ b x y M P, o x y M P → OpM K b r x y M P) (ha : CmE K S ta ma) (hb : CmE K S tb mb) : CmE K S (tOp r ta tb) (mBin o ma mb) := fun b I0 H0 M0 c δ M P nb ok p σ I H x en Q q =>
  ha b I0 H0 M0 c δ M _ nb ok p σ I H x en _ fun y v I1 H1 M1 p1 x1 r1 => hb b I0 H0 M0 c δ M1 _ nb ok p1 σ I1 H1 (x.trans x1) (en.mono x1.i) _ fun z w I2 H2 M2 p2 x2 r2 =>
    ho b y z M2 P p2 I2 H2 v w x2.ok x2.r (r1.mono x2.i) r2 Q fun u w' I3 H3 M3 p3 x3 r3 => q u w' I3 H3 M3 p3 ((x1.trans x2).trans x3) r3
theorem xe_op {op : Operator} {o : MO} {ma mb : ME} (ho : XOp X (binaryOp op) o) (ha : XE X S a ma) (hb : XE X S b mb) : XE X S (.BinOp a op b pos) (mBin o ma mb) := by
  obtain ⟨r, h1, h2⟩ := ho
  obtain ⟨ta, ha1, ha2⟩ := ha
  obtain ⟨tb, hb1, hb2⟩ := hb
  exact ⟨_, pe_op h1 ha1 hb1, cm_bin h2 ha2 hb2⟩
theorem cma_nil {K : PySem.W.Frag} : CmA K S 0 tNil mNil := fun b I0 H0 M0 c δ M P nb ok p σ I H x en Q q => q [] [] I H M ⟨rfl, p⟩ x.re .nil
theorem cma_cons {K : PySem.W.Frag} {m : Nat} {te : TE} {ta : TA} {me : ME} {ma : MA} (h : CmE K S te me) (h' : CmA K S m ta ma) : CmA K S (m + 1) (tCons te ta) (mCons me ma) := fun b I0 H0 M0 c δ M P nb ok p σ I H x en Q q =>
  h b I0 H0 M0 c δ M _ nb ok p σ I H x en _ fun r v I1 H1 M1 pr x1 rs => h' b I0 H0 M0 c δ M1 _ nb ok pr σ I1 H1 (x.trans x1) (en.mono x1.i) _ fun zs vs I2 H2 M2 ⟨l, p2⟩ x2 r2 =>
    q (r :: zs) (v :: vs) I2 H2 M2 ⟨congrArg Nat.succ l, p2⟩ (x1.trans x2) (.cons (rs.mono x2.i) r2)
theorem xa_nil : XA X S [] mNil := ⟨_, pa_nil, cma_nil⟩
theorem xa_cons {es : List Expr} {me : ME} {ma : MA} (h : XE X S e me) (h' : XA X S es ma) (hs : starEach (e :: es) X.env = (false, eval e X.env) :: starEach es X.env := by rfl) : XA X S (e :: es) (mCons me ma) := by
  obtain ⟨t, h1, h2⟩ := h
  obtain ⟨u, h3, h4⟩ := h'
  exact ⟨_, pa_cons h1 h3 hs, cma_cons h2 h4⟩
theorem Paired.len' {α β : Type} {F : α → β → Prop} {xs : List α} {ys : List β} (h : Paired F xs ys) : xs.length = ys.length := Paired.length h
theorem xe_lstM {es : List Expr} {ma : MA} (h : XA X S es ma) (hl : es.length ≤ 100000 := by decide) : XE X S (.List es pos) (mLstM ma) := by
  obtain ⟨t, h1, h2⟩ := h
  refine ⟨_, pe_lst h1, fun b I0 H0 M0 c δ M P nb ok p σ I H x en Q q => ?_⟩
  refine h2 b I0 H0 M0 c δ M _ nb ok p σ I H x en _ fun rs vs I1 H1 M1 ⟨l, pr⟩ x1 r => ?_
  refine ⟨Nat.le_trans (by rw [Paired.len' r, l]; exact hl) (by decide : 100000 ≤ sizeLine), fun a ha => ?_⟩
  exact q _ _ I1 _ _ (pr a (x1.r.none ha)) (x1.trans (XM.new x1.ok x1.r ha ⟨vs, rfl, r⟩)) rfl
end
end DM
namespace DM
open PySem PySem.Spec PyProof.Rows L2 RZ DL DW
section
variable {X : Cx} {S : Sg} {a b e : Expr} {es : List Expr} {ma : MA} {me : ME} {pos p : Pos} {x : Str}
theorem dats_map : ∀ ds : List PyData, dats (ds.map .dat) = some ds
  | [] => rfl
  | d :: ds => by
    rw [List.map_cons]
    unfold dats
    rw [dats_map ds]
end
end DM
namespace DM
open PySem PySem.Spec PyProof.Rows L2 RZ DL DW
def spM (K : PySem.W.Frag) (cls fa : Nat → Addr) (tb : List (Addr × Str) → Prop) (W : MW) : Sp := fun vs H Q E => ∃ (rs : List DV) (M : Mem) (R : MP) (c : Cm) (b : Bg) (I : Hp),
  Ok K b I H ∧ MR K b I H M ∧ Paired (VB K b I) vs rs ∧ tb b.T ∧ c.fa = fa ∧ W rs M R c ∧
  (∀ r v I' H' M', R r M' → XM K b I H M I' H' M' → VB K b I' v r → Q v H') ∧
  (∀ s fs d I' H' M', c.x s fs M' → XM K b I H M I' H' M' → I' d = none → H' d = some (.xd fs) → M' d = none → E (.ref (cls s)) (some d) H')
theorem paired_get {α β : Type} {F : α → β → Prop} : ∀ {xs : List α} {ys : List β} {i : Nat} {y : β}, Paired F xs ys → ys[i]? = some y → ∃ x, xs[i]? = some x ∧ F x y
  | _, _, _, _, .nil, h => by simp at h
  | _, _, 0, _, .cons q _, h => by
    cases Option.some.inj h
    exact ⟨_, rfl, q⟩
  | _, _, i + 1, _, .cons _ t, h => paired_get (i := i) t h
theorem envm_start {K : PySem.W.Frag} {b : Bg} {I : Hp} {N : List Str} {vs : List V} {rs : List DV} (h : Paired (VB K b I) vs rs) : EnvM K b I (L2.start N vs) (rs.map some ++ List.replicate (N.length - rs.length) none) := by
  have hl : vs.length = rs.length := Paired.length h
  refine ⟨?_, fun i r hi => ?_⟩
  · unfold L2.start
    simp only [List.length_append, List.length_map, List.length_replicate]
    omega
  · unfold L2.start
    by_cases z : i < rs.length
    · rw [List.getElem?_append_left (by rw [List.length_map]; exact z), List.getElem?_map] at hi
      cases q : rs[i]? with
      | none => rw [q] at hi; cases hi
      | some r' =>
        rw [q] at hi
        cases hi
        obtain ⟨v, e1, e2⟩ := paired_get h q
        refine ⟨v, ?_, e2⟩
        rw [List.getElem?_append_left (by rw [List.length_map]; omega), List.getElem?_map, e1]
        rfl
    · rw [List.getElem?_append_right (by rw [List.length_map]; omega), List.getElem?_replicate] at hi
      split at hi <;> cases hi
section
variable {X : Cx} {S : Sg} {a b e o : Expr} {es : List Expr} {ma : MA} {me : ME} {pos p apos : Pos} {x : Str}
theorem call_spM {K : PySem.W.Frag} {bg : Bg} {I0 H0 I H : Hp} {M0 M : Mem} {c : Cm} {W : MW} {P : MP} {Q : VK} {vs : List V} {rs : List DV} {tb : List (Addr × Str) → Prop} (ok : Cmk K S bg I0 H0 M0 c) (htb : tb bg.T) (x : XM K bg I0 H0 M0 I H M) (r : Paired (VB K bg I) vs rs) (hw : W rs M P c)
    (q : ∀ r v I' H' M', P r M' → XM K bg I H M I' H' M' → VB K bg I' v r → Q v H') : spM K S.cls S.fa tb W vs H Q S.E :=
  ⟨rs, M, P, c, bg, I, x.ok, x.r, r, htb, ok.fa, hw, q, fun s fs d I' H' M' hx e h1 h2 h3 => ok.xw s fs d I' H' M' hx (x.trans e) h1 h2 h3⟩
section
variable {k : Nat} {f : Addr} {fd : FuncData} {ps : List Str} {W : MW} {tb : List (Addr × Str) → Prop}
theorem xe_call (F : FnOk X.prog X.w X.K X.mg X.base (L2.CX X.prog X.w) k f fd ps (spM X.K S.cls S.fa tb W)) (hr : Room k X.A) (hg : Gl X x) (hm : X.mg x = some (.ref f)) (hk : PySem.W.keepIn X.K (.ref f) = true) (hb : Binds X.K fd ps []) (hx : Passes (L2.CX X.prog X.w) X S.E) (htb : ∀ t, S.tb t → tb t)
    (ha : XA X S (e :: es) ma) (hdb : (x == ("__debug__" : Str)) = false := by decide) (he : starEach (e :: es) X.env = (false, eval e X.env) :: starEach es X.env := by rfl) (hpl : (backTo pos (starEach es X.env)).any (·.1) = false := by rfl) :
    XE X S (.Call (.Name x p) (e :: es) [] pos) (mCall W ma) := by
  obtain ⟨t, a1, a2⟩ := ha
  refine ⟨_, pe_call F hr hg hm hk hb .nil hx a1 hdb he hpl, fun b I0 H0 M0 c δ M P nb ok p σ I H x en Q q => ?_⟩
  refine a2 b I0 H0 M0 c δ M _ nb ok p σ I H x en _ fun rs vs I1 H1 M1 ⟨_, hw⟩ x1 r1 => ?_
  rw [List.append_nil]
  exact call_spM ok (htb _ ok.tb) (x.trans x1) r1 hw fun r v I' H' M' o x2 rs' => q r v I' H' M' o (x1.trans x2) rs'
end
end
end DM
namespace DM
open PySem PySem.Spec PyProof.Rows L2 RZ DL DW
section
variable {K : PySem.W.Frag} {S : Sg} {b : Bg}
theorem EnvM.ofR {H0 I H : Hp} {σ : L2.St} {δ : En} (h : EnvR K b H0 I H σ δ) (o : δ.all okS = true) : EnvM K b I σ δ := ⟨h.len, fun i r q => by
  obtain ⟨v, e1, e2⟩ := h.at_ i r q
  refine ⟨v, e1, ?_⟩
  have := List.all_eq_true.mp o _ (List.mem_of_getElem? q)
  cases r with
  | dat _ => exact e2
  | raw _ => exact e2
  | bag => exact e2
  | own _ => cases this
  | bor _ => cases this
  | dct _ _ => cases this⟩
theorem EnvM.okS {I : Hp} {σ : L2.St} {δ : En} (h : EnvM K b I σ δ) : δ.all DM.okS = true := by
  rw [List.all_eq_true]
  intro x hx
  obtain ⟨i, hi⟩ := List.mem_iff_getElem?.mp hx
  cases x with
  | none => rfl
  | some r =>
    obtain ⟨v, _, z⟩ := h.at_ i r hi
    cases r with
    | dat _ => rfl
    | raw _ => rfl
    | bag => rfl
    | own _ => exact z.elim
    | bor _ => exact z.elim
    | dct _ _ => exact z.elim
theorem cms_next : CmS K S tNext mNext := fun b I0 H0 M0 c δ M D nb ok p σ I H x en Dd a1 a2 a3 a4 => a1 δ σ I H M ⟨nb, p⟩ x.re en
theorem cms_seq {t u : TS} {a d : MS} (h : CmS K S t a) (h' : CmS K S u d) : CmS K S (tSeq t u) (mSeq a d) := fun b I0 H0 M0 c δ M D nb ok p σ I H x en Dd a1 a2 a3 a4 =>
  h b I0 H0 M0 c δ M _ nb ok p σ I H x en _ (fun δ' σ' I' H' M' ⟨nb', p'⟩ x' en' => h' b I0 H0 M0 c δ' M' D nb' ok p' σ' I' H' (x.trans x') en' Dd
    (fun d σ2 I2 H2 M2 p2 x2 n2 => a1 d σ2 I2 H2 M2 p2 (x'.trans x2) n2) (fun r v I2 H2 M2 p2 x2 n2 => a2 r v I2 H2 M2 p2 (x'.trans x2) n2) (fun d σ2 I2 H2 M2 p2 x2 n2 => a3 d σ2 I2 H2 M2 p2 (x'.trans x2) n2) (fun d σ2 I2 H2 M2 p2 x2 n2 => a4 d σ2 I2 H2 M2 p2 (x'.trans x2) n2)) a2 a3 a4
theorem cms_if {t : TT} {u w : TS} {dt : MT} {a d : MS} (ht : CmT K S t dt) (h : CmS K S u a) (h' : CmS K S w d) : CmS K S (tIfS t u w) (mIfS dt a d) := fun b I0 H0 M0 c δ M D nb ok p σ I H x en Dd a1 a2 a3 a4 =>
  ht b I0 H0 M0 c δ M _ nb ok p σ I H x en _ fun v I1 H1 M1 pv x1 => by
    cases v with
    | true => exact h b I0 H0 M0 c δ M1 D nb ok pv σ I1 H1 (x.trans x1) (en.mono x1.i) Dd (fun d σ2 I2 H2 M2 p2 x2 n2 => a1 d σ2 I2 H2 M2 p2 (x1.trans x2) n2) (fun r v I2 H2 M2 p2 x2 n2 => a2 r v I2 H2 M2 p2 (x1.trans x2) n2) (fun d σ2 I2 H2 M2 p2 x2 n2 => a3 d σ2 I2 H2 M2 p2 (x1.trans x2) n2) (fun d σ2 I2 H2 M2 p2 x2 n2 => a4 d σ2 I2 H2 M2 p2 (x1.trans x2) n2)
    | false => exact h' b I0 H0 M0 c δ M1 D nb ok pv σ I1 H1 (x.trans x1) (en.mono x1.i) Dd (fun d σ2 I2 H2 M2 p2 x2 n2 => a1 d σ2 I2 H2 M2 p2 (x1.trans x2) n2) (fun r v I2 H2 M2 p2 x2 n2 => a2 r v I2 H2 M2 p2 (x1.trans x2) n2) (fun d σ2 I2 H2 M2 p2 x2 n2 => a3 d σ2 I2 H2 M2 p2 (x1.trans x2) n2) (fun d σ2 I2 H2 M2 p2 x2 n2 => a4 d σ2 I2 H2 M2 p2 (x1.trans x2) n2)
theorem cms_asg {i : Nat} {te : TE} {me : ME} (hi : i < S.n) (h : CmE K S te me) : CmS K S (tAsg te (gName i)) (mAsg i me) := fun b I0 H0 M0 c δ M D nb ok p σ I H x en Dd a1 a2 a3 a4 =>
  h b I0 H0 M0 c δ M _ nb ok p σ I H x en _ fun r v I1 H1 M1 pr x1 rs => a1 _ _ I1 H1 M1 ⟨by rw [List.length_set]; exact nb, pr⟩ x1 ((en.mono x1.i).set (by rw [nb]; exact hi) rs)
theorem cms_ret {te : TE} {me : ME} (h : CmE K S te me) : CmS K S (tRet te) (mRet me) := fun b I0 H0 M0 c δ M D nb ok p σ I H x en Dd a1 a2 a3 a4 =>
  h b I0 H0 M0 c δ M _ nb ok p σ I H x en _ fun r v I1 H1 M1 pr x1 rs => a2 r v I1 H1 M1 pr x1 rs
theorem cms_expr {te : TE} {me : ME} (h : CmE K S te me) : CmS K S (tDrop te) (mExpr me) := fun b I0 H0 M0 c δ M D nb ok p σ I H x en Dd a1 a2 a3 a4 =>
  h b I0 H0 M0 c δ M _ nb ok p σ I H x en _ fun r v I1 H1 M1 pr x1 rs => a1 _ _ I1 H1 M1 ⟨nb, pr⟩ x1 (en.mono x1.i)
theorem paired_snoc {α β : Type} {F : α → β → Prop} {x : α} {y : β} (h : F x y) : ∀ {xs : List α} {ys : List β}, Paired F xs ys → Paired F (xs ++ [x]) (ys ++ [y])
  | _, _, .nil => .cons h .nil
  | _, _, .cons q t => .cons q (paired_snoc h t)
theorem paired_app {α β : Type} {F : α → β → Prop} {xs' : List α} {ys' : List β} (h : Paired F xs' ys') : ∀ {xs : List α} {ys : List β}, Paired F xs ys → Paired F (xs ++ xs') (ys ++ ys')
  | _, _, .nil => h
  | _, _, .cons q t => .cons q (paired_app h t)
theorem cm_app {to tv : TE} {mo mv : ME} (ho : CmE K S to mo) (hv : CmE K S tv mv) : CmE K S (tBM K "list" rAppend to (tCons tv tNil)) (mApp mo mv) := fun b I0 H0 M0 c δ M P nb ok p σ I H x en Q q =>
  ho b I0 H0 M0 c δ M _ nb ok p σ I H x en _ fun r v I1 H1 M1 p1 x1 r1 => by
    split at p1
    · rename_i a
      have r1 : v = .ref a := r1
      subst r1
      obtain ⟨⟨xs, em⟩, p1⟩ := p1
      obtain ⟨_, _, ho, hh, vs, rfl, pl⟩ := x1.r a _ em
      refine ⟨.inl ⟨rfl, vs, .inl (.inl hh)⟩, hv b I0 H0 M0 c δ M1 _ nb ok p1 σ I1 H1 (x.trans x1) (en.mono x1.i) _ fun y w I2 H2 M2 p2 x2 r2 => ?_⟩
      split at p2
      · rename_i ys em2
        obtain ⟨_, _, ho2, hh2, ws, rfl, pl2⟩ := x2.r a _ em2
        refine ⟨a, ws, w, rfl, rfl, hh2, Nat.lt_of_lt_of_le (by rw [Paired.length pl2]; exact p2.1) (by decide : 100000 ≤ sizeLine), ?_⟩
        exact q (.dat .none) .non I2 _ _ p2.2 ((x1.trans x2).trans (XM.mut x2.ok x2.r em2 ⟨_, rfl, paired_snoc r2 pl2⟩)) Dp.non
      · exact p2.elim
    · exact p1.elim
end
end DM
namespace DM
open PySem PySem.Spec PyProof.Rows L2 RZ DL DW
def IterM (K : PySem.W.Frag) (b : Bg) (Rl : Rel) (J : It) (I H : Hp) (M : Mem) (ds : List PyData) : Prop := ∃ G Y, Walk J ds.length G Y ∧ (∀ I' H' M', XM K b I H M I' H' M' → G H') ∧
  ∀ (i : Nat) (I2 H : Hp) (x : V) (H' : Hp) (d : PyData), Same I I2 → Ok K b I2 H → Y i H x H' → ds[i]? = some d → ∃ I3, Ext K b I2 H I3 H' ∧ Rl I3 H' x d
theorem IterM.of {K : PySem.W.Frag} {b : Bg} {Rl : Rel} {J : It} {I H : Hp} {M : Mem} {ds : List PyData} (h : IterOk K b Rl J I ds) : IterM K b Rl J I H M ds := by
  obtain ⟨G, Y, w, hG, hY⟩ := h
  exact ⟨G, Y, w, fun I' H' M' x => hG H' (x.i.trans x.ok.s), hY⟩
section
variable {K : PySem.W.Frag} {S : Sg} {b : Bg}
theorem paired_len_at {α β : Type} {F : α → β → Prop} {vs : List α} {xs : List β} {i : Nat} {v : α} (h : Paired F vs xs) (e : vs[i]? = some v) : ∃ x, xs[i]? = some x ∧ F v x := by
  induction h generalizing i with
  | nil => simp at e
  | @cons p q ps qs h t ih =>
    cases i with
    | zero => cases Option.some.inj e; exact ⟨_, rfl, h⟩
    | succ i => exact ih (i := i) (by simpa using e)
theorem walk_listD {a : Addr} {n : Nat} : Walk (Itl K a) n (fun H => ∃ xs, SqL K H a xs ∧ xs.length = n) (fun i H x H' => H' = H ∧ ∀ xs, SqL K H a xs → xs[i]? = some x) :=
  ⟨fun i _ hi ⟨xs, q, l⟩ => ⟨xs, xs[i]'(by omega), q, by simp⟩, fun _ ⟨xs, q, l⟩ => ⟨xs, q, by omega⟩, fun _ _ _ _ _ _ y => y⟩
theorem XM.mutH {I H I' H' : Hp} {M M' : Mem} {D : Addr} {xs : List V} {o : HO} (e : XM K b I H M I' H' M') (h0 : H D = none) (hi : I' D = none) (hm : M' D = none) (hb : D ≠ b.a) (hD : H' D = some (.lst xs)) : XM K b I H M I' (upd H' D o) M' := by
  obtain ⟨n, pl, tb, l, ns, x, q, m, c, e1, sl, r⟩ := e.ok.b
  have nD : ∀ {a : Addr} {u : HO}, H a = some u → a ≠ D := fun h z => by rw [z, h0] at h; cases h
  refine ⟨e.i, fun a u n t hm h => by rw [upd_ne (nD h)]; exact e.h a u n t hm h, e.n, e.m, fun l xs h => (let ⟨ys, h1⟩ := e.k l xs h; ⟨ys, by rw [upd_ne (fun z => hb z.symm)]; exact h1⟩), ⟨fun a u h => by rw [upd_ne (ne_of_none h hi)]; exact e.ok.s a u h, n, pl, tabs_upd tb hD, l, ns, x, q, m, c, by rw [upd_ne (fun z => hb z.symm)]; exact e1, sl, r⟩, fun a so h => ?_, fun a kvs h => ?_⟩
  · obtain ⟨g1, g2, ho, g3, g4⟩ := e.r a so h
    exact ⟨g1, g2, ho, by rw [upd_ne (fun z => by rw [z, hm] at h; cases h)]; exact g3, g4.mono (Same.refl _) e.r (Kx.updL hD)⟩
  · have z := e.lk a kvs h
    exact ⟨z.1, by rw [upd_ne (fun y => by rw [y, hm] at z; cases z.1)]; exact z.2⟩
theorem EnvM.wipe {I : Hp} {σ : L2.St} {δ : En} (n : EnvM K b I σ δ) {vs : List Nat} (hv : ∀ v ∈ vs, δ[v]? = some none) : EnvM K b I (L2.wipe σ vs) δ := by
  refine ⟨by rw [wipe_length]; exact n.len, fun i r h => ?_⟩
  rw [wipe_out (fun z => by rw [hv i z] at h; cases h)]
  exact n.at_ i r h
theorem lcFin_ok {I1 H1 Ik Hk : Hp} {M1 Mk : Mem} {D : Addr} {acc : List V} {ys : List DV} {k : LcK} {P : MP} {Q : VK} (x : XM K b I1 H1 M1 Ik Hk Mk) (hD : H1 D = none) (iD : Ik D = none) (mD : Mk D = none) (nb : D ≠ b.a) (aD : Hk D = some (.lst acc)) (pl : Paired (VB K b Ik) acc ys) (p : lcFin k P ys Mk)
    (q : ∀ r v I' H' M', P r M' → XM K b I1 H1 M1 I' H' M' → VB K b I' v r → Q v H') : Q (.ref D) Hk := by
  cases k with
  | dat =>
    unfold lcFin at p
    dsimp only at p
    split at p
    · rename_i ds ed
      have := dats_ok ed
      subst this
      have hd := vbs_dats pl
      have s1 : Same Ik (upd Ik D (.lst acc)) := fun c o h => by rw [upd_ne (ne_of_none h iD)]; exact h
      obtain ⟨n, pln, tb, l, ns, x0, q0, m0, c0, e1, sl, r0⟩ := x.ok.b
      refine q (.dat (.list ds)) (.ref D) (upd Ik D (.lst acc)) Hk Mk p ⟨x.i.trans s1, x.h, fun a o hi hm h t => ?_, x.m, x.k, ⟨fun a u h => ?_, by rw [upd_ne (fun z => nb z.symm)]; exact n, fun a u h => ?_, tb, l, ns, x0, q0, m0, c0, e1, sl_mono s1 sl, r0⟩, fun a so h => ?_, x.lk⟩ (Dp.lst (.inl (.inl upd_same)) (dpa_mono s1 hd))
      · rw [upd_ne (fun z => by rw [z, hD] at h; cases h)]
        exact x.n a o hi hm h t
      · by_cases z : a = D
        · subst z; rw [upd_same] at h; cases h; exact aD
        · rw [upd_ne z] at h; exact x.ok.s a u h
      · by_cases z : a = D
        · subst z; rw [upd_same] at h; cases h; exact True.intro
        · rw [upd_ne z] at h; exact pln a u h
      · obtain ⟨g1, g2, ho, g3, g4⟩ := x.r a so h
        exact ⟨by rw [upd_ne (fun z => by rw [z, mD] at h; cases h)]; exact g1, g2, ho, g3, g4.mono s1 x.r .refl⟩
    · exact p.elim
  | sto =>
    refine q _ _ Ik Hk _ (p D mD) ⟨x.i, x.h, x.n, fun a o hm h t => ?_, x.k, x.ok, fun a so h => ?_, fun a kvs h => ?_⟩ rfl
    · rw [um_ne (fun z => by rw [z, hD] at h; cases h)]
      exact x.m a o hm h t
    · by_cases z : a = D
      · subst z
        rw [um_same] at h
        cases h
        exact ⟨iD, nb, _, aD, acc, rfl, pl⟩
      · rw [um_ne z] at h
        exact ⟨(x.r a so h).1, x.r.at_ (Same.refl _) (Kx.umL aD) h⟩
    · have z := x.lk a kvs h
      exact ⟨by rw [um_ne (fun y => by rw [y, mD] at z; cases z.1)]; exact z.1, z.2⟩
end
end DM
namespace DM
open PySem PySem.Spec PyProof.Rows L2 RZ DL DW
section
variable {X : Cx} {S : Sg} {e a b o tg iter : Expr} {me mo mv mk : ME} {pos : Pos} {st : Stmt} {sts : List Stmt} {d d' : MS}
theorem xss_nil : XSs X S [] mNext := ⟨_, pss_nil, cms_next⟩
theorem xss_one (h : XS X S st d) : XSs X S [st] d := by
  obtain ⟨t, h1, h2⟩ := h
  exact ⟨_, pss_one h1, h2⟩
theorem xss_cons (h : XS X S st d) (h' : XSs X S sts d') : XSs X S (st :: sts) (mSeq d d') := by
  obtain ⟨t, h1, h2⟩ := h
  obtain ⟨u, h3, h4⟩ := h'
  exact ⟨_, pss_cons h1 h3, cms_seq h2 h4⟩
theorem xs_if {c : Expr} {u v : List Stmt} {dt : MT} (hc : XT X S c dt) (h : XSs X S u d) (h' : XSs X S v d') : XS X S (.If c u v pos) (mIfS dt d d') := by
  obtain ⟨t, t1, t2⟩ := hc
  obtain ⟨t', h1, h2⟩ := h
  obtain ⟨u', h3, h4⟩ := h'
  exact ⟨_, ps_if t1 h1 h3, cms_if t2 h2 h4⟩
theorem xs_ret (h : XE X S e me) : XS X S (.Return (some e) pos) (mRet me) := by
  obtain ⟨t, h1, h2⟩ := h
  exact ⟨_, ps_ret h1, cms_ret h2⟩
theorem xs_expr (h : XE X S e me) (hs : swapsWith e none pos.line X.env = pure false := by rfl) : XS X S (.Expr e pos) (mExpr me) := by
  obtain ⟨t, h1, h2⟩ := h
  exact ⟨_, ps_expr h1 hs, cms_expr h2⟩
theorem xs_set {i : Nat} {x : Str} {pos' : Pos} (hN : X.N.Nodup) (hx : X.N[i]? = some x) (hi : i < S.n) (h : XE X S e me) (hp : ∀ te, PE X e te → PS X (.Assign [.Name x pos'] e pos) (tAsg te (gName i))) : XS X S (.Assign [.Name x pos'] e pos) (mAsg i me) := by
  obtain ⟨t, h1, h2⟩ := h
  exact ⟨_, hp t h1, cms_asg hi h2⟩
theorem xe_app {call : Expr} (ho : XE X S o mo) (hv : XE X S e mv) (hp : ∀ to tv, PE X o to → PE X e tv → PE X call (tBM X.K "list" rAppend to (tCons tv tNil))) : XE X S call (mApp mo mv) := by
  obtain ⟨t, h1, h2⟩ := ho
  obtain ⟨u, h3, h4⟩ := hv
  exact ⟨_, hp t u h1 h3, cm_app h2 h4⟩
theorem all_x {ι : Type} {Xi : ι → Cx} {K : PySem.W.Frag} {S : Sg} {e : Expr} {de : ME} (hK : ∀ i, (Xi i).K = K) (h : ∀ i, XE (Xi i) S e de) : ∃ te, (∀ i, PE (Xi i) e te) ∧ CmE K S te de := by
  have h' : ∀ i, ∃ te, PE (Xi i) e te ∧ CmE K S te de := fun i => by
    obtain ⟨te, h1, h2⟩ := h i
    exact ⟨te, h1, hK i ▸ h2⟩
  refine ⟨fun σ H Q => ∀ i, Classical.choose (h' i) σ H Q, fun i => ⟨fun pins s σ H Q I q => (Classical.choose_spec (h' i)).1.run pins s σ H Q I (q i)⟩, fun b I0 H0 M0 c δ M P nb ok p σ I H k n Q q i => (Classical.choose_spec (h' i)).2 b I0 H0 M0 c δ M P nb ok p σ I H k n Q q⟩
def XTs (X : Cx) (S : Sg) (es : List Expr) (dt : MT) : Prop := ∃ t, PTs X es t ∧ CmT X.K S t dt
theorem xts_nil : XTs X S [] mYes := ⟨_, pts_nil, fun b I0 H0 M0 c δ M P nb ok p σ I H k n Q q => q true I H M p k.re⟩
theorem all_xt {ι : Type} {Xi : ι → Cx} {K : PySem.W.Frag} {S : Sg} {es : List Expr} {de : MT} (hK : ∀ i, (Xi i).K = K) (h : ∀ i, XTs (Xi i) S es de) : ∃ te, (∀ i, PTs (Xi i) es te) ∧ CmT K S te de := by
  have h' : ∀ i, ∃ te, PTs (Xi i) es te ∧ CmT K S te de := fun i => by
    obtain ⟨te, h1, h2⟩ := h i
    exact ⟨te, h1, hK i ▸ h2⟩
  refine ⟨fun σ H Q => ∀ i, Classical.choose (h' i) σ H Q, fun i => ⟨fun pins s σ H Q I q => (Classical.choose_spec (h' i)).1.run pins s σ H Q I (q i)⟩, fun b I0 H0 M0 c δ M P nb ok p σ I H k n Q q i => (Classical.choose_spec (h' i)).2 b I0 H0 M0 c δ M P nb ok p σ I H k n Q q⟩
end
end DM
namespace DM
open PySem PySem.Spec PyProof.Rows L2 RZ DL DW
def gNames : List Nat → TGs
  | [] => gNil
  | i :: is => gCons (gName i) (gNames is)
theorem gNames_ok {K : PySem.W.Frag} {b : Bg} {I : Hp} {H : Hp} {Q : L2.St → Hp → Prop} : ∀ {is : List Nat} {vs : List V} {rs : List DV} {σ : L2.St} {δ : En}, Paired (VB K b I) vs rs → rs.length = is.length → EnvM K b I σ δ → (∀ i ∈ is, i < δ.length) →
    (∀ σ', EnvM K b I σ' (setAll is rs δ) → Q σ' H) → gNames is vs σ H Q
  | [], _, _, σ, δ, h, hl, en, _, q => by
    cases h with
    | nil => exact ⟨rfl, q σ en⟩
    | cons _ _ => cases hl
  | i :: is, _, _, σ, δ, h, hl, en, hi, q => by
    cases h with
    | nil => cases hl
    | @cons v r vs rs h1 h2 =>
      exact ⟨v, vs, rfl, gNames_ok h2 (by simpa using hl) (en.set (hi i (List.mem_cons_self ..)) h1) (fun j hj => by rw [List.length_set]; exact hi j (List.mem_cons_of_mem _ hj)) q⟩
theorem setAll_len : ∀ (is : List Nat) (rs : List DV) (δ : En), (setAll is rs δ).length = δ.length
  | [], _, _ => rfl
  | _ :: _, [], _ => rfl
  | i :: is, r :: rs, δ => by
    show (setAll is rs _).length = _
    rw [setAll_len is rs, List.length_set]
theorem cms_parG {K : PySem.W.Frag} {S : Sg} {m : Nat} {is : List Nat} {ta : TA} {ma : MA} (hm : m ≤ 1000) (hi : ∀ i ∈ is, i < S.n) (h : CmA K S m ta ma) : CmS K S (tAsg (TF.tTupF ta) (gTup K is.length (gNames is))) (mParG is ma) := fun b I0 H0 M0 c δ M D nb ok p σ I H x en Dd a1 a2 a3 a4 =>
  h b I0 H0 M0 c δ M _ nb ok p σ I H x en _ fun rs vs I1 H1 M1 ⟨l, hl, pr⟩ x1 r1 => by
    refine ⟨Nat.le_trans (by rw [Paired.length r1, l]; exact hm) (by decide : 1000 ≤ sizeLine), fun t o ht ho => ?_⟩
    have x2 := XM.of x1.r (x1.ok.newH (o := .frz o (.tup vs)) ht)
    refine ⟨t, vs, rfl, .inl (.inr ⟨o, upd_same⟩), by rw [Paired.length r1]; exact hl, ?_⟩
    exact gNames_ok (Paired.mapP r1 fun _ _ z => z.mono x2.i) hl (en.mono (x1.i.trans x2.i)) (fun i hi' => by rw [nb]; exact hi i hi') fun σ' n' => a1 _ σ' I1 _ M1 ⟨by rw [setAll_len]; exact nb, pr⟩ (x1.trans x2) n'
theorem xs_parG {X : Cx} {S : Sg} {st : Stmt} {is : List Nat} {es : List Expr} {ma : MA} (hm : es.length ≤ 1000) (hi : ∀ i ∈ is, i < S.n) (h : XA X S es ma) (hp : ∀ ta, PA X es ta → PS X st (tAsg (TF.tTupF ta) (gTup X.K is.length (gNames is)))) : XS X S st (mParG is ma) := by
  obtain ⟨t, h1, h2⟩ := h
  exact ⟨_, hp t h1, cms_parG hm hi h2⟩
theorem law_m {K : PySem.W.Frag} {S : Sg} {b : Bg} {I H : Hp} {σ : L2.St} {c : Cm} {δ : En} {t : TS} {ds : MS} {D : Ends} (h : CmS K S t ds) (k : Ok K b I H) (n : EnvR K b H I H σ δ) (o : δ.all okS = true) (nb : δ.length = S.n) (fa : c.fa = S.fa) (hx : ∀ s fs M, ¬ c.x s fs M) (htb : S.tb b.T)
    (hd : ds c δ (fun _ => none) ⟨fun _ _ => False, fun r _ => r = dbl true, fun _ _ => False, fun _ _ => False⟩) (hq : ∀ H', D.rt (.bl true) H') : t D σ H :=
  h b I H (fun _ => none) c δ _ _ nb ⟨fa, fun s fs d I' H' M' hxx => (hx s fs M' hxx).elim, htb⟩ hd σ I H (.refl k (fun a o e => by cases e)) (.ofR n o) D
    (fun _ _ _ _ _ z _ _ => z.2.elim) (fun r v I' H' M' e _ rs => by
      subst e
      have rs : Dp K I' v (.bool true) := rs
      cases rs
      exact hq H') (fun _ _ _ _ _ z _ _ => z.2.elim) (fun _ _ _ _ _ z _ _ => z.2.elim)
end DM
namespace DM
open PySem PySem.Spec PyProof.Rows L2 RZ DL DW
end DM
namespace DM
open PySem PySem.Spec PyProof.Rows L2 RZ DL DW
end DM
namespace DM
open PySem PySem.Spec PyProof.Rows L2 RZ DL DW
theorem sqM {a b : MS} {c : Cm} {δ : En} {M : Mem} {D : MEd} (h : a c δ M ⟨laterM b c D, D.rt, D.bk, D.ct⟩) : mSeq a b c δ M D := h
theorem ltM {b : MS} {c : Cm} {δ : En} {M : Mem} {D : MEd} (h : b c δ M D) : laterM b c D δ M := h
theorem nxM {b : MS} {c : Cm} {δ : En} {M : Mem} {D : MEd} {r : MP} {bk ct : En → Mem → Prop} (h : b c δ M D) : (⟨laterM b c D, r, bk, ct⟩ : MEd).nx δ M := h
end DM
set_option maxHeartbeats 1000000
namespace DM
open PySem PySem.Spec PyProof.Rows L2 RZ DL DW
end DM
set_option maxHeartbeats 4000000
namespace DW
open PySem PySem.Spec PyProof.Rows L2 RZ DL
def dCallKDN (W : Wt) (is : List Nat) (i : Int) (da dk : DA) : DE := fun c δ P => da c δ fun rs => dk c δ fun zs => (pkD is [dint i] rs zs).all isPl = true ∧ W (pkD is [dint i] rs zs) P c
section
variable {X : Cx} {S : Sg} {pos p : Pos} {x : Str} {k n : Nat} {f : Addr} {fd : FuncData} {ps : List Str} {W : Wt} {e : Expr} {es : List Expr} {da : DA}
theorem je_callKDN {is : List Nat} {i : Int} {ks : List Str} {kws : List Keyword} {dk : DA} {mv : List Value} (F : FnOk X.prog X.w X.K X.mg X.base (L2.CX X.prog X.w) k f fd ps (spW X.K S.cls S.fa W)) (hr : Room k X.A) (hg : Gl X x) (hm : X.mg x = some (.ref f)) (hk : PySem.W.keepIn X.K (.ref f) = true)
    (hb : KBn X.K fd ps n ks (fun us ws => pkD is mv us ws) (fun vs zs => pkD is [.int i] vs zs)) (hx : Passes (L2.CX X.prog X.w) X S.E) (ha : JA X S (e :: es) da) (hkw : JK X S kws dk)
    (hl : kws.length = ks.length := by rfl) (hn : (e :: es).length = n := by rfl) (hall : (backToKw pos (keywordEach kws X.env)).all (·.1.isSome) = true := by rfl) (hks : (backToKw pos (keywordEach kws X.env)).filterMap (·.1) = ks := by rfl) (hdb : (x == ("__debug__" : Str)) = false := by decide)
    (he : starEach (e :: es) X.env = (false, eval e X.env) :: starEach es X.env := by rfl) (hpl : ((backTo pos (starEach (e :: es) X.env)).any (·.1) || (backToKw pos (keywordEach kws X.env)).any (·.1.isNone)) = false := by rfl) : JE X S (.Call (.Name x p) (e :: es) kws pos) (dCallKDN W is i da dk) := by
  obtain ⟨t, k1, k2⟩ := hkw
  obtain ⟨u, a1, a2⟩ := ha
  refine ⟨_, pe_callN F hr hg hm hk hb hx a1 k1 hall hks hdb he hpl, ?_⟩
  rw [hl] at k2
  rw [hn] at a2
  refine fun b I0 H0 c δ P nb ok p σ I H k e Q q => ?_
  refine a2 b I0 H0 c δ _ nb ok p σ I H k e _ fun rs vs I1 H1 ⟨l1, p1⟩ x1 r1 => ?_
  refine k2 b I0 H0 c δ _ nb ok p1 σ I1 H1 (k.trans x1) (e.ext x1) _ fun zs ws I2 H2 ⟨l2, p2⟩ x2 r2 => ?_
  have rm : ResA X.K b H I2 H2 [V.int i] [dint i] := .cons (Dp.int i) .nil
  have x12 := x1.trans x2
  exact ⟨by rw [resA_len r1]; exact l1, by rw [resA_len r2]; exact l2, (pkD is [dint i] rs zs, P, c), b, I2, x2.ok, resA_now (pk_res is (r1.ext x2) (resA_app (r2.since (free_of x1)) rm)) (isPl_own p2.1), ⟨ok.fa, p2⟩, fun r v I' H' o x3 rs' => q r v I' H' o (x12.trans x3) (rs'.since (free_of x12)), fun C fs d I' H' he x3 h1 h2 => ok.xw C fs d I' H' he ((k.trans x12).trans x3) h1 h2⟩
end
theorem kb_dflN {K : PySem.W.Frag} {x qual : Str} {st : Stmt} {f : Addr} {fd : FuncData} {ps ks : List Str} {y : Str} {i : Int} {n : Nat} (is : List Nat) (F : FunD K x qual (defArgs st) (defBody st) (defScope st) [] [(y, .int i)] f fd)
    (h : ∀ (D : Addr) (doc pm : Value) (an : Option Addr) (cdv ct : Value) (us mv ws : List Value), us.length = n → mv.length = 1 → ws.length = ks.length →
      KwChain D ([y].zip mv) (bindArgs (PySem.W.fnOf x qual (defArgs st) (defBody st) (defScope st) .none (.ref D) doc pm an cdv ct) ⟨us, ks.zip ws⟩) (ps.zip (pkD is mv us ws))) :
    ∃ mv : List Value, KBn K fd ps n ks (fun us ws => pkD is mv us ws) (fun vs zs => pkD is [.int i] vs zs) :=
  F.kbinds0 n ks [(y, .int i)] (fun us mv ws => pkD is mv us ws) (by simp) (fun q hq => hq) (fun h1 h2 h3 => pkD_rel is h1 h2 h3) h
end DW
namespace DM
open PySem PySem.Spec PyProof.Rows L2 RZ DL DW
section
variable {X : Cx} {S : Sg} {a b e : Expr} {me : ME} {pos : Pos}
theorem xop_catR : XOp X (binaryOp .Add) oAddR := ⟨_, op_cat, fun b x y M P p I H v w k mr hv hw Q q => by
  unfold oAddR at p
  split at p
  · rename_i a d
    have hv : v = .ref a := hv
    have hw : w = .ref d := hw
    subst hv hw
    split at p
    · rename_i xs ys em ed
      obtain ⟨_, _, ho, hh, vs, rfl, pl⟩ := mr a _ em
      obtain ⟨_, _, ho2, hh2, ws, rfl, pl2⟩ := mr d _ ed
      exact ⟨a, d, vs, ws, rfl, rfl, hh, hh2, Nat.le_trans (by rw [Paired.length pl, Paired.length pl2]; exact p.1) (by decide : 100000 ≤ sizeLine), fun c nc => q _ _ I _ _ (p.2 c (mr.none nc)) (XM.new k mr nc ⟨_, rfl, paired_app pl2 pl⟩) rfl⟩
    · exact p.elim
  · exact p.elim⟩
end
theorem lcGoL_at {a : Addr} {xs : List DV} {step : DV → Mem → (Option DV → Mem → Prop) → Prop} {l : List DV} {M : Mem} {P : List DV → Mem → Prop} (h : lcGoL a xs step l M P) : M a = some (.lst xs) := by
  cases l with
  | nil => exact h.1
  | cons _ _ => exact h.1
theorem cm_lcL {K : PySem.W.Frag} {S : Sg} {te te2 : TE} {tt : TT} {vs : List Nat} {kd : LcK} {i : Nat} {me : ME} {dt : MT} {de : ME} (hin : i < S.n) (hiv : i ∈ vs) (hi : CmE K S te me) (ht : CmT K S.no tt dt) (he : CmE K S.no te2 de) :
    CmE K S (tLc (iList K te) (gName i) tt te2 vs) (mLcL kd me i dt de vs) := fun b I0 H0 M0 c δ M P nb ok p σ I H x n Q q => by
  obtain ⟨hv, p⟩ := p
  refine hi b I0 H0 M0 c δ M _ nb ok p σ I H x n _ fun r v I1 H1 M1 p1 x1 rs => ?_
  split at p1
  · rename_i a
    have rs : v = .ref a := rs
    subst rs
    split at p1
    · rename_i xs em
      obtain ⟨hlen, go⟩ := p1
      obtain ⟨_, nab, ho, hh, vs0, rfl, pl⟩ := x1.r a _ em
      refine ⟨a, rfl, ⟨vs0, .inl (.inl hh)⟩, fun D hD => ?_⟩
      have at_ : ∀ {I' H' : Hp} {M' : Mem}, XM K b I1 H1 M1 I' H' M' → M' a = some (.lst xs) → ∃ ws, H' a = some (.lst ws) ∧ Paired (VB K b I') ws xs := fun x' e => by
        obtain ⟨_, _, ho, hh, ws, rfl, pl⟩ := x'.r a _ e
        exact ⟨ws, hh, pl⟩
      have nDb : D ≠ b.a := x1.ok.nb hD
      have mD1 := x1.r.none hD
      have xD := XM.of x1.r (x1.ok.newH (o := .lst []) hD)
      refine lc_it (walk_listD (K := K) (a := a) (n := xs.length)) (fun i' Hk => ∃ Ik Mk acc ys, XM K b I1 H1 M1 Ik Hk Mk ∧ Ik D = none ∧ Mk D = none ∧ Hk D = some (.lst acc) ∧ Paired (VB K b Ik) acc ys ∧ acc.length ≤ i' ∧ lcGoL a xs (lcStepL i dt de c δ) (xs.drop i') Mk fun zs M' => lcFin kd P (ys ++ zs) M') ?_ (fun i' Hk _ ⟨Ik, Mk, acc, ys, e, _, _, _, _, _, g⟩ => ?_) ?_ ?_
      · exact ⟨I1, M1, [], [], xD, x1.ok.inone hD, mD1, upd_same, .nil, Nat.le_refl _, go⟩
      · obtain ⟨ws, h1, h2⟩ := at_ e (lcGoL_at g)
        exact ⟨ws, .inl (.inl h1), Paired.length h2⟩
      · rintro k u Hk Hk' hk ⟨Ik, Mk, acc, ys, e, iD, mD, aD, hd, al, go'⟩ ⟨rfl, hy⟩
        obtain ⟨ws, h1, h2⟩ := at_ e (lcGoL_at go')
        obtain ⟨z, hz, ruz⟩ := paired_len_at h2 (hy ws (.inl (.inl h1)))
        have hz2 : xs[k] = z := (List.getElem?_eq_some_iff.mp hz).2
        rw [List.drop_eq_getElem_cons hk, hz2] at go'
        obtain ⟨ea, go'⟩ := go'
        have n3 : EnvM K b Ik (wipe σ vs) δ := (n.mono (x1.i.trans e.i)).wipe hv
        have n2 : EnvM K b Ik ((wipe σ vs).set i (some u)) (δ.set i (some z)) := n3.set (by rw [nb]; exact hin) ruz
        have nb' : (δ.set i (some z)).length = S.n := by rw [List.length_set]; exact nb
        unfold lcStepL at go'
        refine ⟨?_, ?_⟩
        · rw [wipe_eq (σ := wipe σ vs) (τ := (wipe σ vs).set i (some u)) (by rw [List.length_set]) (fun j hj => by rw [List.getElem?_set_ne (fun z => by subst z; exact hj hiv)])]
          exact wipe_eq (wipe_length _ _) fun j hj => wipe_out hj
        · refine ht b I0 H0 M0 c.no _ Mk _ nb' ok.no go' _ Ik Hk' (x.trans (x1.trans e)) n2 _ fun t I4 H4 M4 pc e4 => ?_
          have e14 := e.trans e4
          have iD4 : I4 D = none := e4.n D _ iD mD aD lst_tbl
          have mD4 : M4 D = none := e4.m D _ mD aD lst_tbl
          have aD4 : H4 D = some (.lst acc) := e4.h D _ nDb lst_tbl mD aD
          have hd4 := Paired.mapP hd fun _ _ z => VB.mono e4.i z
          cases t with
          | false =>
            rw [if_neg (by decide)] at pc
            rw [if_neg (by decide)]
            exact ⟨I4, M4, acc, ys, e14, iD4, mD4, aD4, hd4, by omega, pc⟩
          | true =>
            rw [if_pos rfl] at pc
            rw [if_pos rfl]
            refine he b I0 H0 M0 c.no _ M4 _ nb' ok.no pc _ I4 H4 (x.trans (x1.trans e14)) (n2.mono e4.i) _ fun r y I5 H5 M5 pr e5 rs => ?_
            have iD5 : I5 D = none := e5.n D _ iD4 mD4 aD4 lst_tbl
            have mD5 : M5 D = none := e5.m D _ mD4 aD4 lst_tbl
            have aD5 : H5 D = some (.lst acc) := e5.h D _ nDb lst_tbl mD4 aD4
            refine ⟨acc, aD5, Nat.lt_of_lt_of_le (by omega : acc.length < 100000) (by decide : 100000 ≤ sizeLine), I5, M5, acc ++ [y], ys ++ [r], XM.mutH (e14.trans e5) hD iD5 mD5 nDb aD5, iD5, mD5, upd_same, DM.paired_snoc rs (Paired.mapP hd4 fun _ _ z => VB.mono e5.i z), by rw [List.length_append]; simp; omega, ?_⟩
            have ez : (fun zs M' => lcFin kd P (ys ++ [r] ++ zs) M') = fun zs M' => lcFin kd P (ys ++ r :: zs) M' := by
              funext zs M'
              rw [List.append_assoc]
              rfl
            rw [ez]
            exact pr
      · rintro Hk ⟨Ik, Mk, acc, ys, e, iD, mD, aD, hd, al, go'⟩
        rw [List.drop_length] at go'
        obtain ⟨_, go'⟩ := go'
        rw [List.append_nil] at go'
        exact lcFin_ok e hD iD mD nDb aD hd go' fun r v I' H' M' pr x2 rs => q r v I' H' M' pr (x1.trans x2) rs
    · exact p1.elim
  · exact p1.elim
section
variable {X : Cx} {S : Sg} {tg iter : Expr} {me : ME} {pos : Pos}
theorem xs_setLcL {j : Nat} {y : Str} {py : Pos} {elt : Expr} {ifs : List Expr} {scope : Scope} {own : List (Str × Nat)} {spos : Pos} {i : Nat} {kd : LcK} {dt : MT} {de : ME} (hc : X.calm = true) (hN : X.N.Nodup) (hy : X.N[j]? = some y) (hyl : X.env.scope.names.lookup y = some .local)
    (hsw : swapsWith (.ListComp elt [⟨tg, iter, ifs, 0⟩] scope pos) (some (.Name y py)) spos.line X.env = pure true) (hjn : j < S.n) (hi : XE X S iter me) (ok : BlkOk X.N X.env.scope scope own) (hin : i < S.n) (hiv : i ∈ own.map (·.2)) (hg : ∀ q : Blk, PG (Xb X scope q) tg (gName i))
    (ht : ∀ q : Blk, XTs (Xb X scope q) S.no ifs dt) (he : ∀ q : Blk, XE (Xb X scope q) S.no elt de) (hs : ∀ x, foldedSetIterable iter X.env x = pure x := by intro _; rfl) :
    XS X S (.Assign [.Name y py] (.ListComp elt [⟨tg, iter, ifs, 0⟩] scope pos) spos) (mAsg j (mLcL kd me i dt de (own.map (·.2)))) := by
  obtain ⟨wi, i1, i2⟩ := hi
  obtain ⟨tt, t1, t2⟩ := all_xt (Xi := Xb X scope) (K := X.K) (fun _ => rfl) ht
  obtain ⟨te, e1, e2⟩ := all_x (Xi := Xb X scope) (K := X.K) (fun _ => rfl) he
  exact ⟨_, ps_setLc hc hN hy hyl hsw (pi_list i1) ok (fun s H C cl fp => hg (s, H, C, cl, fp)) (fun s H C cl fp => t1 (s, H, C, cl, fp)) (fun s H C cl fp => e1 (s, H, C, cl, fp)) hs, cms_asg hjn (cm_lcL hin hiv i2 t2 e2)⟩
end
end DM
namespace DW
open PySem PySem.Spec PyProof.Rows L2 RZ DL
end DW
namespace DM
open PySem PySem.Spec PyProof.Rows L2 RZ DL DW
end DM
namespace DM
open PySem PySem.Spec PyProof.Rows L2 RZ DL DW
section
variable {X : Cx} {S : Sg} {st : Stmt} {es : List Expr} {ma : MA}
theorem xs_par2 {i j : Nat} (hi : i < S.n) (hj : j < S.n) (h : XA X S es ma) (hl : es.length = 2) (hp : ∀ ta, PA X es ta → PS X st (tPar i j ta)) : XS X S st (mParG [i, j] ma) := by
  obtain ⟨t, h1, h2⟩ := h
  refine ⟨_, hp t h1, fun b I0 H0 M0 c δ M D nb ok p σ I H x en Dd a1 a2 a3 a4 => ?_⟩
  refine h2 b I0 H0 M0 c δ M _ nb ok p σ I H x en _ fun rs vs I1 H1 M1 ⟨l, _, pr⟩ x1 r => ?_
  rw [hl] at l
  match rs, vs, l, r, pr with
  | [r1, r2], [v1, v2], _, .cons q1 (.cons q2 .nil), pr =>
    exact ⟨v1, v2, rfl, a1 _ _ I1 H1 M1 ⟨by show ((δ.set i _).set j _).length = _; rw [List.length_set, List.length_set]; exact nb, pr⟩ x1 (((en.mono x1.i).set (by rw [nb]; exact hi) q1).set (by rw [List.length_set, nb]; exact hj) q2)⟩
end
end DM
namespace DM
open PySem PySem.Spec PyProof.Rows L2 RZ DL DW
end DM
namespace L2
open PySem PySem.Spec PyProof.Rows
end L2
namespace DM
open PySem PySem.Spec PyProof.Rows L2 RZ DL DW
section
variable {X : Cx} {S : Sg} {o e : Expr} {es : List Expr} {ma : MA} {me mo mk mv : ME} {pos : Pos}
theorem XPs.run {ks : List (Option Expr)} {vs : List Expr} {ts : List (TE × TE)} {ps : List (Key × ME)} (h : XPs X S pos ks vs ts ps) : ∀ b I0 H0 M0 c δ M (P : List (Key × DV) → Mem → Prop), δ.length = S.n → Cmk X.K S b I0 H0 M0 c → mPairs ps c δ M P →
    ∀ (σ : L2.St) (I H : Hp), XM X.K b I0 H0 M0 I H M → EnvM X.K b I σ δ → ∀ Q : List (V × V) → Hp → Prop,
      (∀ kvs (l : List (Key × V)) I' H' M', kvs.length = ps.length → P kvs M' → XM X.K b I H M I' H' M' → Paired (KVB X.K b I') l kvs → Q (l.map fun kv => (kV kv.1, kv.2)) H') → tPairs ts σ H Q := by
  induction h with
  | nil =>
    intro b I0 H0 M0 c δ M P nb ok p σ I H x en Q q
    exact q [] [] I H M rfl p x.re .nil
  | @cons k v ks vs tk tv ts kk mv ps a hk cc hv t ih =>
    intro b I0 H0 M0 c δ M P nb ok p σ I H x en Q q
    refine hk σ H _ ?_
    refine hv b I0 H0 M0 c δ M _ nb ok p σ I H x en _ fun y w I1 H1 M1 p1 x1 r1 => ?_
    refine ih b I0 H0 M0 c δ M1 _ nb ok p1 σ I1 H1 (x.trans x1) (en.mono x1.i) _ fun kvs l I2 H2 M2 hl p2 x2 r2 => ?_
    exact q ((kk, y) :: kvs) ((kk, w) :: l) I2 H2 M2 (by simp [hl]) p2 (x1.trans x2) (.cons ⟨rfl, r1.mono x2.i⟩ r2)
end
end DM
namespace DM
open PySem PySem.Spec PyProof.Rows L2 RZ DL DW
end DM
namespace DM
open PySem PySem.Spec PyProof.Rows L2 RZ DL DW
end DM
namespace DM
open PySem PySem.Spec PyProof.Rows L2 RZ DL DW
end DM
namespace DM
open PySem PySem.Spec PyProof.Rows L2 RZ DL DW
end DM
namespace DM
open PySem PySem.Spec PyProof.Rows L2 RZ DL DW
end DM
namespace DM
open PySem PySem.Spec PyProof.Rows L2 RZ DL DW
end DM
namespace PySem
open Sem (wp)
end PySem
namespace DW
open PySem PySem.Spec PyProof.Rows L2 RZ DL LamX
end DW
namespace DM
open PySem PySem.Spec PyProof.Rows L2 RZ DL DW
end DM
namespace DW
open PySem PySem.Spec PyProof.Rows L2 RZ DL
end DW
namespace DM
open PySem PySem.Spec PyProof.Rows L2 RZ DL DW
end DM
namespace DM
open PySem PySem.Spec PyProof.Rows L2 RZ DL DW
end DM
namespace DM
open PySem PySem.Spec PyProof.Rows L2 RZ DL DW
theorem Ok.grow {K : PySem.W.Frag} {b : Bg} {I H H' : Hp} (o : Ok K b I H) (k : ∀ a u, H a = some u → H' a = some u) : DL.Ext K b I H I H' := by
  obtain ⟨S, n, pl, tb, l, ns, x, q, m, c, e, sl, r⟩ := o
  exact ⟨Same.refl I, fun a u _ _ h => k a u h, fun a u n _ _ => n, fun l xs h => ⟨xs, k _ _ h⟩, fun a u h => k a u (S a u h), n, pl, tb.ext k, l, ns, x, q, m, c, k _ _ e, sl, r⟩
theorem dp_key {K : PySem.W.Frag} {I : Hp} : ∀ k : Key, Dp K I (kV k) (keyPD k)
  | .inl i => Dp.int i
  | .inr s => Dp.str s
end DM
namespace DW
open PySem PySem.Spec PyProof.Rows L2 RZ DL
end DW
namespace DM
open PySem PySem.Spec PyProof.Rows L2 RZ DL DW
end DM
namespace DM
open PySem PySem.Spec PyProof.Rows L2 RZ DL DW
end DM
namespace DM
open PySem PySem.Spec PyProof.Rows L2 RZ DL DW
end DM
namespace DM
open PySem PySem.Spec PyProof.Rows L2 RZ DL DW
end DM
namespace DM
open PySem PySem.Spec PyProof.Rows L2 RZ DL DW
end DM
namespace DM
open PySem PySem.Spec PyProof.Rows L2 RZ DL DW
end DM
namespace DM
open PySem PySem.Spec PyProof.Rows L2 RZ DL DW
end DM
namespace DM
open PySem PySem.Spec PyProof.Rows L2 RZ DL DW
end DM
namespace DW
open PySem PySem.Spec PyProof.Rows L2 RZ DL
end DW
namespace DM
open PySem PySem.Spec PyProof.Rows L2 RZ DL DW
section
variable {X : Cx} {pins : List (Addr × Obj)} {σ : L2.St} {H : Hp} {s : Shared}
theorem cloO_ok {P : Program} {w : World} {Hx : Hp} {h : Heap} {a L c' : Addr} {l : Lam} {pm ctv : Value} (e : h.get? a = some (PySem.W.kla_obj "<lambda>" (l.qual ++ "<lambda>") l.params l.body l.scope (l.cells L) pm c' ctv)) : ObjOk P w Hx h a (CloO a l L c') :=
  ⟨⟨pm, ctv, e⟩, ⟨_, e⟩, fun h1 h2 ⟨x, y, z⟩ st => ⟨x, y, st _ z⟩⟩
theorem celO_ok {P : Program} {w : World} {Hx : Hp} {h : Heap} {a : Addr} {v : V} {u : Value} (r : RelV v u) (e : h.IsCell a (some u)) : ObjOk P w Hx h a (CelO a v) :=
  ⟨⟨u, r, e⟩, (let ⟨o, eo, _⟩ := e; ⟨o, eo⟩), fun h1 h2 ⟨u, r, o, eo, ed⟩ st => ⟨u, r, o, st _ eo, ed⟩⟩
def tMk (T : List (Addr × Str)) (l : Lam) (L : Addr) : TE := fun _ H Q => LamX.Tabs T H ∧ ∀ H1 f c', LamX.ExtN H H1 → LamX.Tabs T H1 → H1 f = none → H1 c' = some (LamX.CodeO c' (l.qual ++ "<lambda>")) → Q (.ref f) (upd H1 f (CloO f l L c'))
theorem pe_mk {T : List (Addr × Str)} {c P : Addr} {params : Arguments} {body : Expr} {scope : Scope} {pos : Pos} {l : Lam} {L : Addr} (TB : LamX.TabB X.base X.mg c P) (hcode : X.env.code = .ref c) (hmT : (P, l.qual ++ "<lambda>") ∈ T) (hu : ∀ p ∈ T, p.1 = P → p.2 = l.qual ++ "<lambda>")
    (Ls : LamX.LamS X.env.scope scope) (hdef : defaultsOf params X.env = ([], [])) (hq : X.env.qual = l.qual) (h1 : l.params = params) (h2 : l.body = body) (h3 : l.scope = scope) (hc : X.env.cells = cellsFrom (L + 1) l.msc.names []) :
    PE X (.Lambda params body scope pos) (tMk T l L) := by
  subst h1 h2 h3
  have ecl : cloFrom X.env.cells l.scope.names [] = l.cells L := by rw [hc]; rfl
  refine ⟨fun pins s σ H Q I ⟨hT, h⟩ => ?_⟩
  obtain ⟨ps, hP, trip, known⟩ := hT _ hmT
  have qualE : X.env.qual ++ "<lambda>" = l.qual ++ "<lambda>" := by rw [hq]
  refine PySem.W.kla_eval hdef ?_
  rw [qualE]
  have tabS : s.heap.get? P = some { cls := .none, data := .fields ps } := I.hok P _ hP
  have hfree := Ls.has I.ok
  cases am : codeAmong pos ps.toList with
  | some cv =>
    obtain ⟨c', rfl, hco⟩ := known pos cv am
    refine PySem.W.kla_makeFunctionHit (closure_ok hfree) I.ok.glob (I.mod.glob.keeps I.bk) hcode (TB.code.keeps I.bk) tabS trip am (TB.bm.keeps I.bk) fun ctv g tk kp sz => ?_
    rw [ecl]
    have I1 := I.kept (t' := tk) kp
    have nf : H g.objs.size = none := I.hok.fresh sz
    exact ⟨.ref g.objs.size, _, I1.laid (t' := tk) (o := CloO g.objs.size l L c') (fun b u e => Heap.get?_push_of_some _ e) (Nat.le_refl _) (cloO_ok (Heap.get?_push_size _ rfl)), rfl, h H _ c' (LamX.ExtN.refl H) hT nf hco⟩
  | none =>
    refine PySem.W.kla_makeFunction (closure_ok hfree) I.ok.glob (I.mod.glob.keeps I.bk) hcode (TB.code.keeps I.bk) tabS trip am TB.gP (TB.bm.keeps I.bk) fun c' ctv g tk kp ge lt rec tab => ?_
    rw [ecl]
    obtain ⟨_, oc, vs, t, e2, hoc, hd, hv⟩ := rec
    cases e2
    have nC : H c' = none := I.hok.fresh ge
    have I1 := LamX.inv_table (t' := tk) (more := #[rawInt pos.line, rawInt pos.col, .ref c']) (h' := g) I hP kp tab ge ⟨oc, vs, t, hoc, hd, hv⟩
    have neP : P ≠ c' := ne_of_none hP nC
    have nf : upd (upd H P (.tbl (ps ++ #[rawInt pos.line, rawInt pos.col, .ref c']))) c' (LamX.CodeO c' (l.qual ++ "<lambda>")) g.objs.size = none := by
      have := I1.hok.fresh (a := g.objs.size) (Nat.le_refl _)
      exact this
    have keep : LamX.ExtN H (upd (upd H P (.tbl (ps ++ #[rawInt pos.line, rawInt pos.col, .ref c']))) c' (LamX.CodeO c' (l.qual ++ "<lambda>"))) := fun b o e n => by
      have n1 : b ≠ c' := ne_of_none e nC
      have n2 : b ≠ P := fun z => by
        rw [z, hP] at e
        cases e
        exact n ps rfl
      rw [upd_ne n1, upd_ne n2]
      exact e
    refine ⟨.ref g.objs.size, _, I1.laid (t' := tk) (o := CloO g.objs.size l L c') (fun b u e => Heap.get?_push_of_some _ e) (Nat.le_refl _) (cloO_ok (Heap.get?_push_size _ rfl)), rfl, h _ _ c' keep (fun p hp => ?_) nf upd_same⟩
    by_cases z : p.1 = P
    · rw [hu p hp z, z]
      refine ⟨_, by rw [upd_ne neP, upd_same], by rw [Array.toList_append]; exact PySem.TriplesOk_snoc _ _ _ _ trip, fun p' cv hcv => ?_⟩
      rw [Array.toList_append] at hcv
      rcases LamX.among_app _ trip hcv with y | y
      · obtain ⟨c0, x1, x2⟩ := known p' cv y
        exact ⟨c0, x1, keep _ _ x2 LamX.codeO_ne⟩
      · exact ⟨c', y, upd_same⟩
    · obtain ⟨ps', x1, x2, x3⟩ := hT p hp
      refine ⟨ps', by rw [upd_ne (ne_of_none x1 nC), upd_ne z]; exact x1, x2, fun p' cv hcv => ?_⟩
      obtain ⟨c0, y1, y2⟩ := x3 p' cv hcv
      exact ⟨c0, y1, keep _ _ y2 LamX.codeO_ne⟩
end
def mLam (l : Lam) : ME := fun c _ M P => ∀ f, M f = none → P (.raw (.ref f)) (um M f (.clv f l (c.fa 1000)))
theorem xe_mk {X : Cx} {S : Sg} {T : List (Addr × Str)} {c P : Addr} {params : Arguments} {body : Expr} {scope : Scope} {pos : Pos} {l : Lam} (TB : LamX.TabB X.base X.mg c P) (hcode : X.env.code = .ref c) (hmT : (P, l.qual ++ "<lambda>") ∈ T) (hu : ∀ p ∈ T, p.1 = P → p.2 = l.qual ++ "<lambda>")
    (htb : ∀ t, S.tb t → t = T) (Ls : LamX.LamS X.env.scope scope) (hdef : defaultsOf params X.env = ([], [])) (hq : X.env.qual = l.qual) (h1 : l.params = params) (h2 : l.body = body) (h3 : l.scope = scope) (hc : X.env.cells = cellsFrom (S.fa 1000 + 1) l.msc.names []) :
    XE X S (.Lambda params body scope pos) (mLam l) := by
  refine ⟨_, pe_mk TB hcode hmT hu Ls hdef hq h1 h2 h3 hc, fun b I0 H0 M0 c δ M P nb ok p σ I H x en Q q => ?_⟩
  have eT := htb _ ok.tb
  subst eT
  refine ⟨x.ok.b.2.2.1, fun H1 f c' eN T1 nf hco => ?_⟩
  have x2 := XM.of x.r (ext_tab x.ok eN T1)
  have nb' : c' ≠ b.a := fun z => by
    obtain ⟨xs, e⟩ := x2.ok.b.lst
    rw [z, e] at hco
    cases hco
  have p := p f (x2.r.none nf)
  rw [ok.fa] at p
  have x3 := XM.new (so := .clv f l (S.fa 1000)) (ho := CloO f l (S.fa 1000) c') x2.ok x2.r nf ⟨c', rfl, nb', by rw [upd_ne (ne_of_none hco nf)]; exact hco⟩
  exact q _ _ I _ _ p (x2.trans x3) rfl
def zipE : List Bool → En → En
  | true :: bs, r :: rs => r :: zipE bs rs
  | false :: bs, _ :: rs => none :: zipE bs rs
  | _, _ => []
theorem zipE_at : ∀ {bs : List Bool} {δ : En} {j : Nat} {r : Option DV}, bs[j]? = some true → δ[j]? = some r → (zipE bs δ)[j]? = some r
  | true :: _, _ :: _, 0, r, _, h => h
  | false :: _, _ :: _, 0, r, h, _ => by cases h
  | true :: bs, _ :: rs, j + 1, r, h, h' => zipE_at (bs := bs) (δ := rs) (j := j) h h'
  | false :: bs, _ :: rs, j + 1, r, h, h' => zipE_at (bs := bs) (δ := rs) (j := j) h h'
def lamOk (l : Lam) : Bool := (l.N.zip l.ms).all (fun p => !p.2 || l.scope.names.contains (p.1, NameKind.free)) && (l.msc.names.all (fun y => !decide (y.2 = .free)) && LamX.lamSB l.msc l.scope && l.scope.names.all (fun y => !decide (y.2 = .free) || (l.N.zip l.ms).contains (y.1, true)) && decide (l.ms.length = l.N.length) && decide (l.N.Nodup))
def capOk : List Bool → En → Bool
  | true :: bs, r :: rs => r.isSome && capOk bs rs
  | false :: bs, _ :: rs => capOk bs rs
  | _, _ => true
theorem capOk_at : ∀ {bs : List Bool} {δ : En} {j : Nat}, capOk bs δ = true → bs[j]? = some true → j < δ.length → ∃ r, δ[j]? = some (some r)
  | true :: _, some r :: _, 0, _, _, _ => ⟨r, rfl⟩
  | true :: _, none :: _, 0, h, _, _ => by cases h
  | false :: _, _ :: _, 0, _, h, _ => by cases h
  | true :: bs, x :: rs, j + 1, h, h1, h2 => capOk_at (bs := bs) (δ := rs) (j := j) (by
      unfold capOk at h
      exact (Bool.and_eq_true_iff.mp h).2) h1 (by simpa using h2)
  | false :: bs, x :: rs, j + 1, h, h1, h2 => capOk_at (bs := bs) (δ := rs) (j := j) (by unfold capOk at h; exact h) h1 (by simpa using h2)
theorem lamOk_at {l : Lam} (h : lamOk l = true) {y : Str} (hy : (y, NameKind.free) ∈ l.scope.names) : ∃ j : Nat, l.N[j]? = some y ∧ l.ms[j]? = some true := by
  unfold lamOk at h
  simp only [Bool.and_eq_true] at h
  have h2 := List.all_eq_true.mp h.2.1.1.2 _ hy
  have h3 : (l.N.zip l.ms).contains (y, true) = true := by simpa using h2
  have h4 : (y, true) ∈ l.N.zip l.ms := List.contains_iff_mem.mp h3
  obtain ⟨j, hj⟩ := List.mem_iff_getElem?.mp h4
  rw [List.getElem?_zip_eq_some] at hj
  exact ⟨j, hj.1, hj.2⟩
theorem lamOk_s {l : Lam} (h : lamOk l = true) : LamX.LamS l.msc l.scope := by
  unfold lamOk at h
  simp only [Bool.and_eq_true] at h
  exact LamX.lamS_by h.2.1.1.1.2
def clsAll (sc : Scope) (N : List Str) (L : Addr) (δ : En) : List DV → Mem → (Mem → Prop) → Prop
  | [], M, K => K M
  | .raw (.ref f) :: xs, M, K => match M f with
    | some (.clv f' l L') => (f' = f ∧ L' = L ∧ l.msc = sc ∧ l.N = N) ∧ lamOk l = true ∧ capOk l.ms δ = true ∧ clsAll sc N L δ xs (um M f (.clo f l (zipE l.ms δ))) K
    | _ => False
  | _, _, _ => False
def faL (fa : Nat → Addr) (L : Addr) : Nat → Addr := fun n => if n = 1000 then L else fa n
def wA (sc : Scope) (N : List Str) (n i : Nat) (D : MS) : MW := fun rs M P c => rs.length = n ∧ ∀ L, D ⟨c.x, faL c.fa L⟩ (rs.map some ++ List.replicate (N.length - n) none) M ⟨fun δ M' => match δ[i]? with
  | some (some (.raw (.ref p))) => (match M' p with
    | some (.lst xs) => clsAll sc N L δ xs M' fun M2 => P (.raw (.ref p)) M2
    | _ => False)
  | _ => False, fun _ _ => False, fun _ _ => False, fun _ _ => False⟩
end DM
namespace DM
open PySem PySem.Spec PyProof.Rows L2 RZ DL DW
theorem wp_snoc {M : Model} {Γ : PySem.Ctx} {env : PySem.Env} {r : Stmt} {Q : Flow → Pos → Shared → Prop} {E : Value → Pos → Shared → Prop} : ∀ (ss : List Stmt) {p : Pos} {s : Shared},
    Sem.wp M Γ (execs ss env) (fun fl p' s' => match fl with
      | .next => Sem.wp M Γ (execs [r] env) Q E p' s'
      | f => Q f p' s') E p s → Sem.wp M Γ (execs (ss ++ [r]) env) Q E p s
  | [], p, s, h => h
  | st :: ss, p, s, h => by
    show Sem.wp M Γ (execs (st :: (ss ++ [r])) env) _ _ p s
    rw [execs_cons, Sem.wp_bind'] at h ⊢
    refine Sem.wp_mono M Γ _ (fun f p' s' h' => ?_) (fun _ _ _ h' => h') _ _ h
    cases f with
    | next => exact wp_snoc ss h'
    | _ => exact h'
theorem execs_snoc {M : Model} {A : Around} {env : PySem.Env} {r : Stmt} {E : Value → Shared → Prop} (ss : List Stmt) {Q : Flow → Shared → Prop} {s : Shared}
    (h : wpAny M A (execs ss env) (fun fl s' => match fl with
      | .next => wpAny M A (execs [r] env) Q E s'
      | f => Q f s') E s) : wpAny M A (execs (ss ++ [r]) env) Q E s := fun Γ p hΓ => by
  refine wp_snoc ss (Sem.wp_mono M Γ _ (fun f p' s' h' => ?_) (fun _ _ _ h' => h') _ _ (h Γ p hΓ))
  cases f with
  | next => exact h' Γ p' hΓ
  | _ => exact h'
section
variable {K : PySem.W.Frag} {b : Bg} {I H : Hp} {M : Mem}
theorem lookup_clo {cells : List (Str × Addr)} {y : Str} {c : Addr} (hc : cells.lookup y = some c) : ∀ {names : List (Str × NameKind)}, (y, NameKind.free) ∈ names → (cloFrom cells names []).lookup y = some c := fun {names} hy => by
  obtain ⟨c', h1⟩ := mem_lookup (cloFrom_has (cells := cells) (acc := []) hy)
  have h2 : c' = (cells.lookup y).getD 0 := by
    rcases cloFrom_mem (PySem.mem_of_lookup h1) with z | ⟨_, z⟩
    · cases z
    · exact z
  rw [hc] at h2
  rw [h1, h2]
  rfl
noncomputable def celH (sc : Scope) (N : List Str) (cells : List (Str × Addr)) (σ : L2.St) (H : Hp) : Hp := fun a =>
  open Classical in if h : ∃ v : V, ∃ (y : Str) (j : Nat), sc.names.lookup y = some .cell ∧ N[j]? = some y ∧ σ[j]? = some (some v) ∧ cells.lookup y = some a then some (CelO a h.choose) else H a
theorem celH_at {sc : Scope} {N : List Str} {cells : List (Str × Addr)} {σ : L2.St} {H : Hp} {y : Str} {j : Nat} {v : V} {a : Addr} (nd : N.Nodup) (inj : ∀ x y c, cells.lookup x = some c → cells.lookup y = some c → x = y) (h0 : sc.names.lookup y = some .cell) (h1 : N[j]? = some y) (h2 : σ[j]? = some (some v)) (h3 : cells.lookup y = some a) : celH sc N cells σ H a = some (CelO a v) := by
  unfold celH
  have ex : ∃ v : V, ∃ (y : Str) (j : Nat), sc.names.lookup y = some .cell ∧ N[j]? = some y ∧ σ[j]? = some (some v) ∧ cells.lookup y = some a := ⟨v, y, j, h0, h1, h2, h3⟩
  rw [dif_pos ex]
  obtain ⟨y2, j2, _, g1, g2, g3⟩ := ex.choose_spec
  have e1 : y2 = y := inj _ _ _ g3 h3
  subst e1
  obtain ⟨l1, m1⟩ := List.getElem?_eq_some_iff.mp g1
  obtain ⟨l2, m2⟩ := List.getElem?_eq_some_iff.mp h1
  have e2 : j2 = j := (List.getElem_inj nd).mp (m1.trans m2.symm)
  subst e2
  rw [h2] at g2
  injection g2 with g2
  injection g2 with g2
  rw [← g2]
theorem celH_out {sc : Scope} {N : List Str} {cells : List (Str × Addr)} {σ : L2.St} {H : Hp} {a : Addr} (h : ∀ y, cells.lookup y ≠ some a) : celH sc N cells σ H a = H a := by
  unfold celH
  rw [dif_neg]
  rintro ⟨v, y, j, _, _, _, z⟩
  exact h y z
theorem celH_or {sc : Scope} {N : List Str} {cells : List (Str × Addr)} {σ : L2.St} {H : Hp} {a : Addr} {o : HO} (h : celH sc N cells σ H a = some o) : H a = some o ∨ ∃ (v : V) (y : Str) (j : Nat), sc.names.lookup y = some .cell ∧ N[j]? = some y ∧ σ[j]? = some (some v) ∧ cells.lookup y = some a ∧ o = CelO a v := by
  unfold celH at h
  split at h
  · rename_i ex
    obtain ⟨y, j, g0, g1, g2, g3⟩ := ex.choose_spec
    cases h
    exact .inr ⟨_, y, j, g0, g1, g2, g3, rfl⟩
  · exact .inl h
theorem mr_cel (r : MR K b I H M) {c : Addr} {v : V} (h : H c = some (CelO c v)) : M c = none := by
  cases q : M c with
  | none => rfl
  | some o =>
    obtain ⟨_, _, ho, e, s⟩ := r c o q
    rw [h] at e
    cases e
    cases o with
    | lst xs => obtain ⟨vs, e, _⟩ := s; unfold CelO at e; cases e
    | dic kvs => obtain ⟨l, e, _⟩ := s; unfold CelO at e; cases e
    | dicL kvs => obtain ⟨od, l, e, _⟩ := s; unfold CelO at e; cases e
    | ins C fs => obtain ⟨dx, l, e, _⟩ := s; unfold CelO at e; cases e
    | tup xs => obtain ⟨od, l, e, _⟩ := s; unfold CelO at e; cases e
    | clv p l L => obtain ⟨c', e, _⟩ := s; exact absurd e.symm clo_cel
    | clo p l δ => obtain ⟨L, c', e, _⟩ := s; exact absurd e.symm clo_cel
theorem upd_id {H : Hp} {a : Addr} {o : HO} (h : H a = some o) : upd H a o = H := by
  funext x
  by_cases z : x = a
  · subst z; rw [upd_same, h]
  · rw [upd_ne z]
theorem cls_xm {I' H2 : Hp} {sc : Scope} {N : List Str} {L : Addr} {δ : En} {σ' : L2.St} (nofree : ∀ y ∈ sc.names, y.2 ≠ .free) (en : EnvM K b I' σ' δ) (hN : δ.length = N.length)
    (hcel : ∀ (y : Str) (j : Nat) (v : V), sc.names.lookup y = some .cell → N[j]? = some y → σ'[j]? = some (some v) → ∃ c, (cellsFrom (L + 1) sc.names []).lookup y = some c ∧ H2 c = some (CelO c v)) :
    ∀ {xs : List DV} {M1 : Mem} {Kk : Mem → Prop}, XM K b I H M I' H2 M1 → clsAll sc N L δ xs M1 Kk → ∃ M2, Kk M2 ∧ XM K b I H M I' H2 M2
  | [], M1, Kk, x, h => ⟨M1, h, x⟩
  | x1 :: xs, M1, Kk, x, h => by
    unfold clsAll at h
    split at h
    · rename_i e; cases e
    · rename_i f xs' e
      injection e with e1 e2
      subst e2
      split at h
      · rename_i f' l L' em
        obtain ⟨⟨rfl, rfl, esc, eN⟩, ok, cap, h⟩ := h
        refine cls_xm nofree en hN hcel (x.trans ?_) h
        obtain ⟨g1, g2, ho, g3, c', rfl, g5, g6⟩ := x.r _ _ em
        have z := XM.mut (so := .clo f' l (zipE l.ms δ)) (ho := CloO f' l L' c') x.ok x.r em ⟨L', c', rfl, g5, by rw [upd_id g3]; exact g6, fun y hy => ?_⟩
        · rw [upd_id g3] at z
          exact z
        · obtain ⟨j, j1, j2⟩ := lamOk_at ok hy
          have hj : j < δ.length := by
            rw [hN, ← eN]
            exact (List.getElem?_eq_some_iff.mp j1).1
          obtain ⟨r, hr⟩ := capOk_at cap j2 hj
          obtain ⟨v, hv, vb⟩ := en.at_ j r hr
          have kind : sc.names.lookup y = some .cell := by
            rw [← esc]
            rcases (lamOk_s ok).free _ hy rfl with k | k
            · exact k
            · rw [esc] at k
              exact absurd rfl (nofree _ (PySem.mem_of_lookup k))
          obtain ⟨c, c1, c2⟩ := hcel y j v kind (by rw [← eN]; exact j1) hv
          have m1 := mr_cel x.r c2
          refine ⟨j, r, c, v, j1, zipE_at j2 hr, ?_, ?_, ?_, ?_, vb⟩
          · unfold Lam.cells
            rw [esc]
            exact lookup_clo c1 hy
          · rw [upd_id g3]; exact c2
          · intro z
            obtain ⟨ys, e⟩ := x.ok.b.lst
            rw [z, e] at c2
            unfold CelO at c2
            cases c2
          · rw [um_ne (fun z => by rw [z, em] at m1; cases m1)]
            exact m1
      · exact h.elim
    · exact h.elim
end
theorem fn_asks {P : Program} {w : World} {K : PySem.W.Frag} {mg : Str → Option Value} {base : Heap} {cls fa : Nat → Addr} {x : Str} {st : Stmt} {f : Addr} {fd : FuncData} {N ps : List Str} {T : List (Addr × Str)} {k kc : Nat} {D : MS} (n i : Nat) {xv : Str} {ss : List Stmt} {p1 p2 : Pos}
    (F : ∃ (oc : Value) (od : Option Addr) (kV doc pm : Value) (an : Option Addr) (ct : Value) (osl : Array (Option Value)), fd = PySem.W.fnOf x x (defArgs st) (defBody st) (defScope st) .none kV doc pm an (.ref kc) ct ∧ K.lookup f = some ⟨oc, od, .func fd, osl⟩ ∧ PySem.W.codeIn K (.ref kc) x = true)
    (Sc : FnScope N ps (defScope st)) (hn : ps.length = n) (hb : defBody st = ss ++ [.Return (some (.Name xv p1)) p2]) (hx : N[i]? = some xv) (hv : Vis (defScope st) xv) (hdb : (xv == ("__debug__" : Str)) = false) (hcd : (xv == ("__classdict__" : Str)) = false)
    (hbody : ∀ (A : Around) (outer : List PySem.Env) (s : Shared) (H : Hp) (E : XK), Room k (A.deeper (envOfC x (defScope st) s.heap.objs.size f (.ref kc))) →
      XSs (cxOf (L2.CX P w) P w K mg base N x (defScope st) f (.ref kc) A outer s H E) ⟨N.length, E, cls, faL fa s.heap.objs.size, fun t => t = T⟩ ss D) :
    FnOk P w K mg base (L2.CX P w) (k + 1) f fd ps (spM K cls fa (fun t => t = T) (wA (defScope st) N n i D)) := by
  obtain ⟨oc, od, kV, doc, pm, an, ct, osl, rfl, lkf, cin⟩ := F
  have plen : ∀ vs H Q E, spM K cls fa (fun t => t = T) (wA (defScope st) N n i D) vs H Q E → vs.length = ps.length := fun vs H Q E h => by
    obtain ⟨rs, M, R, c, b, I, ok, mr, r, _, _, ⟨hl, _⟩, _⟩ := h
    rw [Paired.length r, hl, hn]
  refine ⟨plen, fun A outer s H args us vs Q E room en0 bnd rv hsp => ?_⟩
  have lv := plen _ _ _ _ hsp
  have kin : K.In s.heap := en0.mod.kin.keeps fun b o e => (en0.bs b o e).1
  have kinds : ∀ y ∈ ps.zip us, (defScope st).names.lookup y.1 = some .local ∨ ((defScope st).names.lookup y.1 = some .cell ∧ ((cellsFrom (s.heap.objs.size + 1) (defScope st).names []).lookup y.1).isSome = true) := fun ⟨a, v⟩ hy => (Sc.par a (List.of_mem_zip hy).1).imp id fun q => ⟨q, PySem.W.cellsFrom_some _ _ _ (.inl q)⟩
  refine codeAny_call_function room.depth (kin _ _ lkf) rfl Sc.co Sc.gen rfl (PySem.W.codeRec_of kin cin) (bnd _ _ _ _ (wpAny_newFunctionEnv_cells Sc.kind kinds fun env he s1 inc => ?_))
  subst he
  refine ⟨(en0.mod.nolimit.keeps fun b o e => (en0.bs b o e).1).keeps inc.toInCall.keep, codeAny_func ?_⟩
  obtain ⟨t, ht, hq⟩ := hbody A outer s H E (room.deeper _)
  have J0 : Inv (cxOf (L2.CX P w) P w K mg base N x (defScope st) f (.ref kc) A outer s H E) [] (L2.start N vs) H s1 := inv_start Sc room.hd en0 lv rv inc
  obtain ⟨rs, M, R, c, b, I, ok, mr, pr, bt, hfa, ⟨hl, hD⟩, q, xw⟩ := hsp
  have go := hq b I H M ⟨c.x, faL c.fa s.heap.objs.size⟩ _ M _ (by
    rw [List.length_append, List.length_map, List.length_replicate]
    have hN : n ≤ N.length := by
      have := congrArg List.length Sc.pre
      rw [List.length_take] at this
      omega
    show rs.length + (N.length - n) = N.length
    omega) ⟨by rw [hfa], fun s fs d I' H' M' hx e h1 h2 h3 => xw s fs d I' H' M' hx e h1 h2 h3, bt⟩ (hD s.heap.objs.size)
  rw [← hl] at go
  show wpAny _ _ (execs (defBody st) _) _ _ _
  rw [hb]
  have run := ht.run [] s1 (L2.start N vs) H _ J0 (go _ I H (.refl ok mr) (envm_start pr) ⟨fun σ' H' => ∃ (δ' : En) (I' : Hp) (M' : Mem), (δ'.length = N.length ∧ (match δ'[i]? with
    | some (some (.raw (.ref p))) => (match M' p with
      | some (.lst xs) => clsAll (defScope st) N s.heap.objs.size δ' xs M' fun M2 => R (.raw (.ref p)) M2
      | _ => False)
    | _ => False)) ∧ XM K b I H M I' H' M' ∧ EnvM K b I' σ' δ', fun _ _ => False, fun _ _ => False, fun _ _ => False⟩ (fun δ' σ' I' H' M' o e en => ⟨δ', I', M', o, e, en⟩) (fun r v I' H' M' o e rs => o.elim) (fun _ _ _ _ _ z => z.2.elim) (fun _ _ _ _ _ z => z.2.elim))
  refine execs_snoc ss (wpAny_mono run (fun fl s' hs => ?_) fun e s' hs => hs)
  cases fl with
  | ret u =>
    obtain ⟨_, _, _, _, _, z⟩ := hs
    exact z.elim
  | brk =>
    obtain ⟨_, _, _, z⟩ := hs
    exact z.elim
  | cont =>
    obtain ⟨_, _, _, z⟩ := hs
    exact z.elim
  | next =>
    obtain ⟨σ', H', J, δ', I', M', ⟨ld, cond⟩, xm, en⟩ := hs
    split at cond
    · rename_i p ei
      split at cond
      · rename_i xs em
        obtain ⟨v, hv', rfl⟩ : ∃ v, σ'[i]? = some (some v) ∧ v = .ref p := (en.at_ i _ ei).imp fun v z => ⟨z.1, z.2⟩
        have inj : ∀ a b c, (cellsFrom (s.heap.objs.size + 1) (defScope st).names []).lookup a = some c → (cellsFrom (s.heap.objs.size + 1) (defScope st).names []).lookup b = some c → a = b := J.ok.inj
        refine wpAny_execs_cons (wpAny_Return_some (thn ((pe_var (i := i) hx hv hdb hcd).run [] s' σ' H' (fun v H1 => v = .ref p ∧ H1 = H') J ⟨.ref p, hv', rfl, rfl⟩) fun u s2 ⟨v, H1, J2, r1, ev, eH⟩ => ?_))
        subst ev eH
        have fc : ∀ y a, (cellsFrom (s.heap.objs.size + 1) (defScope st).names []).lookup y = some a → H1 a = none := J2.freeC
        have up : ∀ a u, H1 a = some u → celH (defScope st) N (cellsFrom (s.heap.objs.size + 1) (defScope st).names []) σ' H1 a = some u := fun a u e => by
          rw [celH_out fun y z => by rw [fc y a z] at e; cases e]
          exact e
        have og := Ok.grow xm.ok up
        have kx : Kx b H1 M' (celH (defScope st) N (cellsFrom (s.heap.objs.size + 1) (defScope st).names []) σ' H1) M' := fun a φ _ _ hm hc => ⟨up _ _ hc, hm⟩
        have x2 : XM K b I H M I' (celH (defScope st) N (cellsFrom (s.heap.objs.size + 1) (defScope st).names []) σ' H1) M' := ⟨xm.i, fun a o n t hm h => up _ _ (xm.h a o n t hm h), xm.n, xm.m, fun l xs h => (let ⟨ys, e⟩ := xm.k l xs h; ⟨ys, up _ _ e⟩), og.ok, fun a o h => (by
          obtain ⟨g1, g2, ho, g3, g4⟩ := xm.r a o h
          exact ⟨g1, g2, ho, up _ _ g3, g4.mono (Same.refl _) xm.r kx⟩), fun a kvs h => (by
          have z := xm.lk a kvs h
          refine ⟨z.1, ?_⟩
          rw [celH_out fun y e => ?_]
          · exact z.2
          · obtain ⟨_, _, ho, g3, _⟩ := xm.r a _ z.1
            rw [fc y a e] at g3
            cases g3)⟩
        obtain ⟨M2, kk, x3⟩ := cls_xm (N := N) (L := s.heap.objs.size) Sc.nofree en ld (fun y j v e1 e2 e3 => by
          obtain ⟨c, hc⟩ := cell_has (n := s.heap.objs.size + 1) e1
          exact ⟨c, hc, celH_at Sc.nd inj e1 e2 e3 hc⟩) x2 cond
        refine ⟨.ref p, _, J2.os, J2.bare, ?_, fun a o ha => ?_, r1, q _ _ _ _ _ kk x3 rfl⟩
        · have B := J2.base
          refine ⟨B.keep, B.slot, fun a o e n ne => ?_, B.there, fun a xs e => up _ _ (B.tups a xs e), fun a o u e => up _ _ (B.frzs a o u e), fun a ps e => (B.tbls a ps e).imp fun m z => up _ _ z⟩
          rw [celH_out fun y z => ?_]
          · exact B.free a o e n ne
          · have h1 : s.heap.objs.size ≤ a := J2.ok.cab y a rfl z
            exact absurd (Heap.lt_size e) (Nat.not_lt.mpr h1)
        · rcases celH_or ha with ha | ⟨v, y, j, g0, g1, g2, g3, rfl⟩
          · exact (J2.hok a o ha).stay (fun _ _ _ e => e) (fun d e => up _ _ e) (fun d xs e => up _ _ e)
          · obtain ⟨m, _, look⟩ := J2.loc
            obtain ⟨u, ru, lk⟩ := look j y v g1 g2 (.inr (.inl g0))
            have g0' : (cxOf (L2.CX P w) P w K mg base N x (defScope st) f (.ref kc) A outer s H E).env.kindOf y = some .cell := g0
            rcases lk with ⟨k, _⟩ | ⟨_, c2, e2, ic⟩
            · rw [g0'] at k
              cases k
            · have e3 : c2 = a := Option.some.inj (e2.symm.trans g3)
              subst e3
              exact celO_ok ru ic
      · exact cond.elim
    · exact cond.elim
end DM
namespace DM
open PySem PySem.Spec PyProof.Rows L2 RZ DL DW
def goneX (P : Program) (w : World) (K : PySem.W.Frag) (mg : Str → Option Value) (base : Heap) (l : Lam) (L : Addr) (A : Around) (s : Shared) : Cx where
  prog := P
  w := w
  K := K
  mg := mg
  base := base
  A := A
  N := l.N
  s_0 := s
  H_0 := fun _ => none
  env := { scope := l.msc, locals := L, globals := mainGlobals, cells := cellsFrom (L + 1) l.msc.names [], qual := l.qual, func := none, code := .none, frame := none, builtins := builtinsNs }
  outer := []
  stack := []
  ex := []
  fn := fun _ => false
  calm := true
  pn := []
  xe := fun _ _ => False
abbrev lamG (P : Program) (w : World) (K : PySem.W.Frag) (mg : Str → Option Value) (base : Heap) (l : Lam) (L : Addr) (A : Around) (outer : List PySem.Env) (s : Shared) (H : Hp) (E : XK) (f c' : Addr) : Cx := LamX.lamCx (goneX P w K mg base l L A s) A outer s H E l.scope f c'
def isCl (l : Lam) (L a : Addr) : Prop := ∃ y, (l.cells L).lookup y = some a
open Classical in
noncomputable def rmH (l : Lam) (L : Addr) (H : Hp) : Hp := fun a => if isCl l L a then none else H a
open Classical in
noncomputable def adH (l : Lam) (L : Addr) (H H' : Hp) : Hp := fun a => if isCl l L a then H a else H' a
def CelsV (H : Hp) (l : Lam) (L : Addr) (σ : L2.St) : Prop := ∀ y, (y, NameKind.free) ∈ l.scope.names → ∃ (j : Nat) (c : Addr) (v : V), l.N[j]? = some y ∧ σ[j]? = some (some v) ∧ (l.cells L).lookup y = some c ∧ H c = some (CelO c v)
theorem cl_free {l : Lam} {L a : Addr} {y : Str} (h : (l.cells L).lookup y = some a) : (y, NameKind.free) ∈ l.scope.names := by
  rcases cloFrom_mem (PySem.mem_of_lookup h) with z | ⟨z, _⟩
  · cases z
  · exact z
section
variable {P : Program} {w : World} {H H' : Hp} {h : Heap} {l : Lam} {L : Addr} {σ : L2.St}
theorem CelsV.cl (c : CelsV H l L σ) {a : Addr} (ha : isCl l L a) : ∃ v, H a = some (CelO a v) := by
  obtain ⟨y, hy⟩ := ha
  obtain ⟨j, c', v, _, _, e, hc⟩ := c y (cl_free hy)
  rw [hy] at e
  cases e
  exact ⟨v, hc⟩
theorem rm_some {a : Addr} {o : HO} (e : rmH l L H a = some o) : H a = some o := by
  unfold rmH at e
  split at e
  · cases e
  · exact e
theorem rm_none {a : Addr} (e : H a = none) : rmH l L H a = none := by
  unfold rmH
  split
  · rfl
  · exact e
theorem rm_keep (c : CelsV H l L σ) {a : Addr} {o : HO} (e : H a = some o) (n : ∀ v, o ≠ CelO a v) : rmH l L H a = some o := by
  unfold rmH
  rw [if_neg]
  · exact e
  · intro z
    obtain ⟨v, hv⟩ := c.cl z
    rw [e] at hv
    cases hv
    exact n v rfl
theorem hok_rm (c : CelsV H l L σ) (x : HOk P w H h) : HOk P w (rmH l L H) h := fun a o e =>
  (x a o (rm_some e)).stay (fun _ _ _ q => q) (fun d q => rm_keep c q fun v z => by unfold CelO at z; cases z) (fun d xs q => rm_keep c q fun v z => by unfold CelO at z; cases z)
theorem ad_up (free : ∀ a, isCl l L a → H' a = none) {a : Addr} {o : HO} (e : H' a = some o) : adH l L H H' a = some o := by
  unfold adH
  rw [if_neg (fun z => by rw [free a z] at e; cases e)]
  exact e
theorem ad_cl {a : Addr} (z : isCl l L a) : adH l L H H' a = H a := by
  unfold adH
  rw [if_pos z]
theorem ad_no {a : Addr} (z : ¬ isCl l L a) : adH l L H H' a = H' a := by
  unfold adH
  rw [if_neg z]
theorem rm_no {a : Addr} (z : ¬ isCl l L a) : rmH l L H a = H a := by
  unfold rmH
  rw [if_neg z]
theorem rm_cl {a : Addr} (z : isCl l L a) : rmH l L H a = none := by
  unfold rmH
  rw [if_pos z]
theorem un_ad {fs : List Addr} {h' : Heap} (c : CelsV H l L σ) (ok : HOk P w H h) (u : Un fs [] (rmH l L H) H' h h') : (∀ a, isCl l L a → H' a = none) ∧ Un fs [] H (adH l L H H') h h' := by
  have fr : ∀ a, isCl l L a → H' a = none := fun a z => by
    obtain ⟨v, hv⟩ := c.cl z
    obtain ⟨_, ⟨o, eo⟩, _⟩ := ok a _ hv
    exact u.free a o eo (rm_cl z) (by simp)
  refine ⟨fr, ⟨fun b o e n => u.keep b o e (rm_none n), fun b o e n => u.slot b o e (rm_none n), fun b o e n x => ?_, u.there, fun b xs e => ?_, fun b o v e => ?_, fun b ps e => ?_⟩⟩
  · rw [ad_no fun z => by obtain ⟨v, hv⟩ := c.cl z; rw [n] at hv; cases hv]
    exact u.free b o e (rm_none n) x
  · exact ad_up fr (u.tups b xs (rm_keep c e fun v z => by unfold CelO at z; cases z))
  · exact ad_up fr (u.frzs b o v (rm_keep c e fun v z => by unfold CelO at z; cases z))
  · exact (u.tbls b ps (rm_keep c e fun v z => by unfold CelO at z; cases z)).imp fun m z => ad_up fr z
theorem hok_ad {h' : Heap} (c : CelsV H l L σ) (fr : ∀ a, isCl l L a → H' a = none) (keep : ∀ a o, isCl l L a → h.get? a = some o → h'.get? a = some o) (ok : HOk P w H h) (ok' : HOk P w H' h') : HOk P w (adH l L H H') h' := fun a o e => by
  by_cases z : isCl l L a
  · rw [ad_cl z] at e
    obtain ⟨v, hv⟩ := c.cl z
    rw [hv] at e
    cases e
    obtain ⟨⟨u, ru, ob, eo, ed⟩, _⟩ := ok a _ hv
    exact celO_ok ru ⟨ob, keep a ob z eo, ed⟩
  · rw [ad_no z] at e
    exact (ok' a o e).stay (fun _ _ _ q => q) (fun d q => ad_up fr q) (fun d xs q => ad_up fr q)
end
theorem lamOk_nf {l : Lam} (h : lamOk l = true) : ∀ y ∈ l.msc.names, y.2 ≠ .free := fun y hy z => by
  unfold lamOk at h
  simp only [Bool.and_eq_true] at h
  have := List.all_eq_true.mp h.2.1.1.1.1 y hy
  rw [z] at this
  simp at this
theorem lamOk_nd {l : Lam} (h : lamOk l = true) : l.N.Nodup := by
  unfold lamOk at h
  simp only [Bool.and_eq_true] at h
  exact of_decide_eq_true h.2.2
theorem cl_at {l : Lam} {L a : Addr} {y : Str} (ok : lamOk l = true) (h : (l.cells L).lookup y = some a) : (cellsFrom (L + 1) l.msc.names []).lookup y = some a := by
  have hy := cl_free h
  have k : l.msc.names.lookup y = some .cell := by
    rcases (lamOk_s ok).free _ hy rfl with k | k
    · exact k
    · exact absurd rfl (lamOk_nf ok _ (PySem.mem_of_lookup k))
  obtain ⟨c, hc⟩ := cell_has (n := L + 1) k
  have h2 : (l.cells L).lookup y = some c := lookup_clo hc hy
  rw [h] at h2
  rw [hc, ← h2]
theorem cl_inj {l : Lam} {L : Addr} (ok : lamOk l = true) {x y : Str} {c : Addr} (h1 : (l.cells L).lookup x = some c) (h2 : (l.cells L).lookup y = some c) : x = y := by
  have e1 := PySem.mem_of_lookup (cl_at ok h1)
  have e2 := PySem.mem_of_lookup (cl_at ok h2)
  have sz : (⟨Array.replicate (L + 1) { cls := .none }, {}⟩ : Heap).objs.size = L + 1 := Array.size_replicate ..
  rw [← sz] at e1 e2
  exact cells_inj (fun p hp => by cases hp) (fun _ _ _ a _ => by cases a) e1 e2
section
variable {P : Program} {w : World} {K : PySem.W.Frag} {mg : Str → Option Value} {base : Heap} {l : Lam} {L : Addr} {A : Around} {outer : List PySem.Env} {s : Shared} {H : Hp} {σ : L2.St}
theorem env0_rm (c : CelsV H l L σ) (e : Env0 P w K mg base A outer s H) : Env0 P w K mg base A outer s (rmH l L H) :=
  ⟨e.frames, e.mod, fun b o z => ⟨(e.bs b o z).1, rm_none (e.bs b o z).2⟩, e.bsz, e.funs, fun b hb => rm_none (e.frf b hb), hok_rm c e.hok, e.bare⟩
theorem lamG_start {E : XK} {f c' : Addr} {h1 : Heap} {tk : Nat} (ok : lamOk l = true) (c : CelsV H l L σ) (hl : σ.length = l.N.length) (e0 : Env0 P w K mg base A outer s H) (hd : A.handled = none) (hns : h1.Ns s.heap.objs.size fun y => ([] : List (Str × Value)).reverse.lookup y) (kp : ∀ b o, s.heap.get? b = some o → h1.get? b = some o) :
    Inv (lamG P w K mg base l L A outer s (rmH l L H) E f c') [] σ (rmH l L H) { s with heap := h1, toks := tk } := by
  have e1 := env0_rm c e0
  have Ls := lamOk_s ok
  have noex : ∀ b : Addr, b ∉ (lamG P w K mg base l L A outer s (rmH l L H) E f c').ex := fun b z => absurd (show b ∈ ([] : List Addr) from z) (by simp)
  have cel : ∀ y a, (l.cells L).lookup y = some a → ∃ (j : Nat) (v : V) (u : Value), l.N[j]? = some y ∧ σ[j]? = some (some v) ∧ RelV v u ∧ h1.IsCell a (some u) := fun y a ha => by
    obtain ⟨j, a2, v, g1, g2, g3, g4⟩ := c y (cl_free ha)
    rw [ha] at g3
    cases g3
    obtain ⟨⟨u, ru, ob, eo, ed⟩, _⟩ := e0.hok a _ g4
    exact ⟨j, v, u, g1, g2, ru, ob, kp _ _ eo, ed⟩
  refine ⟨?_, rfl, e1.bare, Un.kept kp, ⟨_, hns, fun i y v g1 g2 vis => ?_⟩, fun y a ha => ?_, e1.hok.fresh (Nat.le_refl _), fun y a ha => rm_cl ⟨y, ha⟩, fun q hq => absurd (show q ∈ ([] : List (Addr × Obj)) ++ [] from hq) (by simp), e1.hok.kept kp, hl⟩
  · refine ⟨e1.mod, Ls.kind, rfl, rfl, Nat.le_refl _, fun x y a g1 g2 => cl_inj ok g1 g2, fun y hy => ?_, fun y a g _ => (by cases (show false = true from g)), fun _ => hd, Around.frames_deeper e1.frames, .inr ⟨rfl, rfl⟩, fun b z => absurd z (noex b), e1.bs, e1.bsz, fun b _ _ => noex b, fun b z => absurd z (noex b), e1.funs, e1.frf⟩
    have hy : l.scope.names.lookup y = some .cell ∨ l.scope.names.lookup y = some .free := hy
    rcases hy with k | k
    · exact absurd rfl (Ls.own _ (PySem.mem_of_lookup k)).2
    · obtain ⟨_, a, _, _, _, g, _⟩ := c y (PySem.mem_of_lookup k)
      exact ⟨a, g⟩
  · have vis : Vis l.scope y := vis
    rcases vis with k | k | k
    · exact absurd rfl (Ls.own _ (PySem.mem_of_lookup k)).1
    · exact absurd rfl (Ls.own _ (PySem.mem_of_lookup k)).2
    · obtain ⟨_, a, _, _, _, g, _⟩ := c y (PySem.mem_of_lookup k)
      obtain ⟨j, v2, u, n1, n2, ru, ic⟩ := cel y a g
      obtain ⟨l1, m1⟩ := List.getElem?_eq_some_iff.mp n1
      have g1 : l.N[i]? = some y := g1
      obtain ⟨l2, m2⟩ := List.getElem?_eq_some_iff.mp g1
      have e2 : i = j := (List.getElem_inj (lamOk_nd ok)).mp (m2.trans m1.symm)
      subst e2
      rw [n2] at g2
      cases g2
      exact ⟨u, ru, .inr ⟨.inr k, a, g, ic⟩⟩
  · obtain ⟨_, _, u, _, _, _, ic⟩ := cel y a ha
    exact ⟨_, ic⟩
def exG (l : Lam) (L : Addr) (H : Hp) (E : XK) : XK := fun cls d H' => (∀ a, isCl l L a → H' a = none) → E cls d (adH l L H H')
theorem cx_ad {E : XK} {u : Value} {s' : Shared} (c : CelsV H l L σ) (e0 : Env0 P w K mg base A outer s H) (h : L2.CX P w outer (rmH l L H) s (exG l L H E) u s') : L2.CX P w outer H s E u s' := by
  obtain ⟨a, B, H', cls, d, eu, fly, hokB, ub, ha, os, bare, e⟩ := h
  have kp : ∀ b o, isCl l L b → s.heap.get? b = some o → B.get? b = some o := fun b o z eo => ub.keep b o eo (rm_cl z) fun hb => by
    obtain ⟨v, hv⟩ := c.cl z
    rw [e0.frf b hb] at hv
    cases hv
  have fr : ∀ b, isCl l L b → H' b = none := fun b z => by
    obtain ⟨v, hv⟩ := c.cl z
    obtain ⟨_, ⟨o, eo⟩, _⟩ := e0.hok b _ hv
    exact ub.free b o eo (rm_cl z)
  have na : ¬ isCl l L a := fun z => by
    obtain ⟨v, hv⟩ := c.cl z
    obtain ⟨_, ⟨o, eo⟩, _⟩ := e0.hok a _ hv
    have := kp a o z eo
    rw [fly.2.1] at this
    cases this
  refine ⟨a, B, adH l L H H', cls, d, eu, fly, hok_ad c fr kp e0.hok hokB, ⟨fun b o x n => ub.keep b o x (rm_none n), ub.slot, fun b o x n => ?_, ub.there, fun b xs x => ?_, fun b o v x => ?_, fun b ps x => ?_⟩, by rw [ad_no na]; exact ha, os, bare, e fr⟩
  · rw [ad_no fun z => by obtain ⟨v, hv⟩ := c.cl z; rw [n] at hv; cases hv]
    exact ub.free b o x (rm_none n)
  · exact ad_up fr (ub.tups b xs (rm_keep c x fun v z => by unfold CelO at z; cases z))
  · exact ad_up fr (ub.frzs b o v (rm_keep c x fun v z => by unfold CelO at z; cases z))
  · exact (ub.tbls b ps (rm_keep c x fun v z => by unfold CelO at z; cases z)).imp fun m z => ad_up fr z
theorem run_gone {k : Nat} {f c' : Addr} {E : XK} {Q : VK} {t : XK → TE} (ok : lamOk l = true) (c : CelsV H l L σ) (hl : σ.length = l.N.length) (room : Room (k + 1) A) (e0 : Env0 P w K mg base A outer s H) (hf : H f = some (CloO f l L c')) (hco : H c' = some (LamX.CodeO c' (l.qual ++ "<lambda>")))
    (hbind : ∀ (q : Str) (cl : List (Str × Addr)) (pm cv ctv : Value), bindArgs (PySem.W.kla_fn "<lambda>" q l.params l.body l.scope cl pm cv ctv) ⟨[], []⟩ = pure [])
    (hbody : ∀ (A : Around) (outer : List PySem.Env) (s : Shared) (H : Hp) (E : XK), Room k (A.deeper (LamX.lamEnv (goneX P w K mg base l L A s) l.scope s.heap.objs.size f c')) → PE (lamG P w K mg base l L A outer s H E f c') l.body (t E))
    (ht : t (exG l L H E) σ (rmH l L H) (fun v H' => (∀ a, isCl l L a → H' a = none) → Q v (adH l L H H'))) :
    codeAny (model P w) A (.call (.ref f) ⟨[], []⟩) (CR (L2.CX P w) outer P w H s Q E) s := by
  obtain ⟨⟨pm, ctv, obj⟩, _⟩ := e0.hok f _ hf
  obtain ⟨⟨oc, vs, tk, hoc, hdc, hvc⟩, _⟩ := e0.hok c' _ hco
  have Ls := lamOk_s ok
  refine PySem.W.kla_callFunE room.depth obj rfl Ls.co Ls.gen rfl ⟨c', oc, vs, tk, rfl, hoc, hdc, hvc⟩ ?_
  rw [hbind]
  refine wpAny_pure (wpAny_newFunctionEnv (binds := []) (fun y hy => (Ls.own y hy).2) (fun y hy => (by cases hy)) (fun h1 hns hsb => ⟨(e0.mod.nolimit.keeps fun b o z => (e0.bs b o z).1).fresh _ hsb, ?_⟩) Ls.kind)
  have kp : ∀ b o, s.heap.get? b = some o → h1.get? b = some o := fun b o e => hsb.extBut b o (Nat.ne_of_lt (Heap.lt_size e)) (Heap.get?_push_of_some _ e)
  have J := lamG_start (E := exG l L H E) (f := f) (c' := c') (tk := s.toks + ([] : List (Str × Value)).length) ok c hl e0 room.hd hns kp
  refine PySem.W.kla_codeExpr (wpAny_mono ((hbody A outer s (rmH l L H) (exG l L H E) (room.deeper _)).run [] _ _ _ _ J ht) (fun v s' hq => ?_) fun e s' hq => ?_)
  · obtain ⟨x, H', J', rv, q⟩ := hq
    obtain ⟨fr, u2⟩ := un_ad c e0.hok J'.base
    exact ⟨x, _, J'.os, J'.bare, u2, hok_ad c fr (fun a o z eo => J'.base.keep a o eo (rm_cl z) (fun hb => by
      obtain ⟨v, hv⟩ := c.cl z
      rw [e0.frf a hb] at hv
      cases hv) (fun z => by cases (show a ∈ ([] : List Addr) from z))) e0.hok J'.hok, rv, q fr⟩
  · exact wpAny_mono hq (fun _ s'' z => cx_ad c e0 z) fun _ s'' z => cx_ad c e0 z
end
def actG (l : Lam) (L f c' : Addr) (σ : L2.St) (t : XK → TE) : XK → Hp → VK → Prop := fun E H Q => H f = some (CloO f l L c') ∧ CelsV H l L σ ∧ t (exG l L H E) σ (rmH l L H) (fun v H' => (∀ a, isCl l L a → H' a = none) → Q v (adH l L H H'))
def BodyOk (P : Program) (w : World) (K : PySem.W.Frag) (mg : Str → Option Value) (base : Heap) (k : Nat) (l : Lam) (t : XK → TE) : Prop :=
  ∀ (L f c' : Addr) (A : Around) (outer : List PySem.Env) (s : Shared) (H : Hp) (E : XK), Room k (A.deeper (LamX.lamEnv (goneX P w K mg base l L A s) l.scope s.heap.objs.size f c')) → PE (lamG P w K mg base l L A outer s H E f c') l.body (t E)
def NoArgs (l : Lam) : Prop := ∀ (q : Str) (cl : List (Str × Addr)) (pm cv ctv : Value), bindArgs (PySem.W.kla_fn "<lambda>" q l.params l.body l.scope cl pm cv ctv) ⟨[], []⟩ = pure []
section
variable {X : Cx} {l : Lam} {L f c' g : Addr} {σl : L2.St} {t : XK → TE} {k i : Nat} {a : Str} {Ng : List Str} {sg : Scope} {cdg : Value} {s : Shared} {H : Hp} {pn : List (Addr × Obj)} {xe : Value → Shared → Prop} {W : WX} {qg : Str} {p1 p2 : Pos}
theorem gone_run {sZ : Shared} {σZ : L2.St} {HZ : Hp} {Q : VK} {E : XK} {pinsZ : List (Addr × Obj)} (ok : lamOk l = true) (na : NoArgs l) (hl : σl.length = l.N.length) (bd : BodyOk X.prog X.w X.K X.mg X.base k l t) (room : Room (k + 1) (X.A.deeper (envOfC qg sg s.heap.objs.size g cdg))) (at_ : Ng[i]? = some a) (vis : Vis sg a)
    (d1 : (a == ("__debug__" : Str)) = false) (d2 : (a == ("__classdict__" : Str)) = false) (IZ : Inv (askZ X C8.CX0 C8.E0 Ng qg sg g cdg s H pn xe) pinsZ σZ HZ sZ) (slot : σZ[i]? = some (some (.ref f))) (code : HZ c' = some (LamX.CodeO c' (l.qual ++ "<lambda>"))) (h : actG l L f c' σl t E HZ Q)
    (pass : ∀ (s1 : Shared) (e : Value) (s' : Shared), Inv (askZ X C8.CX0 C8.E0 Ng qg sg g cdg s H pn xe) pinsZ σZ HZ s1 → L2.CX X.prog X.w (envOfC qg sg s.heap.objs.size g cdg :: X.stack) HZ s1 E e s' → (askZ X C8.CX0 C8.E0 Ng qg sg g cdg s H pn xe).xe e s') :
    wpAny (model X.prog X.w) (askZ X C8.CX0 C8.E0 Ng qg sg g cdg s H pn xe).A (eval (.Call (.Name a p1) [] [] p2) (askZ X C8.CX0 C8.E0 Ng qg sg g cdg s H pn xe).env) (EP (askZ X C8.CX0 C8.E0 Ng qg sg g cdg s H pn xe) pinsZ σZ Q) (askZ X C8.CX0 C8.E0 Ng qg sg g cdg s H pn xe).xe sZ := by
  have named := (pe_var (pos := p1) at_ vis d1 d2).run pinsZ sZ σZ HZ (fun v G => v = .ref f ∧ G = HZ) IZ ⟨.ref f, slot, rfl, rfl⟩
  obtain ⟨hf, hc, ht⟩ := h
  refine wpAny_Call_Name_kw (thn named fun u s1 ⟨v1, G1, J, rel, ev, eG⟩ => ?_)
  subst ev
  rw [eG] at J
  obtain rfl : u = Value.ref f := rel
  obtain ⟨⟨pm, ctv, obj⟩, _⟩ := J.hok f _ hf
  refine PySem.W.callWith_F0 ⟨_, _, _, _, obj⟩ (wpAny_call ?_)
  have ran := run_gone ok hc hl room J.env0 hf code na (fun A outer s H E r => bd L f c' A outer s H E r) ht
  refine codeAny_mono ran fun r s' hq => ?_
  match r, hq with
  | .error e, hq => exact pass s1 e s' J hq
  | .ok (.ret u), hq => exact J.after hq
  | .ok .next, hq => exact hq.elim
  | .ok .brk, hq => exact hq.elim
  | .ok .cont, hq => exact hq.elim
end
section
variable {X : Cx} {ι : Type} {lam : ι → Lam} {t : ι → XK → TE} {k : Nat} {x a : Str} {g : Addr} {pg : Arguments} {bg : List Stmt} {sg : Scope} {dV kV doc pm cdv ct oc : Value} {an od : Option Addr} {osl : Array (Option Value)} {Ng : List Str} {TT : (XK → Hp → VK → Prop) → Hp → VK → Prop} {te : TE} {e : Expr} {p pos : Pos}
def tToldG (lam : ι → Lam) (t : ι → XK → TE) (TT : (XK → Hp → VK → Prop) → Hp → VK → Prop) (te : TE) : TE := fun σ H Q => te σ H fun v H1 => ∃ (i : ι) (f L c' : Addr) (σl : L2.St), v = .ref f ∧ H1 f = some (CloO f (lam i) L c') ∧ H1 c' = some (LamX.CodeO c' ((lam i).qual ++ "<lambda>")) ∧ σl.length = (lam i).N.length ∧ TT (actG (lam i) L f c' σl (t i)) H1 Q
theorem pe_toldG (gl : Gl X x) (hm : X.mg x = some (.ref g)) (kept : PySem.W.keepIn X.K (.ref g) = true) (lk : X.K.lookup g = some ⟨oc, od, .func (PySem.W.fnOf x x pg bg sg dV kV doc pm an cdv ct), osl⟩) (cg : PySem.W.codeIn X.K cdv x = true) (bind : L2.Binds X.K (PySem.W.fnOf x x pg bg sg dV kV doc pm an cdv ct) [a] [])
    (scg : FnScope Ng [a] sg) (at_ : Ng[0]? = some a) (vis : Vis sg a) (gives : ∀ q, AskTo X Ng x sg g cdv bg a q TT ∨ LamX.GivesTo X Ng x sg g cdv bg a q TT) (room : Room (k + 2) X.A) (he : PE X e te)
    (ok : ∀ i, lamOk (lam i) = true) (na : ∀ i, NoArgs (lam i)) (bd : ∀ i, BodyOk X.prog X.w X.K X.mg X.base k (lam i) (t i)) (hst : starEach [e] X.env = (false, eval e X.env) :: starEach [] X.env := by rfl)
    (d0 : (x == ("__debug__" : Str)) = false := by decide) (d1 : (a == ("__debug__" : Str)) = false := by decide) (d2 : (a == ("__classdict__" : Str)) = false := by decide) :
    PE X (.Call (.Name x p) [e] [] pos) (tToldG lam t TT te) := by
  refine ⟨fun pins s σ H Q I h => ?_⟩
  refine wpAny_Call_Name_kw (ld_glob I gl hm ?_ d0)
  refine PySem.W.callWith_K (h₀ := X.base) I.ok.mod.kin kept (thn ((pa_cons he pa_nil hst).run pos pins s σ H (fun vs H1 => match vs with
    | [v] => ∃ (i : ι) (f L c' : Addr) (σl : L2.St), v = .ref f ∧ H1 f = some (CloO f (lam i) L c') ∧ H1 c' = some (LamX.CodeO c' ((lam i).qual ++ "<lambda>")) ∧ σl.length = (lam i).N.length ∧ TT (actG (lam i) L f c' σl (t i)) H1 Q
    | _ => False) I h) fun us s1 ⟨vs, H1, J, r, q⟩ => ⟨J.kIn, ?_⟩) hst (by rfl)
  dsimp only at q
  split at q
  · rename_i v
    obtain ⟨i, f, L, c', σl, rfl, hf, hco, hl, tt⟩ := q
    cases r with
    | @cons v0 u _ us r1 r2 =>
      cases r2
      obtain rfl : u = Value.ref f := r1
      refine wpAny_call ?_
      have ran : codeAny (model X.prog X.w) X.A (.call (.ref g) ⟨[.ref f], []⟩) (CR C8.CX0 X.stack X.prog X.w H1 s1 Q C8.E0) s1 :=
        LamX.run_ofS (us := [.ref f]) (vs := [.ref f]) lk cg scg room J.env0 (bind s1 [.ref f] J.kIn rfl) (.cons rfl .nil) rfl fun room' => by
          rcases gives ((lam i).qual ++ "<lambda>") with G | G
          · obtain ⟨t', h1, h2⟩ := G f c' s1 H1 Q (actG (lam i) L f c' σl (t i)) (fun W pn xe p1 p2 tk => ⟨fun pinsZ sZ σZ HZ QZ IZ ⟨slot, code, E, hE, body⟩ => gone_run (ok i) (na i) hl (bd i) room' at_ vis d1 d2 IZ slot code body fun s2 e s' J2 cx => tk e s' (XE.of_call J2 (fun _ _ _ z => hE _ _ _ z) cx)⟩) hco tt
            exact ⟨t', h1.nox, h2⟩
          · obtain ⟨t', h1, h2⟩ := G f c' s1 H1 Q (actG (lam i) L f c' σl (t i)) (fun W pn xe E p1 p2 tk hE => ⟨fun pinsZ sZ σZ HZ QZ IZ ⟨slot, code, body⟩ => gone_run (ok i) (na i) hl (bd i) room' at_ vis d1 d2 IZ slot code body fun s2 e s' J2 cx => tk e s' (XE.of_call J2 (fun _ _ _ z => hE _ _ _ _ z) cx)⟩) hco tt
            exact ⟨t', h1.nox, h2⟩
      refine codeAny_mono ran fun r s2 hq => ?_
      match r, hq with
      | .error e, hq => exact (show False from hq).elim
      | .ok (.ret u), hq => exact J.after hq
      | .ok .next, hq => exact hq.elim
      | .ok .brk, hq => exact hq.elim
      | .ok .cont, hq => exact hq.elim
  · exact q.elim
end
end DM
namespace DM
open PySem PySem.Spec PyProof.Rows L2 RZ DL DW
def noClo (M : Mem) : Mem := fun a => match M a with
  | some (.clo _ _ _) => none
  | o => o
def reClo (M M' : Mem) : Mem := fun a => match M a with
  | some (.clo x y z) => some (.clo x y z)
  | _ => M' a
def isClo : Option SO → Bool
  | some (.clo _ _ _) => true
  | _ => false
theorem no_is {M : Mem} {a : Addr} (h : isClo (M a) = true) : noClo M a = none := by
  unfold noClo
  cases q : M a with
  | none => rfl
  | some o => rw [q] at h; cases o <;> first | rfl | cases h
theorem no_not {M : Mem} {a : Addr} (h : isClo (M a) = false) : noClo M a = M a := by
  unfold noClo
  cases q : M a with
  | none => rfl
  | some o => rw [q] at h; cases o <;> first | rfl | cases h
theorem re_is {M M' : Mem} {a : Addr} (h : isClo (M a) = true) : reClo M M' a = M a := by
  unfold reClo
  cases q : M a with
  | none => rw [q] at h; cases h
  | some o => rw [q] at h; cases o <;> first | rfl | cases h
theorem re_not {M M' : Mem} {a : Addr} (h : isClo (M a) = false) : reClo M M' a = M' a := by
  unfold reClo
  cases q : M a with
  | none => rfl
  | some o => rw [q] at h; cases o <;> first | rfl | cases h
theorem is_none {M : Mem} {a : Addr} (h : M a = none) : isClo (M a) = false := by rw [h]; rfl
theorem no_none {M : Mem} {a : Addr} (h : M a = none) : noClo M a = none := by rw [no_not (is_none h), h]
section
variable {K : PySem.W.Frag} {b : Bg} {I H I' H' : Hp} {M M' : Mem} {l : Lam} {L : Addr} {σ : L2.St}
theorem clo_ext {a : Addr} {x : Addr} {y : Lam} {z : En} (r : MR K b I H M) (h : M a = some (.clo x y z)) : ∃ L c', H a = some (CloO x y L c') := by
  obtain ⟨_, _, ho, e, L, c', rfl, _⟩ := r a _ h
  exact ⟨L, c', e⟩
theorem ok_rm (c : CelsV H l L σ) (o : Ok K b I H) : Ok K b I (rmH l L H) := by
  obtain ⟨n, pl, tb, l0, ns, x, q, m, cc, e1, sl, rr⟩ := o.b
  refine ⟨fun a u h => rm_keep c (o.s a u h) fun v z => ?_, n, pl, fun p hp => ?_, l0, ns, x, q, m, cc, rm_keep c e1 (fun v z => by unfold CelO at z; cases z), sl, rr⟩
  · have := pl a u h
    rw [z] at this
    exact this
  · obtain ⟨ps, h1, h2, h3⟩ := tb p hp
    refine ⟨ps, rm_keep c h1 (fun v z => by unfold CelO at z; cases z), h2, fun pos cv hc => ?_⟩
    obtain ⟨c0, g1, g2⟩ := h3 pos cv hc
    exact ⟨c0, g1, rm_keep c g2 fun v z => cel_code z.symm⟩
theorem mr_rm (c : CelsV H l L σ) (r : MR K b I H M) : MR K b I (rmH l L H) (noClo M) := fun a o h => by
  have nc : isClo (M a) = false := by
    cases q : isClo (M a) with
    | false => rfl
    | true => rw [no_is q] at h; cases h
  rw [no_not nc] at h
  obtain ⟨g1, g2, ho, g3, g4⟩ := r a o h
  refine ⟨g1, g2, ho, rm_keep c g3 (fun v z => by subst z; have := mr_cel r g3; rw [h] at this; cases this), ?_⟩
  cases o with
  | lst xs => exact g4
  | dic kvs => exact g4
  | dicL kvs => exact g4
  | ins C fs => exact g4
  | tup xs => exact g4
  | clv p l L => obtain ⟨c', e, n, q⟩ := g4; exact ⟨c', e, n, rm_keep c q fun v z => cel_code z.symm⟩
  | clo p l δ => rw [h] at nc; cases nc
theorem XM.gone (c : CelsV H l L σ) (o : Ok K b I H) (r : MR K b I H M) (x : XM K b I (rmH l L H) (noClo M) I' H' M') (fr : ∀ a, isCl l L a → H' a = none) : XM K b I H M I' (adH l L H H') (reClo M M') := by
  have up : ∀ a u, H' a = some u → adH l L H H' a = some u := fun a u e => ad_up fr e
  have ok' := (Ok.grow x.ok up).ok
  have hh : ∀ a u, a ≠ b.a → (∀ ps, u ≠ .tbl ps) → M a = none → H a = some u → adH l L H H' a = some u := fun a u n t hm e => by
    by_cases z : isCl l L a
    · rw [ad_cl z]; exact e
    · rw [ad_no z]
      exact x.h a u n t (no_none hm) (by rw [rm_no z]; exact e)
  have hm' : ∀ a u, M a = none → H a = some u → (∀ ps, u ≠ .tbl ps) → reClo M M' a = none := fun a u hm e t => by
    rw [re_not (is_none hm)]
    by_cases z : isCl l L a
    · exact x.r.none (fr a z)
    · exact x.m a u (no_none hm) (by rw [rm_no z]; exact e) t
  have nb : ¬ isCl l L b.a := fun z => by
    obtain ⟨v, hv⟩ := c.cl z
    obtain ⟨xs, e⟩ := o.b.lst
    rw [hv] at e
    unfold CelO at e
    cases e
  have nst : ∀ {a : Addr} {so : SO}, M a = some so → ¬ isCl l L a := fun e z => by
    obtain ⟨v, hv⟩ := c.cl z
    rw [mr_cel r hv] at e
    cases e
  refine ⟨x.i, hh, fun a u hi hm e t => ?_, hm', fun l0 xs e => ?_, ok', fun a so e => ?_, fun a kvs e => ?_⟩
  · by_cases z : isCl l L a
    · exact x.ok.inone (fr a z)
    · exact x.n a u hi (no_none hm) (by rw [rm_no z]; exact e) t
  · rw [ad_no nb]
    exact x.k l0 xs (by rw [rm_no nb]; exact e)
  · cases q : isClo (M a) with
    | true =>
      rw [re_is q] at e
      obtain ⟨g1, g2, ho, g3, g4⟩ := r a so e
      have na := nst e
      have ext : ∃ φ, ho = .ext φ := by
        cases so with
        | clo p l δ => obtain ⟨L, c', rfl, _⟩ := g4; exact ⟨_, rfl⟩
        | _ => rw [e] at q; cases q
      obtain ⟨φ, rfl⟩ := ext
      have k1 : rmH l L H a = some (.ext φ) := by rw [rm_no na]; exact g3
      have g5 := x.h a _ g2 (fun ps z => by cases z) (no_is q) k1
      refine ⟨x.n a _ g1 (no_is q) k1 (fun ps z => by cases z), g2, _, up _ _ g5, g4.mono x.i r fun p φ n _ hm hc => ⟨hh p _ n (fun ps z => by cases z) hm hc, hm' p _ hm hc (fun ps z => by cases z)⟩⟩
    | false =>
      rw [re_not q] at e
      obtain ⟨g1, g2, ho, g3, g4⟩ := x.r a so e
      refine ⟨g1, g2, ho, up _ _ g3, g4.mono (Same.refl _) x.r fun p φ n nc hm hc => ⟨up _ _ hc, ?_⟩⟩
      cases w : isClo (M p) with
      | false => rw [re_not w]; exact hm
      | true =>
        cases y : M p with
        | none => rw [y] at w; cases w
        | some so2 =>
          cases so2 with
          | clo u v z =>
            obtain ⟨L2, c2, e2⟩ := clo_ext r y
            have k1 : rmH l L H p = some (CloO u v L2 c2) := by rw [rm_no (nst y)]; exact e2
            have := x.h p _ n (fun ps z => by unfold CloO at z; cases z) (no_is w) k1
            rw [hc] at this
            exact absurd (Option.some.inj this) (nc _ _ _ _)
          | _ => rw [y] at w; cases w
  · have nc : isClo (M a) = false := by rw [e]; rfl
    have z := x.lk a kvs (by rw [no_not nc]; exact e)
    rw [re_not nc, ad_no (nst e)]
    rw [rm_no (nst e)] at z
    exact z
end
theorem zip_true : ∀ {bs : List Bool} {δ : En} {j : Nat} {r : DV}, zipE bs δ = δ → δ[j]? = some (some r) → bs[j]? = some true
  | true :: _, _ :: _, 0, _, _, _ => rfl
  | false :: bs, x :: rs, 0, r, h, h' => by
    injection h with h1 h2
    have h' : x = some r := Option.some.inj h'
    rw [h'] at h1
    cases h1
  | true :: bs, _ :: rs, j + 1, r, h, h' => zip_true (bs := bs) (δ := rs) (j := j) (by injection h) h'
  | false :: bs, _ :: rs, j + 1, r, h, h' => zip_true (bs := bs) (δ := rs) (j := j) (by injection h) h'
  | [], [], _, _, _, h' => by simp at h'
  | [], _ :: _, _, _, h, _ => by cases h
  | _ :: _, [], _, _, _, h' => by simp at h'
theorem lamOk_m {l : Lam} (h : lamOk l = true) {j : Nat} (hm : l.ms[j]? = some true) (hj : j < l.N.length) : ∃ y, l.N[j]? = some y ∧ (y, NameKind.free) ∈ l.scope.names := by
  unfold lamOk at h
  simp only [Bool.and_eq_true] at h
  refine ⟨l.N[j], List.getElem?_eq_getElem hj, ?_⟩
  have mem : (l.N[j], true) ∈ l.N.zip l.ms := List.mem_iff_getElem?.mpr ⟨j, by rw [List.getElem?_zip_eq_some]; exact ⟨List.getElem?_eq_getElem hj, hm⟩⟩
  have := List.all_eq_true.mp h.1 _ mem
  exact List.contains_iff_mem.mp (by simpa using this)
open Classical in
theorem sl_of {K : PySem.W.Frag} {b : Bg} {I H : Hp} {M : Mem} {l : Lam} {L : Addr} {δ : En} (ok : lamOk l = true) (hz : zipE l.ms δ = δ) (hl : δ.length = l.N.length) (c : CelsOk K b I H M l L δ) : ∃ σ : L2.St, σ.length = l.N.length ∧ EnvM K b I σ δ ∧ CelsV H l L σ := by
  have c' : ∀ y : { y : Str // (y, NameKind.free) ∈ l.scope.names }, ∃ q : Nat × DV × Addr × V, l.N[q.1]? = some y.1 ∧ δ[q.1]? = some (some q.2.1) ∧ (l.cells L).lookup y.1 = some q.2.2.1 ∧ H q.2.2.1 = some (CelO q.2.2.1 q.2.2.2) ∧ VB K b I q.2.2.2 q.2.1 := fun y => by
    obtain ⟨j, r, cc, v, h1, h2, h3, h4, _, _, h5⟩ := c y.1 y.2
    exact ⟨(j, r, cc, v), h1, h2, h3, h4, h5⟩
  obtain ⟨g, hg⟩ := Classical.axiomOfChoice c'
  have nd := lamOk_nd ok
  have uniq : ∀ {i j : Nat} {y : Str}, l.N[i]? = some y → l.N[j]? = some y → i = j := fun h1 h2 => by
    obtain ⟨l1, m1⟩ := List.getElem?_eq_some_iff.mp h1
    obtain ⟨l2, m2⟩ := List.getElem?_eq_some_iff.mp h2
    exact (List.getElem_inj nd).mp (m1.trans m2.symm)
  let σ : L2.St := (List.range l.N.length).map fun j => match l.N[j]? with
    | some y => if h : (y, NameKind.free) ∈ l.scope.names then some (g ⟨y, h⟩).2.2.2 else none
    | none => none
  have at_ : ∀ {j : Nat} {y : Str} (h : (y, NameKind.free) ∈ l.scope.names), l.N[j]? = some y → σ[j]? = some (some (g ⟨y, h⟩).2.2.2) := fun {j y} h e => by
    have hj := (List.getElem?_eq_some_iff.mp e).1
    show ((List.range l.N.length).map _)[j]? = _
    rw [List.getElem?_map, List.getElem?_range hj]
    show some (match l.N[j]? with
      | some y => if h : (y, NameKind.free) ∈ l.scope.names then some (g ⟨y, h⟩).2.2.2 else none
      | none => none) = _
    rw [e]
    show some (if h : (y, NameKind.free) ∈ l.scope.names then some (g ⟨y, h⟩).2.2.2 else none) = _
    rw [dif_pos h]
  have len : σ.length = l.N.length := by
    show ((List.range l.N.length).map _).length = _
    rw [List.length_map, List.length_range]
  refine ⟨σ, len, ⟨len.trans hl.symm, fun j r e => ?_⟩, fun y hy => ?_⟩
  · have hj : j < l.N.length := by rw [← hl]; exact (List.getElem?_eq_some_iff.mp e).1
    obtain ⟨y, e1, e2⟩ := lamOk_m ok (zip_true hz e) hj
    refine ⟨_, at_ e2 e1, ?_⟩
    obtain ⟨g1, g2, _, _, g5⟩ := hg ⟨y, e2⟩
    rw [← uniq e1 g1, e] at g2
    have : r = (g ⟨y, e2⟩).2.1 := by
      injection g2 with g2
      injection g2
    rw [this]
    exact g5
  · obtain ⟨g1, g2, g3, g4, g5⟩ := hg ⟨y, hy⟩
    exact ⟨_, _, _, g1, at_ hy g1, g3, g4⟩
def rtWord (w : Str) (P : MP) : MP := fun _ M => P (.dat (.str w)) M
def mToldC (rt : MP → MP) (aft : Nat → List (Str × V) → Option PyData) (tbl : List (Lam × ME)) (me : ME) : ME := fun c δ M P => me c δ M fun r M1 => match r with
  | .raw (.ref f) => (match M1 f with
    | some (.clo f' l δ') => f' = f ∧ zipE l.ms δ' = δ' ∧ δ'.length = l.N.length ∧ ∃ md, (l, md) ∈ tbl ∧ md ⟨fun s fs M' => ∃ d, aft s fs = some d ∧ P (.dat d) (reClo M1 M'), c.fa⟩ δ' (noClo M1) (fun r M' => rt P r (reClo M1 M'))
    | _ => False)
  | _ => False
def RtOk (K : PySem.W.Frag) (rt : MP → MP) (told : (V → Hp → Prop) → V → Hp → Prop) : Prop := ∀ (P : MP) (r : DV) (M : Mem) (b : Bg) (I H : Hp) (v : V) (Q : VK), rt P r M → Ok K b I H → MR K b I H M → VB K b I v r → (∀ r v I' H' M', P r M' → XM K b I H M I' H' M' → VB K b I' v r → Q v H') → told Q v H
theorem rt_word {K : PySem.W.Frag} {w : Str} : RtOk K (rtWord w) (fun Q _ H => Q (.str w) H) := fun P r M b I H v Q p o mr vb q => q _ _ I H M p (.refl o mr) (.str w)
theorem xe_toldC {X : Cx} {S : Sg} {rt : MP → MP} {told : (V → Hp → Prop) → V → Hp → Prop} {aft : Nat → List (Str × V) → Option PyData} {tbl : List (Lam × ME)} {me : ME} {k : Nat} {x a : Str} {g : Addr} {pg : Arguments} {bg : List Stmt} {sg : Scope} {dV kV doc pm cdv ct oc : Value} {an od : Option Addr} {osl : Array (Option Value)} {Ng : List Str} {After : Addr → List (Str × V) → Hp → VK → Prop} {e : Expr} {p pos : Pos}
    (hrt : RtOk X.K rt told) (gl : Gl X x) (hm : X.mg x = some (.ref g)) (kept : PySem.W.keepIn X.K (.ref g) = true) (lk : X.K.lookup g = some ⟨oc, od, .func (PySem.W.fnOf x x pg bg sg dV kV doc pm an cdv ct), osl⟩) (cg : PySem.W.codeIn X.K cdv x = true) (bind : L2.Binds X.K (PySem.W.fnOf x x pg bg sg dV kV doc pm an cdv ct) [a] [])
    (scg : FnScope Ng [a] sg) (at_ : Ng[0]? = some a) (vis : Vis sg a) (gives : ∀ q, AskTo X Ng x sg g cdv bg a q (fun tl H Q => tl (XKof After Q) H fun v H' => told Q v H') ∨ LamX.GivesTo X Ng x sg g cdv bg a q (fun tl H Q => tl (XKof After Q) H fun v H' => told Q v H')) (room : Room (k + 2) X.A)
    (haft : AftOk X.K S.cls After aft) (he : XE X S e me)
    (hb : ∀ q ∈ tbl, lamOk q.1 = true ∧ NoArgs q.1 ∧ ∀ (L f c' : Addr) (A : Around) (outer : List PySem.Env) (s : Shared) (H : Hp) (E : XK), Room k (A.deeper (LamX.lamEnv (goneX X.prog X.w X.K X.mg X.base q.1 L A s) q.1.scope s.heap.objs.size f c')) → XE (lamG X.prog X.w X.K X.mg X.base q.1 L A outer s H E f c') ⟨q.1.N.length, E, S.cls, S.fa, S.tb⟩ q.1.body q.2)
    (hst : starEach [e] X.env = (false, eval e X.env) :: starEach [] X.env := by rfl) (d0 : (x == ("__debug__" : Str)) = false := by decide) (d1 : (a == ("__debug__" : Str)) = false := by decide) (d2 : (a == ("__classdict__" : Str)) = false := by decide) :
    XE X S (.Call (.Name x p) [e] [] pos) (mToldC rt aft tbl me) := by
  have h1 : ∀ z : { q // q ∈ tbl } × XK, ∃ te : TE, (∀ (L f c' : Addr) (A : Around) (outer : List PySem.Env) (s : Shared) (H : Hp), Room k (A.deeper (LamX.lamEnv (goneX X.prog X.w X.K X.mg X.base z.1.1.1 L A s) z.1.1.1.scope s.heap.objs.size f c')) → PE (lamG X.prog X.w X.K X.mg X.base z.1.1.1 L A outer s H z.2 f c') z.1.1.1.body te) ∧ CmE X.K ⟨z.1.1.1.N.length, z.2, S.cls, S.fa, S.tb⟩ te z.1.1.2 := fun ⟨⟨q, mq⟩, E⟩ => by
    obtain ⟨te, a1, a2⟩ := all_x (ι := { q' : Addr × Addr × Addr × Around × List PySem.Env × Shared × Hp // Room k (q'.2.2.2.1.deeper (LamX.lamEnv (goneX X.prog X.w X.K X.mg X.base q.1 q'.1 q'.2.2.2.1 q'.2.2.2.2.2.1) q.1.scope q'.2.2.2.2.2.1.heap.objs.size q'.2.1 q'.2.2.1)) }) (Xi := fun q' => lamG X.prog X.w X.K X.mg X.base q.1 q'.1.1 q'.1.2.2.2.1 q'.1.2.2.2.2.1 q'.1.2.2.2.2.2.1 q'.1.2.2.2.2.2.2 E q'.1.2.1 q'.1.2.2.1) (K := X.K) (S := ⟨q.1.N.length, E, S.cls, S.fa, S.tb⟩) (fun _ => rfl)
      (fun q' => (hb q mq).2.2 q'.1.1 q'.1.2.1 q'.1.2.2.1 q'.1.2.2.2.1 q'.1.2.2.2.2.1 q'.1.2.2.2.2.2.1 q'.1.2.2.2.2.2.2 E q'.2)
    exact ⟨te, fun L f c' A outer s H hr => a1 ⟨(L, f, c', A, outer, s, H), hr⟩, a2⟩
  obtain ⟨t, ht⟩ := Classical.axiomOfChoice h1
  obtain ⟨te, e1, e2⟩ := he
  refine ⟨_, pe_toldG (lam := fun z : { q // q ∈ tbl } => z.1.1) (t := fun z E => t (z, E)) gl hm kept lk cg bind scg at_ vis gives room e1 (fun z => (hb z.1 z.2).1) (fun z => (hb z.1 z.2).2.1) (fun z L f c' A outer s H E hr => (ht (z, E)).1 L f c' A outer s H hr) hst d0 d1 d2, fun b I0 H0 M0 c δ M P nb ok p σ I H x en Q q => ?_⟩
  refine e2 b I0 H0 M0 c δ M _ nb ok p σ I H x en _ fun r v I1 H1 M1 pr x1 rs => ?_
  split at pr
  · rename_i f
    have rs : v = .ref f := rs
    subst rs
    split at pr
    · rename_i f' l δ' em
      obtain ⟨rfl, hz, hl, md, mem, pr⟩ := pr
      obtain ⟨g1, g2, ho, g3, L, c', rfl, g5, g6, g7⟩ := x1.r _ _ em
      have okl := (hb (l, md) mem).1
      obtain ⟨σl, sl, en', cv⟩ := sl_of okl hz hl g7
      refine ⟨⟨(l, md), mem⟩, f', L, c', σl, rfl, g3, g6, sl, g3, cv, ?_⟩
      have okr := ok_rm cv x1.ok
      have mrr := mr_rm cv x1.r
      refine (ht (⟨(l, md), mem⟩, exG l L H1 (XKof After Q))).2 b I1 (rmH l L H1) (noClo M1) ⟨fun s fs M' => ∃ d, aft s fs = some d ∧ P (.dat d) (reClo M1 M'), c.fa⟩ δ' (noClo M1) _ hl ⟨ok.fa, fun s fs d I' H' M' hxx x3 h1 h2 h3 => ?_, ok.tb⟩ pr σl I1 (rmH l L H1) (.refl okr mrr) en' _ fun r v I' H' M' pr x3 rs => ?_
      · intro fr
        obtain ⟨dd, ha, hp⟩ := hxx
        have xg := XM.gone cv x1.ok x1.r x3 fr
        exact ⟨_, d, fs, rfl, rfl, ad_up fr h2, haft s fs dd ha b I' _ Q xg.ok fun v I'' H'' e4 dv => q (.dat dd) v I'' H'' _ hp ((x1.trans xg).trans (.of xg.r e4)) dv⟩
      · intro fr
        have xg := XM.gone cv x1.ok x1.r x3 fr
        exact hrt _ r _ b I' _ v Q pr xg.ok xg.r rs fun r v I'' H'' M'' pz e4 rs' => q r v I'' H'' M'' pz ((x1.trans xg).trans e4) rs'
    · exact pr.elim
  · exact pr.elim
end DM
namespace DW
open PySem PySem.Spec PyProof.Rows L2 RZ DL
theorem jss_never {X : Cx} {S : Sg} {ss : List Stmt} : JSs X S ss dNever := ⟨fun _ _ _ => False, ⟨fun _ _ _ _ _ _ h => h.elim⟩, fun _ _ _ _ _ _ _ _ h => h.elim⟩
def lamOfS : Stmt → Expr
  | .Assign _ (.List (e :: _) _) _ => e
  | .Expr (.Call _ (e :: _) _ _) _ => e
  | _ => .Constant .none 0 ⟨0, 0, 0, 0⟩
end DW
namespace DM
open PySem PySem.Spec PyProof.Rows L2 RZ DL DW
def lamOfE (q : Str) (msc : Scope) (ms : List Bool) (N : List Str) : Expr → Lam
  | .Lambda ps b sc _ => ⟨q, ps, b, sc, msc, ms, N⟩
  | e => ⟨q, ⟨[], [], none, [], [], none, []⟩, e, msc, msc, ms, N⟩
end DM
namespace DM
open PySem PySem.Spec PyProof.Rows L2 RZ DL DW
theorem re_no {M : Mem} : reClo M (noClo M) = M := by
  funext a
  cases q : isClo (M a) with
  | true => rw [re_is q]
  | false => rw [re_not q, no_not q]
theorem zipE_zipE : ∀ (bs : List Bool) (δ : En), zipE bs (zipE bs δ) = zipE bs δ
  | true :: bs, r :: rs => congrArg (r :: ·) (zipE_zipE bs rs)
  | false :: bs, _ :: rs => congrArg (none :: ·) (zipE_zipE bs rs)
  | [], _ => by cases ‹En› <;> rfl
  | true :: _, [] => rfl
  | false :: _, [] => rfl
theorem zipE_len : ∀ {bs : List Bool} {δ : En}, bs.length = δ.length → (zipE bs δ).length = δ.length
  | true :: bs, _ :: rs, h => congrArg (· + 1) (zipE_len (bs := bs) (δ := rs) (by simpa using h))
  | false :: bs, _ :: rs, h => congrArg (· + 1) (zipE_len (bs := bs) (δ := rs) (by simpa using h))
  | [], [], _ => rfl
  | [], _ :: _, h => by simp at h
  | true :: _, [], h => by simp at h
  | false :: _, [], h => by simp at h
abbrev rfs (qs : List (Addr × Lam)) : List DV := qs.map fun q => .raw (.ref q.1)
structure Mkd (L : Addr) (M0 M : Mem) (p : Addr) (qs : List (Addr × Lam)) : Prop where
  p0 : M0 p = none
  hp : M p = some (.lst (rfs qs))
  nd : (qs.map (·.1)).Nodup
  np : ∀ q ∈ qs, q.1 ≠ p
  at_ : ∀ q ∈ qs, M q.1 = some (.clv q.1 q.2 L)
  n0 : ∀ q ∈ qs, M0 q.1 = none
  keep : ∀ y, y ≠ p → y ∉ qs.map (·.1) → M y = M0 y
structure Cl (M0 M : Mem) (p : Addr) (qs : List (Addr × Lam)) (δ : En) : Prop where
  hp : M p = some (.lst (rfs qs))
  at_ : ∀ q ∈ qs, M q.1 = some (.clo q.1 q.2 (zipE q.2.ms δ))
  p0 : M0 p = none
  n0 : ∀ q ∈ qs, M0 q.1 = none
  keep : ∀ y o, M0 y = some o → M y = some o
theorem cls_all {sc : Scope} {N : List Str} {L : Addr} {δ : En} : ∀ (qs : List (Addr × Lam)) {M : Mem} {K : Mem → Prop}, (qs.map (·.1)).Nodup → (∀ q ∈ qs, M q.1 = some (.clv q.1 q.2 L)) → (∀ q ∈ qs, (q.2.msc = sc ∧ q.2.N = N) ∧ lamOk q.2 = true ∧ capOk q.2.ms δ = true) →
    (∀ M', (∀ q ∈ qs, M' q.1 = some (.clo q.1 q.2 (zipE q.2.ms δ))) → (∀ y, y ∉ qs.map (·.1) → M' y = M y) → K M') → clsAll sc N L δ (rfs qs) M K
  | [], M, K, _, _, _, p => p M (fun _ h => by cases h) fun _ _ => rfl
  | (f, l) :: qs, M, K, nd, ha, ok, p => by
    show clsAll sc N L δ (.raw (.ref f) :: rfs qs) M K
    unfold clsAll
    rw [ha (f, l) (List.mem_cons_self ..)]
    obtain ⟨⟨o1, o2⟩, o3, o4⟩ := ok (f, l) (List.mem_cons_self ..)
    have nd' := List.nodup_cons.mp nd
    refine ⟨⟨rfl, rfl, o1, o2⟩, o3, o4, ?_⟩
    refine cls_all qs nd'.2 (fun q hq => ?_) (fun q hq => ok q (List.mem_cons_of_mem _ hq)) fun M' h1 h2 => p M' (fun q hq => ?_) fun y hy => ?_
    · have n : q.1 ≠ f := fun z => nd'.1 (by rw [← z]; exact List.mem_map.mpr ⟨q, hq, rfl⟩)
      rw [um_ne n]
      exact ha q (List.mem_cons_of_mem _ hq)
    · rcases List.mem_cons.mp hq with rfl | hq
      · rw [h2 _ nd'.1]
        exact um_same
      · exact h1 q hq
    · rw [h2 y (fun z => hy (List.mem_cons_of_mem _ z)), um_ne (fun z => hy (by rw [z]; exact List.mem_cons_self ..))]
theorem Mkd.done {sc : Scope} {N : List Str} {L : Addr} {δ : En} {M0 M : Mem} {p : Addr} {qs : List (Addr × Lam)} {K : Mem → Prop} (h : Mkd L M0 M p qs) (ok : ∀ q ∈ qs, (q.2.msc = sc ∧ q.2.N = N) ∧ lamOk q.2 = true ∧ capOk q.2.ms δ = true) (pp : ∀ M', Cl M0 M' p qs δ → K M') : clsAll sc N L δ (rfs qs) M K :=
  cls_all qs h.nd h.at_ ok fun M' h1 h2 => pp M' (by
    have np : p ∉ qs.map (·.1) := fun z => by
      obtain ⟨q, hq, e⟩ := List.mem_map.mp z
      exact h.np q hq e
    refine ⟨(h2 p np).trans h.hp, h1, h.p0, h.n0, fun y o e => ?_⟩
    have ny : y ∉ qs.map (·.1) := fun z => by
      obtain ⟨q, hq, e2⟩ := List.mem_map.mp z
      rw [← e2, h.n0 q hq] at e
      cases e
    have np2 : y ≠ p := fun z => by rw [z, h.p0] at e; cases e
    rw [h2 y ny, h.keep y np2 ny]
    exact e)
def lamsB (i : Nat) : List Lam → MS
  | [] => mNext
  | [l] => mExpr (mApp (mVar i) (mLam l))
  | l :: ls => mSeq (mExpr (mApp (mVar i) (mLam l))) (lamsB i ls)
theorem Mkd.app {L : Addr} {M0 M : Mem} {p f : Addr} {l : Lam} {qs : List (Addr × Lam)} (h : Mkd L M0 M p qs) (hf : M f = none) : Mkd L M0 (um (um M f (.clv f l L)) p (.lst (rfs qs ++ [.raw (.ref f)]))) p (qs ++ [(f, l)]) := by
  have nfp : f ≠ p := fun z => by rw [z, h.hp] at hf; cases hf
  have nfq : ∀ q ∈ qs, q.1 ≠ f := fun q hq z => by rw [← z, h.at_ q hq] at hf; cases hf
  have nf : f ∉ qs.map (·.1) := fun z => by
    obtain ⟨q, hq, e⟩ := List.mem_map.mp z
    exact nfq q hq e
  refine ⟨h.p0, by rw [um_same]; show _ = some (SO.lst (List.map _ (qs ++ [(f, l)]))); rw [List.map_append]; rfl, ?_, fun q hq => ?_, fun q hq => ?_, fun q hq => ?_, fun y y1 y2 => ?_⟩
  · rw [List.map_append, List.nodup_append]
    refine ⟨h.nd, by simp, fun a ha b hb => ?_⟩
    have hb2 : b = f := List.mem_singleton.mp hb
    rw [hb2]
    exact fun z => nf (by rw [← z]; exact ha)
  · rcases List.mem_append.mp hq with hq | hq
    · exact h.np q hq
    · rw [List.mem_singleton.mp hq]; exact nfp
  · rcases List.mem_append.mp hq with hq | hq
    · rw [um_ne (h.np q hq), um_ne (nfq q hq)]; exact h.at_ q hq
    · rw [List.mem_singleton.mp hq, um_ne nfp]; exact um_same
  · rcases List.mem_append.mp hq with hq | hq
    · exact h.n0 q hq
    · rw [List.mem_singleton.mp hq]
      rw [← h.keep f nfp nf]
      exact hf
  · rw [List.map_append, List.mem_append] at y2
    rw [um_ne y1, um_ne (fun z => y2 (.inr (by rw [z]; exact List.mem_singleton.mpr rfl)))]
    exact h.keep y y1 fun z => y2 (.inl z)
theorem lamsB_ok {i : Nat} {c : Cm} {δ : En} {D : MEd} {M0 : Mem} {p : Addr} (hi : δ[i]? = some (some (.raw (.ref p)))) : ∀ (ls : List Lam) {M : Mem} {qs : List (Addr × Lam)}, ls ≠ [] → Mkd (c.fa 1000) M0 M p qs → qs.length + ls.length ≤ 1000 → (∀ M' (fs : List Addr), fs.length = ls.length → Mkd (c.fa 1000) M0 M' p (qs ++ fs.zip ls) → D.nx δ M') → lamsB i ls c δ M D
  | [], _, _, h, _, _, _ => absurd rfl h
  | [l], M, qs, _, h, hl, pp => by
    unfold lamsB mExpr mApp mVar mLam
    rw [hi]
    refine ⟨⟨_, h.hp⟩, fun f hf => ?_⟩
    have nfp : p ≠ f := fun z => by rw [← z, h.hp] at hf; cases hf
    dsimp only
    rw [um_ne nfp, h.hp]
    refine ⟨by rw [List.length_map]; omega, ?_⟩
    exact pp _ [f] rfl (h.app hf)
  | l :: l2 :: ls, M, qs, _, h, hl, pp => by
    show (mExpr (mApp (mVar i) (mLam l))) c δ M ⟨laterM (lamsB i (l2 :: ls)) c D, D.rt, D.bk, D.ct⟩
    unfold mExpr mApp mVar mLam
    rw [hi]
    refine ⟨⟨_, h.hp⟩, fun f hf => ?_⟩
    have nfp : p ≠ f := fun z => by rw [← z, h.hp] at hf; cases hf
    dsimp only
    rw [um_ne nfp, h.hp]
    refine ⟨by rw [List.length_map]; simp at hl; omega, ?_⟩
    show lamsB i (l2 :: ls) c δ _ D
    refine lamsB_ok hi (l2 :: ls) (by simp) (h.app hf) (by simp at hl ⊢; omega) fun M' fs hfs hm => pp M' (f :: fs) (by simp [hfs]) ?_
    rw [List.append_assoc] at hm
    exact hm
theorem w_asks {sc : Scope} {N : List Str} {n i : Nat} {l : Lam} {ls : List Lam} {rs : List DV} {M : Mem} {P : MP} {c : Cm} {D : MS} (hD : D = mSeq (mAsg i (mLstM (mCons (mLam l) mNil))) (lamsB i ls)) (hn : rs.length = n) (hls : ls ≠ []) (h1000 : ls.length ≤ 900) (hi : i < (rs.map some ++ List.replicate (N.length - n) none).length)
    (ok : ∀ (p : Addr), ∀ l' ∈ l :: ls, (l'.msc = sc ∧ l'.N = N) ∧ lamOk l' = true ∧ capOk l'.ms ((rs.map some ++ List.replicate (N.length - n) none).set i (some (.raw (.ref p)))) = true)
    (pp : ∀ M' p (fs : List Addr), fs.length = ls.length + 1 → Cl M M' p (fs.zip (l :: ls)) ((rs.map some ++ List.replicate (N.length - n) none).set i (some (.raw (.ref p)))) → P (.raw (.ref p)) M') : wA sc N n i D rs M P c := by
  subst hD
  refine ⟨hn, fun L => ?_⟩
  show ∀ f, M f = none → ∀ p, _ → _
  intro f hf p hp
  show laterM (lamsB i ls) _ _ _ _
  have nfp : f ≠ p := fun z => by rw [z, um_same] at hp; cases hp
  have p0 : M p = none := by rw [um_ne nfp.symm] at hp; exact hp
  have h0 : Mkd L M (um (um M f (.clv f l L)) p (.lst [.raw (.ref f)])) p [(f, l)] := ⟨p0, um_same, by simp, fun q hq => by rw [List.mem_singleton.mp hq]; exact nfp, fun q hq => by rw [List.mem_singleton.mp hq, um_ne nfp]; exact um_same, fun q hq => by rw [List.mem_singleton.mp hq]; exact hf, fun y y1 y2 => by
    rw [um_ne y1, um_ne (fun z => y2 (by rw [z]; exact List.mem_singleton.mpr rfl))]⟩
  refine lamsB_ok (c := ⟨c.x, faL c.fa L⟩) (p := p) (List.getElem?_set_self hi) ls hls h0 (by simp; omega) fun M' fs hfs hm => ?_
  dsimp only
  rw [List.getElem?_set_self hi]
  dsimp only
  rw [hm.hp]
  dsimp only
  refine hm.done (fun q hq => ok p q.2 ?_) fun M2 hc => pp M2 p (f :: fs) (by simp [hfs]) hc
  rcases List.mem_append.mp hq with hq | hq
  · rw [List.mem_singleton.mp hq]; exact List.mem_cons_self ..
  · exact List.mem_cons_of_mem _ (List.of_mem_zip hq).2
end DM
namespace DM
open PySem PySem.Spec PyProof.Rows L2 RZ DL DW
def Says (tbl : List (Lam × ME)) (aft : Nat → List (Str × V) → Option PyData) (fa : Nat → Addr) (δ : En) (l : Lam) (y : PyData) : Prop :=
  (zipE l.ms δ).length = l.N.length ∧ ∃ de : DE, (l, mLft lftP de) ∈ tbl ∧ ∀ (x : XN) (Q : DP), (∀ s fs, aft s fs = some y → x s fs) → de ⟨x, fa⟩ (zipE l.ms δ) Q
theorem toldC_x {rt : MP → MP} {aft : Nat → List (Str × V) → Option PyData} {tbl : List (Lam × ME)} {i : Nat} {c : Cm} {δ δ0 : En} {M : Mem} {P : MP} {f : Addr} {l : Lam} {w : PyData} (hi : δ[i]? = some (some (.raw (.ref f)))) (hf : M f = some (.clo f l (zipE l.ms δ0))) (h : Says tbl aft c.fa δ0 l w) (p : P (.dat w) M) : mToldC rt aft tbl (mVar i) c δ M P := by
  unfold mToldC mVar
  rw [hi]
  dsimp only
  rw [hf]
  dsimp only
  obtain ⟨hl, de, hm, h⟩ := h
  refine ⟨rfl, zipE_zipE _ _, hl, _, hm, ?_⟩
  unfold mLft
  exact h _ _ fun s fs hs => ⟨w, hs, by rw [re_no]; exact p⟩
theorem lcGo_told {a : Addr} {xs : List DV} {i : Nat} {de : ME} {c : Cm} {δ : En} {M : Mem} : ∀ {qs : List (Addr × Lam)} {ys : List PyData} {P : List DV → Mem → Prop}, M a = some (.lst xs) → Paired (fun q y => ∀ K : MP, K (.dat y) M → de c.no (δ.set i (some (.raw (.ref q.1)))) M K) qs ys → P (ys.map .dat) M → lcGoL a xs (lcStepL i mYes de c δ) (rfs qs) M P
  | [], [], P, ha, .nil, p => ⟨ha, p⟩
  | _ :: qs, _ :: ys, P, ha, .cons h t, p => ⟨ha, h _ (lcGo_told (P := fun ys M2 => P (_ :: ys) M2) ha t p)⟩
theorem paired_zip {R : Lam → PyData → Prop} : ∀ {ls : List Lam} {ys : List PyData} {fs : List Addr} {R2 : Addr × Lam → PyData → Prop}, Paired R ls ys → fs.length = ls.length → (∀ q ∈ fs.zip ls, ∀ y, R q.2 y → R2 q y) → Paired R2 (fs.zip ls) ys
  | [], [], [], _, .nil, _, _ => .nil
  | _ :: ls, _ :: ys, _ :: fs, R2, .cons h t, hl, hr => .cons (hr _ (List.mem_cons_self ..) _ h) (paired_zip t (by simpa using hl) fun q hq y => hr q (List.mem_cons_of_mem _ hq) y)
end DM
namespace Lw
open PySem PySem.Spec PyProof.Rows L2 DL DW DM
def lam_law_doors_0 : Lam := lamOfE (("_law_doors" : Str) ++ ".<locals>.") (defScope s_law_doors) [true, false] N_law_doors (lamOfS ((defBody s_law_doors).getD 0 (.Pass ⟨0, 0, 0, 0⟩)))
theorem lamOk_law_doors_0 : lamOk lam_law_doors_0 = true := by decide +kernel
theorem lamA_law_doors_0 : NoArgs lam_law_doors_0 := fun _ _ _ _ _ => rfl
theorem lamF_law_doors_0 : lam_law_doors_0.msc = defScope s_law_doors ∧ lam_law_doors_0.N = N_law_doors ∧ lam_law_doors_0.ms = [true, false] := ⟨rfl, rfl, rfl⟩
def lam_law_doors_1 : Lam := lamOfE (("_law_doors" : Str) ++ ".<locals>.") (defScope s_law_doors) [true, false] N_law_doors (lamOfS ((defBody s_law_doors).getD 1 (.Pass ⟨0, 0, 0, 0⟩)))
theorem lamOk_law_doors_1 : lamOk lam_law_doors_1 = true := by decide +kernel
theorem lamA_law_doors_1 : NoArgs lam_law_doors_1 := fun _ _ _ _ _ => rfl
theorem lamF_law_doors_1 : lam_law_doors_1.msc = defScope s_law_doors ∧ lam_law_doors_1.N = N_law_doors ∧ lam_law_doors_1.ms = [true, false] := ⟨rfl, rfl, rfl⟩
def lam_law_doors_2 : Lam := lamOfE (("_law_doors" : Str) ++ ".<locals>.") (defScope s_law_doors) [true, false] N_law_doors (lamOfS ((defBody s_law_doors).getD 2 (.Pass ⟨0, 0, 0, 0⟩)))
theorem lamOk_law_doors_2 : lamOk lam_law_doors_2 = true := by decide +kernel
theorem lamA_law_doors_2 : NoArgs lam_law_doors_2 := fun _ _ _ _ _ => rfl
theorem lamF_law_doors_2 : lam_law_doors_2.msc = defScope s_law_doors ∧ lam_law_doors_2.N = N_law_doors ∧ lam_law_doors_2.ms = [true, false] := ⟨rfl, rfl, rfl⟩
def lam_law_doors_3 : Lam := lamOfE (("_law_doors" : Str) ++ ".<locals>.") (defScope s_law_doors) [true, false] N_law_doors (lamOfS ((defBody s_law_doors).getD 3 (.Pass ⟨0, 0, 0, 0⟩)))
theorem lamOk_law_doors_3 : lamOk lam_law_doors_3 = true := by decide +kernel
theorem lamA_law_doors_3 : NoArgs lam_law_doors_3 := fun _ _ _ _ _ => rfl
theorem lamF_law_doors_3 : lam_law_doors_3.msc = defScope s_law_doors ∧ lam_law_doors_3.N = N_law_doors ∧ lam_law_doors_3.ms = [true, false] := ⟨rfl, rfl, rfl⟩
def lam_law_doors_4 : Lam := lamOfE (("_law_doors" : Str) ++ ".<locals>.") (defScope s_law_doors) [true, false] N_law_doors (lamOfS ((defBody s_law_doors).getD 4 (.Pass ⟨0, 0, 0, 0⟩)))
theorem lamOk_law_doors_4 : lamOk lam_law_doors_4 = true := by decide +kernel
theorem lamA_law_doors_4 : NoArgs lam_law_doors_4 := fun _ _ _ _ _ => rfl
theorem lamF_law_doors_4 : lam_law_doors_4.msc = defScope s_law_doors ∧ lam_law_doors_4.N = N_law_doors ∧ lam_law_doors_4.ms = [true, false] := ⟨rfl, rfl, rfl⟩
def lam_law_doors_5 : Lam := lamOfE (("_law_doors" : Str) ++ ".<locals>.") (defScope s_law_doors) [true, false] N_law_doors (lamOfS ((defBody s_law_doors).getD 5 (.Pass ⟨0, 0, 0, 0⟩)))
theorem lamOk_law_doors_5 : lamOk lam_law_doors_5 = true := by decide +kernel
theorem lamA_law_doors_5 : NoArgs lam_law_doors_5 := fun _ _ _ _ _ => rfl
theorem lamF_law_doors_5 : lam_law_doors_5.msc = defScope s_law_doors ∧ lam_law_doors_5.N = N_law_doors ∧ lam_law_doors_5.ms = [true, false] := ⟨rfl, rfl, rfl⟩
def lam_law_doors_6 : Lam := lamOfE (("_law_doors" : Str) ++ ".<locals>.") (defScope s_law_doors) [true, false] N_law_doors (lamOfS ((defBody s_law_doors).getD 6 (.Pass ⟨0, 0, 0, 0⟩)))
theorem lamOk_law_doors_6 : lamOk lam_law_doors_6 = true := by decide +kernel
theorem lamA_law_doors_6 : NoArgs lam_law_doors_6 := fun _ _ _ _ _ => rfl
theorem lamF_law_doors_6 : lam_law_doors_6.msc = defScope s_law_doors ∧ lam_law_doors_6.N = N_law_doors ∧ lam_law_doors_6.ms = [true, false] := ⟨rfl, rfl, rfl⟩
def lam_law_doors_7 : Lam := lamOfE (("_law_doors" : Str) ++ ".<locals>.") (defScope s_law_doors) [true, false] N_law_doors (lamOfS ((defBody s_law_doors).getD 7 (.Pass ⟨0, 0, 0, 0⟩)))
theorem lamOk_law_doors_7 : lamOk lam_law_doors_7 = true := by decide +kernel
theorem lamA_law_doors_7 : NoArgs lam_law_doors_7 := fun _ _ _ _ _ => rfl
theorem lamF_law_doors_7 : lam_law_doors_7.msc = defScope s_law_doors ∧ lam_law_doors_7.N = N_law_doors ∧ lam_law_doors_7.ms = [true, false] := ⟨rfl, rfl, rfl⟩
def lam_law_doors_8 : Lam := lamOfE (("_law_doors" : Str) ++ ".<locals>.") (defScope s_law_doors) [true, false] N_law_doors (lamOfS ((defBody s_law_doors).getD 8 (.Pass ⟨0, 0, 0, 0⟩)))
theorem lamOk_law_doors_8 : lamOk lam_law_doors_8 = true := by decide +kernel
theorem lamA_law_doors_8 : NoArgs lam_law_doors_8 := fun _ _ _ _ _ => rfl
theorem lamF_law_doors_8 : lam_law_doors_8.msc = defScope s_law_doors ∧ lam_law_doors_8.N = N_law_doors ∧ lam_law_doors_8.ms = [true, false] := ⟨rfl, rfl, rfl⟩
def lam_law_doors_9 : Lam := lamOfE (("_law_doors" : Str) ++ ".<locals>.") (defScope s_law_doors) [true, false] N_law_doors (lamOfS ((defBody s_law_doors).getD 9 (.Pass ⟨0, 0, 0, 0⟩)))
theorem lamOk_law_doors_9 : lamOk lam_law_doors_9 = true := by decide +kernel
theorem lamA_law_doors_9 : NoArgs lam_law_doors_9 := fun _ _ _ _ _ => rfl
theorem lamF_law_doors_9 : lam_law_doors_9.msc = defScope s_law_doors ∧ lam_law_doors_9.N = N_law_doors ∧ lam_law_doors_9.ms = [true, false] := ⟨rfl, rfl, rfl⟩
def lam_law_doors_10 : Lam := lamOfE (("_law_doors" : Str) ++ ".<locals>.") (defScope s_law_doors) [true, false] N_law_doors (lamOfS ((defBody s_law_doors).getD 10 (.Pass ⟨0, 0, 0, 0⟩)))
theorem lamOk_law_doors_10 : lamOk lam_law_doors_10 = true := by decide +kernel
theorem lamA_law_doors_10 : NoArgs lam_law_doors_10 := fun _ _ _ _ _ => rfl
theorem lamF_law_doors_10 : lam_law_doors_10.msc = defScope s_law_doors ∧ lam_law_doors_10.N = N_law_doors ∧ lam_law_doors_10.ms = [true, false] := ⟨rfl, rfl, rfl⟩
def lam_law_doors_11 : Lam := lamOfE (("_law_doors" : Str) ++ ".<locals>.") (defScope s_law_doors) [true, false] N_law_doors (lamOfS ((defBody s_law_doors).getD 11 (.Pass ⟨0, 0, 0, 0⟩)))
theorem lamOk_law_doors_11 : lamOk lam_law_doors_11 = true := by decide +kernel
theorem lamA_law_doors_11 : NoArgs lam_law_doors_11 := fun _ _ _ _ _ => rfl
theorem lamF_law_doors_11 : lam_law_doors_11.msc = defScope s_law_doors ∧ lam_law_doors_11.N = N_law_doors ∧ lam_law_doors_11.ms = [true, false] := ⟨rfl, rfl, rfl⟩
def lam_law_doors_12 : Lam := lamOfE (("_law_doors" : Str) ++ ".<locals>.") (defScope s_law_doors) [true, false] N_law_doors (lamOfS ((defBody s_law_doors).getD 12 (.Pass ⟨0, 0, 0, 0⟩)))
theorem lamOk_law_doors_12 : lamOk lam_law_doors_12 = true := by decide +kernel
theorem lamA_law_doors_12 : NoArgs lam_law_doors_12 := fun _ _ _ _ _ => rfl
theorem lamF_law_doors_12 : lam_law_doors_12.msc = defScope s_law_doors ∧ lam_law_doors_12.N = N_law_doors ∧ lam_law_doors_12.ms = [true, false] := ⟨rfl, rfl, rfl⟩
def lam_law_doors_13 : Lam := lamOfE (("_law_doors" : Str) ++ ".<locals>.") (defScope s_law_doors) [true, false] N_law_doors (lamOfS ((defBody s_law_doors).getD 13 (.Pass ⟨0, 0, 0, 0⟩)))
theorem lamOk_law_doors_13 : lamOk lam_law_doors_13 = true := by decide +kernel
theorem lamA_law_doors_13 : NoArgs lam_law_doors_13 := fun _ _ _ _ _ => rfl
theorem lamF_law_doors_13 : lam_law_doors_13.msc = defScope s_law_doors ∧ lam_law_doors_13.N = N_law_doors ∧ lam_law_doors_13.ms = [true, false] := ⟨rfl, rfl, rfl⟩
def lam_law_later_doors_0 : Lam := lamOfE (("_law_later_doors" : Str) ++ ".<locals>.") (defScope s_law_later_doors) [true, false] N_law_later_doors (lamOfS ((defBody s_law_later_doors).getD 0 (.Pass ⟨0, 0, 0, 0⟩)))
theorem lamOk_law_later_doors_0 : lamOk lam_law_later_doors_0 = true := by decide +kernel
theorem lamA_law_later_doors_0 : NoArgs lam_law_later_doors_0 := fun _ _ _ _ _ => rfl
theorem lamF_law_later_doors_0 : lam_law_later_doors_0.msc = defScope s_law_later_doors ∧ lam_law_later_doors_0.N = N_law_later_doors ∧ lam_law_later_doors_0.ms = [true, false] := ⟨rfl, rfl, rfl⟩
def lam_law_later_doors_1 : Lam := lamOfE (("_law_later_doors" : Str) ++ ".<locals>.") (defScope s_law_later_doors) [true, false] N_law_later_doors (lamOfS ((defBody s_law_later_doors).getD 1 (.Pass ⟨0, 0, 0, 0⟩)))
theorem lamOk_law_later_doors_1 : lamOk lam_law_later_doors_1 = true := by decide +kernel
theorem lamA_law_later_doors_1 : NoArgs lam_law_later_doors_1 := fun _ _ _ _ _ => rfl
theorem lamF_law_later_doors_1 : lam_law_later_doors_1.msc = defScope s_law_later_doors ∧ lam_law_later_doors_1.N = N_law_later_doors ∧ lam_law_later_doors_1.ms = [true, false] := ⟨rfl, rfl, rfl⟩
def lam_law_later_doors_2 : Lam := lamOfE (("_law_later_doors" : Str) ++ ".<locals>.") (defScope s_law_later_doors) [true, false] N_law_later_doors (lamOfS ((defBody s_law_later_doors).getD 2 (.Pass ⟨0, 0, 0, 0⟩)))
theorem lamOk_law_later_doors_2 : lamOk lam_law_later_doors_2 = true := by decide +kernel
theorem lamA_law_later_doors_2 : NoArgs lam_law_later_doors_2 := fun _ _ _ _ _ => rfl
theorem lamF_law_later_doors_2 : lam_law_later_doors_2.msc = defScope s_law_later_doors ∧ lam_law_later_doors_2.N = N_law_later_doors ∧ lam_law_later_doors_2.ms = [true, false] := ⟨rfl, rfl, rfl⟩
def lam_law_later_doors_3 : Lam := lamOfE (("_law_later_doors" : Str) ++ ".<locals>.") (defScope s_law_later_doors) [true, false] N_law_later_doors (lamOfS ((defBody s_law_later_doors).getD 3 (.Pass ⟨0, 0, 0, 0⟩)))
theorem lamOk_law_later_doors_3 : lamOk lam_law_later_doors_3 = true := by decide +kernel
theorem lamA_law_later_doors_3 : NoArgs lam_law_later_doors_3 := fun _ _ _ _ _ => rfl
theorem lamF_law_later_doors_3 : lam_law_later_doors_3.msc = defScope s_law_later_doors ∧ lam_law_later_doors_3.N = N_law_later_doors ∧ lam_law_later_doors_3.ms = [true, false] := ⟨rfl, rfl, rfl⟩
def lam_law_later_doors_4 : Lam := lamOfE (("_law_later_doors" : Str) ++ ".<locals>.") (defScope s_law_later_doors) [true, false] N_law_later_doors (lamOfS ((defBody s_law_later_doors).getD 4 (.Pass ⟨0, 0, 0, 0⟩)))
theorem lamOk_law_later_doors_4 : lamOk lam_law_later_doors_4 = true := by decide +kernel
theorem lamA_law_later_doors_4 : NoArgs lam_law_later_doors_4 := fun _ _ _ _ _ => rfl
theorem lamF_law_later_doors_4 : lam_law_later_doors_4.msc = defScope s_law_later_doors ∧ lam_law_later_doors_4.N = N_law_later_doors ∧ lam_law_later_doors_4.ms = [true, false] := ⟨rfl, rfl, rfl⟩
def lam_law_later_doors_5 : Lam := lamOfE (("_law_later_doors" : Str) ++ ".<locals>.") (defScope s_law_later_doors) [true, false] N_law_later_doors (lamOfS ((defBody s_law_later_doors).getD 5 (.Pass ⟨0, 0, 0, 0⟩)))
theorem lamOk_law_later_doors_5 : lamOk lam_law_later_doors_5 = true := by decide +kernel
theorem lamA_law_later_doors_5 : NoArgs lam_law_later_doors_5 := fun _ _ _ _ _ => rfl
theorem lamF_law_later_doors_5 : lam_law_later_doors_5.msc = defScope s_law_later_doors ∧ lam_law_later_doors_5.N = N_law_later_doors ∧ lam_law_later_doors_5.ms = [true, false] := ⟨rfl, rfl, rfl⟩
def lam_law_later_doors_6 : Lam := lamOfE (("_law_later_doors" : Str) ++ ".<locals>.") (defScope s_law_later_doors) [true, false] N_law_later_doors (lamOfS ((defBody s_law_later_doors).getD 6 (.Pass ⟨0, 0, 0, 0⟩)))
theorem lamOk_law_later_doors_6 : lamOk lam_law_later_doors_6 = true := by decide +kernel
theorem lamA_law_later_doors_6 : NoArgs lam_law_later_doors_6 := fun _ _ _ _ _ => rfl
theorem lamF_law_later_doors_6 : lam_law_later_doors_6.msc = defScope s_law_later_doors ∧ lam_law_later_doors_6.N = N_law_later_doors ∧ lam_law_later_doors_6.ms = [true, false] := ⟨rfl, rfl, rfl⟩
def lam_law_later_doors_7 : Lam := lamOfE (("_law_later_doors" : Str) ++ ".<locals>.") (defScope s_law_later_doors) [true, false] N_law_later_doors (lamOfS ((defBody s_law_later_doors).getD 7 (.Pass ⟨0, 0, 0, 0⟩)))
theorem lamOk_law_later_doors_7 : lamOk lam_law_later_doors_7 = true := by decide +kernel
theorem lamA_law_later_doors_7 : NoArgs lam_law_later_doors_7 := fun _ _ _ _ _ => rfl
theorem lamF_law_later_doors_7 : lam_law_later_doors_7.msc = defScope s_law_later_doors ∧ lam_law_later_doors_7.N = N_law_later_doors ∧ lam_law_later_doors_7.ms = [true, false] := ⟨rfl, rfl, rfl⟩
def lam_law_later_doors_8 : Lam := lamOfE (("_law_later_doors" : Str) ++ ".<locals>.") (defScope s_law_later_doors) [true, false] N_law_later_doors (lamOfS ((defBody s_law_later_doors).getD 8 (.Pass ⟨0, 0, 0, 0⟩)))
theorem lamOk_law_later_doors_8 : lamOk lam_law_later_doors_8 = true := by decide +kernel
theorem lamA_law_later_doors_8 : NoArgs lam_law_later_doors_8 := fun _ _ _ _ _ => rfl
theorem lamF_law_later_doors_8 : lam_law_later_doors_8.msc = defScope s_law_later_doors ∧ lam_law_later_doors_8.N = N_law_later_doors ∧ lam_law_later_doors_8.ms = [true, false] := ⟨rfl, rfl, rfl⟩
def lam_law_later_doors_9 : Lam := lamOfE (("_law_later_doors" : Str) ++ ".<locals>.") (defScope s_law_later_doors) [true, false] N_law_later_doors (lamOfS ((defBody s_law_later_doors).getD 9 (.Pass ⟨0, 0, 0, 0⟩)))
theorem lamOk_law_later_doors_9 : lamOk lam_law_later_doors_9 = true := by decide +kernel
theorem lamA_law_later_doors_9 : NoArgs lam_law_later_doors_9 := fun _ _ _ _ _ => rfl
theorem lamF_law_later_doors_9 : lam_law_later_doors_9.msc = defScope s_law_later_doors ∧ lam_law_later_doors_9.N = N_law_later_doors ∧ lam_law_later_doors_9.ms = [true, false] := ⟨rfl, rfl, rfl⟩
def lam_law_later_doors_10 : Lam := lamOfE (("_law_later_doors" : Str) ++ ".<locals>.") (defScope s_law_later_doors) [true, false] N_law_later_doors (lamOfS ((defBody s_law_later_doors).getD 10 (.Pass ⟨0, 0, 0, 0⟩)))
theorem lamOk_law_later_doors_10 : lamOk lam_law_later_doors_10 = true := by decide +kernel
theorem lamA_law_later_doors_10 : NoArgs lam_law_later_doors_10 := fun _ _ _ _ _ => rfl
theorem lamF_law_later_doors_10 : lam_law_later_doors_10.msc = defScope s_law_later_doors ∧ lam_law_later_doors_10.N = N_law_later_doors ∧ lam_law_later_doors_10.ms = [true, false] := ⟨rfl, rfl, rfl⟩
def lam_law_later_doors_11 : Lam := lamOfE (("_law_later_doors" : Str) ++ ".<locals>.") (defScope s_law_later_doors) [true, false] N_law_later_doors (lamOfS ((defBody s_law_later_doors).getD 11 (.Pass ⟨0, 0, 0, 0⟩)))
theorem lamOk_law_later_doors_11 : lamOk lam_law_later_doors_11 = true := by decide +kernel
theorem lamA_law_later_doors_11 : NoArgs lam_law_later_doors_11 := fun _ _ _ _ _ => rfl
theorem lamF_law_later_doors_11 : lam_law_later_doors_11.msc = defScope s_law_later_doors ∧ lam_law_later_doors_11.N = N_law_later_doors ∧ lam_law_later_doors_11.ms = [true, false] := ⟨rfl, rfl, rfl⟩
def lam_law_later_doors_12 : Lam := lamOfE (("_law_later_doors" : Str) ++ ".<locals>.") (defScope s_law_later_doors) [true, false] N_law_later_doors (lamOfS ((defBody s_law_later_doors).getD 12 (.Pass ⟨0, 0, 0, 0⟩)))
theorem lamOk_law_later_doors_12 : lamOk lam_law_later_doors_12 = true := by decide +kernel
theorem lamA_law_later_doors_12 : NoArgs lam_law_later_doors_12 := fun _ _ _ _ _ => rfl
theorem lamF_law_later_doors_12 : lam_law_later_doors_12.msc = defScope s_law_later_doors ∧ lam_law_later_doors_12.N = N_law_later_doors ∧ lam_law_later_doors_12.ms = [true, false] := ⟨rfl, rfl, rfl⟩
def lam_law_later_doors_13 : Lam := lamOfE (("_law_later_doors" : Str) ++ ".<locals>.") (defScope s_law_later_doors) [true, false] N_law_later_doors (lamOfS ((defBody s_law_later_doors).getD 13 (.Pass ⟨0, 0, 0, 0⟩)))
theorem lamOk_law_later_doors_13 : lamOk lam_law_later_doors_13 = true := by decide +kernel
theorem lamA_law_later_doors_13 : NoArgs lam_law_later_doors_13 := fun _ _ _ _ _ => rfl
theorem lamF_law_later_doors_13 : lam_law_later_doors_13.msc = defScope s_law_later_doors ∧ lam_law_later_doors_13.N = N_law_later_doors ∧ lam_law_later_doors_13.ms = [true, false] := ⟨rfl, rfl, rfl⟩
end Lw
namespace Lw
open PySem PySem.Spec PyProof.Rows L2 DL DW DM
def aft2 : Nat → List (Str × V) → Option PyData := fun s fs => if s = 0 then (fs.lookup ("cask" : Str)).bind vD else none
def D_look_stand : DS := (dSeq (dExpr (dCall W_look_sizes (dCons (dVar 0) dNil)))
    dNever)
def W_look_stand : Wt := wFn 2 2 D_look_stand
def D_stand_of : DS := (dSeq (dExpr (dCall W_look_counts (dCons (dVar 0) (dCons (dVar 1) dNil))))
    dNever)
def W_stand_of : Wt := wFn 2 2 D_stand_of
def D_room : DS := (dSeq (dExpr (dCall W_look_counts (dCons (dVar 0) (dCons (dVar 1) dNil))))
    dNever)
def W_room : Wt := wFn 2 2 D_room
def D_apart : DS := (dRet (dCb bSum (dCons (dLc (dIZip (dCons (dVar 0) (dCons (dVar 1) dNil))) (tfPair 2 3) dYes (dCb bAbs (dCons (dBin oSub (dVar 2) (dVar 3)) dNil)) [2, 3]) dNil)))
def W_apart : Wt := wFn 2 4 D_apart
def D_look_deed : DS := (dSeq (dExpr (dCall W_look_sizes (dCons (dVar 0) dNil)))
    dNever)
def W_look_deed : Wt := wFn 2 2 D_look_deed
def D_look_row : DS := (dSeq (dExpr (dCall W_look_sizes (dCons (dVar 0) dNil)))
    dNever)
def W_look_row : Wt := wFn 2 2 D_look_row
def D_has_tap : DS := (dSeq (dExpr (dCall W_look_row (dCons (dVar 0) (dCons (dVar 1) dNil))))
    dNever)
def W_has_tap : Wt := wFn 2 2 D_has_tap
def D_poured : DS := (dSeq (dExpr (dCall W_look_counts (dCons (dVar 0) (dCons (dVar 1) dNil))))
    dNever)
def W_poured : Wt := wFn 3 3 D_poured
def D_poured_all : DS := (dSeq (dExpr (dCall W_look_counts (dCons (dVar 0) (dCons (dVar 1) dNil))))
    dNever)
def W_poured_all : Wt := wFn 3 3 D_poured_all
def D_by_counts : DS := (dSeq (dExpr (dCall W_look_stand (dCons (dVar 0) (dCons (dVar 1) dNil))))
    dNever)
def W_by_counts : Wt := wFn 3 3 D_by_counts
def D_done : DS := (dSeq (dExpr (dCall W_look_stand (dCons (dVar 0) (dCons (dVar 1) dNil))))
    dNever)
def W_done : Wt := wFn 3 3 D_done
def D_done_all : DS := (dSeq (dExpr (dCall W_look_stand (dCons (dVar 0) (dCons (dVar 1) dNil))))
    dNever)
def W_done_all : Wt := wFn 3 3 D_done_all
def D_path : DS := (dSeq (dExpr (dCall W_look_stand (dCons (dVar 0) (dCons (dVar 1) dNil))))
    dNever)
def W_path : Wt := wFn 4 4 D_path
def D_behind : DS := (dSeq (dExpr (dCall W_look_stand (dCons (dVar 0) (dCons (dVar 1) dNil))))
    dNever)
def W_behind : Wt := wFn 4 4 D_behind
def D_behind_counts : DS := (dSeq (dExpr (dCall W_look_counts (dCons (dVar 0) (dCons (dVar 1) dNil))))
    dNever)
def W_behind_counts : Wt := wFn 4 4 D_behind_counts
def D_ring : DS := (dSeq (dExpr (dCall W_look_stand (dCons (dVar 0) (dCons (dVar 1) dNil))))
    dNever)
def W_ring : Wt := wFn 3 3 D_ring
def D_ring_of_trail : DS := (dSeq (dAsgG (dVar 0) (dGTup 2 (dGCons (dGName 1) (dGCons (dGName 2) dGNil))))
    (dSeq (dAsg 3 (dIndex (dVar 1) (dVar 2)))
    (dRet (dTup (dCons (dVar 3) (dCons (dBin oSub (dCb bLen (dCons (dVar 1) dNil)) (dVar 3)) dNil))))))
def W_ring_of_trail : Wt := wFn 1 4 D_ring_of_trail
def D_ring_of_counts : DS := (dRet (dCall W_ring_of_trail (dCons (dCall W_trail_of_counts (dCons (dVar 0) (dCons (dVar 1) (dCons (dVar 2) dNil)))) dNil)))
def W_ring_of_counts : Wt := wFn 3 3 D_ring_of_counts
def D_turns : DS := (dSeq (dAsgG (dCall W_trail_of_counts (dCons (dVar 0) (dCons (dVar 1) (dCons (dVar 2) dNil)))) (dGTup 2 (dGCons (dGName 3) (dGCons (dGName 4) dGNil))))
    dNever)
def W_turns : Wt := wFn 3 5 D_turns
def D_ends : DS := (dSeq (dAsg 3 (dCall W_turns (dCons (dVar 0) (dCons (dVar 1) (dCons (dVar 2) dNil)))))
    dNever)
def W_ends : Wt := wFn 3 4 D_ends
def D_kin : DS := (dSeq (dAsg 3 (dCall W_turns (dCons (dVar 0) (dCons (dVar 1) (dCons (dVar 2) dNil)))))
    dNever)
def W_kin : Wt := wFn 3 4 D_kin
def D_kin_holds : DS := (dSeq (dExpr (dCall W_look_counts (dCons (dVar 0) (dCons (dVar 1) dNil))))
    dNever)
def W_kin_holds : Wt := wFn 4 4 D_kin_holds
def W_when : Wt := wFn 5 7 D_when
def W_first_time : Wt := wFn 5 7 D_first_time
def W_never : Wt := wFn 5 7 D_never
def W_never_holds : Wt := wFn 6 6 D_never_holds
def D_pairs_behind : DS := (dSeq (dExpr (dCall W_look_counts (dCons (dVar 0) (dCons (dVar 1) dNil))))
    dNever)
def W_pairs_behind : Wt := wFn 4 4 D_pairs_behind
def D_meet : DS := (dSeq (dFor (dIEnum (dCons (dCall W_pairs_behind (dCons (dVar 0) (dCons (dVar 1) (dCons (dVar 2) (dCons (dVar 3) dNil))))) dNil)) (tfNest 4 5 6) (dIfS (dTst (dBin (oEq false) (dVar 5) (dVar 6))) (dRetV 4) dNext))
    (dRet (dC (.dat .none))))
def W_meet : Wt := wFn 4 7 D_meet
def D_apart_at_last : DS := (dSeq (dAsg 4 (dLc (dISeq (dCall W_pairs_behind (dCons (dVar 0) (dCons (dVar 1) (dCons (dVar 2) (dCons (dVar 3) dNil)))))) (tfPair 5 6) dYes (dCall W_apart (dCons (dVar 5) (dCons (dVar 6) dNil))) [5, 6]))
    (dRet (dTup (dCons (dBin oIx (dVar 4) (dUn oNeg (dC (dint 1)))) (dCons (dIndex (dVar 4) (dBin oIx (dVar 4) (dUn oNeg (dC (dint 1))))) dNil)))))
def W_apart_at_last : Wt := wFn 4 7 D_apart_at_last
def D_one_more : DS := (dSeq (dExpr (dCall W_look_counts (dCons (dVar 0) (dCons (dVar 1) dNil))))
    dNever)
def W_one_more : Wt := wFn 3 3 D_one_more
def D_law_pick : DS := (dRet (dBin oIx (dVar 1) (dCall W_take (dCons (dVar 0) (dCons (dCb bLen (dCons (dVar 1) dNil)) dNil)))))
def W_law_pick : Wt := wFn 2 2 D_law_pick
def D_law_same (W : Wt) : DS := (dSeq (dIfS (dTst (dBin (oIsN false) (dVar 1) (dC (.dat .none)))) (dRet (dBin (oIsN false) (dVar 0) (dC (.dat .none)))) dNext)
    (dSeq (dIfS (dTst (dCb bIsi (dCons (dVar 1) (dCons (dC (.raw (.ty "bool"))) dNil)))) (dRet (dAndV (dCb bIsi (dCons (dVar 0) (dCons (dC (.raw (.ty "bool"))) dNil))) (dBin (oEq false) (dVar 0) (dVar 1)))) dNext)
    (dSeq (dIfS (dTst (dCb bIsi (dCons (dVar 1) (dCons (dC (.raw (.ty "int"))) dNil)))) (dRet (dAndV (dCb bIsi (dCons (dVar 0) (dCons (dC (.raw (.ty "int"))) dNil))) (dAndV (dNotV (dCb bIsi (dCons (dVar 0) (dCons (dC (.raw (.ty "bool"))) dNil)))) (dBin (oEq false) (dVar 0) (dVar 1))))) dNext)
    (dSeq (dIfS (dTst (dCb bIsi (dCons (dVar 1) (dCons (dC (.raw (.ty "str"))) dNil)))) (dRet (dAndV (dCb bIsi (dCons (dVar 0) (dCons (dC (.raw (.ty "str"))) dNil))) (dBin (oEq false) (dVar 0) (dVar 1)))) dNext)
    (dSeq (dIfS (dOr (dTst (dBin (oEq true) (dCb bIsi (dCons (dVar 1) (dCons (dC (.raw (.ty "tuple"))) dNil))) (dCb bIsi (dCons (dVar 0) (dCons (dC (.raw (.ty "tuple"))) dNil))))) (dTst (dBin (oEq true) (dCb bIsi (dCons (dVar 1) (dCons (dC (.raw (.ty "list"))) dNil))) (dCb bIsi (dCons (dVar 0) (dCons (dC (.raw (.ty "list"))) dNil)))))) (dRet (dC (dbl false))) dNext)
    (dSeq (dIfS (dTst (dBin (oEq true) (dCb bLen (dCons (dVar 0) dNil)) (dCb bLen (dCons (dVar 1) dNil)))) (dRet (dC (dbl false))) dNext)
    (dRet (dCb bAll (dCons (dLc (dIRg1 (dCons (dCb bLen (dCons (dVar 1) dNil)) dNil)) (tfName 2) dYes (dCall W (dCons (dBin oIx (dVar 0) (dVar 2)) (dCons (dBin oIx (dVar 1) (dVar 2)) dNil))) [2]) dNil)))))))))
def W_law_same : Nat → Wt
  | 0 => fun _ _ _ => False
  | k + 1 => wFn 2 3 (D_law_same (W_law_same k))
def D_law_sizes : DS := (dRet (dCb bTuple (dCons (dLc (dIRg1 (dCons (dBin oAdd (dC (dint 1)) (dCall W_take (dCons (dVar 0) (dCons (dVar 1) dNil)))) dNil)) (tfName 3) dYes (dBin oAdd (dC (dint 1)) (dCall W_take (dCons (dVar 0) (dCons (dVar 2) dNil)))) [3]) dNil)))
def W_law_sizes : Wt := wFn 3 4 D_law_sizes
def D_law_any_sizes : DS := (dRet (dCall W_law_sizes (dCons (dVar 0) (dCons (dC (dint 6)) (dCons (dCall W_law_pick (dCons (dVar 0) (dCons (dLst (dCons (dC (dint 40)) (dCons (dC (dint 9)) (dCons (dC (dint 4)) (dCons (dC (dint 2)) dNil))))) dNil))) dNil)))))
def W_law_any_sizes : Wt := wFn 1 1 D_law_any_sizes
def B_law_doors_0 : MS := (mExpr (mApp (mVar 1) (mLam lam_law_doors_13)))
def B_law_doors_1 : MS := (mSeq (mExpr (mApp (mVar 1) (mLam lam_law_doors_12)))
    B_law_doors_0)
def B_law_doors_2 : MS := (mSeq (mExpr (mApp (mVar 1) (mLam lam_law_doors_11)))
    B_law_doors_1)
def B_law_doors_3 : MS := (mSeq (mExpr (mApp (mVar 1) (mLam lam_law_doors_10)))
    B_law_doors_2)
def B_law_doors_4 : MS := (mSeq (mExpr (mApp (mVar 1) (mLam lam_law_doors_9)))
    B_law_doors_3)
def B_law_doors_5 : MS := (mSeq (mExpr (mApp (mVar 1) (mLam lam_law_doors_8)))
    B_law_doors_4)
def B_law_doors_6 : MS := (mSeq (mExpr (mApp (mVar 1) (mLam lam_law_doors_7)))
    B_law_doors_5)
def B_law_doors_7 : MS := (mSeq (mExpr (mApp (mVar 1) (mLam lam_law_doors_6)))
    B_law_doors_6)
def B_law_doors_8 : MS := (mSeq (mExpr (mApp (mVar 1) (mLam lam_law_doors_5)))
    B_law_doors_7)
def B_law_doors_9 : MS := (mSeq (mExpr (mApp (mVar 1) (mLam lam_law_doors_4)))
    B_law_doors_8)
def B_law_doors_10 : MS := (mSeq (mExpr (mApp (mVar 1) (mLam lam_law_doors_3)))
    B_law_doors_9)
def B_law_doors_11 : MS := (mSeq (mExpr (mApp (mVar 1) (mLam lam_law_doors_2)))
    B_law_doors_10)
def B_law_doors_12 : MS := (mSeq (mExpr (mApp (mVar 1) (mLam lam_law_doors_1)))
    B_law_doors_11)
def B_law_doors_13 : MS := (mSeq (mAsg 1 (mLstM (mCons (mLam lam_law_doors_0) mNil)))
    B_law_doors_12)
def D_law_doors : MS := B_law_doors_13
def W_law_doors : MW := wA (defScope s_law_doors) N_law_doors 1 1 D_law_doors
def md_law_doors_0 : ME := (mLft lftP (dCall W_look_counts (dCons (dVar 0) (dCons (dTup (dCons (dUn oNeg (dC (dint 1))) dNil)) dNil))))
def md_law_doors_1 : ME := (mLft lftP (dCall W_look_stand (dCons (dVar 0) (dCons (dTup (dCons (dC (dint 9)) dNil)) dNil))))
def md_law_doors_2 : ME := (mLft lftP (dCall W_room (dCons (dVar 0) (dCons (dTup (dCons (dUn oNeg (dC (dint 1))) dNil)) dNil))))
def md_law_doors_3 : ME := (mLft lftP (dCall W_stand_of (dCons (dVar 0) (dCons (dTup (dCons (dUn oNeg (dC (dint 1))) dNil)) dNil))))
def md_law_doors_4 : ME := (mLft lftP (dCall W_look_deed (dCons (dVar 0) (dCons (dTup dNil) dNil))))
def md_law_doors_5 : ME := (mLft lftP (dCall W_look_row (dCons (dVar 0) (dCons (dLst (dCons (dTup dNil) dNil)) dNil))))
def md_law_doors_6 : ME := (mLft lftP (dCall W_has_tap (dCons (dVar 0) (dCons (dLst (dCons (dTup dNil) dNil)) dNil))))
def md_law_doors_7 : ME := (mLft lftP (dCall W_done (dCons (dVar 0) (dCons (dTup (dCons (dC (dint 9)) dNil)) (dCons (dTup dNil) dNil)))))
def md_law_doors_8 : ME := (mLft lftP (dCall W_done_all (dCons (dVar 0) (dCons (dTup (dCons (dC (dint 9)) dNil)) (dCons (dLst (dCons (dTup dNil) dNil)) dNil)))))
def md_law_doors_9 : ME := (mLft lftP (dCall W_path (dCons (dVar 0) (dCons (dTup (dCons (dC (dint 9)) dNil)) (dCons (dLst (dCons (dTup dNil) dNil)) (dCons (dUn oNeg (dC (dint 1))) dNil))))))
def md_law_doors_10 : ME := (mLft lftP (dCall W_poured (dCons (dVar 0) (dCons (dTup (dCons (dUn oNeg (dC (dint 1))) dNil)) (dCons (dTup dNil) dNil)))))
def md_law_doors_11 : ME := (mLft lftP (dCall W_poured_all (dCons (dVar 0) (dCons (dTup (dCons (dUn oNeg (dC (dint 1))) dNil)) (dCons (dLst (dCons (dTup dNil) dNil)) dNil)))))
def md_law_doors_12 : ME := (mLft lftP (dCall W_by_counts (dCons (dVar 0) (dCons (dTup (dCons (dC (dint 9)) dNil)) (dCons (dLst (dCons (dTup dNil) dNil)) dNil)))))
def md_law_doors_13 : ME := (mLft lftP (dCall W_one_more (dCons (dVar 0) (dCons (dTup (dCons (dUn oNeg (dC (dint 1))) dNil)) (dCons (dLst (dCons (dTup dNil) dNil)) dNil)))))
def tbl_law_doors : List (Lam × ME) := [(lam_law_doors_0, md_law_doors_0), (lam_law_doors_1, md_law_doors_1), (lam_law_doors_2, md_law_doors_2), (lam_law_doors_3, md_law_doors_3), (lam_law_doors_4, md_law_doors_4), (lam_law_doors_5, md_law_doors_5), (lam_law_doors_6, md_law_doors_6), (lam_law_doors_7, md_law_doors_7), (lam_law_doors_8, md_law_doors_8), (lam_law_doors_9, md_law_doors_9), (lam_law_doors_10, md_law_doors_10), (lam_law_doors_11, md_law_doors_11), (lam_law_doors_12, md_law_doors_12), (lam_law_doors_13, md_law_doors_13)]
def B_law_later_doors_0 : MS := (mExpr (mApp (mVar 1) (mLam lam_law_later_doors_13)))
def B_law_later_doors_1 : MS := (mSeq (mExpr (mApp (mVar 1) (mLam lam_law_later_doors_12)))
    B_law_later_doors_0)
def B_law_later_doors_2 : MS := (mSeq (mExpr (mApp (mVar 1) (mLam lam_law_later_doors_11)))
    B_law_later_doors_1)
def B_law_later_doors_3 : MS := (mSeq (mExpr (mApp (mVar 1) (mLam lam_law_later_doors_10)))
    B_law_later_doors_2)
def B_law_later_doors_4 : MS := (mSeq (mExpr (mApp (mVar 1) (mLam lam_law_later_doors_9)))
    B_law_later_doors_3)
def B_law_later_doors_5 : MS := (mSeq (mExpr (mApp (mVar 1) (mLam lam_law_later_doors_8)))
    B_law_later_doors_4)
def B_law_later_doors_6 : MS := (mSeq (mExpr (mApp (mVar 1) (mLam lam_law_later_doors_7)))
    B_law_later_doors_5)
def B_law_later_doors_7 : MS := (mSeq (mExpr (mApp (mVar 1) (mLam lam_law_later_doors_6)))
    B_law_later_doors_6)
def B_law_later_doors_8 : MS := (mSeq (mExpr (mApp (mVar 1) (mLam lam_law_later_doors_5)))
    B_law_later_doors_7)
def B_law_later_doors_9 : MS := (mSeq (mExpr (mApp (mVar 1) (mLam lam_law_later_doors_4)))
    B_law_later_doors_8)
def B_law_later_doors_10 : MS := (mSeq (mExpr (mApp (mVar 1) (mLam lam_law_later_doors_3)))
    B_law_later_doors_9)
def B_law_later_doors_11 : MS := (mSeq (mExpr (mApp (mVar 1) (mLam lam_law_later_doors_2)))
    B_law_later_doors_10)
def B_law_later_doors_12 : MS := (mSeq (mExpr (mApp (mVar 1) (mLam lam_law_later_doors_1)))
    B_law_later_doors_11)
def B_law_later_doors_13 : MS := (mSeq (mAsg 1 (mLstM (mCons (mLam lam_law_later_doors_0) mNil)))
    B_law_later_doors_12)
def D_law_later_doors : MS := B_law_later_doors_13
def W_law_later_doors : MW := wA (defScope s_law_later_doors) N_law_later_doors 1 1 D_law_later_doors
def md_law_later_doors_0 : ME := (mLft lftP (dCall W_behind (dCons (dVar 0) (dCons (dTup (dCons (dC (dint 9)) dNil)) (dCons (dLst (dCons (dTup dNil) dNil)) (dCons (dUn oNeg (dC (dint 1))) dNil))))))
def md_law_later_doors_1 : ME := (mLft lftP (dCall W_behind_counts (dCons (dVar 0) (dCons (dTup (dCons (dUn oNeg (dC (dint 1))) dNil)) (dCons (dLst (dCons (dTup dNil) dNil)) (dCons (dUn oNeg (dC (dint 1))) dNil))))))
def md_law_later_doors_2 : ME := (mLft lftP (dCall W_ring (dCons (dVar 0) (dCons (dTup (dCons (dC (dint 9)) dNil)) (dCons (dLst (dCons (dTup dNil) dNil)) dNil)))))
def md_law_later_doors_3 : ME := (mLft lftP (dCall W_ring_of_counts (dCons (dVar 0) (dCons (dTup (dCons (dUn oNeg (dC (dint 1))) dNil)) (dCons (dLst (dCons (dTup dNil) dNil)) dNil)))))
def md_law_later_doors_4 : ME := (mLft lftP (dCall W_turns (dCons (dVar 0) (dCons (dTup (dCons (dUn oNeg (dC (dint 1))) dNil)) (dCons (dLst (dCons (dTup dNil) dNil)) dNil)))))
def md_law_later_doors_5 : ME := (mLft lftP (dCall W_ends (dCons (dVar 0) (dCons (dTup (dCons (dUn oNeg (dC (dint 1))) dNil)) (dCons (dLst (dCons (dTup dNil) dNil)) dNil)))))
def md_law_later_doors_6 : ME := (mLft lftP (dCall W_kin (dCons (dVar 0) (dCons (dTup (dCons (dUn oNeg (dC (dint 1))) dNil)) (dCons (dLst (dCons (dTup dNil) dNil)) dNil)))))
def md_law_later_doors_7 : ME := (mLft lftP (dCall W_kin_holds (dCons (dVar 0) (dCons (dTup (dCons (dUn oNeg (dC (dint 1))) dNil)) (dCons (dLst (dCons (dTup dNil) dNil)) (dCons (dTup (dCons (dTup dNil) (dCons (dLst dNil) dNil))) dNil))))))
def md_law_later_doors_8 : ME := (mLft lftP (dCall W_meet (dCons (dVar 0) (dCons (dTup (dCons (dUn oNeg (dC (dint 1))) dNil)) (dCons (dTup (dCons (dUn oNeg (dC (dint 1))) dNil)) (dCons (dLst (dCons (dTup dNil) dNil)) dNil))))))
def md_law_later_doors_9 : ME := (mLft lftP (dCall W_apart_at_last (dCons (dVar 0) (dCons (dTup (dCons (dUn oNeg (dC (dint 1))) dNil)) (dCons (dTup (dCons (dUn oNeg (dC (dint 1))) dNil)) (dCons (dLst (dCons (dTup dNil) dNil)) dNil))))))
def md_law_later_doors_10 : ME := (mLft lftP (dCallKDN W_when [0, 1, 2, 3, 4] 1 (dCons (dVar 0) (dCons (dTup (dCons (dUn oNeg (dC (dint 1))) dNil)) (dCons (dLst (dCons (dTup dNil) dNil)) dNil))) (dCons (dUn oNeg (dC (dint 1))) dNil)))
def md_law_later_doors_11 : ME := (mLft lftP (dCallKDN W_first_time [0, 1, 2, 3, 4] 1 (dCons (dVar 0) (dCons (dTup (dCons (dUn oNeg (dC (dint 1))) dNil)) (dCons (dLst (dCons (dTup dNil) dNil)) dNil))) (dCons (dUn oNeg (dC (dint 1))) dNil)))
def md_law_later_doors_12 : ME := (mLft lftP (dCallKDN W_never [0, 1, 2, 3, 4] 1 (dCons (dVar 0) (dCons (dTup (dCons (dUn oNeg (dC (dint 1))) dNil)) (dCons (dLst (dCons (dTup dNil) dNil)) dNil))) (dCons (dUn oNeg (dC (dint 1))) dNil)))
def md_law_later_doors_13 : ME := (mLft lftP (dCallKDN W_never_holds [0, 1, 2, 3, 4, 5] 1 (dCons (dVar 0) (dCons (dTup (dCons (dUn oNeg (dC (dint 1))) dNil)) (dCons (dLst (dCons (dTup dNil) dNil)) (dCons (dTup (dCons (dLst dNil) (dCons (dTup dNil) dNil))) dNil)))) (dCons (dUn oNeg (dC (dint 1))) dNil)))
def tbl_law_later_doors : List (Lam × ME) := [(lam_law_later_doors_0, md_law_later_doors_0), (lam_law_later_doors_1, md_law_later_doors_1), (lam_law_later_doors_2, md_law_later_doors_2), (lam_law_later_doors_3, md_law_later_doors_3), (lam_law_later_doors_4, md_law_later_doors_4), (lam_law_later_doors_5, md_law_later_doors_5), (lam_law_later_doors_6, md_law_later_doors_6), (lam_law_later_doors_7, md_law_later_doors_7), (lam_law_later_doors_8, md_law_later_doors_8), (lam_law_later_doors_9, md_law_later_doors_9), (lam_law_later_doors_10, md_law_later_doors_10), (lam_law_later_doors_11, md_law_later_doors_11), (lam_law_later_doors_12, md_law_later_doors_12), (lam_law_later_doors_13, md_law_later_doors_13)]
end Lw
namespace Lw
open PySem PySem.Spec PyProof.Rows L2 DL DW DM
def B_law_0 : MS := (mParG [4, 6] (mCons (mLft lftP (dTup dNil)) (mCons (mLft lftP (dUn oNeg (dC (dint 1)))) mNil)))
def B_law_1 : MS := (mParG [4, 6] (mCons (mLft lftP (dSl (dBin oMul (dVar 4) (dC (dint 7))) dNone (dSome (dC (dint 7))))) (mCons (mLft lftP (dUn oNeg (dC (dint 1)))) mNil)))
def B_law_2 : MS := (mRet (mLft lftP (dCall (W_law_same 6) (dCons (dVar 7) (dCons (dBin oMul (dLst (dCons (dVar 6) dNil)) (dC (dint 28))) dNil)))))
def B_law_3 : MS := (mSeq (mAsg 7 (mLcL .dat (mBin oAddR (mCall W_law_doors (mCons (mLft lftP (dVar 4)) mNil)) (mCall W_law_later_doors (mCons (mLft lftP (dVar 4)) mNil))) 8 mYes (mToldC (rtWord "none") aft2 (tbl_law_doors ++ tbl_law_later_doors) (mVar 8)) [8]))
    B_law_2)
def B_law_4 : MS := (mSeq (mIfS (mLftT (dTst (dBin (oEq false) (dVar 5) (dC (dint 1))))) B_law_1 mNext)
    B_law_3)
def B_law_5 : MS := (mSeq (mIfS (mLftT (dTst (dBin (oEq false) (dVar 5) (dC (dint 0))))) B_law_0 mNext)
    B_law_4)
def B_law_6 : MS := (mSeq (mAsg 6 (mLft lftP (dVar 3)))
    B_law_5)
def B_law_7 : MS := (mSeq (mAsg 5 (mLft lftP (dCall W_take (dCons (dVar 1) (dCons (dC (dint 4)) dNil)))))
    B_law_6)
def B_law_8 : MS := (mSeq (mAsg 4 (mLft lftP (dBin oAdd (dBin oAdd (dSl (dVar 2) dNone (dSome (dVar 3))) (dTup (dCons (dCall W_law_pick (dCons (dVar 1) (dCons (dLst (dCons (dC (dint 0)) (dCons (dC (dint 41)) (dCons (dUn oNeg (dC (dint 1))) (dCons (dBin oPow (dC (dint 10)) (dC (dint 20))) dNil))))) dNil))) dNil))) (dSl (dVar 2) (dSome (dBin oAdd (dVar 3) (dC (dint 1)))) dNone))))
    B_law_7)
def B_law_9 : MS := (mSeq (mAsg 3 (mLft lftP (dCall W_take (dCons (dVar 1) (dCons (dCb bLen (dCons (dVar 2) dNil)) dNil)))))
    B_law_8)
def B_law_10 : MS := (mSeq (mAsg 2 (mLft lftP (dCall W_law_any_sizes (dCons (dVar 1) dNil))))
    B_law_9)
def D_law : MS := B_law_10
end Lw
namespace Lw
open PySem PySem.Spec PyProof.Rows L2 DL DW DM
section
variable {P : Program} {w : World} {K : PySem.W.Frag} {mg : Str → Option Value} {base : Heap}
theorem init_BadSizes (T : Top K mg w) : FnOk P w K mg base CX0 1 T.fi_BadSizes T.fdi_BadSizes ["self", "cask"] (spInit T.C_BadSizes 1 mk_BadSizes) := ok_init1 T.Fi_BadSizes sc_BadSizes T.o_BadSizes T.n_BadSizes_word T.n_BadSizes_cask rfl (Or.inl rfl) (Or.inl rfl) (by decide) (by decide)
theorem okd_law_take (T : Top K mg w) : FnOk P w K mg base CX0 1 T.a_law_take T.fd_law_take ["_law_bag", "_law_sides"] (spD K aTake okTake outTake noX) := by
  refine T.F_law_take.ok sc_law_take (fun vs H Q E h => ?_) (fun cdv A outer s H vs Q E hr h => ?_)
  · obtain ⟨n, b, I, _, r, _⟩ := h
    rw [resA_len r]
    rfl
  · obtain ⟨n, ⟨b, bT⟩, I, k, r, hn, qq, _⟩ := h
    cases r with
    | cons r1 r =>
      cases r with
      | cons r2 r =>
        cases r
        have e2 := int_read r2
        subst e2
        have e1 : _ = V.ref b := r1
        subst e1
        obtain ⟨ib, ipl, itb, l, ns, p, q, m, c, hb, hl, hp, hq, hm, hm2⟩ := k.b
        have sl : SqL K H l (ns.map V.int) := sl_mono k.s hl
        have fin : ∀ i H', 0 ≤ i → i < n → Ext K ⟨b, bT⟩ I H I H' → Q (.int i) H' := fun i H' h0 h1 e => qq _ _ I H' ⟨i, rfl, h0, h1⟩ e (Dp.int i)
        have n0 := hn.1
        have nd : ∀ i : Int, CDivW i n := fun i => wide_div (b := 1040) n0 (by
          have h1 : n.natAbs < 10000000000000000000000000000000000000000000000000000000000000000000000000000000000000000000000000000000000000000000000000000000000000000000000000000000000000000000000000000000000000000000000000000000000000000000000000000000000000000000000000000000000000000000000000000000000000000000000000000000000000000000000 := by
            have := hn.2
            omega
          exact Nat.lt_trans h1 (by decide +kernel)) (by decide) (by decide)
        refine ⟨_, (C8.pss_cut (ps_if (PW.pt (pw_and (pt_cmpR op_lt (pe_ix (k_ix_list K) (pv 0) pe_int (fun _ _ => rfl)) (pv 1) (nomark _)) (pw_and1 (pt_cmpR op_lt (pe_ix (k_ix_list K) (pv 0) pe_int (fun _ _ => rfl)) (pe_callB (k_len K) (by rfl) T.m_len PySem.boot_len (pa_cons (pe_ix (k_ix_list K) (pv 0) pe_int (fun _ _ => rfl)) pa_nil)) (nomark _))))) (pss_cons (ps_set (i := 2) sc_law_take.nd rfl (by first | exact Or.inl rfl | exact Or.inr rfl) (pe_ix (k_ix_seq K) (pe_ix (k_ix_list K) (pv 0) pe_int (fun _ _ => rfl)) (pe_ix (k_ix_list K) (pv 0) pe_int (fun _ _ => rfl)) (fun _ _ => rfl)))
      (pss_cons (ps_asg (pe_op op_add (pe_ix (k_ix_list K) (pv 0) pe_int (fun _ _ => rfl)) pe_int) (pg_sub (pv 0) pe_int set_list))
      (pss_cons (ps_asg pe_int (pg_sub (pv 0) pe_int set_list))
      (pss_one (ps_if (pt_cmpR op_ge (pv 2) (pe_op op_pow pe_int pe_int) (nomark _)) (pss_one (ps_asg (pv 2) (pg_sub (pv 0) pe_int set_list))) (pss_one (ps_asg (pe_op op_mod (pe_op op_add (pe_op op_add (pe_op op_mul (pe_ix (k_ix_list K) (pv 0) pe_int (fun _ _ => rfl)) pe_int) (pe_op op_mul (pe_op op_mod (pv 2) pe_int) pe_int)) pe_int) pe_int) (pg_sub (pv 0) pe_int set_list)))))))) pss_nil)
      (pss_cons (ps_if (pt_cmpR op_ge (pe_ix (k_ix_list K) (pv 0) pe_int (fun _ _ => rfl)) (pv 1) (nomark _)) (pss_cons (ps_set (i := 3) sc_law_take.nd rfl (by first | exact Or.inl rfl | exact Or.inr rfl) (pe_op op_mod (pe_ix (k_ix_list K) (pv 0) pe_int (fun _ _ => rfl)) (pv 1)))
      (pss_cons (ps_asg (pe_op op_fdivW (pe_ix (k_ix_list K) (pv 0) pe_int (fun _ _ => rfl)) (pv 1)) (pg_sub (pv 0) pe_int set_list))
      (pss_one (ps_ret (pv 3))))) pss_nil)
      (pss_cons (ps_asg (pe_op op_add (pe_ix (k_ix_list K) (pv 0) pe_int (fun _ _ => rfl)) pe_int) (pg_sub (pv 0) pe_int set_list))
      (pss_cons (ps_set (i := 4) sc_law_take.nd rfl (by first | exact Or.inl rfl | exact Or.inr rfl) (pe_ix (k_ix_list K) (pv 0) pe_int (fun _ _ => rfl)))
      (pss_cons (ps_asg (pe_op op_mod (pe_op op_add (pe_op op_add (pe_op op_add (pe_op op_mul (pe_op op_mod (pe_op op_mul (pv 4) (pv 4)) pe_int) pe_int) (pe_op op_mul (pv 4) pe_int)) (pe_op op_mul pe_int (pe_ix (k_ix_list K) (pv 0) pe_int (fun _ _ => rfl)))) pe_int) pe_int) (pg_sub (pv 0) pe_int set_list))
      (pss_one (ps_ret (pe_op op_mod (pe_op op_add (pe_op op_fdivW (pe_ix (k_ix_list K) (pv 0) pe_int (fun _ _ => rfl)) pe_int) (pe_op op_mul (pe_op op_mod (pe_ix (k_ix_list K) (pv 0) pe_int (fun _ _ => rfl)) pe_int) pe_int)) (pv 1))))))))), ?_⟩
        refine ⟨fun σ' H' => ∃ x2 p q m, σ' = [some (.ref b), some (.int n), x2, none, none] ∧ Ext K ⟨b, bT⟩ I H I H' ∧ H' b = some (.lst [.ref l, .int p, .int q, .int m, .int c]) ∧ 0 ≤ p ∧ 0 ≤ q ∧ 0 ≤ m ∧ m < 2147483647, ?_, ?_⟩
        · refine ⟨.ref b, rfl, b, _, 2, .int q, rfl, rfl, .inl (.inl hb), rfl, .int n, rfl, q, n, rfl, rfl, _, rfl, ite2 (fun h1 => ?_) (fun h1 => ?_)⟩
          · refine ⟨.ref b, rfl, b, _, 1, .int p, rfl, rfl, .inl (.inl hb), rfl, .ref b, rfl, b, _, 0, .ref l, rfl, rfl, .inl (.inl hb), rfl, l, _, rfl, .inl sl, p, _, rfl, rfl, _, rfl, ite2 (fun h2 => ?_) (fun h2 => ?_)⟩
            · have h2' : p < (ns.map V.int).length := of_decide_eq_true h2
              rw [List.length_map] at h2'
              have hpn : p.toNat < ns.length := by omega
              have gz : (ns.map V.int)[p.toNat]? = some (.int ns[p.toNat]) := by
                rw [List.getElem?_map, List.getElem?_eq_getElem hpn]
                rfl
              generalize ns[p.toNat] = z at gz
              have hb1 : upd H b (.lst [.ref l, .int (p + 1), .int q, .int m, .int c]) b = some (.lst [.ref l, .int (p + 1), .int q, .int m, .int c]) := upd_same
              have hb2 : upd (upd H b (.lst [.ref l, .int (p + 1), .int q, .int m, .int c])) b (.lst [.ref l, .int (p + 1), .int 0, .int m, .int c]) b = some (.lst [.ref l, .int (p + 1), .int 0, .int m, .int c]) := upd_same
              refine ⟨.ref b, rfl, b, _, 0, .ref l, rfl, rfl, .inl (.inl hb), rfl, .ref b, rfl, b, _, 1, .int p, rfl, rfl, .inl (.inl hb), rfl, .inl ⟨l, _, p, .int z, rfl, rfl, sl, at_of (j := p.toNat) (by omega) gz, ?_⟩⟩
              refine ⟨.ref b, rfl, b, _, 1, .int p, rfl, rfl, .inl (.inl hb), rfl, p, 1, rfl, rfl, .ref b, rfl, b, _, 1, 1, rfl, rfl, hb, rfl, ?_⟩
              refine ⟨.ref b, rfl, b, _, 2, 2, rfl, rfl, hb1, rfl, ?_⟩
              refine ⟨.int z, rfl, 10, 18, rfl, rfl, ⟨by decide, by decide, by decide⟩, z, _, rfl, rfl, _, rfl, ite2 (fun h3 => ?_) (fun h3 => ?_)⟩
              · have hz : (10 : Int) ^ (18 : Int).toNat ≤ z := of_decide_eq_true h3
                have hz0 : 0 ≤ z := Int.le_trans (by decide) hz
                refine ⟨.int z, rfl, .ref b, rfl, b, _, 2, 2, rfl, rfl, hb2, rfl, ?_⟩
                refine ⟨some (.int z), p + 1, z, m, rfl, ?_, upd_same, by omega, hz0, hm, hm2⟩
                rw [upd_upd, upd_upd]
                exact Ext.bag k ⟨_, hb⟩ hl (by omega) hz0 hm hm2
              · refine ⟨.ref b, rfl, b, _, 3, .int m, rfl, rfl, .inl (.inl hb2), rfl, m, 48271, rfl, rfl, .inl ⟨by omega, by omega⟩, .int z, rfl, z, 2147483629, rfl, rfl, (show (0 : Int) < 2147483629 by decide), _, 69621, rfl, rfl, .inl ⟨by omega, by omega⟩, _, _, rfl, rfl, _, 12345, rfl, rfl, _, 2147483647, rfl, rfl, (show (0 : Int) < 2147483647 by decide), .ref b, rfl, b, _, 3, 3, rfl, rfl, hb2, rfl, ?_⟩
                refine ⟨some (.int z), p + 1, 0, _, rfl, ?_, upd_same, by omega, by omega, Int.emod_nonneg _ (by decide), Int.emod_lt_of_pos _ (by decide)⟩
                rw [upd_upd, upd_upd]
                exact Ext.bag k ⟨_, hb⟩ hl (by omega) (by omega) (Int.emod_nonneg _ (by decide)) (Int.emod_lt_of_pos _ (by decide))
            · exact ⟨none, p, q, m, rfl, k.re, hb, hp, hq, hm, hm2⟩
          · exact iteF ⟨none, p, q, m, rfl, k.re, hb, hp, hq, hm, hm2⟩
        · rintro σ' H' ⟨x2, p, q, m, rfl, e, hb, hp, hq, hm, hm2⟩
          refine ⟨.ref b, rfl, b, _, 2, .int q, rfl, rfl, .inl (.inl hb), rfl, .int n, rfl, q, n, rfl, rfl, _, rfl, ite2 (fun h1 => ?_) (fun h1 => ?_)⟩
          · refine ⟨.ref b, rfl, b, _, 2, .int q, rfl, rfl, .inl (.inl hb), rfl, .int n, rfl, q, n, rfl, rfl, n0, ?_⟩
            refine ⟨.ref b, rfl, b, _, 2, .int q, rfl, rfl, .inl (.inl hb), rfl, .int n, rfl, q, n, rfl, rfl, nd q, .ref b, rfl, b, _, 2, 2, rfl, rfl, hb, rfl, ?_⟩
            exact ⟨_, rfl, fin _ _ (Int.emod_nonneg _ (by omega)) (Int.emod_lt_of_pos _ n0) (e.trans (Ext.bag e.ok ⟨_, hb⟩ hl hp (Int.ediv_nonneg hq (by omega)) hm hm2))⟩
          · have hb1 : upd H' b (.lst [.ref l, .int p, .int q, .int m, .int (c + 1)]) b = some (.lst [.ref l, .int p, .int q, .int m, .int (c + 1)]) := upd_same
            refine ⟨.ref b, rfl, b, _, 4, .int c, rfl, rfl, .inl (.inl hb), rfl, c, 1, rfl, rfl, .ref b, rfl, b, _, 4, 4, rfl, rfl, hb, rfl, ?_⟩
            refine ⟨.ref b, rfl, b, _, 3, .int m, rfl, rfl, .inl (.inl hb1), rfl, ?_⟩
            refine ⟨.int m, rfl, .int m, rfl, m, m, rfl, rfl, .inl ⟨by omega, by omega⟩, _, 2147483629, rfl, rfl, (show (0 : Int) < 2147483629 by decide), _, 5, rfl, rfl, .inl ⟨by omega, by omega⟩, .int m, rfl, m, 16811, rfl, rfl, .inl ⟨by omega, by omega⟩, _, _, rfl, rfl, .ref b, rfl, b, _, 4, .int (c + 1), rfl, rfl, .inl (.inl hb1), rfl, 7919, c + 1, rfl, rfl, .inl ⟨by decide, by decide⟩, _, _, rfl, rfl, _, 2531011, rfl, rfl, _, 2147483647, rfl, rfl, (show (0 : Int) < 2147483647 by decide), .ref b, rfl, b, _, 3, 3, rfl, rfl, hb1, rfl, ?_⟩
            have m0 : 0 ≤ ((m * m % 2147483629 * 5 + m * 16811 + 7919 * (c + 1) + 2531011) % 2147483647) := Int.emod_nonneg _ (by decide)
            have m1 : ((m * m % 2147483629 * 5 + m * 16811 + 7919 * (c + 1) + 2531011) % 2147483647) < 2147483647 := Int.emod_lt_of_pos _ (by decide)
            have hb3 : upd (upd H' b (.lst [.ref l, .int p, .int q, .int m, .int (c + 1)])) b (.lst [.ref l, .int p, .int q, .int ((m * m % 2147483629 * 5 + m * 16811 + 7919 * (c + 1) + 2531011) % 2147483647), .int (c + 1)]) b = some (.lst [.ref l, .int p, .int q, .int ((m * m % 2147483629 * 5 + m * 16811 + 7919 * (c + 1) + 2531011) % 2147483647), .int (c + 1)]) := upd_same
            have ee : Ext K ⟨b, bT⟩ I H I (upd (upd H' b (.lst [.ref l, .int p, .int q, .int m, .int (c + 1)])) b (.lst [.ref l, .int p, .int q, .int ((m * m % 2147483629 * 5 + m * 16811 + 7919 * (c + 1) + 2531011) % 2147483647), .int (c + 1)])) := by
              rw [upd_upd]
              exact e.trans (Ext.bag e.ok ⟨_, hb⟩ hl hp hq m0 m1)
            refine ⟨.ref b, rfl, b, _, 3, .int ((m * m % 2147483629 * 5 + m * 16811 + 7919 * (c + 1) + 2531011) % 2147483647), rfl, rfl, .inl (.inl hb3), rfl, _, 61, rfl, rfl, wide_div (b := 10) (by decide) (by decide) (by decide) (by decide), .ref b, rfl, b, _, 3, .int ((m * m % 2147483629 * 5 + m * 16811 + 7919 * (c + 1) + 2531011) % 2147483647), rfl, rfl, .inl (.inl hb3), rfl, _, 8191, rfl, rfl, (show (0 : Int) < 8191 by decide), _, 31, rfl, rfl, .inl ⟨by omega, by omega⟩, _, _, rfl, rfl, .int n, rfl, _, n, rfl, rfl, n0, ?_⟩
            exact fin _ _ (Int.emod_nonneg _ (by omega)) (Int.emod_lt_of_pos _ n0) ee
theorem ok_law_take (T : Top K mg w) : FnOk P w K mg base (L2.CX P w) 1 T.a_law_take T.fd_law_take ["_law_bag", "_law_sides"] (spW K T.cls T.fa W_take) := fn_to (okd_law_take T) take_to
def spOpen (K : PySem.W.Frag) : Sp := fun vs H Q _ => ∃ (a : Addr) (ns : List Int), vs = [.ref a] ∧ SqL K H a (ns.map V.int) ∧
  ∀ (b l : Addr) (ms : List Int) (H' : Hp), (∀ c o, H c = some o → H' c = some o) → b ≠ l → H' b = some (.lst [.ref l, .int 0, .int 0, .int 9465, .int 0]) → H' l = some (.lst (ms.map V.int)) → Q (.ref b) H'
theorem ok_law_open (T : Top K mg w) : FnOk P w K mg base CX0 1 T.a_law_open T.fd_law_open ["_law_script"] (spOpen K) := by
  refine T.F_law_open.ok sc_law_open (fun vs H Q E h => ?_) (fun cdv A outer s H vs Q E hr h => ?_)
  · obtain ⟨a, ns, rfl, _⟩ := h
    rfl
  · obtain ⟨a, ns, rfl, hS, q⟩ := h
    refine ⟨_, (pss_one (ps_ret (pe_lst (pa_cons (pe_callTy (k_list K) (by rfl) T.m_list (by decide +kernel) (pa_cons (pe_slice (k_sl_list K) (pv 0) po_none (po_some pe_int)) pa_nil)) (pa_cons pe_int (pa_cons pe_int (pa_cons pe_int (pa_cons pe_int pa_nil)))))))), ?_⟩
    obtain ⟨ms, hm⟩ := cut_ints ns none (some 63)
    refine ⟨.ref a, rfl, 63, rfl, a, _, rfl, hS, fun p hp => ⟨p, _, rfl, .inl (.inl (.inl upd_same)), fun l hl => ⟨(by show 5 ≤ sizeLine; decide), fun b hb => ?_⟩⟩⟩
    have nb : l ≠ b := fun z => by
      rw [← z, upd_same] at hb
      cases hb
    refine q b l ms _ (fun c o e => ?_) nb.symm upd_same ?_
    · have keep : ∀ {G : Hp} {d : Addr} {u : HO}, G d = none → G c = some o → upd G d u c = some o := fun n h => by rw [upd_ne (ne_of_none h n)]; exact h
      exact keep hb (keep hl (keep hp e))
    rw [upd_ne nb, upd_same, hm]
theorem bag_start {H : Hp} {b l : Addr} {T : List (Addr × Str)} {ms : List Int} {σ : L2.St} {n : Nat} (hn : b ≠ l) (hb : H b = some (.lst [.ref l, .int 0, .int 0, .int 9465, .int 0])) (hl : H l = some (.lst (ms.map V.int))) (ht : LamX.Tabs T H) (hs : σ[1]? = some (some (.ref b))) (hσ : σ.length = n + 2) :
    ∃ I, Ok K ⟨b, T⟩ I H ∧ EnvR K ⟨b, T⟩ H I H σ (none :: some .bag :: List.replicate n none) := by
  refine ⟨upd (fun _ => none) l (.lst (ms.map V.int)), ⟨fun a o h => ?_, ?_, fun a o h => ?_, ht, l, ms, 0, 0, 9465, 0, hb, .inl (.inl upd_same), by decide, by decide, by decide, by decide⟩, ⟨by rw [hσ]; simp, fun i r e => ?_, fun i j a ds es e => ?_⟩⟩
  · by_cases z : a = l
    · subst z
      rw [upd_same] at h
      rw [hl]
      exact h
    · rw [upd_ne z] at h
      cases h
  · rw [upd_ne hn]
  · by_cases z : a = l
    · subst z
      rw [upd_same] at h
      cases h
      exact True.intro
    · rw [upd_ne z] at h
      cases h
  · match i with
    | 0 => cases e
    | 1 => cases e; exact ⟨_, hs, rfl⟩
    | i + 2 =>
      have e : (List.replicate n (none : Option DV))[i]? = some (some r) := e
      rw [List.getElem?_replicate] at e
      split at e <;> cases e
  · match i with
    | 0 => cases e
    | 1 => cases e
    | i + 2 =>
      have e : (List.replicate n (none : Option DV))[i]? = some (some (.own ds)) := e
      rw [List.getElem?_replicate] at e
      split at e <;> cases e
end
end Lw
namespace Lw
open PySem PySem.Spec PyProof.Rows L2 DL DW DM
section
variable {P : Program} {w : World} {K : PySem.W.Frag} {mg : Str → Option Value} {base : Heap}
theorem B_when_d3_cask (T : Top K mg w) : ∃ mv : List Value, KBn K T.fd_when ["sizes", "counts", "deeds", "cask", "least"] 3 ["cask"] (fun us ws => pkD [0, 1, 2, 3, 4] mv us ws) (fun vs zs => pkD [0, 1, 2, 3, 4] [.int 1] vs zs) := kb_dflN (st := s_when) [0, 1, 2, 3, 4] T.D_when (fun _ _ _ _ _ _ us mv ws h1 h2 h3 => match us, mv, ws, h1, h2, h3 with | [_, _, _], [_], [_], _, _, _ => ⟨_, _, _, _, _, _, rfl, rfl, rfl⟩)
theorem B_first_time_d3_cask (T : Top K mg w) : ∃ mv : List Value, KBn K T.fd_first_time ["sizes", "counts", "deeds", "cask", "least"] 3 ["cask"] (fun us ws => pkD [0, 1, 2, 3, 4] mv us ws) (fun vs zs => pkD [0, 1, 2, 3, 4] [.int 1] vs zs) := kb_dflN (st := s_first_time) [0, 1, 2, 3, 4] T.D_first_time (fun _ _ _ _ _ _ us mv ws h1 h2 h3 => match us, mv, ws, h1, h2, h3 with | [_, _, _], [_], [_], _, _, _ => ⟨_, _, _, _, _, _, rfl, rfl, rfl⟩)
theorem B_never_d3_cask (T : Top K mg w) : ∃ mv : List Value, KBn K T.fd_never ["sizes", "counts", "deeds", "cask", "least"] 3 ["cask"] (fun us ws => pkD [0, 1, 2, 3, 4] mv us ws) (fun vs zs => pkD [0, 1, 2, 3, 4] [.int 1] vs zs) := kb_dflN (st := s_never) [0, 1, 2, 3, 4] T.D_never (fun _ _ _ _ _ _ us mv ws h1 h2 h3 => match us, mv, ws, h1, h2, h3 with | [_, _, _], [_], [_], _, _, _ => ⟨_, _, _, _, _, _, rfl, rfl, rfl⟩)
theorem B_never_holds_d4_cask (T : Top K mg w) : ∃ mv : List Value, KBn K T.fd_never_holds ["sizes", "counts", "deeds", "paper", "cask", "least"] 4 ["cask"] (fun us ws => pkD [0, 1, 2, 3, 4, 5] mv us ws) (fun vs zs => pkD [0, 1, 2, 3, 4, 5] [.int 1] vs zs) := kb_dflN (st := s_never_holds) [0, 1, 2, 3, 4, 5] T.D_never_holds (fun _ _ _ _ _ _ us mv ws h1 h2 h3 => match us, mv, ws, h1, h2, h3 with | [_, _, _, _], [_], [_], _, _, _ => ⟨_, _, _, _, _, _, rfl, rfl, rfl⟩)
abbrev tabs_lam (T : Top K mg w) : List (Addr × Str) := [(T.P_law_doors, (("_law_doors" : Str) ++ ".<locals>.") ++ "<lambda>"), (T.P_law_later_doors, (("_law_later_doors" : Str) ++ ".<locals>.") ++ "<lambda>")]
theorem tabs_one_law_doors (T : Top K mg w) : ∀ p ∈ tabs_lam T, p.1 = T.P_law_doors → p.2 = (("_law_doors" : Str) ++ ".<locals>.") ++ "<lambda>" := fun p hp z => by
  rcases List.mem_cons.mp hp with e | hp
  · rw [e]
  · rcases List.mem_cons.mp hp with e | e
    · exact absurd (z.symm.trans (congrArg Prod.fst e)) T.dP
    · cases e
theorem tabs_one_law_later_doors (T : Top K mg w) : ∀ p ∈ tabs_lam T, p.1 = T.P_law_later_doors → p.2 = (("_law_later_doors" : Str) ++ ".<locals>.") ++ "<lambda>" := fun p hp z => by
  rcases List.mem_cons.mp hp with e | hp
  · exact absurd ((congrArg Prod.fst e).symm.trans z) T.dP
  · rcases List.mem_cons.mp hp with e | e
    · rw [e]
    · cases e
abbrev AfterT2 (T : Top K mg w) : Addr → List (Str × V) → Hp → VK → Prop := fun C fs H Q => (C = T.C_BadSizes ∧ ∃ v, fs.lookup ("cask" : Str) = some v ∧ Q v H)
theorem gives_law_told {X : Cx} (T : Top X.K X.mg w) {cd : Value} {q : Str} : LamX.GivesTo X N_law_told "_law_told" (defScope s_law_told) T.a_law_told cd (defBody s_law_told) "_law_ask" q (TTx (.str "none") (AfterT2 T)) := by
  intro f c' s H Q tl act hc h
  refine ⟨_, pss_cons (ps_set (i := 1) sc_law_told.nd rfl (by first | exact Or.inl rfl | exact Or.inr rfl) pe_str) (pss_cons (ps_tryN (i := 2) (n := "e")
      (cs := [(.ref T.C_BadSizes, fun x k dd => tAsg (tXf x k dd T.C_BadSizes "cask" (tVar 2)) (gName 1))])
      (tb := fun W D σ H => ∃ Ech : XK, (∀ cls d σ' H', σ'.length = 3 → Ech cls d H' → W cls d σ' H') ∧ ∃ QQ : VK, (∀ v H1, QQ v H1 → D.nx σ H1) ∧ σ[0]? = some (some (.ref f)) ∧ H c' = some (LamX.CodeO c' q) ∧ tl Ech H QQ)
      sc_law_told.nd rfl rfl (.cons ⟨rfl, by decide, .inl T.g_BadSizes⟩ (fun x o k dd ps hz hf => pss_one (ps_set (i := 1) sc_law_told.nd rfl (by first | exact Or.inl rfl | exact Or.inr rfl) (pe_xf T.f_BadSizes T.n_BadSizes_cask hz hf (pv 2)))) .nil) (fun W ps xe tk po => ?_)) (pss_one (ps_ret (pv 1)))), ?_⟩
  · refine ⟨fun pins s' σ H' D I h' => ?_⟩
    obtain ⟨Ech, hW, QQ, m, h1, h2, h3⟩ := h'
    exact (pss_one (ps_expr (pe_weak (act _ ps xe Ech _ _ (takes_len tk) fun cls d σ' H' hE hl => hW cls d σ' H' hl hE)))).run pins s' σ H' D I ⟨QQ, fun v H1 z => m v H1 z, h1, h2, h3⟩
  · refine ⟨fun cls d H' => ∃ C dd fs, cls = .ref C ∧ d = some dd ∧ H' dd = some (.xd fs) ∧ AfterT2 T C fs H' Q, ?_, fun _ H' => Q (.str "none") H', fun v H1 z => ⟨_, rfl, z⟩, rfl, hc, h⟩
    rintro cls d σ' H' hl ⟨C, dd, fs, rfl, rfl, hd, af⟩
    obtain ⟨x0, x1, x2, rfl⟩ : ∃ x0 x1 x2, σ' = [x0, x1, x2] := by
      match σ', hl with
      | [a, b, c], _ => exact ⟨a, b, c, rfl⟩
    rcases af with ⟨rfl, v, hv, hq⟩
    · exact ⟨true, T.e_BadSizes_BadSizes, fun _ x hx => ⟨_, rfl, rfl, rfl, dd, fs, v, rfl, hd, hv, _, rfl, hq⟩, fun z => by cases z⟩
theorem aft_ok2 (T : Top K mg w) : AftOk K T.cls (AfterT2 T) aft2 := by
  intro s fs d h b I' H' Q ok q
  unfold aft2 at h
  by_cases z0 : s = 0
  · rw [if_pos z0] at h
    subst z0
    cases h0 : fs.lookup ("cask" : Str) with
    | none => simp [h0] at h
    | some v0 =>
    rw [h0] at h
    exact ⟨rfl, v0, h0, q v0 I' H' ok.re (vD_dp h)⟩
  rw [if_neg z0] at h
  cases h
theorem ok_look_sizes (T : Top K mg w) : FnOk P w K mg base (L2.CX P w) 3 T.a_look_sizes T.fd_look_sizes ["sizes"] (spW K T.cls T.fa W_look_sizes) := by
  exact fn_w 1 3 T.F_look_sizes sc_look_sizes rfl rfl (by decide) fun cdv A outer s H E hr => (jss_cons (js_if (jt_not (jt_chain jo_le jo_le je_int (je_callB jb_len (by rfl) T.m_len PySem.boot_len (ja_cons (je_var (pv 0)) ja_nil)) (je_c (C8.pe_gc (by rfl) (gc_int T.c_MOST_CASKS)) (fun _ => Dp.int _)))) (jss_one (js_raise (x := 0) (mk := mk_BadSizes) (ja_cons (je_un ju_neg je_int) ja_nil) (by decide) (fun _ h => ps_raise rfl (takes_of rfl rfl rfl rfl) (pmk_oex T.o_BadSizes T.ii_BadSizes T.ti_BadSizes (init_BadSizes T) (hr.mono (by omega)) T.bi_BadSizes .nil pass0 (by rfl) T.g_BadSizes h)))) jss_nil)
      (jss_one (js_for (passes_of rfl) rfl (ji_enum (by rfl) T.m_enumerate (ja_cons (je_var (pv 0)) ja_nil)) to_pair (jg_pair (i := 1) (j := 2) (pg_tup rfl (pgs_cons (pg_name (i := 1) sc_look_sizes.nd rfl (by first | exact Or.inl rfl | exact Or.inr rfl)) (pgs_cons (pg_name (i := 2) sc_look_sizes.nd rfl (by first | exact Or.inl rfl | exact Or.inr rfl)) pgs_nil))) (ltr rfl) (ltr rfl)) (jss_one (js_if (jt_not (jt_chain jo_le jo_le je_int (je_var (pv 2)) (je_c (C8.pe_gc (by rfl) (gc_int T.c_MOST_SIZE)) (fun _ => Dp.int _)))) (jss_one (js_raise (x := 0) (mk := mk_BadSizes) (ja_cons (je_var (pv 1)) ja_nil) (by decide) (fun _ h => ps_raise rfl (takes_of rfl rfl rfl rfl) (pmk_oex T.o_BadSizes T.ii_BadSizes T.ti_BadSizes (init_BadSizes T) (hr.mono (by omega)) T.bi_BadSizes .nil pass0 (by rfl) T.g_BadSizes h)))) jss_nil)) (fun _ _ _ h1 h2 h3 => ps_for (passes_of rfl) rfl h1 h2 h3))))
theorem ok_look_counts (T : Top K mg w) : FnOk P w K mg base (L2.CX P w) 4 T.a_look_counts T.fd_look_counts ["sizes", "counts"] (spW K T.cls T.fa W_look_counts) := by
  have G_look_sizes := ok_look_sizes (P := P) (w := w) (base := base) T
  exact fn_w 2 2 T.F_look_counts sc_look_counts rfl rfl (by decide) fun cdv A outer s H E hr => (jss_cons (js_expr (je_call G_look_sizes (hr.mono (by omega)) (by rfl) T.g_look_sizes T.F_look_sizes.kp T.b_look_sizes passX (ja_cons (je_var (pv 0)) ja_nil)))
      jss_never)
theorem ok_look_stand (T : Top K mg w) : FnOk P w K mg base (L2.CX P w) 4 T.a_look_stand T.fd_look_stand ["sizes", "stand"] (spW K T.cls T.fa W_look_stand) := by
  have G_look_sizes := ok_look_sizes (P := P) (w := w) (base := base) T
  exact fn_w 2 2 T.F_look_stand sc_look_stand rfl rfl (by decide) fun cdv A outer s H E hr => (jss_cons (js_expr (je_call G_look_sizes (hr.mono (by omega)) (by rfl) T.g_look_sizes T.F_look_sizes.kp T.b_look_sizes passX (ja_cons (je_var (pv 0)) ja_nil)))
      jss_never)
theorem ok_stand_of (T : Top K mg w) : FnOk P w K mg base (L2.CX P w) 5 T.a_stand_of T.fd_stand_of ["sizes", "counts"] (spW K T.cls T.fa W_stand_of) := by
  have G_look_counts := ok_look_counts (P := P) (w := w) (base := base) T
  exact fn_w 2 2 T.F_stand_of sc_stand_of rfl rfl (by decide) fun cdv A outer s H E hr => (jss_cons (js_expr (je_call G_look_counts (hr.mono (by omega)) (by rfl) T.g_look_counts T.F_look_counts.kp T.b_look_counts passX (ja_cons (je_var (pv 0)) (ja_cons (je_var (pv 1)) ja_nil))))
      jss_never)
theorem ok_room (T : Top K mg w) : FnOk P w K mg base (L2.CX P w) 5 T.a_room T.fd_room ["sizes", "counts"] (spW K T.cls T.fa W_room) := by
  have G_look_counts := ok_look_counts (P := P) (w := w) (base := base) T
  exact fn_w 2 2 T.F_room sc_room rfl rfl (by decide) fun cdv A outer s H E hr => (jss_cons (js_expr (je_call G_look_counts (hr.mono (by omega)) (by rfl) T.g_look_counts T.F_look_counts.kp T.b_look_counts passX (ja_cons (je_var (pv 0)) (ja_cons (je_var (pv 1)) ja_nil))))
      jss_never)
theorem ok_apart (T : Top K mg w) : FnOk P w K mg base (L2.CX P w) 1 T.a_apart T.fd_apart ["one", "other"] (spW K T.cls T.fa W_apart) := by
  exact fn_w 2 4 T.F_apart sc_apart rfl rfl (by decide) fun cdv A outer s H E hr => (jss_one (js_ret (je_callB (jb_sum rfl) (by rfl) T.m_sum (by decide +kernel) (ja_cons (je_lc (own := [("a", 2), ("b", 3)]) rfl sc_apart.nd (ji_zip (by rfl) T.m_zip (ja_cons (je_var (pv 0)) (ja_cons (je_var (pv 1)) ja_nil))) (blkOk_by (own := [("a", 2), ("b", 3)]) (N := N_apart) (sc := defScope s_apart) (by decide +kernel)) to_pair (fun _ => (jg_pair (i := 2) (j := 3) (pg_tup rfl (pgs_cons (pg_name (i := 2) sc_apart.nd rfl (by first | exact Or.inl rfl | exact Or.inr rfl)) (pgs_cons (pg_name (i := 3) sc_apart.nd rfl (by first | exact Or.inl rfl | exact Or.inr rfl)) pgs_nil))) (ltr rfl) (ltr rfl))) (by decide) (fun _ => jts_nil) (fun _ => (je_callB jb_abs (by rfl) T.m_abs (by decide +kernel) (ja_cons (je_op jo_sub (je_var (pv 2)) (je_var (pv 3))) ja_nil)))) ja_nil))))
theorem ok_look_deed (T : Top K mg w) : FnOk P w K mg base (L2.CX P w) 4 T.a_look_deed T.fd_look_deed ["sizes", "deed"] (spW K T.cls T.fa W_look_deed) := by
  have G_look_sizes := ok_look_sizes (P := P) (w := w) (base := base) T
  exact fn_w 2 2 T.F_look_deed sc_look_deed rfl rfl (by decide) fun cdv A outer s H E hr => (jss_cons (js_expr (je_call G_look_sizes (hr.mono (by omega)) (by rfl) T.g_look_sizes T.F_look_sizes.kp T.b_look_sizes passX (ja_cons (je_var (pv 0)) ja_nil)))
      jss_never)
theorem ok_look_row (T : Top K mg w) : FnOk P w K mg base (L2.CX P w) 4 T.a_look_row T.fd_look_row ["sizes", "deeds"] (spW K T.cls T.fa W_look_row) := by
  have G_look_sizes := ok_look_sizes (P := P) (w := w) (base := base) T
  exact fn_w 2 2 T.F_look_row sc_look_row rfl rfl (by decide) fun cdv A outer s H E hr => (jss_cons (js_expr (je_call G_look_sizes (hr.mono (by omega)) (by rfl) T.g_look_sizes T.F_look_sizes.kp T.b_look_sizes passX (ja_cons (je_var (pv 0)) ja_nil)))
      jss_never)
theorem ok_has_tap (T : Top K mg w) : FnOk P w K mg base (L2.CX P w) 5 T.a_has_tap T.fd_has_tap ["sizes", "deeds"] (spW K T.cls T.fa W_has_tap) := by
  have G_look_row := ok_look_row (P := P) (w := w) (base := base) T
  exact fn_w 2 2 T.F_has_tap sc_has_tap rfl rfl (by decide) fun cdv A outer s H E hr => (jss_cons (js_expr (je_call G_look_row (hr.mono (by omega)) (by rfl) T.g_look_row T.F_look_row.kp T.b_look_row passX (ja_cons (je_var (pv 0)) (ja_cons (je_var (pv 1)) ja_nil))))
      jss_never)
theorem ok_poured (T : Top K mg w) : FnOk P w K mg base (L2.CX P w) 5 T.a_poured T.fd_poured ["sizes", "counts", "deed"] (spW K T.cls T.fa W_poured) := by
  have G_look_counts := ok_look_counts (P := P) (w := w) (base := base) T
  exact fn_w 3 3 T.F_poured sc_poured rfl rfl (by decide) fun cdv A outer s H E hr => (jss_cons (js_expr (je_call G_look_counts (hr.mono (by omega)) (by rfl) T.g_look_counts T.F_look_counts.kp T.b_look_counts passX (ja_cons (je_var (pv 0)) (ja_cons (je_var (pv 1)) ja_nil))))
      jss_never)
theorem ok_poured_all (T : Top K mg w) : FnOk P w K mg base (L2.CX P w) 5 T.a_poured_all T.fd_poured_all ["sizes", "counts", "deeds"] (spW K T.cls T.fa W_poured_all) := by
  have G_look_counts := ok_look_counts (P := P) (w := w) (base := base) T
  exact fn_w 3 3 T.F_poured_all sc_poured_all rfl rfl (by decide) fun cdv A outer s H E hr => (jss_cons (js_expr (je_call G_look_counts (hr.mono (by omega)) (by rfl) T.g_look_counts T.F_look_counts.kp T.b_look_counts passX (ja_cons (je_var (pv 0)) (ja_cons (je_var (pv 1)) ja_nil))))
      jss_never)
theorem ok_by_counts (T : Top K mg w) : FnOk P w K mg base (L2.CX P w) 5 T.a_by_counts T.fd_by_counts ["sizes", "stand", "deeds"] (spW K T.cls T.fa W_by_counts) := by
  have G_look_stand := ok_look_stand (P := P) (w := w) (base := base) T
  exact fn_w 3 3 T.F_by_counts sc_by_counts rfl rfl (by decide) fun cdv A outer s H E hr => (jss_cons (js_expr (je_call G_look_stand (hr.mono (by omega)) (by rfl) T.g_look_stand T.F_look_stand.kp T.b_look_stand passX (ja_cons (je_var (pv 0)) (ja_cons (je_var (pv 1)) ja_nil))))
      jss_never)
theorem ok_done (T : Top K mg w) : FnOk P w K mg base (L2.CX P w) 5 T.a_done T.fd_done ["sizes", "stand", "deed"] (spW K T.cls T.fa W_done) := by
  have G_look_stand := ok_look_stand (P := P) (w := w) (base := base) T
  exact fn_w 3 3 T.F_done sc_done rfl rfl (by decide) fun cdv A outer s H E hr => (jss_cons (js_expr (je_call G_look_stand (hr.mono (by omega)) (by rfl) T.g_look_stand T.F_look_stand.kp T.b_look_stand passX (ja_cons (je_var (pv 0)) (ja_cons (je_var (pv 1)) ja_nil))))
      jss_never)
theorem ok_done_all (T : Top K mg w) : FnOk P w K mg base (L2.CX P w) 5 T.a_done_all T.fd_done_all ["sizes", "stand", "deeds"] (spW K T.cls T.fa W_done_all) := by
  have G_look_stand := ok_look_stand (P := P) (w := w) (base := base) T
  exact fn_w 3 3 T.F_done_all sc_done_all rfl rfl (by decide) fun cdv A outer s H E hr => (jss_cons (js_expr (je_call G_look_stand (hr.mono (by omega)) (by rfl) T.g_look_stand T.F_look_stand.kp T.b_look_stand passX (ja_cons (je_var (pv 0)) (ja_cons (je_var (pv 1)) ja_nil))))
      jss_never)
theorem ok_path (T : Top K mg w) : FnOk P w K mg base (L2.CX P w) 5 T.a_path T.fd_path ["sizes", "stand", "deeds", "rank"] (spW K T.cls T.fa W_path) := by
  have G_look_stand := ok_look_stand (P := P) (w := w) (base := base) T
  exact fn_w 4 4 T.F_path sc_path rfl rfl (by decide) fun cdv A outer s H E hr => (jss_cons (js_expr (je_call G_look_stand (hr.mono (by omega)) (by rfl) T.g_look_stand T.F_look_stand.kp T.b_look_stand passX (ja_cons (je_var (pv 0)) (ja_cons (je_var (pv 1)) ja_nil))))
      jss_never)
theorem ok_behind (T : Top K mg w) : FnOk P w K mg base (L2.CX P w) 5 T.a_behind T.fd_behind ["sizes", "stand", "deeds", "times"] (spW K T.cls T.fa W_behind) := by
  have G_look_stand := ok_look_stand (P := P) (w := w) (base := base) T
  exact fn_w 4 4 T.F_behind sc_behind rfl rfl (by decide) fun cdv A outer s H E hr => (jss_cons (js_expr (je_call G_look_stand (hr.mono (by omega)) (by rfl) T.g_look_stand T.F_look_stand.kp T.b_look_stand passX (ja_cons (je_var (pv 0)) (ja_cons (je_var (pv 1)) ja_nil))))
      jss_never)
theorem ok_behind_counts (T : Top K mg w) : FnOk P w K mg base (L2.CX P w) 5 T.a_behind_counts T.fd_behind_counts ["sizes", "counts", "deeds", "times"] (spW K T.cls T.fa W_behind_counts) := by
  have G_look_counts := ok_look_counts (P := P) (w := w) (base := base) T
  exact fn_w 4 4 T.F_behind_counts sc_behind_counts rfl rfl (by decide) fun cdv A outer s H E hr => (jss_cons (js_expr (je_call G_look_counts (hr.mono (by omega)) (by rfl) T.g_look_counts T.F_look_counts.kp T.b_look_counts passX (ja_cons (je_var (pv 0)) (ja_cons (je_var (pv 1)) ja_nil))))
      jss_never)
theorem ok_ring (T : Top K mg w) : FnOk P w K mg base (L2.CX P w) 5 T.a_ring T.fd_ring ["sizes", "stand", "deeds"] (spW K T.cls T.fa W_ring) := by
  have G_look_stand := ok_look_stand (P := P) (w := w) (base := base) T
  exact fn_w 3 3 T.F_ring sc_ring rfl rfl (by decide) fun cdv A outer s H E hr => (jss_cons (js_expr (je_call G_look_stand (hr.mono (by omega)) (by rfl) T.g_look_stand T.F_look_stand.kp T.b_look_stand passX (ja_cons (je_var (pv 0)) (ja_cons (je_var (pv 1)) ja_nil))))
      jss_never)
theorem ok_ring_of_trail (T : Top K mg w) : FnOk P w K mg base (L2.CX P w) 1 T.a_ring_of_trail T.fd_ring_of_trail ["told"] (spW K T.cls T.fa W_ring_of_trail) := by
  exact fn_w 1 4 T.F_ring_of_trail sc_ring_of_trail rfl rfl (by decide) fun cdv A outer s H E hr => (jss_cons (js_asg (je_var (pv 0)) (jt_gtup rfl (jgs_cons (jt_gname (i := 1) (pg_name (i := 1) sc_ring_of_trail.nd rfl (by first | exact Or.inl rfl | exact Or.inr rfl)) (ltr rfl)) (jgs_cons (jt_gname (i := 2) (pg_name (i := 2) sc_ring_of_trail.nd rfl (by first | exact Or.inl rfl | exact Or.inr rfl)) (ltr rfl)) jgs_nil))))
      (jss_cons (js_set sc_ring_of_trail.nd rfl (ltr rfl) (je_index (units65 hr) (je_var (pv 1)) (je_var (pv 2)) (fun _ _ h1 h2 => pe_bm PySem.F.plainAttrs_list PySem.F.slot_list_index PySem.F.type_list_index (mt_indexD (units65 hr)) h1 (pa_cons h2 pa_nil))) (fun _ h => ps_set (i := 3) sc_ring_of_trail.nd rfl (by first | exact Or.inl rfl | exact Or.inr rfl) h))
      (jss_one (js_ret (je_tup (ja_cons (je_var (pv 3)) (ja_cons (je_op jo_sub (je_callB jb_len (by rfl) T.m_len PySem.boot_len (ja_cons (je_var (pv 1)) ja_nil)) (je_var (pv 3))) ja_nil)))))))
theorem ok_trail_of_counts (T : Top K mg w) : FnOk P w K mg base (L2.CX P w) 5 T.a_trail_of_counts T.fd_trail_of_counts ["sizes", "counts", "deeds"] (spW K T.cls T.fa W_trail_of_counts) := by
  have G_look_counts := ok_look_counts (P := P) (w := w) (base := base) T
  exact fn_w 3 3 T.F_trail_of_counts sc_trail_of_counts rfl rfl (by decide) fun cdv A outer s H E hr => (jss_cons (js_expr (je_call G_look_counts (hr.mono (by omega)) (by rfl) T.g_look_counts T.F_look_counts.kp T.b_look_counts passX (ja_cons (je_var (pv 0)) (ja_cons (je_var (pv 1)) ja_nil))))
      jss_never)
theorem ok_ring_of_counts (T : Top K mg w) : FnOk P w K mg base (L2.CX P w) 6 T.a_ring_of_counts T.fd_ring_of_counts ["sizes", "counts", "deeds"] (spW K T.cls T.fa W_ring_of_counts) := by
  have G_ring_of_trail := ok_ring_of_trail (P := P) (w := w) (base := base) T
  have G_trail_of_counts := ok_trail_of_counts (P := P) (w := w) (base := base) T
  exact fn_w 3 3 T.F_ring_of_counts sc_ring_of_counts rfl rfl (by decide) fun cdv A outer s H E hr => (jss_one (js_ret (je_call G_ring_of_trail (hr.mono (by omega)) (by rfl) T.g_ring_of_trail T.F_ring_of_trail.kp T.b_ring_of_trail passX (ja_cons (je_call G_trail_of_counts (hr.mono (by omega)) (by rfl) T.g_trail_of_counts T.F_trail_of_counts.kp T.b_trail_of_counts passX (ja_cons (je_var (pv 0)) (ja_cons (je_var (pv 1)) (ja_cons (je_var (pv 2)) ja_nil)))) ja_nil))))
theorem ok_turns (T : Top K mg w) : FnOk P w K mg base (L2.CX P w) 6 T.a_turns T.fd_turns ["sizes", "counts", "deeds"] (spW K T.cls T.fa W_turns) := by
  have G_trail_of_counts := ok_trail_of_counts (P := P) (w := w) (base := base) T
  exact fn_w 3 5 T.F_turns sc_turns rfl rfl (by decide) fun cdv A outer s H E hr => (jss_cons (js_asg (je_call G_trail_of_counts (hr.mono (by omega)) (by rfl) T.g_trail_of_counts T.F_trail_of_counts.kp T.b_trail_of_counts passX (ja_cons (je_var (pv 0)) (ja_cons (je_var (pv 1)) (ja_cons (je_var (pv 2)) ja_nil)))) (jt_gtup rfl (jgs_cons (jt_gname (i := 3) (pg_name (i := 3) sc_turns.nd rfl (by first | exact Or.inl rfl | exact Or.inr rfl)) (ltr rfl)) (jgs_cons (jt_gname (i := 4) (pg_name (i := 4) sc_turns.nd rfl (by first | exact Or.inl rfl | exact Or.inr rfl)) (ltr rfl)) jgs_nil))))
      jss_never)
theorem ok_ends (T : Top K mg w) : FnOk P w K mg base (L2.CX P w) 7 T.a_ends T.fd_ends ["sizes", "counts", "deeds"] (spW K T.cls T.fa W_ends) := by
  have G_turns := ok_turns (P := P) (w := w) (base := base) T
  exact fn_w 3 4 T.F_ends sc_ends rfl rfl (by decide) fun cdv A outer s H E hr => (jss_cons (js_set sc_ends.nd rfl (ltr rfl) (je_call G_turns (hr.mono (by omega)) (by rfl) T.g_turns T.F_turns.kp T.b_turns passX (ja_cons (je_var (pv 0)) (ja_cons (je_var (pv 1)) (ja_cons (je_var (pv 2)) ja_nil)))) (fun _ h => ps_set (i := 3) sc_ends.nd rfl (by first | exact Or.inl rfl | exact Or.inr rfl) h))
      jss_never)
theorem ok_kin (T : Top K mg w) : FnOk P w K mg base (L2.CX P w) 7 T.a_kin T.fd_kin ["sizes", "counts", "deeds"] (spW K T.cls T.fa W_kin) := by
  have G_turns := ok_turns (P := P) (w := w) (base := base) T
  exact fn_w 3 4 T.F_kin sc_kin rfl rfl (by decide) fun cdv A outer s H E hr => (jss_cons (js_set sc_kin.nd rfl (ltr rfl) (je_call G_turns (hr.mono (by omega)) (by rfl) T.g_turns T.F_turns.kp T.b_turns passX (ja_cons (je_var (pv 0)) (ja_cons (je_var (pv 1)) (ja_cons (je_var (pv 2)) ja_nil)))) (fun _ h => ps_set (i := 3) sc_kin.nd rfl (by first | exact Or.inl rfl | exact Or.inr rfl) h))
      jss_never)
theorem ok_kin_holds (T : Top K mg w) : FnOk P w K mg base (L2.CX P w) 5 T.a_kin_holds T.fd_kin_holds ["sizes", "counts", "deeds", "paper"] (spW K T.cls T.fa W_kin_holds) := by
  have G_look_counts := ok_look_counts (P := P) (w := w) (base := base) T
  exact fn_w 4 4 T.F_kin_holds sc_kin_holds rfl rfl (by decide) fun cdv A outer s H E hr => (jss_cons (js_expr (je_call G_look_counts (hr.mono (by omega)) (by rfl) T.g_look_counts T.F_look_counts.kp T.b_look_counts passX (ja_cons (je_var (pv 0)) (ja_cons (je_var (pv 1)) ja_nil))))
      jss_never)
theorem ok_rows_and_ahead (T : Top K mg w) : FnOk P w K mg base (L2.CX P w) 6 T.a_rows_and_ahead T.fd_rows_and_ahead ["sizes", "counts", "deeds", "cask"] (spW K T.cls T.fa W_rows_and_ahead) := by
  have G_trail_of_counts := ok_trail_of_counts (P := P) (w := w) (base := base) T
  exact fn_w 4 6 T.F_rows_and_ahead sc_rows_and_ahead rfl rfl (by decide) fun cdv A outer s H E hr => (jss_cons (js_asg (je_call G_trail_of_counts (hr.mono (by omega)) (by rfl) T.g_trail_of_counts T.F_trail_of_counts.kp T.b_trail_of_counts passX (ja_cons (je_var (pv 0)) (ja_cons (je_var (pv 1)) (ja_cons (je_var (pv 2)) ja_nil)))) (jt_gtup rfl (jgs_cons (jt_gname (i := 4) (pg_name (i := 4) sc_rows_and_ahead.nd rfl (by first | exact Or.inl rfl | exact Or.inr rfl)) (ltr rfl)) (jgs_cons (jt_gname (i := 5) (pg_name (i := 5) sc_rows_and_ahead.nd rfl (by first | exact Or.inl rfl | exact Or.inr rfl)) (ltr rfl)) jgs_nil))))
      jss_never)
theorem ok_when (T : Top K mg w) : FnOk P w K mg base (L2.CX P w) 7 T.a_when T.fd_when ["sizes", "counts", "deeds", "cask", "least"] (spW K T.cls T.fa W_when) := by
  have G_rows_and_ahead := ok_rows_and_ahead (P := P) (w := w) (base := base) T
  exact fn_w 5 7 T.F_when sc_when rfl rfl (by decide) fun cdv A outer s H E hr => (jss_cons (js_asg (je_call G_rows_and_ahead (hr.mono (by omega)) (by rfl) T.g_rows_and_ahead T.F_rows_and_ahead.kp T.b_rows_and_ahead passX (ja_cons (je_var (pv 0)) (ja_cons (je_var (pv 1)) (ja_cons (je_var (pv 2)) (ja_cons (je_var (pv 3)) ja_nil))))) (jt_gtup rfl (jgs_cons (jt_gname (i := 5) (pg_name (i := 5) sc_when.nd rfl (by first | exact Or.inl rfl | exact Or.inr rfl)) (ltr rfl)) (jgs_cons (jt_gname (i := 6) (pg_name (i := 6) sc_when.nd rfl (by first | exact Or.inl rfl | exact Or.inr rfl)) (ltr rfl)) jgs_nil))))
      jss_never)
theorem ok_first_time (T : Top K mg w) : FnOk P w K mg base (L2.CX P w) 7 T.a_first_time T.fd_first_time ["sizes", "counts", "deeds", "cask", "least"] (spW K T.cls T.fa W_first_time) := by
  have G_rows_and_ahead := ok_rows_and_ahead (P := P) (w := w) (base := base) T
  exact fn_w 5 7 T.F_first_time sc_first_time rfl rfl (by decide) fun cdv A outer s H E hr => (jss_cons (js_asg (je_call G_rows_and_ahead (hr.mono (by omega)) (by rfl) T.g_rows_and_ahead T.F_rows_and_ahead.kp T.b_rows_and_ahead passX (ja_cons (je_var (pv 0)) (ja_cons (je_var (pv 1)) (ja_cons (je_var (pv 2)) (ja_cons (je_var (pv 3)) ja_nil))))) (jt_gtup rfl (jgs_cons (jt_gname (i := 5) (pg_name (i := 5) sc_first_time.nd rfl (by first | exact Or.inl rfl | exact Or.inr rfl)) (ltr rfl)) (jgs_cons (jt_gname (i := 6) (pg_name (i := 6) sc_first_time.nd rfl (by first | exact Or.inl rfl | exact Or.inr rfl)) (ltr rfl)) jgs_nil))))
      jss_never)
theorem ok_never (T : Top K mg w) : FnOk P w K mg base (L2.CX P w) 7 T.a_never T.fd_never ["sizes", "counts", "deeds", "cask", "least"] (spW K T.cls T.fa W_never) := by
  have G_rows_and_ahead := ok_rows_and_ahead (P := P) (w := w) (base := base) T
  exact fn_w 5 7 T.F_never sc_never rfl rfl (by decide) fun cdv A outer s H E hr => (jss_cons (js_asg (je_call G_rows_and_ahead (hr.mono (by omega)) (by rfl) T.g_rows_and_ahead T.F_rows_and_ahead.kp T.b_rows_and_ahead passX (ja_cons (je_var (pv 0)) (ja_cons (je_var (pv 1)) (ja_cons (je_var (pv 2)) (ja_cons (je_var (pv 3)) ja_nil))))) (jt_gtup rfl (jgs_cons (jt_gname (i := 5) (pg_name (i := 5) sc_never.nd rfl (by first | exact Or.inl rfl | exact Or.inr rfl)) (ltr rfl)) (jgs_cons (jt_gname (i := 6) (pg_name (i := 6) sc_never.nd rfl (by first | exact Or.inl rfl | exact Or.inr rfl)) (ltr rfl)) jgs_nil))))
      jss_never)
theorem ok_never_holds (T : Top K mg w) : FnOk P w K mg base (L2.CX P w) 5 T.a_never_holds T.fd_never_holds ["sizes", "counts", "deeds", "paper", "cask", "least"] (spW K T.cls T.fa W_never_holds) := by
  have G_look_counts := ok_look_counts (P := P) (w := w) (base := base) T
  exact fn_w 6 6 T.F_never_holds sc_never_holds rfl rfl (by decide) fun cdv A outer s H E hr => (jss_cons (js_expr (je_call G_look_counts (hr.mono (by omega)) (by rfl) T.g_look_counts T.F_look_counts.kp T.b_look_counts passX (ja_cons (je_var (pv 0)) (ja_cons (je_var (pv 1)) ja_nil))))
      jss_never)
theorem ok_pairs_behind (T : Top K mg w) : FnOk P w K mg base (L2.CX P w) 5 T.a_pairs_behind T.fd_pairs_behind ["sizes", "one", "other", "deeds"] (spW K T.cls T.fa W_pairs_behind) := by
  have G_look_counts := ok_look_counts (P := P) (w := w) (base := base) T
  exact fn_w 4 4 T.F_pairs_behind sc_pairs_behind rfl rfl (by decide) fun cdv A outer s H E hr => (jss_cons (js_expr (je_call G_look_counts (hr.mono (by omega)) (by rfl) T.g_look_counts T.F_look_counts.kp T.b_look_counts passX (ja_cons (je_var (pv 0)) (ja_cons (je_var (pv 1)) ja_nil))))
      jss_never)
theorem ok_meet (T : Top K mg w) : FnOk P w K mg base (L2.CX P w) 6 T.a_meet T.fd_meet ["sizes", "one", "other", "deeds"] (spW K T.cls T.fa W_meet) := by
  have G_pairs_behind := ok_pairs_behind (P := P) (w := w) (base := base) T
  exact fn_w 4 7 T.F_meet sc_meet rfl rfl (by decide) fun cdv A outer s H E hr => (jss_cons (js_for (passes_of rfl) rfl (ji_enum (by rfl) T.m_enumerate (ja_cons (je_call G_pairs_behind (hr.mono (by omega)) (by rfl) T.g_pairs_behind T.F_pairs_behind.kp T.b_pairs_behind passX (ja_cons (je_var (pv 0)) (ja_cons (je_var (pv 1)) (ja_cons (je_var (pv 2)) (ja_cons (je_var (pv 3)) ja_nil))))) ja_nil)) to_nest (jg_nestP (i := 4) (j := 5) (k := 6) (pg_tup rfl (pgs_cons (pg_name (i := 4) sc_meet.nd rfl (by first | exact Or.inl rfl | exact Or.inr rfl)) (pgs_cons (pg_tup rfl (pgs_cons (pg_name (i := 5) sc_meet.nd rfl (by first | exact Or.inl rfl | exact Or.inr rfl)) (pgs_cons (pg_name (i := 6) sc_meet.nd rfl (by first | exact Or.inl rfl | exact Or.inr rfl)) pgs_nil))) pgs_nil))) (ltr rfl) (ltr rfl) (ltr rfl)) (jss_one (js_if (jt_cmp (jo_eq hr.units) (je_var (pv 5)) (je_var (pv 6)) (nomark _)) (jss_one (js_retV (pv 4))) jss_nil)) (fun _ _ _ h1 h2 h3 => ps_for (passes_of rfl) rfl h1 h2 h3))
      (jss_one (js_ret je_non)))
theorem ok_apart_at_last (T : Top K mg w) : FnOk P w K mg base (L2.CX P w) 6 T.a_apart_at_last T.fd_apart_at_last ["sizes", "one", "other", "deeds"] (spW K T.cls T.fa W_apart_at_last) := by
  have G_apart := ok_apart (P := P) (w := w) (base := base) T
  have G_pairs_behind := ok_pairs_behind (P := P) (w := w) (base := base) T
  exact fn_w 4 7 T.F_apart_at_last sc_apart_at_last rfl rfl (by decide) fun cdv A outer s H E hr => (jss_cons (js_setLc (i := 4) (own := [("first", 5), ("second", 6)]) rfl sc_apart_at_last.nd rfl rfl (sw_true rfl rfl rfl (by decide +kernel)) (ltr rfl) (ji_seq (je_call G_pairs_behind (hr.mono (by omega)) (by rfl) T.g_pairs_behind T.F_pairs_behind.kp T.b_pairs_behind passX (ja_cons (je_var (pv 0)) (ja_cons (je_var (pv 1)) (ja_cons (je_var (pv 2)) (ja_cons (je_var (pv 3)) ja_nil)))))) (blkOk_by (own := [("first", 5), ("second", 6)]) (N := N_apart_at_last) (sc := defScope s_apart_at_last) (by decide +kernel)) to_pair (fun _ => (jg_pairD (i := 5) (j := 6) (pg_tup rfl (pgs_cons (pg_name (i := 5) sc_apart_at_last.nd rfl (by first | exact Or.inl rfl | exact Or.inr rfl)) (pgs_cons (pg_name (i := 6) sc_apart_at_last.nd rfl (by first | exact Or.inl rfl | exact Or.inr rfl)) pgs_nil))) (ltr rfl) (ltr rfl))) (by decide) (fun _ => jts_nil) (fun _ => (je_call G_apart (hr.mono (by omega)) (by rfl) T.g_apart T.F_apart.kp T.b_apart passE0 (ja_cons (je_var (pv 5)) (ja_cons (je_var (pv 6)) ja_nil)))))
      (jss_one (js_ret (je_tup (ja_cons (je_ix (jx_seq (units65 hr)) (je_var (pv 4)) (je_un ju_neg je_int) (fun _ _ => rfl)) (ja_cons (je_index (units65 hr) (je_var (pv 4)) (je_ix (jx_seq (units65 hr)) (je_var (pv 4)) (je_un ju_neg je_int) (fun _ _ => rfl)) (fun _ _ h1 h2 => pe_bm PySem.F.plainAttrs_list PySem.F.slot_list_index PySem.F.type_list_index (mt_indexD (units65 hr)) h1 (pa_cons h2 pa_nil))) ja_nil))))))
theorem ok_one_more (T : Top K mg w) : FnOk P w K mg base (L2.CX P w) 5 T.a_one_more T.fd_one_more ["sizes", "counts", "deeds"] (spW K T.cls T.fa W_one_more) := by
  have G_look_counts := ok_look_counts (P := P) (w := w) (base := base) T
  exact fn_w 3 3 T.F_one_more sc_one_more rfl rfl (by decide) fun cdv A outer s H E hr => (jss_cons (js_expr (je_call G_look_counts (hr.mono (by omega)) (by rfl) T.g_look_counts T.F_look_counts.kp T.b_look_counts passX (ja_cons (je_var (pv 0)) (ja_cons (je_var (pv 1)) ja_nil))))
      jss_never)
theorem ok_law_pick (T : Top K mg w) : FnOk P w K mg base (L2.CX P w) 2 T.a_law_pick T.fd_law_pick ["_law_bag", "_law_row"] (spW K T.cls T.fa W_law_pick) := by
  have G_law_take := ok_law_take (P := P) (w := w) (base := base) T
  exact fn_w 2 2 T.F_law_pick sc_law_pick rfl rfl (by decide) fun cdv A outer s H E hr => (jss_one (js_ret (je_ix (jx_seq (units65 hr)) (je_var (pv 1)) (je_call G_law_take (hr.mono (by omega)) (by rfl) T.g_law_take T.F_law_take.kp T.b_law_take passX (ja_cons (je_var (pv 0)) (ja_cons (je_callB jb_len (by rfl) T.m_len PySem.boot_len (ja_cons (je_var (pv 1)) ja_nil)) ja_nil))) (fun _ _ => rfl))))
theorem ok_law_same (T : Top K mg w) : ∀ k, FnOk P w K mg base (L2.CX P w) (1 + k) T.a_law_same T.fd_law_same ["_law_found", "_law_due"] (spW K T.cls T.fa (W_law_same k))
  | 0 => fn_none
  | k + 1 => by
    have G_law_same := ok_law_same T k
    exact fn_w (k := 1 + k) 2 3 T.F_law_same sc_law_same rfl rfl (by decide) fun cdv A outer s H E hr => (jss_cons (js_if (jt_cmp jo_isN (je_var (pv 1)) je_non (nomark _)) (jss_one (js_ret (je_cmp jo_isN (je_var (pv 0)) je_non (nomark _)))) jss_nil)
      (jss_cons (js_if (jt_val (je_callB jb_isi (by rfl) T.m_isinstance (by decide +kernel) (ja_cons (je_var (pv 1)) (ja_cons (je_raw (pe_bltn (v := .ty "bool") (u := .type "bool") (by rfl) T.m_bool (by decide +kernel) rfl)) ja_nil)))) (jss_one (js_ret (je_and (je_callB jb_isi (by rfl) T.m_isinstance (by decide +kernel) (ja_cons (je_var (pv 0)) (ja_cons (je_raw (pe_bltn (v := .ty "bool") (u := .type "bool") (by rfl) T.m_bool (by decide +kernel) rfl)) ja_nil))) (je_one (je_cmp (jo_eq hr.units) (je_var (pv 0)) (je_var (pv 1)) (nomark _)))))) jss_nil)
      (jss_cons (js_if (jt_val (je_callB jb_isi (by rfl) T.m_isinstance (by decide +kernel) (ja_cons (je_var (pv 1)) (ja_cons (je_raw (pe_bltn (v := .ty "int") (u := .type "int") (by rfl) T.m_int (by decide +kernel) rfl)) ja_nil)))) (jss_one (js_ret (je_and (je_callB jb_isi (by rfl) T.m_isinstance (by decide +kernel) (ja_cons (je_var (pv 0)) (ja_cons (je_raw (pe_bltn (v := .ty "int") (u := .type "int") (by rfl) T.m_int (by decide +kernel) rfl)) ja_nil))) (je_and (je_not (je_callB jb_isi (by rfl) T.m_isinstance (by decide +kernel) (ja_cons (je_var (pv 0)) (ja_cons (je_raw (pe_bltn (v := .ty "bool") (u := .type "bool") (by rfl) T.m_bool (by decide +kernel) rfl)) ja_nil)))) (je_one (je_cmp (jo_eq hr.units) (je_var (pv 0)) (je_var (pv 1)) (nomark _))))))) jss_nil)
      (jss_cons (js_if (jt_val (je_callB jb_isi (by rfl) T.m_isinstance (by decide +kernel) (ja_cons (je_var (pv 1)) (ja_cons (je_raw (pe_bltn (v := .ty "str") (u := .type "str") (by rfl) T.m_str (by decide +kernel) rfl)) ja_nil)))) (jss_one (js_ret (je_and (je_callB jb_isi (by rfl) T.m_isinstance (by decide +kernel) (ja_cons (je_var (pv 0)) (ja_cons (je_raw (pe_bltn (v := .ty "str") (u := .type "str") (by rfl) T.m_str (by decide +kernel) rfl)) ja_nil))) (je_one (je_cmp (jo_eq hr.units) (je_var (pv 0)) (je_var (pv 1)) (nomark _)))))) jss_nil)
      (jss_cons (js_if (jt_w (jw_or (jt_cmp (jo_ne hr.units) (je_callB jb_isi (by rfl) T.m_isinstance (by decide +kernel) (ja_cons (je_var (pv 1)) (ja_cons (je_raw (pe_bltn (v := .ty "tuple") (u := .type "tuple") (by rfl) T.m_tuple (by decide +kernel) rfl)) ja_nil))) (je_callB jb_isi (by rfl) T.m_isinstance (by decide +kernel) (ja_cons (je_var (pv 0)) (ja_cons (je_raw (pe_bltn (v := .ty "tuple") (u := .type "tuple") (by rfl) T.m_tuple (by decide +kernel) rfl)) ja_nil))) (nomark _)) (jw_or1 (jt_cmp (jo_ne hr.units) (je_callB jb_isi (by rfl) T.m_isinstance (by decide +kernel) (ja_cons (je_var (pv 1)) (ja_cons (je_raw (pe_bltn (v := .ty "list") (u := .type "list") (by rfl) T.m_list (by decide +kernel) rfl)) ja_nil))) (je_callB jb_isi (by rfl) T.m_isinstance (by decide +kernel) (ja_cons (je_var (pv 0)) (ja_cons (je_raw (pe_bltn (v := .ty "list") (u := .type "list") (by rfl) T.m_list (by decide +kernel) rfl)) ja_nil))) (nomark _))))) (jss_one (js_ret je_bl)) jss_nil)
      (jss_cons (js_if (jt_cmp (jo_ne hr.units) (je_callB jb_len (by rfl) T.m_len PySem.boot_len (ja_cons (je_var (pv 0)) ja_nil)) (je_callB jb_len (by rfl) T.m_len PySem.boot_len (ja_cons (je_var (pv 1)) ja_nil)) (nomark _)) (jss_one (js_ret je_bl)) jss_nil)
      (jss_one (js_ret (je_callB (jb_all rfl) (by rfl) T.m_all (by decide +kernel) (ja_cons (je_lc (own := [("_law_at", 2)]) rfl sc_law_same.nd (ji_rg1 (by rfl) T.m_range (ja_cons (je_callB jb_len (by rfl) T.m_len PySem.boot_len (ja_cons (je_var (pv 1)) ja_nil)) ja_nil)) (blkOk_by (own := [("_law_at", 2)]) (N := N_law_same) (sc := defScope s_law_same) (by decide +kernel)) to_name (fun _ => (jg_name (i := 2) (pg_name (i := 2) sc_law_same.nd rfl (by first | exact Or.inl rfl | exact Or.inr rfl)) (ltr rfl))) (by decide) (fun _ => jts_nil) (fun _ => (je_call G_law_same (hr.mono (by omega)) (by rfl) T.g_law_same T.F_law_same.kp T.b_law_same passE0 (ja_cons (je_ix (jx_seq (units65 hr)) (je_var (pv 0)) (je_var (pv 2)) (fun _ _ => rfl)) (ja_cons (je_ix (jx_seq (units65 hr)) (je_var (pv 1)) (je_var (pv 2)) (fun _ _ => rfl)) ja_nil))))) ja_nil))))))))))
theorem ok_law_sizes (T : Top K mg w) : FnOk P w K mg base (L2.CX P w) 2 T.a_law_sizes T.fd_law_sizes ["_law_bag", "_law_mcasks", "_law_most"] (spW K T.cls T.fa W_law_sizes) := by
  have G_law_take := ok_law_take (P := P) (w := w) (base := base) T
  exact fn_w 3 4 T.F_law_sizes sc_law_sizes rfl rfl (by decide) fun cdv A outer s H E hr => (jss_one (js_ret (je_callT jb_tuple (by rfl) T.m_tuple (by decide +kernel) (ja_cons (je_lc (own := [("_law_mcask", 3)]) rfl sc_law_sizes.nd (ji_rg1 (by rfl) T.m_range (ja_cons (je_op (jo_add T.kl) je_int (je_call G_law_take (hr.mono (by omega)) (by rfl) T.g_law_take T.F_law_take.kp T.b_law_take passX (ja_cons (je_var (pv 0)) (ja_cons (je_var (pv 1)) ja_nil)))) ja_nil)) (blkOk_by (own := [("_law_mcask", 3)]) (N := N_law_sizes) (sc := defScope s_law_sizes) (by decide +kernel)) to_name (fun _ => (jg_name (i := 3) (pg_name (i := 3) sc_law_sizes.nd rfl (by first | exact Or.inl rfl | exact Or.inr rfl)) (ltr rfl))) (by decide) (fun _ => jts_nil) (fun _ => (je_op (jo_add T.kl) je_int (je_call G_law_take (hr.mono (by omega)) (by rfl) T.g_law_take T.F_law_take.kp T.b_law_take passE0 (ja_cons (je_var (pv 0)) (ja_cons (je_var (pv 2)) ja_nil)))))) ja_nil))))
theorem ok_law_any_sizes (T : Top K mg w) : FnOk P w K mg base (L2.CX P w) 3 T.a_law_any_sizes T.fd_law_any_sizes ["_law_bag"] (spW K T.cls T.fa W_law_any_sizes) := by
  have G_law_sizes := ok_law_sizes (P := P) (w := w) (base := base) T
  have G_law_pick := ok_law_pick (P := P) (w := w) (base := base) T
  exact fn_w 1 1 T.F_law_any_sizes sc_law_any_sizes rfl rfl (by decide) fun cdv A outer s H E hr => (jss_one (js_ret (je_call G_law_sizes (hr.mono (by omega)) (by rfl) T.g_law_sizes T.F_law_sizes.kp T.b_law_sizes passX (ja_cons (je_var (pv 0)) (ja_cons je_int (ja_cons (je_call G_law_pick (hr.mono (by omega)) (by rfl) T.g_law_pick T.F_law_pick.kp T.b_law_pick passX (ja_cons (je_var (pv 0)) (ja_cons (je_lst (ja_cons je_int (ja_cons je_int (ja_cons je_int (ja_cons je_int ja_nil))))) ja_nil))) ja_nil))))))
def Bods (P : Program) (w : World) (K : PySem.W.Frag) (mg : Str → Option Value) (base : Heap) (k : Nat) (cls fa : Nat → Addr) (tb : List (Addr × Str) → Prop) (tbl : List (Lam × ME)) : Prop := ∀ q ∈ tbl, lamOk q.1 = true ∧ NoArgs q.1 ∧ ∀ (L f c' : Addr) (A : Around) (outer : List PySem.Env) (s : Shared) (H : Hp) (E : XK), Room k (A.deeper (LamX.lamEnv (goneX P w K mg base q.1 L A s) q.1.scope s.heap.objs.size f c')) → XE (lamG P w K mg base q.1 L A outer s H E f c') ⟨q.1.N.length, E, cls, fa, tb⟩ q.1.body q.2
theorem Bods.app {P : Program} {w : World} {K : PySem.W.Frag} {mg : Str → Option Value} {base : Heap} {k : Nat} {cls fa : Nat → Addr} {tb : List (Addr × Str) → Prop} {t u : List (Lam × ME)} (h : Bods P w K mg base k cls fa tb t) (h2 : Bods P w K mg base k cls fa tb u) : Bods P w K mg base k cls fa tb (t ++ u) := fun q hq => (List.mem_append.mp hq).elim (h q) (h2 q)
theorem xe_clo_law_told {X : Cx} {S : Sg} (T : Top K mg w) {k : Nat} {tbl : List (Lam × ME)} {me : ME} {e : Expr} {p pos : Pos} (hK : X.K = K) (hmg : X.mg = mg) (hcls : S.cls = T.cls) (hg : Gl X "_law_told") (hr : Room (k + 2) X.A) (he : XE X S e me) (hb : Bods X.prog X.w X.K X.mg X.base k S.cls S.fa S.tb tbl)
    (hst : starEach [e] X.env = (false, eval e X.env) :: starEach [] X.env := by rfl) : XE X S (.Call (.Name "_law_told" p) [e] [] pos) (mToldC (rtWord "none") aft2 tbl me) := by
  subst hK hmg
  obtain ⟨oc2, od2, kV2, dc2, pm2, an2, cdv2, ct2, osl2, efd2, lk2, cd2⟩ := T.F_law_told.ex
  have bt := T.b_law_told
  rw [efd2] at lk2 bt
  exact xe_toldC (After := AfterT2 T) rt_word hg T.g_law_told T.F_law_told.kp lk2 cd2 bt sc_law_told rfl (Or.inl rfl) (fun q => .inr (gives_law_told T)) hr (hcls ▸ aft_ok2 T) he hb hst
theorem bod_law_doors_0 (T : Top K mg w) (L f c' : Addr) (A : Around) (outer : List PySem.Env) (s : Shared) (H : Hp) (E : XK) (hr2 : Room 7 (A.deeper (LamX.lamEnv (goneX P w K mg base lam_law_doors_0 L A s) lam_law_doors_0.scope s.heap.objs.size f c'))) : XE (lamG P w K mg base lam_law_doors_0 L A outer s H E f c') ⟨lam_law_doors_0.N.length, E, T.cls, T.fa, fun t => t = tabs_lam T⟩ lam_law_doors_0.body md_law_doors_0 := by
  have G_look_counts := ok_look_counts (P := P) (w := w) (base := base) T
  exact (xe_lft (je_call G_look_counts (hr2.mono (by omega)) (by rfl) T.g_look_counts T.F_look_counts.kp T.b_look_counts passLamJ (ja_cons (je_var (pv 0)) (ja_cons (je_tup (ja_cons (je_un ju_neg je_int) ja_nil)) ja_nil))))
theorem bod_law_doors_1 (T : Top K mg w) (L f c' : Addr) (A : Around) (outer : List PySem.Env) (s : Shared) (H : Hp) (E : XK) (hr2 : Room 7 (A.deeper (LamX.lamEnv (goneX P w K mg base lam_law_doors_1 L A s) lam_law_doors_1.scope s.heap.objs.size f c'))) : XE (lamG P w K mg base lam_law_doors_1 L A outer s H E f c') ⟨lam_law_doors_1.N.length, E, T.cls, T.fa, fun t => t = tabs_lam T⟩ lam_law_doors_1.body md_law_doors_1 := by
  have G_look_stand := ok_look_stand (P := P) (w := w) (base := base) T
  exact (xe_lft (je_call G_look_stand (hr2.mono (by omega)) (by rfl) T.g_look_stand T.F_look_stand.kp T.b_look_stand passLamJ (ja_cons (je_var (pv 0)) (ja_cons (je_tup (ja_cons je_int ja_nil)) ja_nil))))
theorem bod_law_doors_2 (T : Top K mg w) (L f c' : Addr) (A : Around) (outer : List PySem.Env) (s : Shared) (H : Hp) (E : XK) (hr2 : Room 7 (A.deeper (LamX.lamEnv (goneX P w K mg base lam_law_doors_2 L A s) lam_law_doors_2.scope s.heap.objs.size f c'))) : XE (lamG P w K mg base lam_law_doors_2 L A outer s H E f c') ⟨lam_law_doors_2.N.length, E, T.cls, T.fa, fun t => t = tabs_lam T⟩ lam_law_doors_2.body md_law_doors_2 := by
  have G_room := ok_room (P := P) (w := w) (base := base) T
  exact (xe_lft (je_call G_room (hr2.mono (by omega)) (by rfl) T.g_room T.F_room.kp T.b_room passLamJ (ja_cons (je_var (pv 0)) (ja_cons (je_tup (ja_cons (je_un ju_neg je_int) ja_nil)) ja_nil))))
theorem bod_law_doors_3 (T : Top K mg w) (L f c' : Addr) (A : Around) (outer : List PySem.Env) (s : Shared) (H : Hp) (E : XK) (hr2 : Room 7 (A.deeper (LamX.lamEnv (goneX P w K mg base lam_law_doors_3 L A s) lam_law_doors_3.scope s.heap.objs.size f c'))) : XE (lamG P w K mg base lam_law_doors_3 L A outer s H E f c') ⟨lam_law_doors_3.N.length, E, T.cls, T.fa, fun t => t = tabs_lam T⟩ lam_law_doors_3.body md_law_doors_3 := by
  have G_stand_of := ok_stand_of (P := P) (w := w) (base := base) T
  exact (xe_lft (je_call G_stand_of (hr2.mono (by omega)) (by rfl) T.g_stand_of T.F_stand_of.kp T.b_stand_of passLamJ (ja_cons (je_var (pv 0)) (ja_cons (je_tup (ja_cons (je_un ju_neg je_int) ja_nil)) ja_nil))))
theorem bod_law_doors_4 (T : Top K mg w) (L f c' : Addr) (A : Around) (outer : List PySem.Env) (s : Shared) (H : Hp) (E : XK) (hr2 : Room 7 (A.deeper (LamX.lamEnv (goneX P w K mg base lam_law_doors_4 L A s) lam_law_doors_4.scope s.heap.objs.size f c'))) : XE (lamG P w K mg base lam_law_doors_4 L A outer s H E f c') ⟨lam_law_doors_4.N.length, E, T.cls, T.fa, fun t => t = tabs_lam T⟩ lam_law_doors_4.body md_law_doors_4 := by
  have G_look_deed := ok_look_deed (P := P) (w := w) (base := base) T
  exact (xe_lft (je_call G_look_deed (hr2.mono (by omega)) (by rfl) T.g_look_deed T.F_look_deed.kp T.b_look_deed passLamJ (ja_cons (je_var (pv 0)) (ja_cons (je_tup ja_nil) ja_nil))))
theorem bod_law_doors_5 (T : Top K mg w) (L f c' : Addr) (A : Around) (outer : List PySem.Env) (s : Shared) (H : Hp) (E : XK) (hr2 : Room 7 (A.deeper (LamX.lamEnv (goneX P w K mg base lam_law_doors_5 L A s) lam_law_doors_5.scope s.heap.objs.size f c'))) : XE (lamG P w K mg base lam_law_doors_5 L A outer s H E f c') ⟨lam_law_doors_5.N.length, E, T.cls, T.fa, fun t => t = tabs_lam T⟩ lam_law_doors_5.body md_law_doors_5 := by
  have G_look_row := ok_look_row (P := P) (w := w) (base := base) T
  exact (xe_lft (je_call G_look_row (hr2.mono (by omega)) (by rfl) T.g_look_row T.F_look_row.kp T.b_look_row passLamJ (ja_cons (je_var (pv 0)) (ja_cons (je_lst (ja_cons (je_tup ja_nil) ja_nil)) ja_nil))))
theorem bod_law_doors_6 (T : Top K mg w) (L f c' : Addr) (A : Around) (outer : List PySem.Env) (s : Shared) (H : Hp) (E : XK) (hr2 : Room 7 (A.deeper (LamX.lamEnv (goneX P w K mg base lam_law_doors_6 L A s) lam_law_doors_6.scope s.heap.objs.size f c'))) : XE (lamG P w K mg base lam_law_doors_6 L A outer s H E f c') ⟨lam_law_doors_6.N.length, E, T.cls, T.fa, fun t => t = tabs_lam T⟩ lam_law_doors_6.body md_law_doors_6 := by
  have G_has_tap := ok_has_tap (P := P) (w := w) (base := base) T
  exact (xe_lft (je_call G_has_tap (hr2.mono (by omega)) (by rfl) T.g_has_tap T.F_has_tap.kp T.b_has_tap passLamJ (ja_cons (je_var (pv 0)) (ja_cons (je_lst (ja_cons (je_tup ja_nil) ja_nil)) ja_nil))))
theorem bod_law_doors_7 (T : Top K mg w) (L f c' : Addr) (A : Around) (outer : List PySem.Env) (s : Shared) (H : Hp) (E : XK) (hr2 : Room 7 (A.deeper (LamX.lamEnv (goneX P w K mg base lam_law_doors_7 L A s) lam_law_doors_7.scope s.heap.objs.size f c'))) : XE (lamG P w K mg base lam_law_doors_7 L A outer s H E f c') ⟨lam_law_doors_7.N.length, E, T.cls, T.fa, fun t => t = tabs_lam T⟩ lam_law_doors_7.body md_law_doors_7 := by
  have G_done := ok_done (P := P) (w := w) (base := base) T
  exact (xe_lft (je_call G_done (hr2.mono (by omega)) (by rfl) T.g_done T.F_done.kp T.b_done passLamJ (ja_cons (je_var (pv 0)) (ja_cons (je_tup (ja_cons je_int ja_nil)) (ja_cons (je_tup ja_nil) ja_nil)))))
theorem bod_law_doors_8 (T : Top K mg w) (L f c' : Addr) (A : Around) (outer : List PySem.Env) (s : Shared) (H : Hp) (E : XK) (hr2 : Room 7 (A.deeper (LamX.lamEnv (goneX P w K mg base lam_law_doors_8 L A s) lam_law_doors_8.scope s.heap.objs.size f c'))) : XE (lamG P w K mg base lam_law_doors_8 L A outer s H E f c') ⟨lam_law_doors_8.N.length, E, T.cls, T.fa, fun t => t = tabs_lam T⟩ lam_law_doors_8.body md_law_doors_8 := by
  have G_done_all := ok_done_all (P := P) (w := w) (base := base) T
  exact (xe_lft (je_call G_done_all (hr2.mono (by omega)) (by rfl) T.g_done_all T.F_done_all.kp T.b_done_all passLamJ (ja_cons (je_var (pv 0)) (ja_cons (je_tup (ja_cons je_int ja_nil)) (ja_cons (je_lst (ja_cons (je_tup ja_nil) ja_nil)) ja_nil)))))
theorem bod_law_doors_9 (T : Top K mg w) (L f c' : Addr) (A : Around) (outer : List PySem.Env) (s : Shared) (H : Hp) (E : XK) (hr2 : Room 7 (A.deeper (LamX.lamEnv (goneX P w K mg base lam_law_doors_9 L A s) lam_law_doors_9.scope s.heap.objs.size f c'))) : XE (lamG P w K mg base lam_law_doors_9 L A outer s H E f c') ⟨lam_law_doors_9.N.length, E, T.cls, T.fa, fun t => t = tabs_lam T⟩ lam_law_doors_9.body md_law_doors_9 := by
  have G_path := ok_path (P := P) (w := w) (base := base) T
  exact (xe_lft (je_call G_path (hr2.mono (by omega)) (by rfl) T.g_path T.F_path.kp T.b_path passLamJ (ja_cons (je_var (pv 0)) (ja_cons (je_tup (ja_cons je_int ja_nil)) (ja_cons (je_lst (ja_cons (je_tup ja_nil) ja_nil)) (ja_cons (je_un ju_neg je_int) ja_nil))))))
theorem bod_law_doors_10 (T : Top K mg w) (L f c' : Addr) (A : Around) (outer : List PySem.Env) (s : Shared) (H : Hp) (E : XK) (hr2 : Room 7 (A.deeper (LamX.lamEnv (goneX P w K mg base lam_law_doors_10 L A s) lam_law_doors_10.scope s.heap.objs.size f c'))) : XE (lamG P w K mg base lam_law_doors_10 L A outer s H E f c') ⟨lam_law_doors_10.N.length, E, T.cls, T.fa, fun t => t = tabs_lam T⟩ lam_law_doors_10.body md_law_doors_10 := by
  have G_poured := ok_poured (P := P) (w := w) (base := base) T
  exact (xe_lft (je_call G_poured (hr2.mono (by omega)) (by rfl) T.g_poured T.F_poured.kp T.b_poured passLamJ (ja_cons (je_var (pv 0)) (ja_cons (je_tup (ja_cons (je_un ju_neg je_int) ja_nil)) (ja_cons (je_tup ja_nil) ja_nil)))))
theorem bod_law_doors_11 (T : Top K mg w) (L f c' : Addr) (A : Around) (outer : List PySem.Env) (s : Shared) (H : Hp) (E : XK) (hr2 : Room 7 (A.deeper (LamX.lamEnv (goneX P w K mg base lam_law_doors_11 L A s) lam_law_doors_11.scope s.heap.objs.size f c'))) : XE (lamG P w K mg base lam_law_doors_11 L A outer s H E f c') ⟨lam_law_doors_11.N.length, E, T.cls, T.fa, fun t => t = tabs_lam T⟩ lam_law_doors_11.body md_law_doors_11 := by
  have G_poured_all := ok_poured_all (P := P) (w := w) (base := base) T
  exact (xe_lft (je_call G_poured_all (hr2.mono (by omega)) (by rfl) T.g_poured_all T.F_poured_all.kp T.b_poured_all passLamJ (ja_cons (je_var (pv 0)) (ja_cons (je_tup (ja_cons (je_un ju_neg je_int) ja_nil)) (ja_cons (je_lst (ja_cons (je_tup ja_nil) ja_nil)) ja_nil)))))
theorem bod_law_doors_12 (T : Top K mg w) (L f c' : Addr) (A : Around) (outer : List PySem.Env) (s : Shared) (H : Hp) (E : XK) (hr2 : Room 7 (A.deeper (LamX.lamEnv (goneX P w K mg base lam_law_doors_12 L A s) lam_law_doors_12.scope s.heap.objs.size f c'))) : XE (lamG P w K mg base lam_law_doors_12 L A outer s H E f c') ⟨lam_law_doors_12.N.length, E, T.cls, T.fa, fun t => t = tabs_lam T⟩ lam_law_doors_12.body md_law_doors_12 := by
  have G_by_counts := ok_by_counts (P := P) (w := w) (base := base) T
  exact (xe_lft (je_call G_by_counts (hr2.mono (by omega)) (by rfl) T.g_by_counts T.F_by_counts.kp T.b_by_counts passLamJ (ja_cons (je_var (pv 0)) (ja_cons (je_tup (ja_cons je_int ja_nil)) (ja_cons (je_lst (ja_cons (je_tup ja_nil) ja_nil)) ja_nil)))))
theorem bod_law_doors_13 (T : Top K mg w) (L f c' : Addr) (A : Around) (outer : List PySem.Env) (s : Shared) (H : Hp) (E : XK) (hr2 : Room 7 (A.deeper (LamX.lamEnv (goneX P w K mg base lam_law_doors_13 L A s) lam_law_doors_13.scope s.heap.objs.size f c'))) : XE (lamG P w K mg base lam_law_doors_13 L A outer s H E f c') ⟨lam_law_doors_13.N.length, E, T.cls, T.fa, fun t => t = tabs_lam T⟩ lam_law_doors_13.body md_law_doors_13 := by
  have G_one_more := ok_one_more (P := P) (w := w) (base := base) T
  exact (xe_lft (je_call G_one_more (hr2.mono (by omega)) (by rfl) T.g_one_more T.F_one_more.kp T.b_one_more passLamJ (ja_cons (je_var (pv 0)) (ja_cons (je_tup (ja_cons (je_un ju_neg je_int) ja_nil)) (ja_cons (je_lst (ja_cons (je_tup ja_nil) ja_nil)) ja_nil)))))
theorem bods_law_doors (T : Top K mg w) : Bods P w K mg base 7 T.cls T.fa (fun t => t = tabs_lam T) tbl_law_doors := List.forall_mem_cons.mpr ⟨⟨lamOk_law_doors_0, lamA_law_doors_0, bod_law_doors_0 T⟩, List.forall_mem_cons.mpr ⟨⟨lamOk_law_doors_1, lamA_law_doors_1, bod_law_doors_1 T⟩, List.forall_mem_cons.mpr ⟨⟨lamOk_law_doors_2, lamA_law_doors_2, bod_law_doors_2 T⟩, List.forall_mem_cons.mpr ⟨⟨lamOk_law_doors_3, lamA_law_doors_3, bod_law_doors_3 T⟩, List.forall_mem_cons.mpr ⟨⟨lamOk_law_doors_4, lamA_law_doors_4, bod_law_doors_4 T⟩, List.forall_mem_cons.mpr ⟨⟨lamOk_law_doors_5, lamA_law_doors_5, bod_law_doors_5 T⟩, List.forall_mem_cons.mpr ⟨⟨lamOk_law_doors_6, lamA_law_doors_6, bod_law_doors_6 T⟩, List.forall_mem_cons.mpr ⟨⟨lamOk_law_doors_7, lamA_law_doors_7, bod_law_doors_7 T⟩, List.forall_mem_cons.mpr ⟨⟨lamOk_law_doors_8, lamA_law_doors_8, bod_law_doors_8 T⟩, List.forall_mem_cons.mpr ⟨⟨lamOk_law_doors_9, lamA_law_doors_9, bod_law_doors_9 T⟩, List.forall_mem_cons.mpr ⟨⟨lamOk_law_doors_10, lamA_law_doors_10, bod_law_doors_10 T⟩, List.forall_mem_cons.mpr ⟨⟨lamOk_law_doors_11, lamA_law_doors_11, bod_law_doors_11 T⟩, List.forall_mem_cons.mpr ⟨⟨lamOk_law_doors_12, lamA_law_doors_12, bod_law_doors_12 T⟩, List.forall_mem_cons.mpr ⟨⟨lamOk_law_doors_13, lamA_law_doors_13, bod_law_doors_13 T⟩, fun _ h => by cases h⟩⟩⟩⟩⟩⟩⟩⟩⟩⟩⟩⟩⟩⟩
theorem bod_law_later_doors_0 (T : Top K mg w) (L f c' : Addr) (A : Around) (outer : List PySem.Env) (s : Shared) (H : Hp) (E : XK) (hr2 : Room 7 (A.deeper (LamX.lamEnv (goneX P w K mg base lam_law_later_doors_0 L A s) lam_law_later_doors_0.scope s.heap.objs.size f c'))) : XE (lamG P w K mg base lam_law_later_doors_0 L A outer s H E f c') ⟨lam_law_later_doors_0.N.length, E, T.cls, T.fa, fun t => t = tabs_lam T⟩ lam_law_later_doors_0.body md_law_later_doors_0 := by
  have G_behind := ok_behind (P := P) (w := w) (base := base) T
  exact (xe_lft (je_call G_behind (hr2.mono (by omega)) (by rfl) T.g_behind T.F_behind.kp T.b_behind passLamJ (ja_cons (je_var (pv 0)) (ja_cons (je_tup (ja_cons je_int ja_nil)) (ja_cons (je_lst (ja_cons (je_tup ja_nil) ja_nil)) (ja_cons (je_un ju_neg je_int) ja_nil))))))
theorem bod_law_later_doors_1 (T : Top K mg w) (L f c' : Addr) (A : Around) (outer : List PySem.Env) (s : Shared) (H : Hp) (E : XK) (hr2 : Room 7 (A.deeper (LamX.lamEnv (goneX P w K mg base lam_law_later_doors_1 L A s) lam_law_later_doors_1.scope s.heap.objs.size f c'))) : XE (lamG P w K mg base lam_law_later_doors_1 L A outer s H E f c') ⟨lam_law_later_doors_1.N.length, E, T.cls, T.fa, fun t => t = tabs_lam T⟩ lam_law_later_doors_1.body md_law_later_doors_1 := by
  have G_behind_counts := ok_behind_counts (P := P) (w := w) (base := base) T
  exact (xe_lft (je_call G_behind_counts (hr2.mono (by omega)) (by rfl) T.g_behind_counts T.F_behind_counts.kp T.b_behind_counts passLamJ (ja_cons (je_var (pv 0)) (ja_cons (je_tup (ja_cons (je_un ju_neg je_int) ja_nil)) (ja_cons (je_lst (ja_cons (je_tup ja_nil) ja_nil)) (ja_cons (je_un ju_neg je_int) ja_nil))))))
theorem bod_law_later_doors_2 (T : Top K mg w) (L f c' : Addr) (A : Around) (outer : List PySem.Env) (s : Shared) (H : Hp) (E : XK) (hr2 : Room 7 (A.deeper (LamX.lamEnv (goneX P w K mg base lam_law_later_doors_2 L A s) lam_law_later_doors_2.scope s.heap.objs.size f c'))) : XE (lamG P w K mg base lam_law_later_doors_2 L A outer s H E f c') ⟨lam_law_later_doors_2.N.length, E, T.cls, T.fa, fun t => t = tabs_lam T⟩ lam_law_later_doors_2.body md_law_later_doors_2 := by
  have G_ring := ok_ring (P := P) (w := w) (base := base) T
  exact (xe_lft (je_call G_ring (hr2.mono (by omega)) (by rfl) T.g_ring T.F_ring.kp T.b_ring passLamJ (ja_cons (je_var (pv 0)) (ja_cons (je_tup (ja_cons je_int ja_nil)) (ja_cons (je_lst (ja_cons (je_tup ja_nil) ja_nil)) ja_nil)))))
theorem bod_law_later_doors_3 (T : Top K mg w) (L f c' : Addr) (A : Around) (outer : List PySem.Env) (s : Shared) (H : Hp) (E : XK) (hr2 : Room 7 (A.deeper (LamX.lamEnv (goneX P w K mg base lam_law_later_doors_3 L A s) lam_law_later_doors_3.scope s.heap.objs.size f c'))) : XE (lamG P w K mg base lam_law_later_doors_3 L A outer s H E f c') ⟨lam_law_later_doors_3.N.length, E, T.cls, T.fa, fun t => t = tabs_lam T⟩ lam_law_later_doors_3.body md_law_later_doors_3 := by
  have G_ring_of_counts := ok_ring_of_counts (P := P) (w := w) (base := base) T
  exact (xe_lft (je_call G_ring_of_counts (hr2.mono (by omega)) (by rfl) T.g_ring_of_counts T.F_ring_of_counts.kp T.b_ring_of_counts passLamJ (ja_cons (je_var (pv 0)) (ja_cons (je_tup (ja_cons (je_un ju_neg je_int) ja_nil)) (ja_cons (je_lst (ja_cons (je_tup ja_nil) ja_nil)) ja_nil)))))
theorem bod_law_later_doors_4 (T : Top K mg w) (L f c' : Addr) (A : Around) (outer : List PySem.Env) (s : Shared) (H : Hp) (E : XK) (hr2 : Room 7 (A.deeper (LamX.lamEnv (goneX P w K mg base lam_law_later_doors_4 L A s) lam_law_later_doors_4.scope s.heap.objs.size f c'))) : XE (lamG P w K mg base lam_law_later_doors_4 L A outer s H E f c') ⟨lam_law_later_doors_4.N.length, E, T.cls, T.fa, fun t => t = tabs_lam T⟩ lam_law_later_doors_4.body md_law_later_doors_4 := by
  have G_turns := ok_turns (P := P) (w := w) (base := base) T
  exact (xe_lft (je_call G_turns (hr2.mono (by omega)) (by rfl) T.g_turns T.F_turns.kp T.b_turns passLamJ (ja_cons (je_var (pv 0)) (ja_cons (je_tup (ja_cons (je_un ju_neg je_int) ja_nil)) (ja_cons (je_lst (ja_cons (je_tup ja_nil) ja_nil)) ja_nil)))))
theorem bod_law_later_doors_5 (T : Top K mg w) (L f c' : Addr) (A : Around) (outer : List PySem.Env) (s : Shared) (H : Hp) (E : XK) (hr2 : Room 7 (A.deeper (LamX.lamEnv (goneX P w K mg base lam_law_later_doors_5 L A s) lam_law_later_doors_5.scope s.heap.objs.size f c'))) : XE (lamG P w K mg base lam_law_later_doors_5 L A outer s H E f c') ⟨lam_law_later_doors_5.N.length, E, T.cls, T.fa, fun t => t = tabs_lam T⟩ lam_law_later_doors_5.body md_law_later_doors_5 := by
  have G_ends := ok_ends (P := P) (w := w) (base := base) T
  exact (xe_lft (je_call G_ends (hr2.mono (by omega)) (by rfl) T.g_ends T.F_ends.kp T.b_ends passLamJ (ja_cons (je_var (pv 0)) (ja_cons (je_tup (ja_cons (je_un ju_neg je_int) ja_nil)) (ja_cons (je_lst (ja_cons (je_tup ja_nil) ja_nil)) ja_nil)))))
theorem bod_law_later_doors_6 (T : Top K mg w) (L f c' : Addr) (A : Around) (outer : List PySem.Env) (s : Shared) (H : Hp) (E : XK) (hr2 : Room 7 (A.deeper (LamX.lamEnv (goneX P w K mg base lam_law_later_doors_6 L A s) lam_law_later_doors_6.scope s.heap.objs.size f c'))) : XE (lamG P w K mg base lam_law_later_doors_6 L A outer s H E f c') ⟨lam_law_later_doors_6.N.length, E, T.cls, T.fa, fun t => t = tabs_lam T⟩ lam_law_later_doors_6.body md_law_later_doors_6 := by
  have G_kin := ok_kin (P := P) (w := w) (base := base) T
  exact (xe_lft (je_call G_kin (hr2.mono (by omega)) (by rfl) T.g_kin T.F_kin.kp T.b_kin passLamJ (ja_cons (je_var (pv 0)) (ja_cons (je_tup (ja_cons (je_un ju_neg je_int) ja_nil)) (ja_cons (je_lst (ja_cons (je_tup ja_nil) ja_nil)) ja_nil)))))
theorem bod_law_later_doors_7 (T : Top K mg w) (L f c' : Addr) (A : Around) (outer : List PySem.Env) (s : Shared) (H : Hp) (E : XK) (hr2 : Room 7 (A.deeper (LamX.lamEnv (goneX P w K mg base lam_law_later_doors_7 L A s) lam_law_later_doors_7.scope s.heap.objs.size f c'))) : XE (lamG P w K mg base lam_law_later_doors_7 L A outer s H E f c') ⟨lam_law_later_doors_7.N.length, E, T.cls, T.fa, fun t => t = tabs_lam T⟩ lam_law_later_doors_7.body md_law_later_doors_7 := by
  have G_kin_holds := ok_kin_holds (P := P) (w := w) (base := base) T
  exact (xe_lft (je_call G_kin_holds (hr2.mono (by omega)) (by rfl) T.g_kin_holds T.F_kin_holds.kp T.b_kin_holds passLamJ (ja_cons (je_var (pv 0)) (ja_cons (je_tup (ja_cons (je_un ju_neg je_int) ja_nil)) (ja_cons (je_lst (ja_cons (je_tup ja_nil) ja_nil)) (ja_cons (je_tup (ja_cons (je_tup ja_nil) (ja_cons (je_lst ja_nil) ja_nil))) ja_nil))))))
theorem bod_law_later_doors_8 (T : Top K mg w) (L f c' : Addr) (A : Around) (outer : List PySem.Env) (s : Shared) (H : Hp) (E : XK) (hr2 : Room 7 (A.deeper (LamX.lamEnv (goneX P w K mg base lam_law_later_doors_8 L A s) lam_law_later_doors_8.scope s.heap.objs.size f c'))) : XE (lamG P w K mg base lam_law_later_doors_8 L A outer s H E f c') ⟨lam_law_later_doors_8.N.length, E, T.cls, T.fa, fun t => t = tabs_lam T⟩ lam_law_later_doors_8.body md_law_later_doors_8 := by
  have G_meet := ok_meet (P := P) (w := w) (base := base) T
  exact (xe_lft (je_call G_meet (hr2.mono (by omega)) (by rfl) T.g_meet T.F_meet.kp T.b_meet passLamJ (ja_cons (je_var (pv 0)) (ja_cons (je_tup (ja_cons (je_un ju_neg je_int) ja_nil)) (ja_cons (je_tup (ja_cons (je_un ju_neg je_int) ja_nil)) (ja_cons (je_lst (ja_cons (je_tup ja_nil) ja_nil)) ja_nil))))))
theorem bod_law_later_doors_9 (T : Top K mg w) (L f c' : Addr) (A : Around) (outer : List PySem.Env) (s : Shared) (H : Hp) (E : XK) (hr2 : Room 7 (A.deeper (LamX.lamEnv (goneX P w K mg base lam_law_later_doors_9 L A s) lam_law_later_doors_9.scope s.heap.objs.size f c'))) : XE (lamG P w K mg base lam_law_later_doors_9 L A outer s H E f c') ⟨lam_law_later_doors_9.N.length, E, T.cls, T.fa, fun t => t = tabs_lam T⟩ lam_law_later_doors_9.body md_law_later_doors_9 := by
  have G_apart_at_last := ok_apart_at_last (P := P) (w := w) (base := base) T
  exact (xe_lft (je_call G_apart_at_last (hr2.mono (by omega)) (by rfl) T.g_apart_at_last T.F_apart_at_last.kp T.b_apart_at_last passLamJ (ja_cons (je_var (pv 0)) (ja_cons (je_tup (ja_cons (je_un ju_neg je_int) ja_nil)) (ja_cons (je_tup (ja_cons (je_un ju_neg je_int) ja_nil)) (ja_cons (je_lst (ja_cons (je_tup ja_nil) ja_nil)) ja_nil))))))
theorem bod_law_later_doors_10 (T : Top K mg w) (L f c' : Addr) (A : Around) (outer : List PySem.Env) (s : Shared) (H : Hp) (E : XK) (hr2 : Room 7 (A.deeper (LamX.lamEnv (goneX P w K mg base lam_law_later_doors_10 L A s) lam_law_later_doors_10.scope s.heap.objs.size f c'))) : XE (lamG P w K mg base lam_law_later_doors_10 L A outer s H E f c') ⟨lam_law_later_doors_10.N.length, E, T.cls, T.fa, fun t => t = tabs_lam T⟩ lam_law_later_doors_10.body md_law_later_doors_10 := by
  have G_when := ok_when (P := P) (w := w) (base := base) T
  obtain ⟨mv_when_d3_cask, H_when_d3_cask⟩ := B_when_d3_cask T
  exact (xe_lft (je_callKDN (is := [0, 1, 2, 3, 4]) (i := 1) G_when (hr2.mono (by omega)) (by rfl) T.g_when T.F_when.kp H_when_d3_cask passLamJ (ja_cons (je_var (pv 0)) (ja_cons (je_tup (ja_cons (je_un ju_neg je_int) ja_nil)) (ja_cons (je_lst (ja_cons (je_tup ja_nil) ja_nil)) ja_nil))) (jk_cons (je_un ju_neg je_int) jk_nil)))
theorem bod_law_later_doors_11 (T : Top K mg w) (L f c' : Addr) (A : Around) (outer : List PySem.Env) (s : Shared) (H : Hp) (E : XK) (hr2 : Room 7 (A.deeper (LamX.lamEnv (goneX P w K mg base lam_law_later_doors_11 L A s) lam_law_later_doors_11.scope s.heap.objs.size f c'))) : XE (lamG P w K mg base lam_law_later_doors_11 L A outer s H E f c') ⟨lam_law_later_doors_11.N.length, E, T.cls, T.fa, fun t => t = tabs_lam T⟩ lam_law_later_doors_11.body md_law_later_doors_11 := by
  have G_first_time := ok_first_time (P := P) (w := w) (base := base) T
  obtain ⟨mv_first_time_d3_cask, H_first_time_d3_cask⟩ := B_first_time_d3_cask T
  exact (xe_lft (je_callKDN (is := [0, 1, 2, 3, 4]) (i := 1) G_first_time (hr2.mono (by omega)) (by rfl) T.g_first_time T.F_first_time.kp H_first_time_d3_cask passLamJ (ja_cons (je_var (pv 0)) (ja_cons (je_tup (ja_cons (je_un ju_neg je_int) ja_nil)) (ja_cons (je_lst (ja_cons (je_tup ja_nil) ja_nil)) ja_nil))) (jk_cons (je_un ju_neg je_int) jk_nil)))
theorem bod_law_later_doors_12 (T : Top K mg w) (L f c' : Addr) (A : Around) (outer : List PySem.Env) (s : Shared) (H : Hp) (E : XK) (hr2 : Room 7 (A.deeper (LamX.lamEnv (goneX P w K mg base lam_law_later_doors_12 L A s) lam_law_later_doors_12.scope s.heap.objs.size f c'))) : XE (lamG P w K mg base lam_law_later_doors_12 L A outer s H E f c') ⟨lam_law_later_doors_12.N.length, E, T.cls, T.fa, fun t => t = tabs_lam T⟩ lam_law_later_doors_12.body md_law_later_doors_12 := by
  have G_never := ok_never (P := P) (w := w) (base := base) T
  obtain ⟨mv_never_d3_cask, H_never_d3_cask⟩ := B_never_d3_cask T
  exact (xe_lft (je_callKDN (is := [0, 1, 2, 3, 4]) (i := 1) G_never (hr2.mono (by omega)) (by rfl) T.g_never T.F_never.kp H_never_d3_cask passLamJ (ja_cons (je_var (pv 0)) (ja_cons (je_tup (ja_cons (je_un ju_neg je_int) ja_nil)) (ja_cons (je_lst (ja_cons (je_tup ja_nil) ja_nil)) ja_nil))) (jk_cons (je_un ju_neg je_int) jk_nil)))
theorem bod_law_later_doors_13 (T : Top K mg w) (L f c' : Addr) (A : Around) (outer : List PySem.Env) (s : Shared) (H : Hp) (E : XK) (hr2 : Room 7 (A.deeper (LamX.lamEnv (goneX P w K mg base lam_law_later_doors_13 L A s) lam_law_later_doors_13.scope s.heap.objs.size f c'))) : XE (lamG P w K mg base lam_law_later_doors_13 L A outer s H E f c') ⟨lam_law_later_doors_13.N.length, E, T.cls, T.fa, fun t => t = tabs_lam T⟩ lam_law_later_doors_13.body md_law_later_doors_13 := by
  have G_never_holds := ok_never_holds (P := P) (w := w) (base := base) T
  obtain ⟨mv_never_holds_d4_cask, H_never_holds_d4_cask⟩ := B_never_holds_d4_cask T
  exact (xe_lft (je_callKDN (is := [0, 1, 2, 3, 4, 5]) (i := 1) G_never_holds (hr2.mono (by omega)) (by rfl) T.g_never_holds T.F_never_holds.kp H_never_holds_d4_cask passLamJ (ja_cons (je_var (pv 0)) (ja_cons (je_tup (ja_cons (je_un ju_neg je_int) ja_nil)) (ja_cons (je_lst (ja_cons (je_tup ja_nil) ja_nil)) (ja_cons (je_tup (ja_cons (je_lst ja_nil) (ja_cons (je_tup ja_nil) ja_nil))) ja_nil)))) (jk_cons (je_un ju_neg je_int) jk_nil)))
theorem bods_law_later_doors (T : Top K mg w) : Bods P w K mg base 7 T.cls T.fa (fun t => t = tabs_lam T) tbl_law_later_doors := List.forall_mem_cons.mpr ⟨⟨lamOk_law_later_doors_0, lamA_law_later_doors_0, bod_law_later_doors_0 T⟩, List.forall_mem_cons.mpr ⟨⟨lamOk_law_later_doors_1, lamA_law_later_doors_1, bod_law_later_doors_1 T⟩, List.forall_mem_cons.mpr ⟨⟨lamOk_law_later_doors_2, lamA_law_later_doors_2, bod_law_later_doors_2 T⟩, List.forall_mem_cons.mpr ⟨⟨lamOk_law_later_doors_3, lamA_law_later_doors_3, bod_law_later_doors_3 T⟩, List.forall_mem_cons.mpr ⟨⟨lamOk_law_later_doors_4, lamA_law_later_doors_4, bod_law_later_doors_4 T⟩, List.forall_mem_cons.mpr ⟨⟨lamOk_law_later_doors_5, lamA_law_later_doors_5, bod_law_later_doors_5 T⟩, List.forall_mem_cons.mpr ⟨⟨lamOk_law_later_doors_6, lamA_law_later_doors_6, bod_law_later_doors_6 T⟩, List.forall_mem_cons.mpr ⟨⟨lamOk_law_later_doors_7, lamA_law_later_doors_7, bod_law_later_doors_7 T⟩, List.forall_mem_cons.mpr ⟨⟨lamOk_law_later_doors_8, lamA_law_later_doors_8, bod_law_later_doors_8 T⟩, List.forall_mem_cons.mpr ⟨⟨lamOk_law_later_doors_9, lamA_law_later_doors_9, bod_law_later_doors_9 T⟩, List.forall_mem_cons.mpr ⟨⟨lamOk_law_later_doors_10, lamA_law_later_doors_10, bod_law_later_doors_10 T⟩, List.forall_mem_cons.mpr ⟨⟨lamOk_law_later_doors_11, lamA_law_later_doors_11, bod_law_later_doors_11 T⟩, List.forall_mem_cons.mpr ⟨⟨lamOk_law_later_doors_12, lamA_law_later_doors_12, bod_law_later_doors_12 T⟩, List.forall_mem_cons.mpr ⟨⟨lamOk_law_later_doors_13, lamA_law_later_doors_13, bod_law_later_doors_13 T⟩, fun _ h => by cases h⟩⟩⟩⟩⟩⟩⟩⟩⟩⟩⟩⟩⟩⟩
theorem bods_law_doors_law_later_doors (T : Top K mg w) : Bods P w K mg base 7 T.cls T.fa (fun t => t = tabs_lam T) (tbl_law_doors ++ tbl_law_later_doors) := Bods.app (bods_law_doors T) (bods_law_later_doors T)
theorem ok_law_doors (T : Top K mg w) (TB : LamX.TabB base mg T.k_law_doors T.P_law_doors) : FnOk P w K mg base (L2.CX P w) 6 T.a_law_doors T.fd_law_doors ["_law_odd"] (spM K T.cls T.fa (fun t => t = tabs_lam T) W_law_doors) :=
  (fn_asks (k := 0) 1 1 (ss := (defBody s_law_doors).dropLast) T.L_law_doors sc_law_doors rfl rfl rfl (by first | exact Or.inl rfl | exact Or.inr rfl) rfl rfl fun A outer s H E hr => (show XSs _ _ _ (mSeq (mAsg 1 (mLstM (mCons (mLam lam_law_doors_0) mNil)))
    (mSeq (mExpr (mApp (mVar 1) (mLam lam_law_doors_1)))
    (mSeq (mExpr (mApp (mVar 1) (mLam lam_law_doors_2)))
    (mSeq (mExpr (mApp (mVar 1) (mLam lam_law_doors_3)))
    (mSeq (mExpr (mApp (mVar 1) (mLam lam_law_doors_4)))
    (mSeq (mExpr (mApp (mVar 1) (mLam lam_law_doors_5)))
    (mSeq (mExpr (mApp (mVar 1) (mLam lam_law_doors_6)))
    (mSeq (mExpr (mApp (mVar 1) (mLam lam_law_doors_7)))
    (mSeq (mExpr (mApp (mVar 1) (mLam lam_law_doors_8)))
    (mSeq (mExpr (mApp (mVar 1) (mLam lam_law_doors_9)))
    (mSeq (mExpr (mApp (mVar 1) (mLam lam_law_doors_10)))
    (mSeq (mExpr (mApp (mVar 1) (mLam lam_law_doors_11)))
    (mSeq (mExpr (mApp (mVar 1) (mLam lam_law_doors_12)))
    (mExpr (mApp (mVar 1) (mLam lam_law_doors_13)))))))))))))))) from (xss_cons (xs_set sc_law_doors.nd rfl (ltr rfl) (xe_lstM (xa_cons (xe_mk (l := lam_law_doors_0) TB rfl (List.mem_cons_self ..) (tabs_one_law_doors T) (fun _ h => h) (LamX.lamS_by (sc := defScope s_law_doors) (by decide +kernel)) rfl rfl rfl rfl rfl rfl) xa_nil)) (fun _ h => ps_set (i := 1) sc_law_doors.nd rfl (by first | exact Or.inl rfl | exact Or.inr rfl) h))
      (xss_cons (xs_expr (xe_app (xe_var (pv 1)) (xe_mk (l := lam_law_doors_1) TB rfl (List.mem_cons_self ..) (tabs_one_law_doors T) (fun _ h => h) (LamX.lamS_by (sc := defScope s_law_doors) (by decide +kernel)) rfl rfl rfl rfl rfl rfl) (fun _ _ h1 h2 => pe_bm PySem.F.plainAttrs_list PySem.F.slot_list_append PySem.F.type_list_append mt_append h1 (pa_cons h2 pa_nil))))
      (xss_cons (xs_expr (xe_app (xe_var (pv 1)) (xe_mk (l := lam_law_doors_2) TB rfl (List.mem_cons_self ..) (tabs_one_law_doors T) (fun _ h => h) (LamX.lamS_by (sc := defScope s_law_doors) (by decide +kernel)) rfl rfl rfl rfl rfl rfl) (fun _ _ h1 h2 => pe_bm PySem.F.plainAttrs_list PySem.F.slot_list_append PySem.F.type_list_append mt_append h1 (pa_cons h2 pa_nil))))
      (xss_cons (xs_expr (xe_app (xe_var (pv 1)) (xe_mk (l := lam_law_doors_3) TB rfl (List.mem_cons_self ..) (tabs_one_law_doors T) (fun _ h => h) (LamX.lamS_by (sc := defScope s_law_doors) (by decide +kernel)) rfl rfl rfl rfl rfl rfl) (fun _ _ h1 h2 => pe_bm PySem.F.plainAttrs_list PySem.F.slot_list_append PySem.F.type_list_append mt_append h1 (pa_cons h2 pa_nil))))
      (xss_cons (xs_expr (xe_app (xe_var (pv 1)) (xe_mk (l := lam_law_doors_4) TB rfl (List.mem_cons_self ..) (tabs_one_law_doors T) (fun _ h => h) (LamX.lamS_by (sc := defScope s_law_doors) (by decide +kernel)) rfl rfl rfl rfl rfl rfl) (fun _ _ h1 h2 => pe_bm PySem.F.plainAttrs_list PySem.F.slot_list_append PySem.F.type_list_append mt_append h1 (pa_cons h2 pa_nil))))
      (xss_cons (xs_expr (xe_app (xe_var (pv 1)) (xe_mk (l := lam_law_doors_5) TB rfl (List.mem_cons_self ..) (tabs_one_law_doors T) (fun _ h => h) (LamX.lamS_by (sc := defScope s_law_doors) (by decide +kernel)) rfl rfl rfl rfl rfl rfl) (fun _ _ h1 h2 => pe_bm PySem.F.plainAttrs_list PySem.F.slot_list_append PySem.F.type_list_append mt_append h1 (pa_cons h2 pa_nil))))
      (xss_cons (xs_expr (xe_app (xe_var (pv 1)) (xe_mk (l := lam_law_doors_6) TB rfl (List.mem_cons_self ..) (tabs_one_law_doors T) (fun _ h => h) (LamX.lamS_by (sc := defScope s_law_doors) (by decide +kernel)) rfl rfl rfl rfl rfl rfl) (fun _ _ h1 h2 => pe_bm PySem.F.plainAttrs_list PySem.F.slot_list_append PySem.F.type_list_append mt_append h1 (pa_cons h2 pa_nil))))
      (xss_cons (xs_expr (xe_app (xe_var (pv 1)) (xe_mk (l := lam_law_doors_7) TB rfl (List.mem_cons_self ..) (tabs_one_law_doors T) (fun _ h => h) (LamX.lamS_by (sc := defScope s_law_doors) (by decide +kernel)) rfl rfl rfl rfl rfl rfl) (fun _ _ h1 h2 => pe_bm PySem.F.plainAttrs_list PySem.F.slot_list_append PySem.F.type_list_append mt_append h1 (pa_cons h2 pa_nil))))
      (xss_cons (xs_expr (xe_app (xe_var (pv 1)) (xe_mk (l := lam_law_doors_8) TB rfl (List.mem_cons_self ..) (tabs_one_law_doors T) (fun _ h => h) (LamX.lamS_by (sc := defScope s_law_doors) (by decide +kernel)) rfl rfl rfl rfl rfl rfl) (fun _ _ h1 h2 => pe_bm PySem.F.plainAttrs_list PySem.F.slot_list_append PySem.F.type_list_append mt_append h1 (pa_cons h2 pa_nil))))
      (xss_cons (xs_expr (xe_app (xe_var (pv 1)) (xe_mk (l := lam_law_doors_9) TB rfl (List.mem_cons_self ..) (tabs_one_law_doors T) (fun _ h => h) (LamX.lamS_by (sc := defScope s_law_doors) (by decide +kernel)) rfl rfl rfl rfl rfl rfl) (fun _ _ h1 h2 => pe_bm PySem.F.plainAttrs_list PySem.F.slot_list_append PySem.F.type_list_append mt_append h1 (pa_cons h2 pa_nil))))
      (xss_cons (xs_expr (xe_app (xe_var (pv 1)) (xe_mk (l := lam_law_doors_10) TB rfl (List.mem_cons_self ..) (tabs_one_law_doors T) (fun _ h => h) (LamX.lamS_by (sc := defScope s_law_doors) (by decide +kernel)) rfl rfl rfl rfl rfl rfl) (fun _ _ h1 h2 => pe_bm PySem.F.plainAttrs_list PySem.F.slot_list_append PySem.F.type_list_append mt_append h1 (pa_cons h2 pa_nil))))
      (xss_cons (xs_expr (xe_app (xe_var (pv 1)) (xe_mk (l := lam_law_doors_11) TB rfl (List.mem_cons_self ..) (tabs_one_law_doors T) (fun _ h => h) (LamX.lamS_by (sc := defScope s_law_doors) (by decide +kernel)) rfl rfl rfl rfl rfl rfl) (fun _ _ h1 h2 => pe_bm PySem.F.plainAttrs_list PySem.F.slot_list_append PySem.F.type_list_append mt_append h1 (pa_cons h2 pa_nil))))
      (xss_cons (xs_expr (xe_app (xe_var (pv 1)) (xe_mk (l := lam_law_doors_12) TB rfl (List.mem_cons_self ..) (tabs_one_law_doors T) (fun _ h => h) (LamX.lamS_by (sc := defScope s_law_doors) (by decide +kernel)) rfl rfl rfl rfl rfl rfl) (fun _ _ h1 h2 => pe_bm PySem.F.plainAttrs_list PySem.F.slot_list_append PySem.F.type_list_append mt_append h1 (pa_cons h2 pa_nil))))
      (xss_one (xs_expr (xe_app (xe_var (pv 1)) (xe_mk (l := lam_law_doors_13) TB rfl (List.mem_cons_self ..) (tabs_one_law_doors T) (fun _ h => h) (LamX.lamS_by (sc := defScope s_law_doors) (by decide +kernel)) rfl rfl rfl rfl rfl rfl) (fun _ _ h1 h2 => pe_bm PySem.F.plainAttrs_list PySem.F.slot_list_append PySem.F.type_list_append mt_append h1 (pa_cons h2 pa_nil)))))))))))))))))))).mono (by omega)
theorem ok_law_later_doors (T : Top K mg w) (TB : LamX.TabB base mg T.k_law_later_doors T.P_law_later_doors) : FnOk P w K mg base (L2.CX P w) 8 T.a_law_later_doors T.fd_law_later_doors ["_law_odd"] (spM K T.cls T.fa (fun t => t = tabs_lam T) W_law_later_doors) :=
  (fn_asks (k := 0) 1 1 (ss := (defBody s_law_later_doors).dropLast) T.L_law_later_doors sc_law_later_doors rfl rfl rfl (by first | exact Or.inl rfl | exact Or.inr rfl) rfl rfl fun A outer s H E hr => (show XSs _ _ _ (mSeq (mAsg 1 (mLstM (mCons (mLam lam_law_later_doors_0) mNil)))
    (mSeq (mExpr (mApp (mVar 1) (mLam lam_law_later_doors_1)))
    (mSeq (mExpr (mApp (mVar 1) (mLam lam_law_later_doors_2)))
    (mSeq (mExpr (mApp (mVar 1) (mLam lam_law_later_doors_3)))
    (mSeq (mExpr (mApp (mVar 1) (mLam lam_law_later_doors_4)))
    (mSeq (mExpr (mApp (mVar 1) (mLam lam_law_later_doors_5)))
    (mSeq (mExpr (mApp (mVar 1) (mLam lam_law_later_doors_6)))
    (mSeq (mExpr (mApp (mVar 1) (mLam lam_law_later_doors_7)))
    (mSeq (mExpr (mApp (mVar 1) (mLam lam_law_later_doors_8)))
    (mSeq (mExpr (mApp (mVar 1) (mLam lam_law_later_doors_9)))
    (mSeq (mExpr (mApp (mVar 1) (mLam lam_law_later_doors_10)))
    (mSeq (mExpr (mApp (mVar 1) (mLam lam_law_later_doors_11)))
    (mSeq (mExpr (mApp (mVar 1) (mLam lam_law_later_doors_12)))
    (mExpr (mApp (mVar 1) (mLam lam_law_later_doors_13)))))))))))))))) from (xss_cons (xs_set sc_law_later_doors.nd rfl (ltr rfl) (xe_lstM (xa_cons (xe_mk (l := lam_law_later_doors_0) TB rfl (List.mem_cons_of_mem _ (List.mem_cons_self ..)) (tabs_one_law_later_doors T) (fun _ h => h) (LamX.lamS_by (sc := defScope s_law_later_doors) (by decide +kernel)) rfl rfl rfl rfl rfl rfl) xa_nil)) (fun _ h => ps_set (i := 1) sc_law_later_doors.nd rfl (by first | exact Or.inl rfl | exact Or.inr rfl) h))
      (xss_cons (xs_expr (xe_app (xe_var (pv 1)) (xe_mk (l := lam_law_later_doors_1) TB rfl (List.mem_cons_of_mem _ (List.mem_cons_self ..)) (tabs_one_law_later_doors T) (fun _ h => h) (LamX.lamS_by (sc := defScope s_law_later_doors) (by decide +kernel)) rfl rfl rfl rfl rfl rfl) (fun _ _ h1 h2 => pe_bm PySem.F.plainAttrs_list PySem.F.slot_list_append PySem.F.type_list_append mt_append h1 (pa_cons h2 pa_nil))))
      (xss_cons (xs_expr (xe_app (xe_var (pv 1)) (xe_mk (l := lam_law_later_doors_2) TB rfl (List.mem_cons_of_mem _ (List.mem_cons_self ..)) (tabs_one_law_later_doors T) (fun _ h => h) (LamX.lamS_by (sc := defScope s_law_later_doors) (by decide +kernel)) rfl rfl rfl rfl rfl rfl) (fun _ _ h1 h2 => pe_bm PySem.F.plainAttrs_list PySem.F.slot_list_append PySem.F.type_list_append mt_append h1 (pa_cons h2 pa_nil))))
      (xss_cons (xs_expr (xe_app (xe_var (pv 1)) (xe_mk (l := lam_law_later_doors_3) TB rfl (List.mem_cons_of_mem _ (List.mem_cons_self ..)) (tabs_one_law_later_doors T) (fun _ h => h) (LamX.lamS_by (sc := defScope s_law_later_doors) (by decide +kernel)) rfl rfl rfl rfl rfl rfl) (fun _ _ h1 h2 => pe_bm PySem.F.plainAttrs_list PySem.F.slot_list_append PySem.F.type_list_append mt_append h1 (pa_cons h2 pa_nil))))
      (xss_cons (xs_expr (xe_app (xe_var (pv 1)) (xe_mk (l := lam_law_later_doors_4) TB rfl (List.mem_cons_of_mem _ (List.mem_cons_self ..)) (tabs_one_law_later_doors T) (fun _ h => h) (LamX.lamS_by (sc := defScope s_law_later_doors) (by decide +kernel)) rfl rfl rfl rfl rfl rfl) (fun _ _ h1 h2 => pe_bm PySem.F.plainAttrs_list PySem.F.slot_list_append PySem.F.type_list_append mt_append h1 (pa_cons h2 pa_nil))))
      (xss_cons (xs_expr (xe_app (xe_var (pv 1)) (xe_mk (l := lam_law_later_doors_5) TB rfl (List.mem_cons_of_mem _ (List.mem_cons_self ..)) (tabs_one_law_later_doors T) (fun _ h => h) (LamX.lamS_by (sc := defScope s_law_later_doors) (by decide +kernel)) rfl rfl rfl rfl rfl rfl) (fun _ _ h1 h2 => pe_bm PySem.F.plainAttrs_list PySem.F.slot_list_append PySem.F.type_list_append mt_append h1 (pa_cons h2 pa_nil))))
      (xss_cons (xs_expr (xe_app (xe_var (pv 1)) (xe_mk (l := lam_law_later_doors_6) TB rfl (List.mem_cons_of_mem _ (List.mem_cons_self ..)) (tabs_one_law_later_doors T) (fun _ h => h) (LamX.lamS_by (sc := defScope s_law_later_doors) (by decide +kernel)) rfl rfl rfl rfl rfl rfl) (fun _ _ h1 h2 => pe_bm PySem.F.plainAttrs_list PySem.F.slot_list_append PySem.F.type_list_append mt_append h1 (pa_cons h2 pa_nil))))
      (xss_cons (xs_expr (xe_app (xe_var (pv 1)) (xe_mk (l := lam_law_later_doors_7) TB rfl (List.mem_cons_of_mem _ (List.mem_cons_self ..)) (tabs_one_law_later_doors T) (fun _ h => h) (LamX.lamS_by (sc := defScope s_law_later_doors) (by decide +kernel)) rfl rfl rfl rfl rfl rfl) (fun _ _ h1 h2 => pe_bm PySem.F.plainAttrs_list PySem.F.slot_list_append PySem.F.type_list_append mt_append h1 (pa_cons h2 pa_nil))))
      (xss_cons (xs_expr (xe_app (xe_var (pv 1)) (xe_mk (l := lam_law_later_doors_8) TB rfl (List.mem_cons_of_mem _ (List.mem_cons_self ..)) (tabs_one_law_later_doors T) (fun _ h => h) (LamX.lamS_by (sc := defScope s_law_later_doors) (by decide +kernel)) rfl rfl rfl rfl rfl rfl) (fun _ _ h1 h2 => pe_bm PySem.F.plainAttrs_list PySem.F.slot_list_append PySem.F.type_list_append mt_append h1 (pa_cons h2 pa_nil))))
      (xss_cons (xs_expr (xe_app (xe_var (pv 1)) (xe_mk (l := lam_law_later_doors_9) TB rfl (List.mem_cons_of_mem _ (List.mem_cons_self ..)) (tabs_one_law_later_doors T) (fun _ h => h) (LamX.lamS_by (sc := defScope s_law_later_doors) (by decide +kernel)) rfl rfl rfl rfl rfl rfl) (fun _ _ h1 h2 => pe_bm PySem.F.plainAttrs_list PySem.F.slot_list_append PySem.F.type_list_append mt_append h1 (pa_cons h2 pa_nil))))
      (xss_cons (xs_expr (xe_app (xe_var (pv 1)) (xe_mk (l := lam_law_later_doors_10) TB rfl (List.mem_cons_of_mem _ (List.mem_cons_self ..)) (tabs_one_law_later_doors T) (fun _ h => h) (LamX.lamS_by (sc := defScope s_law_later_doors) (by decide +kernel)) rfl rfl rfl rfl rfl rfl) (fun _ _ h1 h2 => pe_bm PySem.F.plainAttrs_list PySem.F.slot_list_append PySem.F.type_list_append mt_append h1 (pa_cons h2 pa_nil))))
      (xss_cons (xs_expr (xe_app (xe_var (pv 1)) (xe_mk (l := lam_law_later_doors_11) TB rfl (List.mem_cons_of_mem _ (List.mem_cons_self ..)) (tabs_one_law_later_doors T) (fun _ h => h) (LamX.lamS_by (sc := defScope s_law_later_doors) (by decide +kernel)) rfl rfl rfl rfl rfl rfl) (fun _ _ h1 h2 => pe_bm PySem.F.plainAttrs_list PySem.F.slot_list_append PySem.F.type_list_append mt_append h1 (pa_cons h2 pa_nil))))
      (xss_cons (xs_expr (xe_app (xe_var (pv 1)) (xe_mk (l := lam_law_later_doors_12) TB rfl (List.mem_cons_of_mem _ (List.mem_cons_self ..)) (tabs_one_law_later_doors T) (fun _ h => h) (LamX.lamS_by (sc := defScope s_law_later_doors) (by decide +kernel)) rfl rfl rfl rfl rfl rfl) (fun _ _ h1 h2 => pe_bm PySem.F.plainAttrs_list PySem.F.slot_list_append PySem.F.type_list_append mt_append h1 (pa_cons h2 pa_nil))))
      (xss_one (xs_expr (xe_app (xe_var (pv 1)) (xe_mk (l := lam_law_later_doors_13) TB rfl (List.mem_cons_of_mem _ (List.mem_cons_self ..)) (tabs_one_law_later_doors T) (fun _ h => h) (LamX.lamS_by (sc := defScope s_law_later_doors) (by decide +kernel)) rfl rfl rfl rfl rfl rfl) (fun _ _ h1 h2 => pe_bm PySem.F.plainAttrs_list PySem.F.slot_list_append PySem.F.type_list_append mt_append h1 (pa_cons h2 pa_nil)))))))))))))))))))).mono (by omega)
end
end Lw
namespace Lw
open PySem PySem.Spec PyProof.Rows L2 DL DW DM
local macro_rules | `(tactic| walk_at "kb") => `(tactic| ((try simp only [isN_b, isN_i, isN_s, isN_l, isN_t, if_false, ite_false, Bool.false_eq_true]) <;> try simp only [tyN, kb_NoneType_bool, kb_NoneType_int, kb_NoneType_str, kb_NoneType_tuple, kb_NoneType_list, kb_bool_bool, kb_bool_int, kb_bool_str, kb_bool_tuple, kb_bool_list, kb_int_bool, kb_int_int, kb_int_str, kb_int_tuple, kb_int_list, kb_str_bool, kb_str_int, kb_str_str, kb_str_tuple, kb_str_list, kb_list_bool, kb_list_int, kb_list_str, kb_list_tuple, kb_list_list, kb_tuple_bool, kb_tuple_int, kb_tuple_str, kb_tuple_tuple, kb_tuple_list, decide_true, decide_false, Bool.not_true, Bool.not_false, if_true, if_false, ite_true, ite_false, Bool.false_eq_true, reduceCtorEq]))
local macro_rules | `(tactic| walk_at "nx") => `(tactic| ((try simp only [later]) <;> walk_at "dws"))
local macro_rules | `(tactic| walk_at "dws") => `(tactic| ((try simp only [wFn, List.length_cons, List.length_nil, Nat.reduceAdd, true_and, Nat.reduceSub, List.replicate_succ, List.replicate_zero, List.append_nil, List.cons_append, List.nil_append, List.map_cons, List.map_nil]) <;> try simp only [wFn, dSeq, dIfS, dNext, dAsg, dPar, dRet, dRetV, dRetN, dExpr, dBrk, dCnt, dFor, dFrz, frzAt, dAsgG, dGName, dGSub, dGNil, dGCons, dGTup, dAugI, dAug, dApp, dExt, dRaise, dVar, dC, dBin, dUn, dChain, dTst, dAnd, dOr, dNot, dYes, dAndV, dOrV, dNotV, dIfE, dNil, dCons, dTup, dLst, dats, dNone, dSome, dSl, oCut, dCall, dCb, dLrg, pk, dCallK, dTab, dCallV, dISeq, dIRg1, dIRg2, dIZip, dIEnum, tfName, tfPair, dLc, lcStep, Cn.no, dCount, scVs, scV, oAdd, oSub, oMul, oMod, oDiv, oCmp, oNeg, oEq, toD, oIsN, oIx, seqD, lstD, bLen, bTuple, bList, bAbs, bMin, bMax, bSum, bAll, bAny, bSorted, bIsi, fz, isPl_dat, isPl_raw, isPl_bag, oIn, flD, List.map_cons, List.map_nil, List.cons_append, List.nil_append, List.append_nil, List.getElem?_cons_zero, List.getElem?_cons_succ, List.getElem?_nil, List.set_cons_zero, List.set_cons_succ, List.length_cons, List.length_nil, List.all_cons, List.all_nil, List.replicate_succ, List.replicate_zero, Bool.and_true, Bool.and_self, Bool.true_and, List.filterMap_cons, List.filterMap_nil, Nat.reduceAdd, Nat.reduceSub, Nat.zero_add, true_and, and_true, if_true, ite_true, Bool.not_true, Bool.not_false, Bool.false_eq_true, if_false, ite_false]))
local macro_rules | `(tactic| walk_at "dw") => `(tactic| ((try simp only [wFn, List.length_cons, List.length_nil, Nat.reduceAdd, true_and, Nat.reduceSub, List.replicate_succ, List.replicate_zero, List.append_nil, List.cons_append, List.nil_append, List.map_cons, List.map_nil]) <;> try simp only [wFn, dSeq, later, dIfS, dNext, dAsg, dPar, dRet, dRetV, dRetN, dExpr, dBrk, dCnt, dFor, dFrz, frzAt, dAsgG, dGName, dGSub, dGNil, dGCons, dGTup, dAugI, dAug, dApp, dExt, dRaise, dVar, dC, dBin, dUn, dChain, dTst, dAnd, dOr, dNot, dYes, dAndV, dOrV, dNotV, dIfE, dNil, dCons, dTup, dLst, dats, dNone, dSome, dSl, oCut, dCall, dCb, dLrg, pk, dCallK, dTab, dCallV, dISeq, dIRg1, dIRg2, dIZip, dIEnum, tfName, tfPair, dLc, lcStep, Cn.no, dCount, scVs, scV, oAdd, oSub, oMul, oMod, oDiv, oCmp, oNeg, oEq, toD, oIsN, oIx, seqD, lstD, bLen, bTuple, bList, bAbs, bMin, bMax, bSum, bAll, bAny, bSorted, bIsi, fz, isPl_dat, isPl_raw, isPl_bag, oIn, flD, List.map_cons, List.map_nil, List.cons_append, List.nil_append, List.append_nil, List.getElem?_cons_zero, List.getElem?_cons_succ, List.getElem?_nil, List.set_cons_zero, List.set_cons_succ, List.length_cons, List.length_nil, List.all_cons, List.all_nil, List.replicate_succ, List.replicate_zero, Bool.and_true, Bool.and_self, Bool.true_and, List.filterMap_cons, List.filterMap_nil, Nat.reduceAdd, Nat.reduceSub, Nat.zero_add, true_and, and_true, if_true, ite_true, Bool.not_true, Bool.not_false, Bool.false_eq_true, if_false, ite_false]))
structure Sz (ms : List Int) : Prop where
  lo : 1 ≤ ms.length
  hi : ms.length ≤ 6
  at_ : ∀ i : Int, 0 ≤ i → i < ms.length → 1 ≤ DW.at_ ms i ∧ DW.at_ ms i ≤ 40
theorem w_take {n : Int} {P : DP} {c : Cn} (h : okTake n) (p : ∀ i, 0 ≤ i → i < n → P (dint i)) : W_take [.bag, dint n] P c := ⟨h, p⟩
theorem w_pick {ds : List PyData} {P : DP} {c : Cn} (h0 : 0 < ds.length) (h1 : ds.length ≤ 100000) (p : ∀ d ∈ ds, P (.dat d)) : W_law_pick [.bag, .dat (.list ds)] P c := by
  unfold W_law_pick D_law_pick
  walk_at "dw"
  refine w_take ⟨by omega, by omega⟩ fun i i0 i1 => ?_
  walk_at "dw"
  rw [atD_nat i0, List.getElem?_eq_getElem (by omega)]
  exact p _ (List.getElem_mem _)
theorem rangeM (n : Nat) : rangeD 0 n = (List.range n).map fun (k : Nat) => PyData.int ((0 : Int) + (k : Int)) := rfl
theorem sz_of {ms : List Int} (h1 : 1 ≤ ms.length) (h2 : ms.length ≤ 6) (h : ∀ m ∈ ms, 1 ≤ m ∧ m ≤ 40) : Sz ms := ⟨h1, h2, fun i h0 h1 => h _ (at_mem h0 h1)⟩
theorem w_sizes {a m : Int} {P : DP} {c : Cn} (ha : 1 ≤ a ∧ a ≤ 6) (hm : 1 ≤ m ∧ m ≤ 40) (p : ∀ ms, Sz ms → P (.dat (nums ms))) : W_law_sizes [.bag, dint a, dint m] P c := by
  unfold W_law_sizes D_law_sizes
  walk_at "dw"
  refine ⟨by simp, ?_⟩
  refine w_take ⟨by omega, by omega⟩ fun i i0 i1 => ?_
  walk_at "dw"
  refine ⟨by omega, by rw [rangeD_len]; omega, ?_⟩
  rw [rangeM]
  refine lc_ints (R := fun _ j => 1 ≤ j ∧ j ≤ 40) (fun x hx k hk => ?_) fun ns hp => ?_
  · walk_at "dw"
    refine w_take ⟨by omega, by omega⟩ fun j j0 j1 => ?_
    walk_at "dw"
    exact hk _ ⟨by omega, by omega⟩
  · have hl := hp.length
    rw [List.length_range] at hl
    walk_at "dw"
    refine p ns (sz_of (by omega) (by omega) fun m hm => ?_)
    obtain ⟨_, _, h⟩ := paired_mem hp m hm
    exact h
theorem w_any_sizes {P : DP} {c : Cn} (p : ∀ ms, Sz ms → P (.dat (nums ms))) : W_law_any_sizes [.bag] P c := by
  unfold W_law_any_sizes D_law_any_sizes
  walk_at "dw"
  refine w_pick (by simp) (by simp) fun d hd => ?_
  simp only [List.mem_cons, List.not_mem_nil, or_false] at hd
  rcases hd with rfl | rfl | rfl | rfl
  all_goals
    walk_at "dw"
    exact w_sizes (by omega) (by omega) p
theorem bools_true (l : List Nat) : boolsD (l.map fun _ => PyData.bool true) = some (l.map fun _ => true) := by
  have e : (l.map fun _ => PyData.bool true) = (l.map fun _ => true).map .bool := by rw [List.map_map]; rfl
  rw [e, bools_map]
theorem all_true (l : List Nat) : (l.map fun _ => true).all id = true := by simp
theorem can_mem : ∀ {ds : List PyData}, PyData.canLayAll0 ds = true → ∀ x ∈ ds, PyData.canLay0 x = true
  | [], _, _, h => by cases h
  | d :: ds, h, x, hx => by
    rw [PyData.canLayAll0] at h
    obtain ⟨h1, h2⟩ := Bool.and_eq_true_iff.mp h
    rcases List.mem_cons.mp hx with e | e
    · rw [e]; exact h1
    · exact can_mem h2 x e
theorem w_same : ∀ {n : Nat} {d : PyData} {P : DP} {c : Cn}, Flat n d → PyData.canLay0 d = true → P (dbl true) → W_law_same n [.dat d, .dat d] P c := by
  intro n
  induction n with
  | zero => intro d P c h; exact h.elim
  | succ n ih =>
    intro d P c h hc p
    have seq : ∀ ds : List PyData, (∀ x ∈ ds, Flat n x ∧ PyData.canLay0 x = true) → ds.length ≤ 100000 → ∀ (e : PyData), (e = .list ds ∨ e = .tuple ds) →
        dRet (dCb bAll (dCons (dLc (dIRg1 (dCons (dCb bLen (dCons (dVar 1) dNil)) dNil)) (tfName 2) dYes (dCall (W_law_same n) (dCons (dBin oIx (dVar 0) (dVar 2)) (dCons (dBin oIx (dVar 1) (dVar 2)) dNil))) [2]) dNil)) c [some (.dat e), some (.dat e), none] ⟨fun _ => P (.dat .none), P, fun _ => False, fun _ => False⟩ := by
      intro ds hd hl e he
      have go : lcGo (lcStep (tfName 2) dYes (dCall (W_law_same n) (dCons (dBin oIx (dVar 0) (dVar 2)) (dCons (dBin oIx (dVar 1) (dVar 2)) dNil))) c [some (.dat e), some (.dat e), none]) (rangeD 0 (ds.length : Int).toNat) fun ys => bAll [.dat (.list ys)] P := by
        rw [rangeM]
        refine lc_map (fun _ => PyData.bool true) (fun j hj K hK => ?_) ?_
        · have hj' : j < ds.length := by
            have := List.mem_range.mp hj
            omega
          have ej : atD ds ((0 : Int) + (j : Int)) = some ds[j] := by
            rw [atD_nat (by omega), show ((0 : Int) + (j : Int)).toNat = j by omega, List.getElem?_eq_getElem hj']
          rcases he with rfl | rfl
          · walk_at "dws"
            rw [ej]
            walk_at "dws"
            exact ih (hd _ (List.getElem_mem hj')).1 (hd _ (List.getElem_mem hj')).2 hK
          · walk_at "dws"
            rw [ej]
            walk_at "dws"
            exact ih (hd _ (List.getElem_mem hj')).1 (hd _ (List.getElem_mem hj')).2 hK
        · show (match boolsD ((List.range (ds.length : Int).toNat).map fun _ => PyData.bool true) with
            | some ns => P (dbl (ns.all id))
            | none => False)
          rw [bools_true]
          show P (dbl _)
          rw [all_true]
          exact p
      rcases he with rfl | rfl
      · walk_at "dws"
        exact ⟨by simp, by omega, by rw [rangeD_len]; omega, go⟩
      · walk_at "dws"
        exact ⟨by simp, by omega, by rw [rangeD_len]; omega, go⟩
    unfold W_law_same D_law_same
    cases d with
    | none => walk_at "dws"; walk_at "kb"; walk_at "dws"; walk_at "kb"; exact p
    | bool b =>
      walk_at "dws"; walk_at "kb"; walk_at "nx"; walk_at "kb"
      refine ⟨⟨rfl, rfl⟩, ?_⟩
      rw [eqv_self (n := 0) hc]
      exact p
    | int i =>
      walk_at "dws"; walk_at "kb"; walk_at "nx"; walk_at "kb"; walk_at "nx"; walk_at "kb"
      refine ⟨⟨rfl, rfl⟩, ?_⟩
      rw [eqv_self (n := 0) hc]
      exact p
    | str s =>
      walk_at "dws"; walk_at "kb"; walk_at "nx"; walk_at "kb"; walk_at "nx"; walk_at "kb"; walk_at "nx"; walk_at "kb"
      refine ⟨⟨sh_str hc, sh_str hc⟩, ?_⟩
      rw [eqv_self (n := 0) hc]
      exact p
    | list ds =>
      walk_at "dws"; walk_at "kb"; walk_at "nx"; walk_at "kb"; walk_at "nx"; walk_at "kb"; walk_at "nx"; walk_at "kb"; walk_at "nx"; walk_at "kb"
      refine ⟨⟨rfl, rfl⟩, ?_⟩
      rw [if_neg (by decide)]
      refine ⟨⟨rfl, rfl⟩, ?_⟩
      rw [if_neg (by decide)]
      walk_at "nx"
      refine ⟨⟨rfl, rfl⟩, ?_⟩
      rw [if_neg (by rw [eqv_ii]; simp)]
      rw [PyData.canLay0] at hc
      exact seq ds (fun x hx => ⟨h.2 x hx, can_mem hc x hx⟩) h.1 _ (.inl rfl)
    | tuple ds =>
      walk_at "dws"; walk_at "kb"; walk_at "nx"; walk_at "kb"; walk_at "nx"; walk_at "kb"; walk_at "nx"; walk_at "kb"; walk_at "nx"; walk_at "kb"
      refine ⟨⟨rfl, rfl⟩, ?_⟩
      rw [if_neg (by decide)]
      refine ⟨⟨rfl, rfl⟩, ?_⟩
      rw [if_neg (by decide)]
      walk_at "nx"
      refine ⟨⟨rfl, rfl⟩, ?_⟩
      rw [if_neg (by rw [eqv_ii]; simp)]
      rw [PyData.canLay0] at hc
      exact seq ds (fun x hx => ⟨h.2 x hx, can_mem hc x hx⟩) h.1 _ (.inr rfl)
    | dict kvs => exact h.elim
end Lw
namespace Lw
open PySem PySem.Spec PyProof.Rows L2 DL DW DM
local macro_rules | `(tactic| walk_at "dws") => `(tactic| ((try simp only [wFn, List.length_cons, List.length_nil, Nat.reduceAdd, true_and, Nat.reduceSub, List.replicate_succ, List.replicate_zero, List.append_nil, List.cons_append, List.nil_append, List.map_cons, List.map_nil]) <;> try simp only [wFn, dSeq, dIfS, dNext, dAsg, dPar, dRet, dRetV, dRetN, dExpr, dBrk, dCnt, dFor, dFrz, frzAt, dAsgG, dGName, dGSub, dGNil, dGCons, dGTup, dAugI, dAug, dApp, dExt, dRaise, dVar, dC, dBin, dUn, dChain, dTst, dAnd, dOr, dNot, dYes, dAndV, dOrV, dNotV, dIfE, dNil, dCons, dTup, dLst, dats, dNone, dSome, dSl, oCut, dCall, dCb, dLrg, pk, dCallK, dTab, dCallV, dISeq, dIRg1, dIRg2, dIZip, dIEnum, tfName, tfPair, dLc, lcStep, Cn.no, dCount, scVs, scV, oAdd, oSub, oMul, oMod, oDiv, oCmp, oNeg, oEq, toD, oIsN, oIx, seqD, lstD, bLen, bTuple, bList, bAbs, bMin, bMax, bSum, bAll, bAny, bSorted, bIsi, fz, isPl_dat, isPl_raw, isPl_bag, oIn, flD, List.map_cons, List.map_nil, List.cons_append, List.nil_append, List.append_nil, List.getElem?_cons_zero, List.getElem?_cons_succ, List.getElem?_nil, List.set_cons_zero, List.set_cons_succ, List.length_cons, List.length_nil, List.all_cons, List.all_nil, List.replicate_succ, List.replicate_zero, Bool.and_true, Bool.and_self, Bool.true_and, List.filterMap_cons, List.filterMap_nil, Nat.reduceAdd, Nat.reduceSub, Nat.zero_add, true_and, and_true, if_true, ite_true, Bool.not_true, Bool.not_false, Bool.false_eq_true, if_false, ite_false]))
local macro_rules | `(tactic| walk_at "dw") => `(tactic| ((try simp only [wFn, List.length_cons, List.length_nil, Nat.reduceAdd, true_and, Nat.reduceSub, List.replicate_succ, List.replicate_zero, List.append_nil, List.cons_append, List.nil_append, List.map_cons, List.map_nil]) <;> try simp only [wFn, dSeq, later, dIfS, dNext, dAsg, dPar, dRet, dRetV, dRetN, dExpr, dBrk, dCnt, dFor, dFrz, frzAt, dAsgG, dGName, dGSub, dGNil, dGCons, dGTup, dAugI, dAug, dApp, dExt, dRaise, dVar, dC, dBin, dUn, dChain, dTst, dAnd, dOr, dNot, dYes, dAndV, dOrV, dNotV, dIfE, dNil, dCons, dTup, dLst, dats, dNone, dSome, dSl, oCut, dCall, dCb, dLrg, pk, dCallK, dTab, dCallV, dISeq, dIRg1, dIRg2, dIZip, dIEnum, tfName, tfPair, dLc, lcStep, Cn.no, dCount, scVs, scV, oAdd, oSub, oMul, oMod, oDiv, oCmp, oNeg, oEq, toD, oIsN, oIx, seqD, lstD, bLen, bTuple, bList, bAbs, bMin, bMax, bSum, bAll, bAny, bSorted, bIsi, fz, isPl_dat, isPl_raw, isPl_bag, oIn, flD, List.map_cons, List.map_nil, List.cons_append, List.nil_append, List.append_nil, List.getElem?_cons_zero, List.getElem?_cons_succ, List.getElem?_nil, List.set_cons_zero, List.set_cons_succ, List.length_cons, List.length_nil, List.all_cons, List.all_nil, List.replicate_succ, List.replicate_zero, Bool.and_true, Bool.and_self, Bool.true_and, List.filterMap_cons, List.filterMap_nil, Nat.reduceAdd, Nat.reduceSub, Nat.zero_add, true_and, and_true, if_true, ite_true, Bool.not_true, Bool.not_false, Bool.false_eq_true, if_false, ite_false]))
def bad (m : Int) : Bool := !(decide (1 ≤ m) && decide (m ≤ 40))
theorem bad_no {m : Int} (h : bad m = false) : 1 ≤ m ∧ m ≤ 40 := by
  unfold bad at h
  simpa using h
def flaw (ms : List Int) : Option Int := if ms.length = 0 ∨ 6 < ms.length then some (-1) else ((List.range ms.length).find? fun (j : Nat) => bad (at_ ms (j : Int))).map fun (j : Nat) => (j : Int)
theorem flaw_out {ms : List Int} (h : ms.length = 0 ∨ 6 < ms.length) : flaw ms = some (-1) := by
  unfold flaw
  rw [if_pos h]
theorem flaw_at {ms : List Int} {k : Nat} (h1 : 1 ≤ ms.length) (h2 : ms.length ≤ 6) (hk : k < ms.length) (h0 : ∀ j : Nat, j < k → bad (at_ ms (j : Int)) = false) (hb : bad (at_ ms (k : Int)) = true) : flaw ms = some (k : Int) := by
  unfold flaw
  rw [if_neg (by omega), List.find?_range_eq_some.mpr ⟨hb, List.mem_range.mpr hk, fun j hj => by rw [h0 j hj]; rfl⟩]
  rfl
theorem flaw_no {ms : List Int} (h1 : 1 ≤ ms.length) (h2 : ms.length ≤ 6) (h0 : ∀ j : Nat, j < ms.length → bad (at_ ms (j : Int)) = false) : flaw ms = none := by
  unfold flaw
  rw [if_neg (by omega), List.find?_eq_none.mpr (fun j hj => by rw [h0 j (List.mem_range.mp hj)]; decide)]
  rfl
theorem w_looks {ms : List Int} {P : DP} {c : Cn} (h1 : flaw ms = none → P (.dat .none)) (h2 : ∀ k, flaw ms = some k → c.x 0 (mk_BadSizes [.int k])) (hl : ms.length ≤ 1000) : W_look_sizes [.dat (nums ms)] P c := by
  by_cases hr : ms.length = 0 ∨ 6 < ms.length
  · have e := h2 _ (flaw_out hr)
    unfold W_look_sizes D_look_sizes
    walk_at "dw"
    rcases hr with hr | hr
    · have a1 : ¬ (1 : Int) ≤ (ms.length : Int) := by omega
      (try simp only [a1, decide_true, decide_false, sh_int, sh_bl, sh_non, eqv_ii, eqv_ss, List.any_cons, List.any_nil, true_or, or_true, Bool.or_false, Bool.false_or, Bool.not_true, Bool.not_false, if_true, if_false, ite_true, ite_false, Bool.false_eq_true, List.length_map, not_false_eq_true, not_true_eq_false, reduceCtorEq, and_self, true_and, and_true, Bool.and_true, Bool.true_and])
      exact e
    · have a1 : (1 : Int) ≤ (ms.length : Int) := by omega
      have a2 : ¬ (ms.length : Int) ≤ 6 := by omega
      (try simp only [a1, a2, decide_true, decide_false, sh_int, sh_bl, sh_non, eqv_ii, eqv_ss, List.any_cons, List.any_nil, true_or, or_true, Bool.or_false, Bool.false_or, Bool.not_true, Bool.not_false, if_true, if_false, ite_true, ite_false, Bool.false_eq_true, List.length_map, not_false_eq_true, not_true_eq_false, reduceCtorEq, and_self, true_and, and_true, Bool.and_true, Bool.true_and])
      exact e
  · have a1 : (1 : Int) ≤ (ms.length : Int) := by omega
    have a2 : (ms.length : Int) ≤ 6 := by omega
    unfold W_look_sizes D_look_sizes
    walk_at "dw"
    (try simp only [a1, a2, decide_true, decide_false, sh_int, sh_bl, sh_non, eqv_ii, eqv_ss, List.any_cons, List.any_nil, true_or, or_true, Bool.or_false, Bool.false_or, Bool.not_true, Bool.not_false, if_true, if_false, ite_true, ite_false, Bool.false_eq_true, List.length_map, not_false_eq_true, not_true_eq_false, reduceCtorEq, and_self, true_and, and_true, Bool.and_true, Bool.true_and])
    refine forGo_inv (fun k δ => (∃ x y, δ = [some (.dat (nums ms)), x, y]) ∧ ∀ j : Nat, j < k → bad (at_ ms (j : Int)) = false) ⟨⟨_, _, rfl⟩, fun _ z => by omega⟩ (fun k d δk hd hj N hN => ?_) fun _ hn => h1 (flaw_no (by omega) (by omega) fun j hj => hn.2 j (by simpa [enumD] using hj))
    obtain ⟨⟨x, y, rfl⟩, hb⟩ := hj
    obtain ⟨hk, rfl⟩ := enumD_ints hd
    refine ⟨_, rfl, ?_⟩
    walk_at "dw"
    cases q : bad (at_ ms (k : Int)) with
    | true =>
      have e := h2 _ (flaw_at (by omega) (by omega) hk hb q)
      unfold bad at q
      by_cases b1 : 1 ≤ at_ ms (k : Int)
      · have b2 : ¬ at_ ms (k : Int) ≤ 40 := fun z => by simp [b1, z] at q
        (try simp only [b1, b2, decide_true, decide_false, sh_int, sh_bl, sh_non, eqv_ii, eqv_ss, List.any_cons, List.any_nil, true_or, or_true, Bool.or_false, Bool.false_or, Bool.not_true, Bool.not_false, if_true, if_false, ite_true, ite_false, Bool.false_eq_true, List.length_map, not_false_eq_true, not_true_eq_false, reduceCtorEq, and_self, true_and, and_true, Bool.and_true, Bool.true_and])
        exact e
      · (try simp only [b1, decide_true, decide_false, sh_int, sh_bl, sh_non, eqv_ii, eqv_ss, List.any_cons, List.any_nil, true_or, or_true, Bool.or_false, Bool.false_or, Bool.not_true, Bool.not_false, if_true, if_false, ite_true, ite_false, Bool.false_eq_true, List.length_map, not_false_eq_true, not_true_eq_false, reduceCtorEq, and_self, true_and, and_true, Bool.and_true, Bool.true_and])
        exact e
    | false =>
      have b := bad_no q
      (try simp only [b.1, b.2, decide_true, decide_false, sh_int, sh_bl, sh_non, eqv_ii, eqv_ss, List.any_cons, List.any_nil, true_or, or_true, Bool.or_false, Bool.false_or, Bool.not_true, Bool.not_false, if_true, if_false, ite_true, ite_false, Bool.false_eq_true, List.length_map, not_false_eq_true, not_true_eq_false, reduceCtorEq, and_self, true_and, and_true, Bool.and_true, Bool.true_and])
      refine hN _ ⟨⟨_, _, rfl⟩, fun j hj => ?_⟩
      by_cases z : j = k
      · rw [z]; exact q
      · exact hb j (by omega)
section
variable {o a1 a2 a3 a4 a5 : PyData} {P : DP} {c : Cn}
theorem x_look_counts (h : ∀ P, W_look_sizes [.dat o] P c) : W_look_counts [.dat o, .dat a1] P c := by
  unfold W_look_counts D_look_counts
  walk_at "dws"
  exact h _
theorem x_look_stand (h : ∀ P, W_look_sizes [.dat o] P c) : W_look_stand [.dat o, .dat a1] P c := by
  unfold W_look_stand D_look_stand
  walk_at "dws"
  exact h _
theorem x_look_deed (h : ∀ P, W_look_sizes [.dat o] P c) : W_look_deed [.dat o, .dat a1] P c := by
  unfold W_look_deed D_look_deed
  walk_at "dws"
  exact h _
theorem x_look_row (h : ∀ P, W_look_sizes [.dat o] P c) : W_look_row [.dat o, .dat a1] P c := by
  unfold W_look_row D_look_row
  walk_at "dws"
  exact h _
theorem x_room (h : ∀ P, W_look_sizes [.dat o] P c) : W_room [.dat o, .dat a1] P c := by
  unfold W_room D_room
  walk_at "dws"
  exact x_look_counts h
theorem x_stand_of (h : ∀ P, W_look_sizes [.dat o] P c) : W_stand_of [.dat o, .dat a1] P c := by
  unfold W_stand_of D_stand_of
  walk_at "dws"
  exact x_look_counts h
theorem x_has_tap (h : ∀ P, W_look_sizes [.dat o] P c) : W_has_tap [.dat o, .dat a1] P c := by
  unfold W_has_tap D_has_tap
  walk_at "dws"
  exact x_look_row h
theorem x_done (h : ∀ P, W_look_sizes [.dat o] P c) : W_done [.dat o, .dat a1, .dat a2] P c := by
  unfold W_done D_done
  walk_at "dws"
  exact x_look_stand h
theorem x_done_all (h : ∀ P, W_look_sizes [.dat o] P c) : W_done_all [.dat o, .dat a1, .dat a2] P c := by
  unfold W_done_all D_done_all
  walk_at "dws"
  exact x_look_stand h
theorem x_path (h : ∀ P, W_look_sizes [.dat o] P c) : W_path [.dat o, .dat a1, .dat a2, .dat a3] P c := by
  unfold W_path D_path
  walk_at "dws"
  exact x_look_stand h
theorem x_poured (h : ∀ P, W_look_sizes [.dat o] P c) : W_poured [.dat o, .dat a1, .dat a2] P c := by
  unfold W_poured D_poured
  walk_at "dws"
  exact x_look_counts h
theorem x_poured_all (h : ∀ P, W_look_sizes [.dat o] P c) : W_poured_all [.dat o, .dat a1, .dat a2] P c := by
  unfold W_poured_all D_poured_all
  walk_at "dws"
  exact x_look_counts h
theorem x_by_counts (h : ∀ P, W_look_sizes [.dat o] P c) : W_by_counts [.dat o, .dat a1, .dat a2] P c := by
  unfold W_by_counts D_by_counts
  walk_at "dws"
  exact x_look_stand h
theorem x_one_more (h : ∀ P, W_look_sizes [.dat o] P c) : W_one_more [.dat o, .dat a1, .dat a2] P c := by
  unfold W_one_more D_one_more
  walk_at "dws"
  exact x_look_counts h
theorem x_behind (h : ∀ P, W_look_sizes [.dat o] P c) : W_behind [.dat o, .dat a1, .dat a2, .dat a3] P c := by
  unfold W_behind D_behind
  walk_at "dws"
  exact x_look_stand h
theorem x_behind_counts (h : ∀ P, W_look_sizes [.dat o] P c) : W_behind_counts [.dat o, .dat a1, .dat a2, .dat a3] P c := by
  unfold W_behind_counts D_behind_counts
  walk_at "dws"
  exact x_look_counts h
theorem x_ring (h : ∀ P, W_look_sizes [.dat o] P c) : W_ring [.dat o, .dat a1, .dat a2] P c := by
  unfold W_ring D_ring
  walk_at "dws"
  exact x_look_stand h
theorem x_trail_of_counts (h : ∀ P, W_look_sizes [.dat o] P c) : W_trail_of_counts [.dat o, .dat a1, .dat a2] P c := by
  unfold W_trail_of_counts D_trail_of_counts
  walk_at "dws"
  exact x_look_counts h
theorem x_ring_of_counts (h : ∀ P, W_look_sizes [.dat o] P c) : W_ring_of_counts [.dat o, .dat a1, .dat a2] P c := by
  unfold W_ring_of_counts D_ring_of_counts
  walk_at "dws"
  exact x_trail_of_counts h
theorem x_turns (h : ∀ P, W_look_sizes [.dat o] P c) : W_turns [.dat o, .dat a1, .dat a2] P c := by
  unfold W_turns D_turns
  walk_at "dws"
  exact x_trail_of_counts h
theorem x_ends (h : ∀ P, W_look_sizes [.dat o] P c) : W_ends [.dat o, .dat a1, .dat a2] P c := by
  unfold W_ends D_ends
  walk_at "dws"
  exact x_turns h
theorem x_kin (h : ∀ P, W_look_sizes [.dat o] P c) : W_kin [.dat o, .dat a1, .dat a2] P c := by
  unfold W_kin D_kin
  walk_at "dws"
  exact x_turns h
theorem x_kin_holds (h : ∀ P, W_look_sizes [.dat o] P c) : W_kin_holds [.dat o, .dat a1, .dat a2, .dat a3] P c := by
  unfold W_kin_holds D_kin_holds
  walk_at "dws"
  exact x_look_counts h
theorem x_pairs_behind (h : ∀ P, W_look_sizes [.dat o] P c) : W_pairs_behind [.dat o, .dat a1, .dat a2, .dat a3] P c := by
  unfold W_pairs_behind D_pairs_behind
  walk_at "dws"
  exact x_look_counts h
theorem x_meet (h : ∀ P, W_look_sizes [.dat o] P c) : W_meet [.dat o, .dat a1, .dat a2, .dat a3] P c := by
  unfold W_meet D_meet
  walk_at "dws"
  exact x_pairs_behind h
theorem x_apart_at_last (h : ∀ P, W_look_sizes [.dat o] P c) : W_apart_at_last [.dat o, .dat a1, .dat a2, .dat a3] P c := by
  unfold W_apart_at_last D_apart_at_last
  walk_at "dws"
  refine ⟨fun v hv => ?_, x_pairs_behind h⟩
  simp only [List.mem_cons, List.not_mem_nil, or_false] at hv
  rcases hv with rfl | rfl <;> rfl
theorem x_rows_and_ahead (h : ∀ P, W_look_sizes [.dat o] P c) : W_rows_and_ahead [.dat o, .dat a1, .dat a2, .dat a3] P c := by
  unfold W_rows_and_ahead D_rows_and_ahead
  walk_at "dws"
  exact x_trail_of_counts h
theorem x_when (h : ∀ P, W_look_sizes [.dat o] P c) : W_when [.dat o, .dat a1, .dat a2, .dat a3, .dat a4] P c := by
  unfold W_when D_when
  walk_at "dws"
  exact x_rows_and_ahead h
theorem x_first_time (h : ∀ P, W_look_sizes [.dat o] P c) : W_first_time [.dat o, .dat a1, .dat a2, .dat a3, .dat a4] P c := by
  unfold W_first_time D_first_time
  walk_at "dws"
  exact x_rows_and_ahead h
theorem x_never (h : ∀ P, W_look_sizes [.dat o] P c) : W_never [.dat o, .dat a1, .dat a2, .dat a3, .dat a4] P c := by
  unfold W_never D_never
  walk_at "dws"
  exact x_rows_and_ahead h
theorem x_never_holds (h : ∀ P, W_look_sizes [.dat o] P c) : W_never_holds [.dat o, .dat a1, .dat a2, .dat a3, .dat a4, .dat a5] P c := by
  unfold W_never_holds D_never_holds
  walk_at "dws"
  exact x_look_counts h
end
end Lw
namespace Lw
open PySem PySem.Spec PyProof.Rows L2 DL DW DM
local macro_rules | `(tactic| walk_at "dws") => `(tactic| ((try simp only [wFn, List.length_cons, List.length_nil, Nat.reduceAdd, true_and, Nat.reduceSub, List.replicate_succ, List.replicate_zero, List.append_nil, List.cons_append, List.nil_append, List.map_cons, List.map_nil]) <;> try simp only [wFn, dSeq, dIfS, dNext, dAsg, dPar, dRet, dRetV, dRetN, dExpr, dBrk, dCnt, dFor, dFrz, frzAt, dAsgG, dGName, dGSub, dGNil, dGCons, dGTup, dAugI, dAug, dApp, dExt, dRaise, dVar, dC, dBin, dUn, dChain, dTst, dAnd, dOr, dNot, dYes, dAndV, dOrV, dNotV, dIfE, dNil, dCons, dTup, dLst, dats, dNone, dSome, dSl, oCut, dCall, dCb, dLrg, pk, dCallK, dTab, dCallV, dISeq, dIRg1, dIRg2, dIZip, dIEnum, tfName, tfPair, dLc, lcStep, Cn.no, dCount, scVs, scV, oAdd, oSub, oMul, oMod, oDiv, oCmp, oNeg, oEq, toD, oIsN, oIx, seqD, lstD, bLen, bTuple, bList, bAbs, bMin, bMax, bSum, bAll, bAny, bSorted, bIsi, fz, isPl_dat, isPl_raw, isPl_bag, oIn, flD, List.map_cons, List.map_nil, List.cons_append, List.nil_append, List.append_nil, List.getElem?_cons_zero, List.getElem?_cons_succ, List.getElem?_nil, List.set_cons_zero, List.set_cons_succ, List.length_cons, List.length_nil, List.all_cons, List.all_nil, List.replicate_succ, List.replicate_zero, Bool.and_true, Bool.and_self, Bool.true_and, List.filterMap_cons, List.filterMap_nil, Nat.reduceAdd, Nat.reduceSub, Nat.zero_add, true_and, and_true, if_true, ite_true, Bool.not_true, Bool.not_false, Bool.false_eq_true, if_false, ite_false]))
abbrev envD (o : PyData) (p : Addr) : En := [some (.dat o), some (.raw (.ref p))]
abbrev LAMA : List Lam := [lam_law_doors_0, lam_law_doors_1, lam_law_doors_2, lam_law_doors_3, lam_law_doors_4, lam_law_doors_5, lam_law_doors_6, lam_law_doors_7, lam_law_doors_8, lam_law_doors_9, lam_law_doors_10, lam_law_doors_11, lam_law_doors_12, lam_law_doors_13]
theorem lams_okA {o : PyData} {p : Addr} : ∀ l ∈ LAMA, (l.msc = defScope s_law_doors ∧ l.N = N_law_doors) ∧ lamOk l = true ∧ capOk l.ms (envD o p) = true := by
  have mk : ∀ {l : Lam} {bs : List Bool}, (l.msc = defScope s_law_doors ∧ l.N = N_law_doors ∧ l.ms = bs) → lamOk l = true → capOk bs (envD o p) = true → (l.msc = defScope s_law_doors ∧ l.N = N_law_doors) ∧ lamOk l = true ∧ capOk l.ms (envD o p) = true := fun h1 h2 h3 => ⟨⟨h1.1, h1.2.1⟩, h2, by rw [h1.2.2]; exact h3⟩
  exact List.forall_mem_cons.mpr ⟨mk lamF_law_doors_0 lamOk_law_doors_0 rfl, List.forall_mem_cons.mpr ⟨mk lamF_law_doors_1 lamOk_law_doors_1 rfl, List.forall_mem_cons.mpr ⟨mk lamF_law_doors_2 lamOk_law_doors_2 rfl, List.forall_mem_cons.mpr ⟨mk lamF_law_doors_3 lamOk_law_doors_3 rfl, List.forall_mem_cons.mpr ⟨mk lamF_law_doors_4 lamOk_law_doors_4 rfl, List.forall_mem_cons.mpr ⟨mk lamF_law_doors_5 lamOk_law_doors_5 rfl, List.forall_mem_cons.mpr ⟨mk lamF_law_doors_6 lamOk_law_doors_6 rfl, List.forall_mem_cons.mpr ⟨mk lamF_law_doors_7 lamOk_law_doors_7 rfl, List.forall_mem_cons.mpr ⟨mk lamF_law_doors_8 lamOk_law_doors_8 rfl, List.forall_mem_cons.mpr ⟨mk lamF_law_doors_9 lamOk_law_doors_9 rfl, List.forall_mem_cons.mpr ⟨mk lamF_law_doors_10 lamOk_law_doors_10 rfl, List.forall_mem_cons.mpr ⟨mk lamF_law_doors_11 lamOk_law_doors_11 rfl, List.forall_mem_cons.mpr ⟨mk lamF_law_doors_12 lamOk_law_doors_12 rfl, List.forall_mem_cons.mpr ⟨mk lamF_law_doors_13 lamOk_law_doors_13 rfl, by simp⟩⟩⟩⟩⟩⟩⟩⟩⟩⟩⟩⟩⟩⟩
theorem D_A_eq : D_law_doors = mSeq (mAsg 1 (mLstM (mCons (mLam lam_law_doors_0) mNil))) (lamsB 1 LAMA.tail) := rfl
theorem w_law_doors {o : PyData} {M : Mem} {P : MP} {c : Cm} (pp : ∀ M' p (fs : List Addr), fs.length = 14 → Cl M M' p (fs.zip LAMA) (envD o p) → P (.raw (.ref p)) M') : W_law_doors [.dat o] M P c :=
  w_asks (l := lam_law_doors_0) (ls := LAMA.tail) D_A_eq rfl (by simp) (by simp) (by show 1 < 2; omega) (fun p => lams_okA) pp
theorem says_ofA {aft : Nat → List (Str × V) → Option PyData} {fa : Nat → Addr} {o : PyData} {p : Addr} {y : PyData} {l : Lam} {bs : List Bool} {de : DE} (h1 : l.msc = defScope s_law_doors ∧ l.N = N_law_doors ∧ l.ms = bs) (h2 : (l, mLft lftP de) ∈ tbl_law_doors) (hb : bs.length = 2) (h3 : ∀ (x : XN) (Q : DP), (∀ s fs, aft s fs = some y → x s fs) → de ⟨x, fa⟩ (zipE bs (envD o p)) Q) : Says (tbl_law_doors ++ tbl_law_later_doors) aft fa (envD o p) l y := by
  unfold Says
  rw [h1.2.2, h1.2.1, zipE_len (by rw [hb]; rfl)]
  exact ⟨rfl, de, List.mem_append.mpr (.inl h2), h3⟩
section
variable {aft : Nat → List (Str × V) → Option PyData} {fa : Nat → Addr} {o : PyData} {p : Addr} {y : PyData}
theorem sayA_0 (h : ∀ x : XN, (∀ s fs, aft s fs = some y → x s fs) → ∀ P, W_look_sizes [.dat o] P ⟨x, fa⟩) : Says (tbl_law_doors ++ tbl_law_later_doors) aft fa (envD o p) lam_law_doors_0 y :=
  says_ofA lamF_law_doors_0 (by show _ ∈ tbl_law_doors; exact List.mem_cons_self ..) rfl fun x Q hx => by
    simp only [zipE]
    walk_at "dws"
    exact x_look_counts (h x hx)
theorem sayA_1 (h : ∀ x : XN, (∀ s fs, aft s fs = some y → x s fs) → ∀ P, W_look_sizes [.dat o] P ⟨x, fa⟩) : Says (tbl_law_doors ++ tbl_law_later_doors) aft fa (envD o p) lam_law_doors_1 y :=
  says_ofA lamF_law_doors_1 (by show _ ∈ tbl_law_doors; exact List.mem_cons_of_mem _ (List.mem_cons_self ..)) rfl fun x Q hx => by
    simp only [zipE]
    walk_at "dws"
    exact x_look_stand (h x hx)
theorem sayA_2 (h : ∀ x : XN, (∀ s fs, aft s fs = some y → x s fs) → ∀ P, W_look_sizes [.dat o] P ⟨x, fa⟩) : Says (tbl_law_doors ++ tbl_law_later_doors) aft fa (envD o p) lam_law_doors_2 y :=
  says_ofA lamF_law_doors_2 (by show _ ∈ tbl_law_doors; exact List.mem_cons_of_mem _ (List.mem_cons_of_mem _ (List.mem_cons_self ..))) rfl fun x Q hx => by
    simp only [zipE]
    walk_at "dws"
    exact x_room (h x hx)
theorem sayA_3 (h : ∀ x : XN, (∀ s fs, aft s fs = some y → x s fs) → ∀ P, W_look_sizes [.dat o] P ⟨x, fa⟩) : Says (tbl_law_doors ++ tbl_law_later_doors) aft fa (envD o p) lam_law_doors_3 y :=
  says_ofA lamF_law_doors_3 (by show _ ∈ tbl_law_doors; exact List.mem_cons_of_mem _ (List.mem_cons_of_mem _ (List.mem_cons_of_mem _ (List.mem_cons_self ..)))) rfl fun x Q hx => by
    simp only [zipE]
    walk_at "dws"
    exact x_stand_of (h x hx)
theorem sayA_4 (h : ∀ x : XN, (∀ s fs, aft s fs = some y → x s fs) → ∀ P, W_look_sizes [.dat o] P ⟨x, fa⟩) : Says (tbl_law_doors ++ tbl_law_later_doors) aft fa (envD o p) lam_law_doors_4 y :=
  says_ofA lamF_law_doors_4 (by show _ ∈ tbl_law_doors; exact List.mem_cons_of_mem _ (List.mem_cons_of_mem _ (List.mem_cons_of_mem _ (List.mem_cons_of_mem _ (List.mem_cons_self ..))))) rfl fun x Q hx => by
    simp only [zipE]
    walk_at "dws"
    exact x_look_deed (h x hx)
theorem sayA_5 (h : ∀ x : XN, (∀ s fs, aft s fs = some y → x s fs) → ∀ P, W_look_sizes [.dat o] P ⟨x, fa⟩) : Says (tbl_law_doors ++ tbl_law_later_doors) aft fa (envD o p) lam_law_doors_5 y :=
  says_ofA lamF_law_doors_5 (by show _ ∈ tbl_law_doors; exact List.mem_cons_of_mem _ (List.mem_cons_of_mem _ (List.mem_cons_of_mem _ (List.mem_cons_of_mem _ (List.mem_cons_of_mem _ (List.mem_cons_self ..)))))) rfl fun x Q hx => by
    simp only [zipE]
    walk_at "dws"
    exact x_look_row (h x hx)
theorem sayA_6 (h : ∀ x : XN, (∀ s fs, aft s fs = some y → x s fs) → ∀ P, W_look_sizes [.dat o] P ⟨x, fa⟩) : Says (tbl_law_doors ++ tbl_law_later_doors) aft fa (envD o p) lam_law_doors_6 y :=
  says_ofA lamF_law_doors_6 (by show _ ∈ tbl_law_doors; exact List.mem_cons_of_mem _ (List.mem_cons_of_mem _ (List.mem_cons_of_mem _ (List.mem_cons_of_mem _ (List.mem_cons_of_mem _ (List.mem_cons_of_mem _ (List.mem_cons_self ..))))))) rfl fun x Q hx => by
    simp only [zipE]
    walk_at "dws"
    exact x_has_tap (h x hx)
theorem sayA_7 (h : ∀ x : XN, (∀ s fs, aft s fs = some y → x s fs) → ∀ P, W_look_sizes [.dat o] P ⟨x, fa⟩) : Says (tbl_law_doors ++ tbl_law_later_doors) aft fa (envD o p) lam_law_doors_7 y :=
  says_ofA lamF_law_doors_7 (by show _ ∈ tbl_law_doors; exact List.mem_cons_of_mem _ (List.mem_cons_of_mem _ (List.mem_cons_of_mem _ (List.mem_cons_of_mem _ (List.mem_cons_of_mem _ (List.mem_cons_of_mem _ (List.mem_cons_of_mem _ (List.mem_cons_self ..)))))))) rfl fun x Q hx => by
    simp only [zipE]
    walk_at "dws"
    exact x_done (h x hx)
theorem sayA_8 (h : ∀ x : XN, (∀ s fs, aft s fs = some y → x s fs) → ∀ P, W_look_sizes [.dat o] P ⟨x, fa⟩) : Says (tbl_law_doors ++ tbl_law_later_doors) aft fa (envD o p) lam_law_doors_8 y :=
  says_ofA lamF_law_doors_8 (by show _ ∈ tbl_law_doors; exact List.mem_cons_of_mem _ (List.mem_cons_of_mem _ (List.mem_cons_of_mem _ (List.mem_cons_of_mem _ (List.mem_cons_of_mem _ (List.mem_cons_of_mem _ (List.mem_cons_of_mem _ (List.mem_cons_of_mem _ (List.mem_cons_self ..))))))))) rfl fun x Q hx => by
    simp only [zipE]
    walk_at "dws"
    exact x_done_all (h x hx)
theorem sayA_9 (h : ∀ x : XN, (∀ s fs, aft s fs = some y → x s fs) → ∀ P, W_look_sizes [.dat o] P ⟨x, fa⟩) : Says (tbl_law_doors ++ tbl_law_later_doors) aft fa (envD o p) lam_law_doors_9 y :=
  says_ofA lamF_law_doors_9 (by show _ ∈ tbl_law_doors; exact List.mem_cons_of_mem _ (List.mem_cons_of_mem _ (List.mem_cons_of_mem _ (List.mem_cons_of_mem _ (List.mem_cons_of_mem _ (List.mem_cons_of_mem _ (List.mem_cons_of_mem _ (List.mem_cons_of_mem _ (List.mem_cons_of_mem _ (List.mem_cons_self ..)))))))))) rfl fun x Q hx => by
    simp only [zipE]
    walk_at "dws"
    exact x_path (h x hx)
theorem sayA_10 (h : ∀ x : XN, (∀ s fs, aft s fs = some y → x s fs) → ∀ P, W_look_sizes [.dat o] P ⟨x, fa⟩) : Says (tbl_law_doors ++ tbl_law_later_doors) aft fa (envD o p) lam_law_doors_10 y :=
  says_ofA lamF_law_doors_10 (by show _ ∈ tbl_law_doors; exact List.mem_cons_of_mem _ (List.mem_cons_of_mem _ (List.mem_cons_of_mem _ (List.mem_cons_of_mem _ (List.mem_cons_of_mem _ (List.mem_cons_of_mem _ (List.mem_cons_of_mem _ (List.mem_cons_of_mem _ (List.mem_cons_of_mem _ (List.mem_cons_of_mem _ (List.mem_cons_self ..))))))))))) rfl fun x Q hx => by
    simp only [zipE]
    walk_at "dws"
    exact x_poured (h x hx)
theorem sayA_11 (h : ∀ x : XN, (∀ s fs, aft s fs = some y → x s fs) → ∀ P, W_look_sizes [.dat o] P ⟨x, fa⟩) : Says (tbl_law_doors ++ tbl_law_later_doors) aft fa (envD o p) lam_law_doors_11 y :=
  says_ofA lamF_law_doors_11 (by show _ ∈ tbl_law_doors; exact List.mem_cons_of_mem _ (List.mem_cons_of_mem _ (List.mem_cons_of_mem _ (List.mem_cons_of_mem _ (List.mem_cons_of_mem _ (List.mem_cons_of_mem _ (List.mem_cons_of_mem _ (List.mem_cons_of_mem _ (List.mem_cons_of_mem _ (List.mem_cons_of_mem _ (List.mem_cons_of_mem _ (List.mem_cons_self ..)))))))))))) rfl fun x Q hx => by
    simp only [zipE]
    walk_at "dws"
    exact x_poured_all (h x hx)
theorem sayA_12 (h : ∀ x : XN, (∀ s fs, aft s fs = some y → x s fs) → ∀ P, W_look_sizes [.dat o] P ⟨x, fa⟩) : Says (tbl_law_doors ++ tbl_law_later_doors) aft fa (envD o p) lam_law_doors_12 y :=
  says_ofA lamF_law_doors_12 (by show _ ∈ tbl_law_doors; exact List.mem_cons_of_mem _ (List.mem_cons_of_mem _ (List.mem_cons_of_mem _ (List.mem_cons_of_mem _ (List.mem_cons_of_mem _ (List.mem_cons_of_mem _ (List.mem_cons_of_mem _ (List.mem_cons_of_mem _ (List.mem_cons_of_mem _ (List.mem_cons_of_mem _ (List.mem_cons_of_mem _ (List.mem_cons_of_mem _ (List.mem_cons_self ..))))))))))))) rfl fun x Q hx => by
    simp only [zipE]
    walk_at "dws"
    exact x_by_counts (h x hx)
theorem sayA_13 (h : ∀ x : XN, (∀ s fs, aft s fs = some y → x s fs) → ∀ P, W_look_sizes [.dat o] P ⟨x, fa⟩) : Says (tbl_law_doors ++ tbl_law_later_doors) aft fa (envD o p) lam_law_doors_13 y :=
  says_ofA lamF_law_doors_13 (by show _ ∈ tbl_law_doors; exact List.mem_cons_of_mem _ (List.mem_cons_of_mem _ (List.mem_cons_of_mem _ (List.mem_cons_of_mem _ (List.mem_cons_of_mem _ (List.mem_cons_of_mem _ (List.mem_cons_of_mem _ (List.mem_cons_of_mem _ (List.mem_cons_of_mem _ (List.mem_cons_of_mem _ (List.mem_cons_of_mem _ (List.mem_cons_of_mem _ (List.mem_cons_of_mem _ (List.mem_cons_self ..)))))))))))))) rfl fun x Q hx => by
    simp only [zipE]
    walk_at "dws"
    exact x_one_more (h x hx)
theorem saysA (h : ∀ x : XN, (∀ s fs, aft s fs = some y → x s fs) → ∀ P, W_look_sizes [.dat o] P ⟨x, fa⟩) : Paired (fun l y => Says (tbl_law_doors ++ tbl_law_later_doors) aft fa (envD o p) l y) LAMA (List.replicate 14 y) :=
  .cons (sayA_0 h) (.cons (sayA_1 h) (.cons (sayA_2 h) (.cons (sayA_3 h) (.cons (sayA_4 h) (.cons (sayA_5 h) (.cons (sayA_6 h) (.cons (sayA_7 h) (.cons (sayA_8 h) (.cons (sayA_9 h) (.cons (sayA_10 h) (.cons (sayA_11 h) (.cons (sayA_12 h) (.cons (sayA_13 h) (.nil))))))))))))))
end
abbrev LAMB : List Lam := [lam_law_later_doors_0, lam_law_later_doors_1, lam_law_later_doors_2, lam_law_later_doors_3, lam_law_later_doors_4, lam_law_later_doors_5, lam_law_later_doors_6, lam_law_later_doors_7, lam_law_later_doors_8, lam_law_later_doors_9, lam_law_later_doors_10, lam_law_later_doors_11, lam_law_later_doors_12, lam_law_later_doors_13]
theorem lams_okB {o : PyData} {p : Addr} : ∀ l ∈ LAMB, (l.msc = defScope s_law_later_doors ∧ l.N = N_law_later_doors) ∧ lamOk l = true ∧ capOk l.ms (envD o p) = true := by
  have mk : ∀ {l : Lam} {bs : List Bool}, (l.msc = defScope s_law_later_doors ∧ l.N = N_law_later_doors ∧ l.ms = bs) → lamOk l = true → capOk bs (envD o p) = true → (l.msc = defScope s_law_later_doors ∧ l.N = N_law_later_doors) ∧ lamOk l = true ∧ capOk l.ms (envD o p) = true := fun h1 h2 h3 => ⟨⟨h1.1, h1.2.1⟩, h2, by rw [h1.2.2]; exact h3⟩
  exact List.forall_mem_cons.mpr ⟨mk lamF_law_later_doors_0 lamOk_law_later_doors_0 rfl, List.forall_mem_cons.mpr ⟨mk lamF_law_later_doors_1 lamOk_law_later_doors_1 rfl, List.forall_mem_cons.mpr ⟨mk lamF_law_later_doors_2 lamOk_law_later_doors_2 rfl, List.forall_mem_cons.mpr ⟨mk lamF_law_later_doors_3 lamOk_law_later_doors_3 rfl, List.forall_mem_cons.mpr ⟨mk lamF_law_later_doors_4 lamOk_law_later_doors_4 rfl, List.forall_mem_cons.mpr ⟨mk lamF_law_later_doors_5 lamOk_law_later_doors_5 rfl, List.forall_mem_cons.mpr ⟨mk lamF_law_later_doors_6 lamOk_law_later_doors_6 rfl, List.forall_mem_cons.mpr ⟨mk lamF_law_later_doors_7 lamOk_law_later_doors_7 rfl, List.forall_mem_cons.mpr ⟨mk lamF_law_later_doors_8 lamOk_law_later_doors_8 rfl, List.forall_mem_cons.mpr ⟨mk lamF_law_later_doors_9 lamOk_law_later_doors_9 rfl, List.forall_mem_cons.mpr ⟨mk lamF_law_later_doors_10 lamOk_law_later_doors_10 rfl, List.forall_mem_cons.mpr ⟨mk lamF_law_later_doors_11 lamOk_law_later_doors_11 rfl, List.forall_mem_cons.mpr ⟨mk lamF_law_later_doors_12 lamOk_law_later_doors_12 rfl, List.forall_mem_cons.mpr ⟨mk lamF_law_later_doors_13 lamOk_law_later_doors_13 rfl, by simp⟩⟩⟩⟩⟩⟩⟩⟩⟩⟩⟩⟩⟩⟩
theorem D_B_eq : D_law_later_doors = mSeq (mAsg 1 (mLstM (mCons (mLam lam_law_later_doors_0) mNil))) (lamsB 1 LAMB.tail) := rfl
theorem w_law_later_doors {o : PyData} {M : Mem} {P : MP} {c : Cm} (pp : ∀ M' p (fs : List Addr), fs.length = 14 → Cl M M' p (fs.zip LAMB) (envD o p) → P (.raw (.ref p)) M') : W_law_later_doors [.dat o] M P c :=
  w_asks (l := lam_law_later_doors_0) (ls := LAMB.tail) D_B_eq rfl (by simp) (by simp) (by show 1 < 2; omega) (fun p => lams_okB) pp
theorem says_ofB {aft : Nat → List (Str × V) → Option PyData} {fa : Nat → Addr} {o : PyData} {p : Addr} {y : PyData} {l : Lam} {bs : List Bool} {de : DE} (h1 : l.msc = defScope s_law_later_doors ∧ l.N = N_law_later_doors ∧ l.ms = bs) (h2 : (l, mLft lftP de) ∈ tbl_law_later_doors) (hb : bs.length = 2) (h3 : ∀ (x : XN) (Q : DP), (∀ s fs, aft s fs = some y → x s fs) → de ⟨x, fa⟩ (zipE bs (envD o p)) Q) : Says (tbl_law_doors ++ tbl_law_later_doors) aft fa (envD o p) l y := by
  unfold Says
  rw [h1.2.2, h1.2.1, zipE_len (by rw [hb]; rfl)]
  exact ⟨rfl, de, List.mem_append.mpr (.inr h2), h3⟩
section
variable {aft : Nat → List (Str × V) → Option PyData} {fa : Nat → Addr} {o : PyData} {p : Addr} {y : PyData}
theorem sayB_0 (h : ∀ x : XN, (∀ s fs, aft s fs = some y → x s fs) → ∀ P, W_look_sizes [.dat o] P ⟨x, fa⟩) : Says (tbl_law_doors ++ tbl_law_later_doors) aft fa (envD o p) lam_law_later_doors_0 y :=
  says_ofB lamF_law_later_doors_0 (by show _ ∈ tbl_law_later_doors; exact List.mem_cons_self ..) rfl fun x Q hx => by
    simp only [zipE]
    walk_at "dws"
    exact x_behind (h x hx)
theorem sayB_1 (h : ∀ x : XN, (∀ s fs, aft s fs = some y → x s fs) → ∀ P, W_look_sizes [.dat o] P ⟨x, fa⟩) : Says (tbl_law_doors ++ tbl_law_later_doors) aft fa (envD o p) lam_law_later_doors_1 y :=
  says_ofB lamF_law_later_doors_1 (by show _ ∈ tbl_law_later_doors; exact List.mem_cons_of_mem _ (List.mem_cons_self ..)) rfl fun x Q hx => by
    simp only [zipE]
    walk_at "dws"
    exact x_behind_counts (h x hx)
theorem sayB_2 (h : ∀ x : XN, (∀ s fs, aft s fs = some y → x s fs) → ∀ P, W_look_sizes [.dat o] P ⟨x, fa⟩) : Says (tbl_law_doors ++ tbl_law_later_doors) aft fa (envD o p) lam_law_later_doors_2 y :=
  says_ofB lamF_law_later_doors_2 (by show _ ∈ tbl_law_later_doors; exact List.mem_cons_of_mem _ (List.mem_cons_of_mem _ (List.mem_cons_self ..))) rfl fun x Q hx => by
    simp only [zipE]
    walk_at "dws"
    exact x_ring (h x hx)
theorem sayB_3 (h : ∀ x : XN, (∀ s fs, aft s fs = some y → x s fs) → ∀ P, W_look_sizes [.dat o] P ⟨x, fa⟩) : Says (tbl_law_doors ++ tbl_law_later_doors) aft fa (envD o p) lam_law_later_doors_3 y :=
  says_ofB lamF_law_later_doors_3 (by show _ ∈ tbl_law_later_doors; exact List.mem_cons_of_mem _ (List.mem_cons_of_mem _ (List.mem_cons_of_mem _ (List.mem_cons_self ..)))) rfl fun x Q hx => by
    simp only [zipE]
    walk_at "dws"
    exact x_ring_of_counts (h x hx)
theorem sayB_4 (h : ∀ x : XN, (∀ s fs, aft s fs = some y → x s fs) → ∀ P, W_look_sizes [.dat o] P ⟨x, fa⟩) : Says (tbl_law_doors ++ tbl_law_later_doors) aft fa (envD o p) lam_law_later_doors_4 y :=
  says_ofB lamF_law_later_doors_4 (by show _ ∈ tbl_law_later_doors; exact List.mem_cons_of_mem _ (List.mem_cons_of_mem _ (List.mem_cons_of_mem _ (List.mem_cons_of_mem _ (List.mem_cons_self ..))))) rfl fun x Q hx => by
    simp only [zipE]
    walk_at "dws"
    exact x_turns (h x hx)
theorem sayB_5 (h : ∀ x : XN, (∀ s fs, aft s fs = some y → x s fs) → ∀ P, W_look_sizes [.dat o] P ⟨x, fa⟩) : Says (tbl_law_doors ++ tbl_law_later_doors) aft fa (envD o p) lam_law_later_doors_5 y :=
  says_ofB lamF_law_later_doors_5 (by show _ ∈ tbl_law_later_doors; exact List.mem_cons_of_mem _ (List.mem_cons_of_mem _ (List.mem_cons_of_mem _ (List.mem_cons_of_mem _ (List.mem_cons_of_mem _ (List.mem_cons_self ..)))))) rfl fun x Q hx => by
    simp only [zipE]
    walk_at "dws"
    exact x_ends (h x hx)
theorem sayB_6 (h : ∀ x : XN, (∀ s fs, aft s fs = some y → x s fs) → ∀ P, W_look_sizes [.dat o] P ⟨x, fa⟩) : Says (tbl_law_doors ++ tbl_law_later_doors) aft fa (envD o p) lam_law_later_doors_6 y :=
  says_ofB lamF_law_later_doors_6 (by show _ ∈ tbl_law_later_doors; exact List.mem_cons_of_mem _ (List.mem_cons_of_mem _ (List.mem_cons_of_mem _ (List.mem_cons_of_mem _ (List.mem_cons_of_mem _ (List.mem_cons_of_mem _ (List.mem_cons_self ..))))))) rfl fun x Q hx => by
    simp only [zipE]
    walk_at "dws"
    exact x_kin (h x hx)
theorem sayB_7 (h : ∀ x : XN, (∀ s fs, aft s fs = some y → x s fs) → ∀ P, W_look_sizes [.dat o] P ⟨x, fa⟩) : Says (tbl_law_doors ++ tbl_law_later_doors) aft fa (envD o p) lam_law_later_doors_7 y :=
  says_ofB lamF_law_later_doors_7 (by show _ ∈ tbl_law_later_doors; exact List.mem_cons_of_mem _ (List.mem_cons_of_mem _ (List.mem_cons_of_mem _ (List.mem_cons_of_mem _ (List.mem_cons_of_mem _ (List.mem_cons_of_mem _ (List.mem_cons_of_mem _ (List.mem_cons_self ..)))))))) rfl fun x Q hx => by
    simp only [zipE]
    walk_at "dws"
    exact x_kin_holds (h x hx)
theorem sayB_8 (h : ∀ x : XN, (∀ s fs, aft s fs = some y → x s fs) → ∀ P, W_look_sizes [.dat o] P ⟨x, fa⟩) : Says (tbl_law_doors ++ tbl_law_later_doors) aft fa (envD o p) lam_law_later_doors_8 y :=
  says_ofB lamF_law_later_doors_8 (by show _ ∈ tbl_law_later_doors; exact List.mem_cons_of_mem _ (List.mem_cons_of_mem _ (List.mem_cons_of_mem _ (List.mem_cons_of_mem _ (List.mem_cons_of_mem _ (List.mem_cons_of_mem _ (List.mem_cons_of_mem _ (List.mem_cons_of_mem _ (List.mem_cons_self ..))))))))) rfl fun x Q hx => by
    simp only [zipE]
    walk_at "dws"
    exact x_meet (h x hx)
theorem sayB_9 (h : ∀ x : XN, (∀ s fs, aft s fs = some y → x s fs) → ∀ P, W_look_sizes [.dat o] P ⟨x, fa⟩) : Says (tbl_law_doors ++ tbl_law_later_doors) aft fa (envD o p) lam_law_later_doors_9 y :=
  says_ofB lamF_law_later_doors_9 (by show _ ∈ tbl_law_later_doors; exact List.mem_cons_of_mem _ (List.mem_cons_of_mem _ (List.mem_cons_of_mem _ (List.mem_cons_of_mem _ (List.mem_cons_of_mem _ (List.mem_cons_of_mem _ (List.mem_cons_of_mem _ (List.mem_cons_of_mem _ (List.mem_cons_of_mem _ (List.mem_cons_self ..)))))))))) rfl fun x Q hx => by
    simp only [zipE]
    walk_at "dws"
    exact x_apart_at_last (h x hx)
theorem sayB_10 (h : ∀ x : XN, (∀ s fs, aft s fs = some y → x s fs) → ∀ P, W_look_sizes [.dat o] P ⟨x, fa⟩) : Says (tbl_law_doors ++ tbl_law_later_doors) aft fa (envD o p) lam_law_later_doors_10 y :=
  says_ofB lamF_law_later_doors_10 (by show _ ∈ tbl_law_later_doors; exact List.mem_cons_of_mem _ (List.mem_cons_of_mem _ (List.mem_cons_of_mem _ (List.mem_cons_of_mem _ (List.mem_cons_of_mem _ (List.mem_cons_of_mem _ (List.mem_cons_of_mem _ (List.mem_cons_of_mem _ (List.mem_cons_of_mem _ (List.mem_cons_of_mem _ (List.mem_cons_self ..))))))))))) rfl fun x Q hx => by
    simp only [zipE]
    unfold dCallKDN
    walk_at "dws"
    exact ⟨rfl, x_when (h x hx)⟩
theorem sayB_11 (h : ∀ x : XN, (∀ s fs, aft s fs = some y → x s fs) → ∀ P, W_look_sizes [.dat o] P ⟨x, fa⟩) : Says (tbl_law_doors ++ tbl_law_later_doors) aft fa (envD o p) lam_law_later_doors_11 y :=
  says_ofB lamF_law_later_doors_11 (by show _ ∈ tbl_law_later_doors; exact List.mem_cons_of_mem _ (List.mem_cons_of_mem _ (List.mem_cons_of_mem _ (List.mem_cons_of_mem _ (List.mem_cons_of_mem _ (List.mem_cons_of_mem _ (List.mem_cons_of_mem _ (List.mem_cons_of_mem _ (List.mem_cons_of_mem _ (List.mem_cons_of_mem _ (List.mem_cons_of_mem _ (List.mem_cons_self ..)))))))))))) rfl fun x Q hx => by
    simp only [zipE]
    unfold dCallKDN
    walk_at "dws"
    exact ⟨rfl, x_first_time (h x hx)⟩
theorem sayB_12 (h : ∀ x : XN, (∀ s fs, aft s fs = some y → x s fs) → ∀ P, W_look_sizes [.dat o] P ⟨x, fa⟩) : Says (tbl_law_doors ++ tbl_law_later_doors) aft fa (envD o p) lam_law_later_doors_12 y :=
  says_ofB lamF_law_later_doors_12 (by show _ ∈ tbl_law_later_doors; exact List.mem_cons_of_mem _ (List.mem_cons_of_mem _ (List.mem_cons_of_mem _ (List.mem_cons_of_mem _ (List.mem_cons_of_mem _ (List.mem_cons_of_mem _ (List.mem_cons_of_mem _ (List.mem_cons_of_mem _ (List.mem_cons_of_mem _ (List.mem_cons_of_mem _ (List.mem_cons_of_mem _ (List.mem_cons_of_mem _ (List.mem_cons_self ..))))))))))))) rfl fun x Q hx => by
    simp only [zipE]
    unfold dCallKDN
    walk_at "dws"
    exact ⟨rfl, x_never (h x hx)⟩
theorem sayB_13 (h : ∀ x : XN, (∀ s fs, aft s fs = some y → x s fs) → ∀ P, W_look_sizes [.dat o] P ⟨x, fa⟩) : Says (tbl_law_doors ++ tbl_law_later_doors) aft fa (envD o p) lam_law_later_doors_13 y :=
  says_ofB lamF_law_later_doors_13 (by show _ ∈ tbl_law_later_doors; exact List.mem_cons_of_mem _ (List.mem_cons_of_mem _ (List.mem_cons_of_mem _ (List.mem_cons_of_mem _ (List.mem_cons_of_mem _ (List.mem_cons_of_mem _ (List.mem_cons_of_mem _ (List.mem_cons_of_mem _ (List.mem_cons_of_mem _ (List.mem_cons_of_mem _ (List.mem_cons_of_mem _ (List.mem_cons_of_mem _ (List.mem_cons_of_mem _ (List.mem_cons_self ..)))))))))))))) rfl fun x Q hx => by
    simp only [zipE]
    unfold dCallKDN
    walk_at "dws"
    exact ⟨rfl, x_never_holds (h x hx)⟩
theorem saysB (h : ∀ x : XN, (∀ s fs, aft s fs = some y → x s fs) → ∀ P, W_look_sizes [.dat o] P ⟨x, fa⟩) : Paired (fun l y => Says (tbl_law_doors ++ tbl_law_later_doors) aft fa (envD o p) l y) LAMB (List.replicate 14 y) :=
  .cons (sayB_0 h) (.cons (sayB_1 h) (.cons (sayB_2 h) (.cons (sayB_3 h) (.cons (sayB_4 h) (.cons (sayB_5 h) (.cons (sayB_6 h) (.cons (sayB_7 h) (.cons (sayB_8 h) (.cons (sayB_9 h) (.cons (sayB_10 h) (.cons (sayB_11 h) (.cons (sayB_12 h) (.cons (sayB_13 h) (.nil))))))))))))))
end
end Lw
namespace Lw
open PySem PySem.Spec PyProof.Rows L2 DL DW DM
local macro_rules | `(tactic| walk_at "mwv") => `(tactic| ((try simp only [DM.wM, wFn, List.length_cons, List.length_nil, Nat.reduceAdd, true_and, Nat.reduceSub, List.replicate_succ, List.replicate_zero, List.append_nil, List.cons_append, List.nil_append, List.map_cons, List.map_nil]) <;> try simp only [mSeq, mIfS, mAsg, mRet, mRetN, mExpr, mBrk, mCnt, mNext, mLft, mLftT, mLftS, mLftI, lftP, mVar, mFld, mFldS, mFldAug, mMeth, mCall, mCallW, mMake, mNew, mCb, DM.mc, DM.mo, mBin, mUn, mu, mChain, mTst, mAnd, mOr, mNot, mAndV, mOrV, mNotV, mIfE, mNil, mCons, mTup, mLstD, mLstM, mDPut, mDDel, mDNew, mApp, mExt, mFor, mISeq, mLc, lcStepM, lcFin, mYes, mFgt, mSl, mONone, mOSome, oAddR, mLcL, lcStepL, dIRg3, mMakeK, mFrz, mParG, setAll, oDGet, oDIn, cLenD, cListD, cDictD, oIxR, keyD, vw_dat, oMulE, mTupM, oEmp, oEmpN, mUnp, mPop, mDPop, mAsgGs, mGPut, mGName, mGs, mDisp, mPairs, mLockE, mLockS, mIKeys, mIRg1, oIxT, wFn, dSeq, dIfS, dNext, dAsg, dPar, dRet, dRetV, dRetN, dExpr, dBrk, dCnt, dFor, dFrz, DW.frzAt, dAsgG, dGName, dGSub, dGNil, dGCons, dGTup, dAugI, dAug, dApp, dExt, dRaise, dVar, dC, dBin, dUn, dChain, dTst, dAnd, dOr, dNot, dYes, dAndV, dOrV, dNotV, dIfE, dNil, dCons, dTup, dLst, dats, dNone, dSome, dSl, oCut, dCall, dCb, dLrg, pk, dCallK, dTab, dCallV, dISeq, dIRg1, dIRg2, dIZip, dIEnum, tfName, tfPair, dLc, lcStep, DW.Cn.no, dCount, scVs, scV, oAdd, oSub, oMul, oMod, oDiv, oCmp, oNeg, oEq, toD, oIsN, oIx, seqD, lstD, bLen, bTuple, bList, bAbs, bMin, bMax, bSum, bAll, bAny, bSorted, bIsi, fz, isPl_dat, isPl_raw, isPl_bag, oIn, flD, List.cons_append, List.nil_append, List.append_nil, List.getElem?_cons_zero, List.getElem?_cons_succ, List.getElem?_nil, List.set_cons_zero, List.set_cons_succ, List.length_cons, List.length_nil, List.all_cons, List.all_nil, List.replicate_succ, List.replicate_zero, Bool.and_true, Bool.and_self, Bool.true_and, List.filterMap_cons, List.filterMap_nil, Nat.reduceAdd, Nat.reduceSub, Nat.zero_add, true_and, and_true, if_true, ite_true, Bool.not_true, Bool.not_false, Bool.false_eq_true, if_false, ite_false]))
theorem pair_app {α β : Type} {R : α → β → Prop} : ∀ {a c : List α} {b d : List β}, Paired R a b → Paired R c d → Paired R (a ++ c) (b ++ d)
  | [], _, [], _, .nil, h => h
  | _ :: _, _, _ :: _, _, .cons r t, h => .cons r (pair_app t h)
theorem comp_doors {c : Cm} {δ : En} {M : Mem} {P : MP} {o y : PyData} (h8 : δ[8]? = some none) (h4 : δ[4]? = some (some (.dat o))) (h : ∀ x : XN, (∀ s fs, aft2 s fs = some y → x s fs) → ∀ P, W_look_sizes [.dat o] P ⟨x, c.fa⟩) (pp : ∀ M', P (.dat (.list (List.replicate 14 y ++ List.replicate 14 y))) M') :
    mLcL .dat (mBin oAddR (mCall W_law_doors (mCons (mLft lftP (dVar 4)) mNil)) (mCall W_law_later_doors (mCons (mLft lftP (dVar 4)) mNil))) 8 mYes (mToldC (rtWord "none") aft2 (tbl_law_doors ++ tbl_law_later_doors) (mVar 8)) [8] c δ M P := by
  have h8l := (List.getElem?_eq_some_iff.mp h8).1
  have s8 : ∀ v : DV, (δ.set 8 (some v))[8]? = some (some v) := fun v => List.getElem?_set_self h8l
  unfold mLcL
  refine ⟨fun v hv => by rw [List.mem_singleton.mp hv]; exact h8, ?_⟩
  simp only [mBin, mCall, mCons, mNil, mLft, dVar, h4, lftP]
  refine w_law_doors fun M1 p fs hl hc => ?_
  refine w_law_later_doors fun M2 p2 fs2 hl2 hc2 => ?_
  unfold oAddR
  dsimp only
  rw [hc2.keep p _ hc.hp, hc2.hp]
  have l1 : (fs.zip LAMA).length = 14 := by rw [List.length_zip, hl]; rfl
  have l2 : (fs2.zip LAMB).length = 14 := by rw [List.length_zip, hl2]; rfl
  refine ⟨by rw [List.length_map, List.length_map, l1, l2]; decide, fun p3 hp3 => ?_⟩
  rw [um_same]
  refine ⟨by rw [List.length_append, List.length_map, List.length_map, l1, l2]; decide, ?_⟩
  have e : rfs (fs.zip LAMA) ++ rfs (fs2.zip LAMB) = rfs (fs.zip LAMA ++ fs2.zip LAMB) := (List.map_append ..).symm
  rw [e]
  refine lcGo_told (ys := List.replicate 14 y ++ List.replicate 14 y) um_same (pair_app (paired_zip (saysA (p := p) h) hl fun q hq y' hy K hk => ?_) (paired_zip (saysB (p := p2) h) hl2 fun q hq y' hy K hk => ?_)) ?_
  · have m1 := hc2.keep _ _ (hc.at_ q hq)
    refine toldC_x (c := c.no) (s8 _) ?_ hy hk
    rw [um_ne (fun z => by rw [z, hp3] at m1; cases m1)]
    exact m1
  · have m1 := hc2.at_ q hq
    refine toldC_x (c := c.no) (s8 _) ?_ hy hk
    rw [um_ne (fun z => by rw [z, hp3] at m1; cases m1)]
    exact m1
  · unfold lcFin
    dsimp only
    rw [dats_map]
    exact pp _
theorem odd_fails {ms : List Int} {k : Int} (h : flaw ms = some k) (hl : ms.length ≤ 1000) {fa : Nat → Addr} : ∀ x : XN, (∀ s fs, aft2 s fs = some (.int k) → x s fs) → ∀ P, W_look_sizes [.dat (nums ms)] P ⟨x, fa⟩ := fun x hx P =>
  w_looks (fun z => by rw [h] at z; cases z) (fun j hj => by
    rw [h] at hj
    cases hj
    exact hx _ _ rfl) hl
theorem pow20 : (10 : Int) ^ (20 : Int).toNat = 100000000000000000000 := by decide
theorem cpow20 : CPow 10 20 := ⟨by decide, by decide, by decide⟩
theorem b3_ok {M : Mem} {c : Cm} {D : MEd} {ms od : List Int} {k d : Int} {s3 s5 s7 : Option DV} (h : flaw od = some d) (hl : od.length ≤ 1000) (pp : ∀ M', D.rt (dbl true) M') : B_law_3 c [none, some .bag, some (.dat (nums ms)), s3, some (.dat (nums od)), s5, some (dint d), s7, none] M D := by
  unfold B_law_3
  refine sqM ?_
  unfold mAsg
  refine comp_doors (y := .int d) rfl rfl (odd_fails h hl) fun M' => ?_
  unfold B_law_2
  refine nxM ?_
  walk_at "mwv"
  refine ⟨by decide, ?_⟩
  have fl : Flat 6 (.list (List.replicate 28 (PyData.int d))) := ⟨by simp, fun x hx => by rw [List.eq_of_mem_replicate hx]; trivial⟩
  have ly : Lay 1 (.list (List.replicate 28 (PyData.int d))) := lay_list fun x hx => by rw [List.eq_of_mem_replicate hx]; exact lay_int
  exact w_same fl ly.1 (pp M')
theorem b4_ok {M : Mem} {c : Cm} {D : MEd} {ms od : List Int} {i d : Int} {s3 : Option DV} (h : flaw od = some d) (hl : od.length ≤ 1000) (hi : i = 1 → 1 ≤ od.length) (pp : ∀ M', D.rt (dbl true) M') : B_law_4 c [none, some .bag, some (.dat (nums ms)), s3, some (.dat (nums od)), some (dint i), some (dint d), none, none] M D := by
  unfold B_law_4
  refine sqM ?_
  walk_at "mwv"
  refine ⟨⟨sh_int, sh_int⟩, ?_⟩
  by_cases z : i = 1
  · rw [if_pos (by rw [eqv_ii, z]; rfl)]
    have h1 := hi z
    unfold B_law_1
    walk_at "mwv"
    refine ⟨⟨fun e => ?_, by rw [List.length_map]; exact hl, by omega, by omega⟩, ?_⟩
    · have := congrArg List.length e
      rw [List.length_map] at this
      simp at this
      rw [this] at h1
      simp at h1
    have e : ((List.replicate (Int.toNat 7) (od.map PyData.int)).flatten) = ((List.replicate 7 od).flatten).map .int := by
      rw [List.map_flatten, List.map_replicate]
      rfl
    rw [e, show (some 7 : Option Int) = some ((7 : Nat) : Int) from rfl, cut_to, ← List.map_take]
    have l7 : (((List.replicate 7 od).flatten).take 7).length = 7 := by
      rw [List.length_take]
      simp
      omega
    refine ltM ?_
    exact b3_ok (k := 0) (flaw_out (.inr (by omega))) (by omega) pp
  · rw [if_neg (by rw [eqv_ii]; simpa using z)]
    exact b3_ok (k := 0) h hl pp
theorem law_holds (fa : Nat → Addr) : D_law ⟨fun _ _ _ => False, fa⟩ (none :: some .bag :: List.replicate 7 none) (fun _ => none) ⟨fun _ _ => False, fun r _ => r = dbl true, fun _ _ => False, fun _ _ => False⟩ := by
  unfold D_law B_law_10
  refine sqM ?_
  walk_at "mwv"
  refine w_any_sizes fun ms hs => ?_
  simp only [lftP]
  have lo := hs.lo
  have hi := hs.hi
  unfold B_law_9
  refine ltM (sqM ?_)
  walk_at "mwv"
  simp only [List.length_map]
  refine w_take ⟨by omega, by omega⟩ fun k k0 k1 => ?_
  simp only [lftP]
  obtain ⟨k, rfl⟩ := Int.eq_ofNat_of_zero_le k0
  unfold B_law_8
  refine ltM (sqM ?_)
  walk_at "mwv"
  simp only [oPow, pow20]
  refine ⟨.inl cpow20, ?_⟩
  refine w_pick (ds := [.int 0, .int 41, .int (-1), .int 100000000000000000000]) (by simp) (by simp) fun d hd => ?_
  obtain ⟨v, rfl, hv⟩ : ∃ v : Int, d = .int v ∧ bad v = true := by
    simp only [List.mem_cons, List.not_mem_nil, or_false] at hd
    rcases hd with rfl | rfl | rfl | rfl
    all_goals exact ⟨_, rfl, by decide⟩
  have kn : k < ms.length := by omega
  rw [show ((k : Int) + 1) = ((k + 1 : Nat) : Int) from rfl, cut_to, cut_from (by rw [List.length_map]; omega), ← List.map_take, ← List.map_drop]
  have hod : flaw (ms.take k ++ v :: ms.drop (k + 1)) = some (k : Int) := by
    have hlen : (ms.take k ++ v :: ms.drop (k + 1)).length = ms.length := by simp; omega
    have tl : (ms.take k).length = k := by simp; omega
    refine flaw_at (by omega) (by omega) (by omega) (fun j hj => ?_) ?_
    · have e : at_ (ms.take k ++ v :: ms.drop (k + 1)) (j : Int) = at_ ms (j : Int) := by
        unfold at_
        rw [Int.toNat_natCast, List.getD_eq_getElem?_getD, List.getD_eq_getElem?_getD, List.getElem?_append_left (by omega), List.getElem?_take_of_lt hj]
      rw [e]
      have := hs.at_ (j : Int) (by omega) (by omega)
      unfold bad
      simp [this.1, this.2]
    · have e : at_ (ms.take k ++ v :: ms.drop (k + 1)) (k : Int) = v := by
        unfold at_
        rw [Int.toNat_natCast, List.getD_eq_getElem?_getD, List.getElem?_append_right (by omega), tl, Nat.sub_self]
        rfl
      rw [e]
      exact hv
  have hodl : (ms.take k ++ v :: ms.drop (k + 1)).length = ms.length := by simp; omega
  refine ⟨by simp; omega, by simp; omega, ?_⟩
  have e : (List.map PyData.int (ms.take k) ++ [PyData.int v] ++ List.map PyData.int (ms.drop (k + 1))) = (ms.take k ++ v :: ms.drop (k + 1)).map .int := by
    simp only [List.map_append, List.map_cons, List.append_assoc, List.cons_append, List.nil_append]
  rw [e]
  generalize ms.take k ++ v :: ms.drop (k + 1) = od at *
  unfold B_law_7
  refine ltM (sqM ?_)
  walk_at "mwv"
  refine w_take ⟨by omega, by omega⟩ fun i i0 i1 => ?_
  simp only [lftP]
  unfold B_law_6
  refine ltM (sqM ?_)
  walk_at "mwv"
  unfold B_law_5
  refine ltM (sqM ?_)
  walk_at "mwv"
  refine ⟨⟨sh_int, sh_int⟩, ?_⟩
  have rr : ∀ M' : Mem, (⟨fun _ _ => False, fun r _ => r = dbl true, fun _ _ => False, fun _ _ => False⟩ : MEd).rt (dbl true) M' := fun _ => rfl
  by_cases z : i = 0
  · rw [if_pos (by rw [eqv_ii, z]; rfl)]
    unfold B_law_0
    walk_at "mwv"
    refine ltM ?_
    exact b4_ok (od := []) (d := -1) (flaw_out (.inl rfl)) (by simp) (fun z2 => by omega) rr
  · rw [if_neg (by rw [eqv_ii]; simpa using z)]
    exact b4_ok hod (by omega) (fun _ => by omega) rr
end Lw
namespace Lw
open PySem PySem.Spec PyProof.Rows L2 DL DW DM
section
variable {P : Program} {w : World} {K : PySem.W.Frag} {mg : Str → Option Value} {base : Heap}
def spLawT (K : PySem.W.Frag) (P P2 : Addr) : Sp := fun vs H Q _ => ∃ (a : Addr) (ns : List Int), vs = [.ref a] ∧ SqL K H a (ns.map V.int) ∧ ns.length ≤ 63 ∧ H P = some (.tbl #[]) ∧ H P2 = some (.tbl #[]) ∧ ∀ H', Q (.bl true) H'
theorem ok_law (T : Top K mg w) (TB : LamX.TabB base mg T.k_law_doors T.P_law_doors) (TB2 : LamX.TabB base mg T.k_law_later_doors T.P_law_later_doors) : FnOk P w K mg base CX0 10 T.a_law T.fd_law ["_law_script"] (spLawT K T.P_law_doors T.P_law_later_doors) := by
  have G_law_open := ok_law_open (P := P) (w := w) (base := base) T
  have G_law_any_sizes := ok_law_any_sizes (P := P) (w := w) (base := base) T
  have G_law_take := ok_law_take (P := P) (w := w) (base := base) T
  have G_law_same := ok_law_same (P := P) (w := w) (base := base) T 6
  have G_law_pick := ok_law_pick (P := P) (w := w) (base := base) T
  have G_law_doors := ok_law_doors (P := P) (w := w) (base := base) T TB
  have G_law_later_doors := ok_law_later_doors (P := P) (w := w) (base := base) T TB2
  refine T.F_law.ok sc_law (fun vs H Q E h => ?_) (fun cdv A outer s H vs Q E hr h => ?_)
  · obtain ⟨a, ns, rfl, _⟩ := h
    rfl
  · obtain ⟨a, ns, rfl, hS, hlen, hP, hP2, q⟩ := h
    obtain ⟨u, j1, j2⟩ : XSs (cxOf CX0 P w K mg base N_law "law" (defScope s_law) T.a_law cdv A outer s H E).nox ⟨9, fun _ _ _ => False, T.cls, T.fa, fun t => t = tabs_lam T⟩ (defBody s_law).tail (mSeq (mAsg 2 (mLft lftP (dCall W_law_any_sizes (dCons (dVar 1) dNil))))
    (mSeq (mAsg 3 (mLft lftP (dCall W_take (dCons (dVar 1) (dCons (dCb bLen (dCons (dVar 2) dNil)) dNil)))))
    (mSeq (mAsg 4 (mLft lftP (dBin oAdd (dBin oAdd (dSl (dVar 2) dNone (dSome (dVar 3))) (dTup (dCons (dCall W_law_pick (dCons (dVar 1) (dCons (dLst (dCons (dC (dint 0)) (dCons (dC (dint 41)) (dCons (dUn oNeg (dC (dint 1))) (dCons (dBin oPow (dC (dint 10)) (dC (dint 20))) dNil))))) dNil))) dNil))) (dSl (dVar 2) (dSome (dBin oAdd (dVar 3) (dC (dint 1)))) dNone))))
    (mSeq (mAsg 5 (mLft lftP (dCall W_take (dCons (dVar 1) (dCons (dC (dint 4)) dNil)))))
    (mSeq (mAsg 6 (mLft lftP (dVar 3)))
    (mSeq (mIfS (mLftT (dTst (dBin (oEq false) (dVar 5) (dC (dint 0))))) (mParG [4, 6] (mCons (mLft lftP (dTup dNil)) (mCons (mLft lftP (dUn oNeg (dC (dint 1)))) mNil))) mNext)
    (mSeq (mIfS (mLftT (dTst (dBin (oEq false) (dVar 5) (dC (dint 1))))) (mParG [4, 6] (mCons (mLft lftP (dSl (dBin oMul (dVar 4) (dC (dint 7))) dNone (dSome (dC (dint 7))))) (mCons (mLft lftP (dUn oNeg (dC (dint 1)))) mNil))) mNext)
    (mSeq (mAsg 7 (mLcL .dat (mBin oAddR (mCall W_law_doors (mCons (mLft lftP (dVar 4)) mNil)) (mCall W_law_later_doors (mCons (mLft lftP (dVar 4)) mNil))) 8 mYes (mToldC (rtWord "none") aft2 (tbl_law_doors ++ tbl_law_later_doors) (mVar 8)) [8]))
    (mRet (mLft lftP (dCall (W_law_same 6) (dCons (dVar 7) (dCons (dBin oMul (dLst (dCons (dVar 6) dNil)) (dC (dint 28))) dNil))))))))))))) := (xss_cons (xs_set sc_law.nd rfl (ltr rfl) (xe_lft (je_call G_law_any_sizes (hr.mono (by omega)) (by rfl) T.g_law_any_sizes T.F_law_any_sizes.kp T.b_law_any_sizes passE0 (ja_cons (je_var (pv 1)) ja_nil))) (fun _ h => ps_set (i := 2) sc_law.nd rfl (by first | exact Or.inl rfl | exact Or.inr rfl) h))
      (xss_cons (xs_set sc_law.nd rfl (ltr rfl) (xe_lft (je_call G_law_take (hr.mono (by omega)) (by rfl) T.g_law_take T.F_law_take.kp T.b_law_take passE0 (ja_cons (je_var (pv 1)) (ja_cons (je_callB jb_len (by rfl) T.m_len PySem.boot_len (ja_cons (je_var (pv 2)) ja_nil)) ja_nil)))) (fun _ h => ps_set (i := 3) sc_law.nd rfl (by first | exact Or.inl rfl | exact Or.inr rfl) h))
      (xss_cons (xs_set sc_law.nd rfl (ltr rfl) (xe_lft (je_op (jo_add T.kl) (je_op (jo_add T.kl) (je_sl (je_var (pv 2)) jo_none (jo_some (je_var (pv 3)))) (je_tup (ja_cons (je_call G_law_pick (hr.mono (by omega)) (by rfl) T.g_law_pick T.F_law_pick.kp T.b_law_pick passE0 (ja_cons (je_var (pv 1)) (ja_cons (je_lst (ja_cons je_int (ja_cons je_int (ja_cons (je_un ju_neg je_int) (ja_cons (je_op jo_pow je_int je_int) ja_nil))))) ja_nil))) ja_nil))) (je_sl (je_var (pv 2)) (jo_some (je_op (jo_add T.kl) (je_var (pv 3)) je_int)) jo_none))) (fun _ h => ps_set (i := 4) sc_law.nd rfl (by first | exact Or.inl rfl | exact Or.inr rfl) h))
      (xss_cons (xs_set sc_law.nd rfl (ltr rfl) (xe_lft (je_call G_law_take (hr.mono (by omega)) (by rfl) T.g_law_take T.F_law_take.kp T.b_law_take passE0 (ja_cons (je_var (pv 1)) (ja_cons je_int ja_nil)))) (fun _ h => ps_set (i := 5) sc_law.nd rfl (by first | exact Or.inl rfl | exact Or.inr rfl) h))
      (xss_cons (xs_set sc_law.nd rfl (ltr rfl) (xe_lft (je_var (pv 3))) (fun _ h => ps_set (i := 6) sc_law.nd rfl (by first | exact Or.inl rfl | exact Or.inr rfl) h))
      (xss_cons (xs_if (xt_lft (jt_cmp (jo_eq hr.units) (je_var (pv 5)) je_int (nomark _))) (xss_one (xs_parG (is := [4, 6]) (by decide) (by simp) (xa_cons (xe_lft (je_tup ja_nil)) (xa_cons (xe_lft (je_un ju_neg je_int)) xa_nil)) (fun _ h => ps_asg (TF.pe_tupF h) (pg_tup rfl (pgs_cons (pg_name (i := 4) sc_law.nd rfl (by first | exact Or.inl rfl | exact Or.inr rfl)) (pgs_cons (pg_name (i := 6) sc_law.nd rfl (by first | exact Or.inl rfl | exact Or.inr rfl)) pgs_nil)))))) xss_nil)
      (xss_cons (xs_if (xt_lft (jt_cmp (jo_eq hr.units) (je_var (pv 5)) je_int (nomark _))) (xss_one (xs_par2 (ltr rfl) (ltr rfl) (xa_cons (xe_lft (je_sl (je_op (jo_mul T.kl) (je_var (pv 4)) je_int) jo_none (jo_some je_int))) (xa_cons (xe_lft (je_un ju_neg je_int)) xa_nil)) rfl (fun _ h => ps_par (i := 4) (j := 6) (by rfl) sc_law.nd rfl rfl (by decide) rfl rfl h (by rfl)))) xss_nil)
      (xss_cons (xs_setLcL (j := 7) (own := [("_law_ask", 8)]) rfl sc_law.nd rfl rfl (sw_true rfl rfl rfl (by decide +kernel)) (ltr rfl) (xe_op xop_catR (xe_call G_law_doors (hr.mono (by omega)) (by rfl) T.g_law_doors T.F_law_doors.kp T.b_law_doors passE0 (fun _ h => h) (xa_cons (xe_lft (je_var (pv 4))) xa_nil)) (xe_call G_law_later_doors (hr.mono (by omega)) (by rfl) T.g_law_later_doors T.F_law_later_doors.kp T.b_law_later_doors passE0 (fun _ h => h) (xa_cons (xe_lft (je_var (pv 4))) xa_nil))) (blkOk_by (own := [("_law_ask", 8)]) (N := N_law) (sc := defScope s_law) (by decide +kernel)) (ltr rfl) (by decide) (fun _ => (pg_name (i := 8) sc_law.nd rfl (by first | exact Or.inl rfl | exact Or.inr rfl))) (fun _ => xts_nil) (fun _ => (xe_clo_law_told T rfl rfl rfl (by rfl) (hr.mono (by omega)) (xe_var (pv 8)) (bods_law_doors_law_later_doors T))))
      (xss_one (xs_ret (xe_lft (je_call G_law_same (hr.mono (by omega)) (by rfl) T.g_law_same T.F_law_same.kp T.b_law_same passE0 (ja_cons (je_var (pv 7)) (ja_cons (je_op (jo_mul T.kl) (je_lst (ja_cons (je_var (pv 6)) ja_nil)) je_int) ja_nil))))))))))))))
    refine ⟨_, C8.pss_cut (ps_set (i := 1) sc_law.nd rfl (by first | exact Or.inl rfl | exact Or.inr rfl) (pe_call G_law_open (hr.mono (by omega)) (by rfl) T.g_law_open T.F_law_open.kp T.b_law_open .nil pass0 (pa_cons (pv 0) pa_nil))) j1, ?_⟩
    refine ⟨fun σ' H' => ∃ b l ms, σ' = [some (.ref a), some (.ref b), none, none, none, none, none, none, none] ∧ b ≠ l ∧ H' b = some (.lst [.ref l, .int 0, .int 0, .int 9465, .int 0]) ∧ H' l = some (.lst (ms.map V.int)) ∧ H' T.P_law_doors = some (.tbl #[]) ∧ H' T.P_law_later_doors = some (.tbl #[]), ⟨.ref a, rfl, a, ns, rfl, hS, fun b l ms H1 keep nbl hb hl => ⟨b, l, ms, rfl, nbl, hb, hl, keep _ _ hP, keep _ _ hP2⟩⟩, ?_⟩
    rintro σ1 H1 ⟨b, l, ms, rfl, nbl, hb, hl, hP, hP2⟩
    obtain ⟨I, k, n⟩ := bag_start (K := K) (n := 7) (T := tabs_lam T) nbl hb hl (fun p hp => by
      rcases List.mem_cons.mp hp with e | e
      · rw [e]
        exact LamX.TabS.nil hP
      · rcases List.mem_cons.mp e with e | e
        · rw [e]
          exact LamX.TabS.nil hP2
        · cases e) (σ := [some (.ref a), some (.ref b), none, none, none, none, none, none, none]) rfl rfl
    exact law_m j2 k n rfl rfl (c := ⟨fun _ _ _ => False, T.fa⟩) rfl (fun _ _ _ h => h) rfl (law_holds T.fa) q
end
theorem hfacts {l : PySem.W.OpenLaw} {w : World} {K : PySem.W.Frag} {h : Heap} {mg : Str → Option Value} {f : Addr} (X : K.In h) (G : h.Ns mainGlobals mg) (hfa0 : mg ("law" : Str) = some (.ref f)) (c : He.SaysX hfa hfn hts htf hex w h K) : LamX.LawAtS l w K CX0 10 63 "_law_script" mg f h := by
  have m0 : hex K = true := c.more
  unfold hex at m0
  obtain ⟨x0, m1⟩ := He.ba m0
  obtain ⟨x1, m2⟩ := He.ba m1
  obtain ⟨x2, m3⟩ := He.ba m2
  obtain ⟨x3, m4⟩ := He.ba m3
  obtain ⟨fd_look_sizes, FD_look_sizes⟩ := c.t.d.def_ 0 (d := HX.dd "look_sizes" "look_sizes" s_look_sizes) rfl
  have F_look_sizes : Fun K "look_sizes" "look_sizes" s_look_sizes (He.ga K "look_sizes") fd_look_sizes := HX.fun_of FD_look_sizes
  obtain ⟨fd_look_counts, FD_look_counts⟩ := c.t.d.def_ 1 (d := HX.dd "look_counts" "look_counts" s_look_counts) rfl
  have F_look_counts : Fun K "look_counts" "look_counts" s_look_counts (He.ga K "look_counts") fd_look_counts := HX.fun_of FD_look_counts
  obtain ⟨fd_look_stand, FD_look_stand⟩ := c.t.d.def_ 2 (d := HX.dd "look_stand" "look_stand" s_look_stand) rfl
  have F_look_stand : Fun K "look_stand" "look_stand" s_look_stand (He.ga K "look_stand") fd_look_stand := HX.fun_of FD_look_stand
  obtain ⟨fd_stand_of, FD_stand_of⟩ := c.t.d.def_ 3 (d := HX.dd "stand_of" "stand_of" s_stand_of) rfl
  have F_stand_of : Fun K "stand_of" "stand_of" s_stand_of (He.ga K "stand_of") fd_stand_of := HX.fun_of FD_stand_of
  obtain ⟨fd_room, FD_room⟩ := c.t.d.def_ 4 (d := HX.dd "room" "room" s_room) rfl
  have F_room : Fun K "room" "room" s_room (He.ga K "room") fd_room := HX.fun_of FD_room
  obtain ⟨fd_apart, FD_apart⟩ := c.t.d.def_ 5 (d := HX.dd "apart" "apart" s_apart) rfl
  have F_apart : Fun K "apart" "apart" s_apart (He.ga K "apart") fd_apart := HX.fun_of FD_apart
  obtain ⟨fd_look_deed, FD_look_deed⟩ := c.t.d.def_ 6 (d := HX.dd "look_deed" "look_deed" s_look_deed) rfl
  have F_look_deed : Fun K "look_deed" "look_deed" s_look_deed (He.ga K "look_deed") fd_look_deed := HX.fun_of FD_look_deed
  obtain ⟨fd_look_row, FD_look_row⟩ := c.t.d.def_ 7 (d := HX.dd "look_row" "look_row" s_look_row) rfl
  have F_look_row : Fun K "look_row" "look_row" s_look_row (He.ga K "look_row") fd_look_row := HX.fun_of FD_look_row
  obtain ⟨fd_has_tap, FD_has_tap⟩ := c.t.d.def_ 8 (d := HX.dd "has_tap" "has_tap" s_has_tap) rfl
  have F_has_tap : Fun K "has_tap" "has_tap" s_has_tap (He.ga K "has_tap") fd_has_tap := HX.fun_of FD_has_tap
  obtain ⟨fd_poured, FD_poured⟩ := c.t.d.def_ 9 (d := HX.dd "poured" "poured" s_poured) rfl
  have F_poured : Fun K "poured" "poured" s_poured (He.ga K "poured") fd_poured := HX.fun_of FD_poured
  obtain ⟨fd_poured_all, FD_poured_all⟩ := c.t.d.def_ 10 (d := HX.dd "poured_all" "poured_all" s_poured_all) rfl
  have F_poured_all : Fun K "poured_all" "poured_all" s_poured_all (He.ga K "poured_all") fd_poured_all := HX.fun_of FD_poured_all
  obtain ⟨fd_by_counts, FD_by_counts⟩ := c.t.d.def_ 11 (d := HX.dd "by_counts" "by_counts" s_by_counts) rfl
  have F_by_counts : Fun K "by_counts" "by_counts" s_by_counts (He.ga K "by_counts") fd_by_counts := HX.fun_of FD_by_counts
  obtain ⟨fd_done, FD_done⟩ := c.t.d.def_ 12 (d := HX.dd "done" "done" s_done) rfl
  have F_done : Fun K "done" "done" s_done (He.ga K "done") fd_done := HX.fun_of FD_done
  obtain ⟨fd_done_all, FD_done_all⟩ := c.t.d.def_ 13 (d := HX.dd "done_all" "done_all" s_done_all) rfl
  have F_done_all : Fun K "done_all" "done_all" s_done_all (He.ga K "done_all") fd_done_all := HX.fun_of FD_done_all
  obtain ⟨fd_path, FD_path⟩ := c.t.d.def_ 14 (d := HX.dd "path" "path" s_path) rfl
  have F_path : Fun K "path" "path" s_path (He.ga K "path") fd_path := HX.fun_of FD_path
  obtain ⟨fd_behind, FD_behind⟩ := c.t.d.def_ 15 (d := HX.dd "behind" "behind" s_behind) rfl
  have F_behind : Fun K "behind" "behind" s_behind (He.ga K "behind") fd_behind := HX.fun_of FD_behind
  obtain ⟨fd_behind_counts, FD_behind_counts⟩ := c.t.d.def_ 16 (d := HX.dd "behind_counts" "behind_counts" s_behind_counts) rfl
  have F_behind_counts : Fun K "behind_counts" "behind_counts" s_behind_counts (He.ga K "behind_counts") fd_behind_counts := HX.fun_of FD_behind_counts
  obtain ⟨fd_ring, FD_ring⟩ := c.t.d.def_ 17 (d := HX.dd "ring" "ring" s_ring) rfl
  have F_ring : Fun K "ring" "ring" s_ring (He.ga K "ring") fd_ring := HX.fun_of FD_ring
  obtain ⟨fd_ring_of_counts, FD_ring_of_counts⟩ := c.t.d.def_ 18 (d := HX.dd "ring_of_counts" "ring_of_counts" s_ring_of_counts) rfl
  have F_ring_of_counts : Fun K "ring_of_counts" "ring_of_counts" s_ring_of_counts (He.ga K "ring_of_counts") fd_ring_of_counts := HX.fun_of FD_ring_of_counts
  obtain ⟨fd_turns, FD_turns⟩ := c.t.d.def_ 19 (d := HX.dd "turns" "turns" s_turns) rfl
  have F_turns : Fun K "turns" "turns" s_turns (He.ga K "turns") fd_turns := HX.fun_of FD_turns
  obtain ⟨fd_trail_of_counts, FD_trail_of_counts⟩ := c.t.d.def_ 20 (d := HX.dd "trail_of_counts" "trail_of_counts" s_trail_of_counts) rfl
  have F_trail_of_counts : Fun K "trail_of_counts" "trail_of_counts" s_trail_of_counts (He.ga K "trail_of_counts") fd_trail_of_counts := HX.fun_of FD_trail_of_counts
  obtain ⟨fd_ring_of_trail, FD_ring_of_trail⟩ := c.t.d.def_ 21 (d := HX.dd "ring_of_trail" "ring_of_trail" s_ring_of_trail) rfl
  have F_ring_of_trail : Fun K "ring_of_trail" "ring_of_trail" s_ring_of_trail (He.ga K "ring_of_trail") fd_ring_of_trail := HX.fun_of FD_ring_of_trail
  obtain ⟨fd_ends, FD_ends⟩ := c.t.d.def_ 22 (d := HX.dd "ends" "ends" s_ends) rfl
  have F_ends : Fun K "ends" "ends" s_ends (He.ga K "ends") fd_ends := HX.fun_of FD_ends
  obtain ⟨fd_kin, FD_kin⟩ := c.t.d.def_ 23 (d := HX.dd "kin" "kin" s_kin) rfl
  have F_kin : Fun K "kin" "kin" s_kin (He.ga K "kin") fd_kin := HX.fun_of FD_kin
  obtain ⟨fd_kin_holds, FD_kin_holds⟩ := c.t.d.def_ 24 (d := HX.dd "kin_holds" "kin_holds" s_kin_holds) rfl
  have F_kin_holds : Fun K "kin_holds" "kin_holds" s_kin_holds (He.ga K "kin_holds") fd_kin_holds := HX.fun_of FD_kin_holds
  obtain ⟨fd_when, FD_when⟩ := c.t.d.def_ 25 (d := HX.dk "when" "when" s_when "least" 1) rfl
  have F_when : Fun K "when" "when" s_when (He.ga K "when") fd_when := HX.fun_of FD_when
  obtain ⟨fd_first_time, FD_first_time⟩ := c.t.d.def_ 26 (d := HX.dk "first_time" "first_time" s_first_time "least" 1) rfl
  have F_first_time : Fun K "first_time" "first_time" s_first_time (He.ga K "first_time") fd_first_time := HX.fun_of FD_first_time
  obtain ⟨fd_never, FD_never⟩ := c.t.d.def_ 27 (d := HX.dk "never" "never" s_never "least" 1) rfl
  have F_never : Fun K "never" "never" s_never (He.ga K "never") fd_never := HX.fun_of FD_never
  obtain ⟨fd_never_holds, FD_never_holds⟩ := c.t.d.def_ 28 (d := HX.dk "never_holds" "never_holds" s_never_holds "least" 1) rfl
  have F_never_holds : Fun K "never_holds" "never_holds" s_never_holds (He.ga K "never_holds") fd_never_holds := HX.fun_of FD_never_holds
  obtain ⟨fd_rows_and_ahead, FD_rows_and_ahead⟩ := c.t.d.def_ 29 (d := HX.dd "rows_and_ahead" "rows_and_ahead" s_rows_and_ahead) rfl
  have F_rows_and_ahead : Fun K "rows_and_ahead" "rows_and_ahead" s_rows_and_ahead (He.ga K "rows_and_ahead") fd_rows_and_ahead := HX.fun_of FD_rows_and_ahead
  obtain ⟨fd_meet, FD_meet⟩ := c.t.d.def_ 30 (d := HX.dd "meet" "meet" s_meet) rfl
  have F_meet : Fun K "meet" "meet" s_meet (He.ga K "meet") fd_meet := HX.fun_of FD_meet
  obtain ⟨fd_apart_at_last, FD_apart_at_last⟩ := c.t.d.def_ 31 (d := HX.dd "apart_at_last" "apart_at_last" s_apart_at_last) rfl
  have F_apart_at_last : Fun K "apart_at_last" "apart_at_last" s_apart_at_last (He.ga K "apart_at_last") fd_apart_at_last := HX.fun_of FD_apart_at_last
  obtain ⟨fd_pairs_behind, FD_pairs_behind⟩ := c.t.d.def_ 32 (d := HX.dd "pairs_behind" "pairs_behind" s_pairs_behind) rfl
  have F_pairs_behind : Fun K "pairs_behind" "pairs_behind" s_pairs_behind (He.ga K "pairs_behind") fd_pairs_behind := HX.fun_of FD_pairs_behind
  obtain ⟨fd_one_more, FD_one_more⟩ := c.t.d.def_ 33 (d := HX.dd "one_more" "one_more" s_one_more) rfl
  have F_one_more : Fun K "one_more" "one_more" s_one_more (He.ga K "one_more") fd_one_more := HX.fun_of FD_one_more
  obtain ⟨fd_law_open, FD_law_open⟩ := c.t.d.def_ 34 (d := HX.dd "_law_open" "_law_open" s_law_open) rfl
  have F_law_open : Fun K "_law_open" "_law_open" s_law_open (He.ga K "_law_open") fd_law_open := HX.fun_of FD_law_open
  obtain ⟨fd_law_take, FD_law_take⟩ := c.t.d.def_ 35 (d := HX.dd "_law_take" "_law_take" s_law_take) rfl
  have F_law_take : Fun K "_law_take" "_law_take" s_law_take (He.ga K "_law_take") fd_law_take := HX.fun_of FD_law_take
  obtain ⟨fd_law_pick, FD_law_pick⟩ := c.t.d.def_ 36 (d := HX.dd "_law_pick" "_law_pick" s_law_pick) rfl
  have F_law_pick : Fun K "_law_pick" "_law_pick" s_law_pick (He.ga K "_law_pick") fd_law_pick := HX.fun_of FD_law_pick
  obtain ⟨fd_law_same, FD_law_same⟩ := c.t.d.def_ 37 (d := HX.dd "_law_same" "_law_same" s_law_same) rfl
  have F_law_same : Fun K "_law_same" "_law_same" s_law_same (He.ga K "_law_same") fd_law_same := HX.fun_of FD_law_same
  obtain ⟨fd_law_sizes, FD_law_sizes⟩ := c.t.d.def_ 38 (d := HX.dd "_law_sizes" "_law_sizes" s_law_sizes) rfl
  have F_law_sizes : Fun K "_law_sizes" "_law_sizes" s_law_sizes (He.ga K "_law_sizes") fd_law_sizes := HX.fun_of FD_law_sizes
  obtain ⟨fd_law_any_sizes, FD_law_any_sizes⟩ := c.t.d.def_ 39 (d := HX.dd "_law_any_sizes" "_law_any_sizes" s_law_any_sizes) rfl
  have F_law_any_sizes : Fun K "_law_any_sizes" "_law_any_sizes" s_law_any_sizes (He.ga K "_law_any_sizes") fd_law_any_sizes := HX.fun_of FD_law_any_sizes
  obtain ⟨fd_law_told, FD_law_told⟩ := c.t.d.def_ 40 (d := HX.dd "_law_told" "_law_told" s_law_told) rfl
  have F_law_told : Fun K "_law_told" "_law_told" s_law_told (He.ga K "_law_told") fd_law_told := HX.fun_of FD_law_told
  obtain ⟨fd_law_doors, FD_law_doors⟩ := c.t.d.def_ 41 (d := HX.dd "_law_doors" "_law_doors" s_law_doors) rfl
  have F_law_doors : Fun K "_law_doors" "_law_doors" s_law_doors (He.ga K "_law_doors") fd_law_doors := HX.fun_of FD_law_doors
  obtain ⟨fd_law_later_doors, FD_law_later_doors⟩ := c.t.d.def_ 42 (d := HX.dd "_law_later_doors" "_law_later_doors" s_law_later_doors) rfl
  have F_law_later_doors : Fun K "_law_later_doors" "_law_later_doors" s_law_later_doors (He.ga K "_law_later_doors") fd_law_later_doors := HX.fun_of FD_law_later_doors
  obtain ⟨fd_law, FD_law⟩ := c.t.d.def_ 43 (d := HX.dd "law" "law" s_law) rfl
  have F_law : Fun K "law" "law" s_law (He.ga K "law") fd_law := HX.fun_of FD_law
  obtain ⟨fdi_BadSizes, FDi_BadSizes⟩ := c.t.d.def_ 44 (d := HX.di "BadSizes" "BadSizes.__init__" si_BadSizes) rfl
  have Fi_BadSizes : Fun K "__init__" "BadSizes.__init__" si_BadSizes (He.ma K (He.ga K "BadSizes") "__init__") fdi_BadSizes := HX.fun_of FDi_BadSizes
  have W_BadSizes := HX.clsX_ok x2
  have e := hfa0.symm.trans (He.glo_ok X G (c.t.d.fact 43 (f := .glo "law") rfl))
  cases e
  obtain ⟨oc_law_doors, od_law_doors, kV_law_doors, doc_law_doors, pm_law_doors, an_law_doors, cdv_law_doors, ct_law_doors, osl_law_doors, efd_law_doors, lk_law_doors, hcd_law_doors⟩ := F_law_doors.ex
  obtain ⟨kc_law_doors, ekc_law_doors⟩ := He.codeIn_ref hcd_law_doors
  subst ekc_law_doors
  have ec_law_doors : He.codeOf K ("_law_doors", none) = kc_law_doors := He.codeOf_eq lk_law_doors (by rw [efd_law_doors])
  obtain ⟨oc_law_later_doors, od_law_later_doors, kV_law_later_doors, doc_law_later_doors, pm_law_later_doors, an_law_later_doors, cdv_law_later_doors, ct_law_later_doors, osl_law_later_doors, efd_law_later_doors, lk_law_later_doors, hcd_law_later_doors⟩ := F_law_later_doors.ex
  obtain ⟨kc_law_later_doors, ekc_law_later_doors⟩ := He.codeIn_ref hcd_law_later_doors
  subst ekc_law_later_doors
  have ec_law_later_doors : He.codeOf K ("_law_later_doors", none) = kc_law_later_doors := He.codeOf_eq lk_law_later_doors (by rw [efd_law_later_doors])
  obtain ⟨oc2, od2, kV2, doc2, pm2, an2, cdv2, ct2, osl2, efd2, lk2, hcd2⟩ := F_law.ex
  let T : Top K mg w := {
    a_look_sizes := (He.ga K "look_sizes"),
    fd_look_sizes := fd_look_sizes,
    F_look_sizes := F_look_sizes,
    g_look_sizes := He.glo_ok X G (c.t.d.fact 0 (f := .glo "look_sizes") rfl),
    b_look_sizes := F_look_sizes.binds (ps := ["sizes"]) (fun _ _ _ _ _ _ us hl => match us, hl with | [_], _ => rfl),
    a_look_counts := (He.ga K "look_counts"),
    fd_look_counts := fd_look_counts,
    F_look_counts := F_look_counts,
    g_look_counts := He.glo_ok X G (c.t.d.fact 1 (f := .glo "look_counts") rfl),
    b_look_counts := F_look_counts.binds (ps := ["sizes", "counts"]) (fun _ _ _ _ _ _ us hl => match us, hl with | [_, _], _ => rfl),
    a_look_stand := (He.ga K "look_stand"),
    fd_look_stand := fd_look_stand,
    F_look_stand := F_look_stand,
    g_look_stand := He.glo_ok X G (c.t.d.fact 2 (f := .glo "look_stand") rfl),
    b_look_stand := F_look_stand.binds (ps := ["sizes", "stand"]) (fun _ _ _ _ _ _ us hl => match us, hl with | [_, _], _ => rfl),
    a_stand_of := (He.ga K "stand_of"),
    fd_stand_of := fd_stand_of,
    F_stand_of := F_stand_of,
    g_stand_of := He.glo_ok X G (c.t.d.fact 3 (f := .glo "stand_of") rfl),
    b_stand_of := F_stand_of.binds (ps := ["sizes", "counts"]) (fun _ _ _ _ _ _ us hl => match us, hl with | [_, _], _ => rfl),
    a_room := (He.ga K "room"),
    fd_room := fd_room,
    F_room := F_room,
    g_room := He.glo_ok X G (c.t.d.fact 4 (f := .glo "room") rfl),
    b_room := F_room.binds (ps := ["sizes", "counts"]) (fun _ _ _ _ _ _ us hl => match us, hl with | [_, _], _ => rfl),
    a_apart := (He.ga K "apart"),
    fd_apart := fd_apart,
    F_apart := F_apart,
    g_apart := He.glo_ok X G (c.t.d.fact 5 (f := .glo "apart") rfl),
    b_apart := F_apart.binds (ps := ["one", "other"]) (fun _ _ _ _ _ _ us hl => match us, hl with | [_, _], _ => rfl),
    a_look_deed := (He.ga K "look_deed"),
    fd_look_deed := fd_look_deed,
    F_look_deed := F_look_deed,
    g_look_deed := He.glo_ok X G (c.t.d.fact 6 (f := .glo "look_deed") rfl),
    b_look_deed := F_look_deed.binds (ps := ["sizes", "deed"]) (fun _ _ _ _ _ _ us hl => match us, hl with | [_, _], _ => rfl),
    a_look_row := (He.ga K "look_row"),
    fd_look_row := fd_look_row,
    F_look_row := F_look_row,
    g_look_row := He.glo_ok X G (c.t.d.fact 7 (f := .glo "look_row") rfl),
    b_look_row := F_look_row.binds (ps := ["sizes", "deeds"]) (fun _ _ _ _ _ _ us hl => match us, hl with | [_, _], _ => rfl),
    a_has_tap := (He.ga K "has_tap"),
    fd_has_tap := fd_has_tap,
    F_has_tap := F_has_tap,
    g_has_tap := He.glo_ok X G (c.t.d.fact 8 (f := .glo "has_tap") rfl),
    b_has_tap := F_has_tap.binds (ps := ["sizes", "deeds"]) (fun _ _ _ _ _ _ us hl => match us, hl with | [_, _], _ => rfl),
    a_poured := (He.ga K "poured"),
    fd_poured := fd_poured,
    F_poured := F_poured,
    g_poured := He.glo_ok X G (c.t.d.fact 9 (f := .glo "poured") rfl),
    b_poured := F_poured.binds (ps := ["sizes", "counts", "deed"]) (fun _ _ _ _ _ _ us hl => match us, hl with | [_, _, _], _ => rfl),
    a_poured_all := (He.ga K "poured_all"),
    fd_poured_all := fd_poured_all,
    F_poured_all := F_poured_all,
    g_poured_all := He.glo_ok X G (c.t.d.fact 10 (f := .glo "poured_all") rfl),
    b_poured_all := F_poured_all.binds (ps := ["sizes", "counts", "deeds"]) (fun _ _ _ _ _ _ us hl => match us, hl with | [_, _, _], _ => rfl),
    a_by_counts := (He.ga K "by_counts"),
    fd_by_counts := fd_by_counts,
    F_by_counts := F_by_counts,
    g_by_counts := He.glo_ok X G (c.t.d.fact 11 (f := .glo "by_counts") rfl),
    b_by_counts := F_by_counts.binds (ps := ["sizes", "stand", "deeds"]) (fun _ _ _ _ _ _ us hl => match us, hl with | [_, _, _], _ => rfl),
    a_done := (He.ga K "done"),
    fd_done := fd_done,
    F_done := F_done,
    g_done := He.glo_ok X G (c.t.d.fact 12 (f := .glo "done") rfl),
    b_done := F_done.binds (ps := ["sizes", "stand", "deed"]) (fun _ _ _ _ _ _ us hl => match us, hl with | [_, _, _], _ => rfl),
    a_done_all := (He.ga K "done_all"),
    fd_done_all := fd_done_all,
    F_done_all := F_done_all,
    g_done_all := He.glo_ok X G (c.t.d.fact 13 (f := .glo "done_all") rfl),
    b_done_all := F_done_all.binds (ps := ["sizes", "stand", "deeds"]) (fun _ _ _ _ _ _ us hl => match us, hl with | [_, _, _], _ => rfl),
    a_path := (He.ga K "path"),
    fd_path := fd_path,
    F_path := F_path,
    g_path := He.glo_ok X G (c.t.d.fact 14 (f := .glo "path") rfl),
    b_path := F_path.binds (ps := ["sizes", "stand", "deeds", "rank"]) (fun _ _ _ _ _ _ us hl => match us, hl with | [_, _, _, _], _ => rfl),
    a_behind := (He.ga K "behind"),
    fd_behind := fd_behind,
    F_behind := F_behind,
    g_behind := He.glo_ok X G (c.t.d.fact 15 (f := .glo "behind") rfl),
    b_behind := F_behind.binds (ps := ["sizes", "stand", "deeds", "times"]) (fun _ _ _ _ _ _ us hl => match us, hl with | [_, _, _, _], _ => rfl),
    a_behind_counts := (He.ga K "behind_counts"),
    fd_behind_counts := fd_behind_counts,
    F_behind_counts := F_behind_counts,
    g_behind_counts := He.glo_ok X G (c.t.d.fact 16 (f := .glo "behind_counts") rfl),
    b_behind_counts := F_behind_counts.binds (ps := ["sizes", "counts", "deeds", "times"]) (fun _ _ _ _ _ _ us hl => match us, hl with | [_, _, _, _], _ => rfl),
    a_ring := (He.ga K "ring"),
    fd_ring := fd_ring,
    F_ring := F_ring,
    g_ring := He.glo_ok X G (c.t.d.fact 17 (f := .glo "ring") rfl),
    b_ring := F_ring.binds (ps := ["sizes", "stand", "deeds"]) (fun _ _ _ _ _ _ us hl => match us, hl with | [_, _, _], _ => rfl),
    a_ring_of_counts := (He.ga K "ring_of_counts"),
    fd_ring_of_counts := fd_ring_of_counts,
    F_ring_of_counts := F_ring_of_counts,
    g_ring_of_counts := He.glo_ok X G (c.t.d.fact 18 (f := .glo "ring_of_counts") rfl),
    b_ring_of_counts := F_ring_of_counts.binds (ps := ["sizes", "counts", "deeds"]) (fun _ _ _ _ _ _ us hl => match us, hl with | [_, _, _], _ => rfl),
    a_turns := (He.ga K "turns"),
    fd_turns := fd_turns,
    F_turns := F_turns,
    g_turns := He.glo_ok X G (c.t.d.fact 19 (f := .glo "turns") rfl),
    b_turns := F_turns.binds (ps := ["sizes", "counts", "deeds"]) (fun _ _ _ _ _ _ us hl => match us, hl with | [_, _, _], _ => rfl),
    a_trail_of_counts := (He.ga K "trail_of_counts"),
    fd_trail_of_counts := fd_trail_of_counts,
    F_trail_of_counts := F_trail_of_counts,
    g_trail_of_counts := He.glo_ok X G (c.t.d.fact 20 (f := .glo "trail_of_counts") rfl),
    b_trail_of_counts := F_trail_of_counts.binds (ps := ["sizes", "counts", "deeds"]) (fun _ _ _ _ _ _ us hl => match us, hl with | [_, _, _], _ => rfl),
    a_ring_of_trail := (He.ga K "ring_of_trail"),
    fd_ring_of_trail := fd_ring_of_trail,
    F_ring_of_trail := F_ring_of_trail,
    g_ring_of_trail := He.glo_ok X G (c.t.d.fact 21 (f := .glo "ring_of_trail") rfl),
    b_ring_of_trail := F_ring_of_trail.binds (ps := ["told"]) (fun _ _ _ _ _ _ us hl => match us, hl with | [_], _ => rfl),
    a_ends := (He.ga K "ends"),
    fd_ends := fd_ends,
    F_ends := F_ends,
    g_ends := He.glo_ok X G (c.t.d.fact 22 (f := .glo "ends") rfl),
    b_ends := F_ends.binds (ps := ["sizes", "counts", "deeds"]) (fun _ _ _ _ _ _ us hl => match us, hl with | [_, _, _], _ => rfl),
    a_kin := (He.ga K "kin"),
    fd_kin := fd_kin,
    F_kin := F_kin,
    g_kin := He.glo_ok X G (c.t.d.fact 23 (f := .glo "kin") rfl),
    b_kin := F_kin.binds (ps := ["sizes", "counts", "deeds"]) (fun _ _ _ _ _ _ us hl => match us, hl with | [_, _, _], _ => rfl),
    a_kin_holds := (He.ga K "kin_holds"),
    fd_kin_holds := fd_kin_holds,
    F_kin_holds := F_kin_holds,
    g_kin_holds := He.glo_ok X G (c.t.d.fact 24 (f := .glo "kin_holds") rfl),
    b_kin_holds := F_kin_holds.binds (ps := ["sizes", "counts", "deeds", "paper"]) (fun _ _ _ _ _ _ us hl => match us, hl with | [_, _, _, _], _ => rfl),
    a_when := (He.ga K "when"),
    fd_when := fd_when,
    F_when := F_when,
    g_when := He.glo_ok X G (c.t.d.fact 25 (f := .glo "when") rfl),
    D_when := FD_when,
    a_first_time := (He.ga K "first_time"),
    fd_first_time := fd_first_time,
    F_first_time := F_first_time,
    g_first_time := He.glo_ok X G (c.t.d.fact 26 (f := .glo "first_time") rfl),
    D_first_time := FD_first_time,
    a_never := (He.ga K "never"),
    fd_never := fd_never,
    F_never := F_never,
    g_never := He.glo_ok X G (c.t.d.fact 27 (f := .glo "never") rfl),
    D_never := FD_never,
    a_never_holds := (He.ga K "never_holds"),
    fd_never_holds := fd_never_holds,
    F_never_holds := F_never_holds,
    g_never_holds := He.glo_ok X G (c.t.d.fact 28 (f := .glo "never_holds") rfl),
    D_never_holds := FD_never_holds,
    a_rows_and_ahead := (He.ga K "rows_and_ahead"),
    fd_rows_and_ahead := fd_rows_and_ahead,
    F_rows_and_ahead := F_rows_and_ahead,
    g_rows_and_ahead := He.glo_ok X G (c.t.d.fact 29 (f := .glo "rows_and_ahead") rfl),
    b_rows_and_ahead := F_rows_and_ahead.binds (ps := ["sizes", "counts", "deeds", "cask"]) (fun _ _ _ _ _ _ us hl => match us, hl with | [_, _, _, _], _ => rfl),
    a_meet := (He.ga K "meet"),
    fd_meet := fd_meet,
    F_meet := F_meet,
    g_meet := He.glo_ok X G (c.t.d.fact 30 (f := .glo "meet") rfl),
    b_meet := F_meet.binds (ps := ["sizes", "one", "other", "deeds"]) (fun _ _ _ _ _ _ us hl => match us, hl with | [_, _, _, _], _ => rfl),
    a_apart_at_last := (He.ga K "apart_at_last"),
    fd_apart_at_last := fd_apart_at_last,
    F_apart_at_last := F_apart_at_last,
    g_apart_at_last := He.glo_ok X G (c.t.d.fact 31 (f := .glo "apart_at_last") rfl),
    b_apart_at_last := F_apart_at_last.binds (ps := ["sizes", "one", "other", "deeds"]) (fun _ _ _ _ _ _ us hl => match us, hl with | [_, _, _, _], _ => rfl),
    a_pairs_behind := (He.ga K "pairs_behind"),
    fd_pairs_behind := fd_pairs_behind,
    F_pairs_behind := F_pairs_behind,
    g_pairs_behind := He.glo_ok X G (c.t.d.fact 32 (f := .glo "pairs_behind") rfl),
    b_pairs_behind := F_pairs_behind.binds (ps := ["sizes", "one", "other", "deeds"]) (fun _ _ _ _ _ _ us hl => match us, hl with | [_, _, _, _], _ => rfl),
    a_one_more := (He.ga K "one_more"),
    fd_one_more := fd_one_more,
    F_one_more := F_one_more,
    g_one_more := He.glo_ok X G (c.t.d.fact 33 (f := .glo "one_more") rfl),
    b_one_more := F_one_more.binds (ps := ["sizes", "counts", "deeds"]) (fun _ _ _ _ _ _ us hl => match us, hl with | [_, _, _], _ => rfl),
    a_law_open := (He.ga K "_law_open"),
    fd_law_open := fd_law_open,
    F_law_open := F_law_open,
    g_law_open := He.glo_ok X G (c.t.d.fact 34 (f := .glo "_law_open") rfl),
    b_law_open := F_law_open.binds (ps := ["_law_script"]) (fun _ _ _ _ _ _ us hl => match us, hl with | [_], _ => rfl),
    a_law_take := (He.ga K "_law_take"),
    fd_law_take := fd_law_take,
    F_law_take := F_law_take,
    g_law_take := He.glo_ok X G (c.t.d.fact 35 (f := .glo "_law_take") rfl),
    b_law_take := F_law_take.binds (ps := ["_law_bag", "_law_sides"]) (fun _ _ _ _ _ _ us hl => match us, hl with | [_, _], _ => rfl),
    a_law_pick := (He.ga K "_law_pick"),
    fd_law_pick := fd_law_pick,
    F_law_pick := F_law_pick,
    g_law_pick := He.glo_ok X G (c.t.d.fact 36 (f := .glo "_law_pick") rfl),
    b_law_pick := F_law_pick.binds (ps := ["_law_bag", "_law_row"]) (fun _ _ _ _ _ _ us hl => match us, hl with | [_, _], _ => rfl),
    a_law_same := (He.ga K "_law_same"),
    fd_law_same := fd_law_same,
    F_law_same := F_law_same,
    g_law_same := He.glo_ok X G (c.t.d.fact 37 (f := .glo "_law_same") rfl),
    b_law_same := F_law_same.binds (ps := ["_law_found", "_law_due"]) (fun _ _ _ _ _ _ us hl => match us, hl with | [_, _], _ => rfl),
    a_law_sizes := (He.ga K "_law_sizes"),
    fd_law_sizes := fd_law_sizes,
    F_law_sizes := F_law_sizes,
    g_law_sizes := He.glo_ok X G (c.t.d.fact 38 (f := .glo "_law_sizes") rfl),
    b_law_sizes := F_law_sizes.binds (ps := ["_law_bag", "_law_mcasks", "_law_most"]) (fun _ _ _ _ _ _ us hl => match us, hl with | [_, _, _], _ => rfl),
    a_law_any_sizes := (He.ga K "_law_any_sizes"),
    fd_law_any_sizes := fd_law_any_sizes,
    F_law_any_sizes := F_law_any_sizes,
    g_law_any_sizes := He.glo_ok X G (c.t.d.fact 39 (f := .glo "_law_any_sizes") rfl),
    b_law_any_sizes := F_law_any_sizes.binds (ps := ["_law_bag"]) (fun _ _ _ _ _ _ us hl => match us, hl with | [_], _ => rfl),
    a_law_told := (He.ga K "_law_told"),
    fd_law_told := fd_law_told,
    F_law_told := F_law_told,
    g_law_told := He.glo_ok X G (c.t.d.fact 40 (f := .glo "_law_told") rfl),
    b_law_told := F_law_told.binds (ps := ["_law_ask"]) (fun _ _ _ _ _ _ us hl => match us, hl with | [_], _ => rfl),
    a_law_doors := (He.ga K "_law_doors"),
    fd_law_doors := fd_law_doors,
    F_law_doors := F_law_doors,
    g_law_doors := He.glo_ok X G (c.t.d.fact 41 (f := .glo "_law_doors") rfl),
    b_law_doors := F_law_doors.binds (ps := ["_law_odd"]) (fun _ _ _ _ _ _ us hl => match us, hl with | [_], _ => rfl),
    a_law_later_doors := (He.ga K "_law_later_doors"),
    fd_law_later_doors := fd_law_later_doors,
    F_law_later_doors := F_law_later_doors,
    g_law_later_doors := He.glo_ok X G (c.t.d.fact 42 (f := .glo "_law_later_doors") rfl),
    b_law_later_doors := F_law_later_doors.binds (ps := ["_law_odd"]) (fun _ _ _ _ _ _ us hl => match us, hl with | [_], _ => rfl),
    a_law := (He.ga K "law"),
    fd_law := fd_law,
    F_law := F_law,
    g_law := He.glo_ok X G (c.t.d.fact 43 (f := .glo "law") rfl),
    b_law := F_law.binds (ps := ["_law_script"]) (fun _ _ _ _ _ _ us hl => match us, hl with | [_], _ => rfl),
    kt := kt_by x0,
    kl := kl_by x1,
    m_enumerate := He.free_ok X G (c.t.d.fact 44 (f := .free "enumerate") rfl),
    m_len := He.free_ok X G (c.t.d.fact 45 (f := .free "len") rfl),
    m__never := He.free_ok X G (c.t.d.fact 46 (f := .free "_never") rfl),
    m_sum := He.free_ok X G (c.t.d.fact 47 (f := .free "sum") rfl),
    m_abs := He.free_ok X G (c.t.d.fact 48 (f := .free "abs") rfl),
    m_zip := He.free_ok X G (c.t.d.fact 49 (f := .free "zip") rfl),
    m_list := He.free_ok X G (c.t.d.fact 50 (f := .free "list") rfl),
    m_isinstance := He.free_ok X G (c.t.d.fact 51 (f := .free "isinstance") rfl),
    m_bool := He.free_ok X G (c.t.d.fact 52 (f := .free "bool") rfl),
    m_int := He.free_ok X G (c.t.d.fact 53 (f := .free "int") rfl),
    m_str := He.free_ok X G (c.t.d.fact 54 (f := .free "str") rfl),
    m_all := He.free_ok X G (c.t.d.fact 55 (f := .free "all") rfl),
    m_tuple := He.free_ok X G (c.t.d.fact 56 (f := .free "tuple") rfl),
    m_range := He.free_ok X G (c.t.d.fact 57 (f := .free "range") rfl),
    c_MOST_CASKS := He.int_ok X G (c.t.d.fact 58 (f := .int "MOST_CASKS" (6)) rfl),
    c_MOST_SIZE := He.int_ok X G (c.t.d.fact 59 (f := .int "MOST_SIZE" (40)) rfl),
    C_BadSizes := He.ga K "BadSizes",
    g_BadSizes := He.glo_ok X G (c.t.d.fact 60 (f := .glo "BadSizes") rfl),
    o_BadSizes := W_BadSizes.o,
    f_BadSizes := W_BadSizes.f,
    fi_BadSizes := He.ma K (He.ga K "BadSizes") "__init__",
    fdi_BadSizes := fdi_BadSizes,
    Fi_BadSizes := Fi_BadSizes,
    ii_BadSizes := W_BadSizes.ii,
    ti_BadSizes := W_BadSizes.ti,
    bi_BadSizes := Fi_BadSizes.binds (ps := ["self", "cask"]) (fun _ _ _ _ _ _ us hl => match us, hl with | [_, _], _ => rfl),
    n_BadSizes_word := W_BadSizes.nf _ (List.mem_cons_self ..),
    n_BadSizes_cask := W_BadSizes.nf _ (List.mem_cons_of_mem _ (List.mem_cons_self ..)),
    e_BadSizes_BadSizes := He.exm_ok (c.t.d.fact 61 (f := .exm "BadSizes" "BadSizes" true) rfl),
    k_law_doors := kc_law_doors,
    P_law_doors := (He.cT K ("_law_doors", none)).2,
    L_law_doors := ⟨oc_law_doors, od_law_doors, kV_law_doors, doc_law_doors, pm_law_doors, an_law_doors, ct_law_doors, osl_law_doors, efd_law_doors, lk_law_doors, hcd_law_doors⟩,
    k_law_later_doors := kc_law_later_doors,
    P_law_later_doors := (He.cT K ("_law_later_doors", none)).2,
    L_law_later_doors := ⟨oc_law_later_doors, od_law_later_doors, kV_law_later_doors, doc_law_later_doors, pm_law_later_doors, an_law_later_doors, ct_law_later_doors, osl_law_later_doors, efd_law_later_doors, lk_law_later_doors, hcd_law_later_doors⟩,
    dP := of_decide_eq_true x3 }
  have hm_law_doors : (("_law_doors", none) : He.Defn) ∈ htf := (List.mem_cons_self ..)
  have hhd_law_doors : PySem.W.codeHdIn K kc_law_doors (He.cT K ("_law_doors", none)).2 = true := by
    have z := c.hd _ hm_law_doors
    rw [show (He.cT K ("_law_doors", none)).1 = kc_law_doors from ec_law_doors] at z
    exact z
  have hm_law_later_doors : (("_law_later_doors", none) : He.Defn) ∈ htf := (List.mem_cons_of_mem _ (List.mem_cons_self ..))
  have hhd_law_later_doors : PySem.W.codeHdIn K kc_law_later_doors (He.cT K ("_law_later_doors", none)).2 = true := by
    have z := c.hd _ hm_law_later_doors
    rw [show (He.cT K ("_law_later_doors", none)).1 = kc_law_later_doors from ec_law_later_doors] at z
    exact z
  have one : ∀ {q : Addr × Addr → Prop}, q (kc_law_doors, (He.cT K ("_law_doors", none)).2) → q (kc_law_later_doors, (He.cT K ("_law_later_doors", none)).2) → ∀ p ∈ [(kc_law_doors, (He.cT K ("_law_doors", none)).2), (kc_law_later_doors, (He.cT K ("_law_later_doors", none)).2)], q p := fun h0 h1 p hp => by
    rcases List.mem_cons.mp hp with e | hp
    · rw [e]; exact h0
    · rcases List.mem_cons.mp hp with e | hp
      · rw [e]; exact h1
      · cases hp
  have bnd := F_law.binds (ps := ["_law_script"]) (fun _ _ _ _ _ _ us hl => match us, hl with | [_], _ => rfl)
  exact ⟨fd_law, [(kc_law_doors, (He.cT K ("_law_doors", none)).2), (kc_law_later_doors, (He.cT K ("_law_later_doors", none)).2)], (spLawT K (He.cT K ("_law_doors", none)).2 (He.cT K ("_law_later_doors", none)).2), one (c.empty _ hm_law_doors) (c.empty _ hm_law_later_doors), one (c.out _ hm_law_doors) (c.out _ hm_law_later_doors), one (PySem.W.codeHd_of_K X hhd_law_doors) (PySem.W.codeHd_of_K X hhd_law_later_doors), fun s v => by rw [efd2]; exact .of_eq rfl, fun H a ns hl _ hH hS => ⟨a, ns, rfl, hS, hl, hH (kc_law_doors, (He.cT K ("_law_doors", none)).2) (List.mem_cons_self ..), hH (kc_law_later_doors, (He.cT K ("_law_later_doors", none)).2) (List.mem_cons_of_mem _ (List.mem_cons_self ..)), fun _ => rfl⟩, fun base _ _ TB => ok_law T (TB _ (List.mem_cons_self ..)) (TB _ (List.mem_cons_of_mem _ (List.mem_cons_self ..)))⟩
end Lw
open PySem PySem.W PyProof.Rows
set_option maxHeartbeats 0 in
theorem PySem.Challenge.cw_hidelater_k70_bad_sizes_at_every_door_holds : PySem.Challenge.rw_hidelater_k70_bad_sizes_at_every_door.Holds := by
  w_on; o_law
  refine Lw.hhead ?hc
  case hc =>
    refine LamX.walk_ofTsE (l := PySem.Challenge.rw_hidelater_k70_bad_sizes_at_every_door) (n := 63) (k := 10) (x := "_law_script") (CX := fun _ => L2.CX0) rfl (by decide) (by kernel_rfl) ⟨rfl, by decide, by decide⟩ ?F (fun _ _ _ _ _ z => z)
    intro w mg fa h Y G hmg0
    obtain ⟨K, KX, c⟩ := Y
    have hmg : mg ("law" : PySem.Str) = some (.ref fa) := by
      have e : (HandSHeadRun.topDef (OpenLaw.row PySem.Challenge.rw_hidelater_k70_bad_sizes_at_every_door).prog 132).name = ("law" : PySem.Str) := by kernel_rfl
      rw [← e]
      exact hmg0
    exact ⟨K, KX, Lw.hfacts KX G hmg c⟩
