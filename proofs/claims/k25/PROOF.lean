import PyProof.Rows.All
import Wide.All
import OpenK.AllK
import Wide.FinOn
import HandS.ForMost
import HandS.Walk
import HandS.Zip
import HandS.IsInst
import HandS.Wide
import HandS.TupAny
import HandS.TupMul
import HandS.SetFor
import PyProof.Draws
import KE.GoesMore
import KE.GoesEnum
import HandS.EndBits
import HandS.Flow
import HandS.Lambda
import HandS.TupLen
import HandS.Conv
import KE.KeyNested
import KE.KDictDisplayH
import HandS.EndTab
import HandS.Defaults
import HandS.Codes
import HandS.ExcInit
import HandS.ExcField
import HandS.TryMany
import HandS.ExcOwn
import HandS.WordsExc
import HandS.ExcIs
import HandS.CallLocal
import HandS.SortInts
import HandS.Deep
import KE.KTupSum
import KE.KItemsList
import HandS.Style
import HandS.MakeKwOnly
import KE.KRevSl
import KE.KExcInit
import HandS.SortKw
import HandS.Text
import HandS.RaiseMore
import KE.KStateDown
import HandS.Head0
import HandS.Head1
import HandS.Head2
import HandS.HeadEnd
import HandS.HeadHook1
import HandS.HeadHook2
import HandS.HeadHook3
import HandS.HeadHook4
import HandS.HeadWalk
import HandS.Dict
import HandS.WordsDict
import HandS.More
import PyProof.StrBlock2
import HandS.Iter
import HandS.DictComp
import KE.KEqNest
import HandS.Small
import PyProof.DictRoadsH
import HandS.OwnEq
import HandS.FStr
import HandS.SlotsOwn
import PyProof.InstSpecial
import PyProof.InstNe
import HandS.ListItems
import HandS.Star
import PySem.Challenge.RW_hidelater_k25_rounds_written_in_a_book
set_option Elab.async false
set_option linter.all false
set_option maxRecDepth 100000
set_option maxHeartbeats 4000000
namespace DK
open PySem PySem.Spec PyProof.Rows L2
mutual
def plainKey : NestedKey → Bool
  | .num _ => true
  | .tup ks => plainKeys ks
  | _ => false
def plainKeys : List NestedKey → Bool
  | [] => true
  | k :: ks => plainKey k && plainKeys ks
end
mutual
def keyOf : PyData → Option NestedKey
  | .int i => some (.num i)
  | .tuple ds => match keysOf ds with
    | some ks => some (.tup ks)
    | none => none
  | _ => none
def keysOf : List PyData → Option (List NestedKey)
  | [] => some []
  | d :: ds => match keyOf d with
    | some k => match keysOf ds with
      | some ks => some (k :: ks)
      | none => none
    | none => none
end
abbrev Ent := NestedKey × Addr × V
def REnt (p : Ent) (q : NestedKey × Addr × Value) : Prop := p.1 = q.1 ∧ p.2.1 = q.2.1 ∧ RelV p.2.2 q.2.2
def dctP (a : Addr) (es : List Ent) (h : Heap) : Prop := (es.length ≤ sizeLine ∧ (a == sysModules) = false ∧ ∀ e ∈ es, plainKey e.1 = true ∧ e.1.depth ≤ 8) ∧
  ∃ xs, Paired REnt es xs ∧ ∃ o ds ep, h.get? a = some o ∧ o.ExactDict ∧ o.data = .dict ds ep ∧ (∀ (P : Program) (w : World), ds.toList = xs.map (entryOfKey (nestedKind P w))) ∧ (xs.map (·.1)).Nodup
def dctO (a : Addr) (es : List Ent) : HO := .ext (dctP a es)
end DK
namespace DL
open PySem L2
inductive DV where
  | dat (d : PyData)
  | own (ds : List PyData)
  | bor (ds : List PyData)
  | raw (v : V)
  | bag
  /-- a dict of this def's own (true), or lent -/
  | dct (own : Bool) (kvs : List (PyData × PyData))
abbrev dint (i : Int) : DV := .dat (.int i)
abbrev dbl (b : Bool) : DV := .dat (.bool b)
abbrev dstr (s : Str) : DV := .dat (.str s)
abbrev Env := List (Option DV)
theorem rd_mono {H H' : Hp} {a : Addr} {u : HO} (e : Same H H') (h : Rd H a u) : Rd H' a u := by
  rcases h with h | ⟨o, h⟩
  · exact .inl (e _ _ h)
  · exact .inr ⟨o, e _ _ h⟩
theorem sl_mono {K : PySem.W.Frag} {H H' : Hp} {a : Addr} {xs : List V} (e : Same H H') (h : SqL K H a xs) : SqL K H' a xs := h.imp (rd_mono e) id
theorem st_mono {K : PySem.W.Frag} {H H' : Hp} {a : Addr} {xs : List V} (e : Same H H') (h : SqT K H a xs) : SqT K H' a xs := h.imp (rd_mono e) id
mutual
theorem dp_mono {K : PySem.W.Frag} {H H' : Hp} (e : Same H H') : ∀ {v : V} {d : PyData}, Dp K H v d → Dp K H' v d
  | _, _, .non => .non
  | _, _, .bl b => .bl b
  | _, _, .int i => .int i
  | _, _, .str x => .str x
  | _, _, .lst q r => .lst (sl_mono e q) (dpa_mono e r)
  | _, _, .tup q r => .tup (st_mono e q) (dpa_mono e r)
theorem dpa_mono {K : PySem.W.Frag} {H H' : Hp} (e : Same H H') : ∀ {vs : List V} {ds : List PyData}, DpAll K H vs ds → DpAll K H' vs ds
  | _, _, .nil => .nil
  | _, _, .cons q r => .cons (dp_mono e q) (dpa_mono e r)
end
structure Bg where
  a : Addr
  T : List (Addr × Str)
def Fr (H : Hp) (a : Addr) : Prop := ∀ o, H a = some o → ∃ ps, o = .tbl ps
theorem fr_lst {H : Hp} {a : Addr} {xs : List V} (h : Fr H a) (e : H a = some (.lst xs)) : False := by
  obtain ⟨ps, z⟩ := h _ e
  cases z
theorem fr_not {H : Hp} {a : Addr} {o : HO} (h : Fr H a) (e : H a = some o) (n : ∀ ps, o ≠ .tbl ps) : False := by
  obtain ⟨ps, z⟩ := h _ e
  exact n ps z
def PlainO : HO → Prop
  | .lst _ => True
  | .frz o (.tup _) => o.dict = none
  | _ => False
theorem lst_tbl {xs : List V} : ∀ ps, HO.lst xs ≠ .tbl ps := fun _ z => by cases z
theorem tabs_upd {T : List (Addr × Str)} {H : Hp} {a : Addr} {xs : List V} {o : HO} (t : LamX.Tabs T H) (h : H a = some (.lst xs)) : LamX.Tabs T (upd H a o) := fun p hp => by
  obtain ⟨ps, h1, h2, h3⟩ := t p hp
  refine ⟨ps, by rw [upd_ne (ne_of h1 h (fun z => by cases z))]; exact h1, h2, fun pos cv hc => ?_⟩
  obtain ⟨c, e1, e2⟩ := h3 pos cv hc
  exact ⟨c, e1, by rw [upd_ne (ne_of e2 h (fun z => by unfold LamX.CodeO at z; cases z))]; exact e2⟩
def Bag (K : PySem.W.Frag) (b : Bg) (I H : Hp) : Prop := I b.a = none ∧ (∀ a o, I a = some o → PlainO o) ∧ LamX.Tabs b.T H ∧ ∃ (l : Addr) (ns : List Int) (p q m c : Int),
  H b.a = some (.lst [.ref l, .int p, .int q, .int m, .int c]) ∧ SqL K I l (ns.map V.int) ∧ 0 ≤ p ∧ 0 ≤ q ∧ 0 ≤ m ∧ m < 2147483647
structure Ext (K : PySem.W.Frag) (b : Bg) (I H I' H' : Hp) : Prop where
  i : Same I I'
  h : ∀ a o, a ≠ b.a → (∀ ps, o ≠ .tbl ps) → H a = some o → H' a = some o
  n : ∀ a o, I a = none → H a = some o → (∀ ps, o ≠ .tbl ps) → I' a = none
  k : ∀ l xs, H b.a = some (.lst (.ref l :: xs)) → ∃ ys, H' b.a = some (.lst (.ref l :: ys))
  s : Same I' H'
  b : Bag K b I' H'
section
variable {K : PySem.W.Frag} {b : Bg} {I H I' H' I2 H2 : Hp}
theorem Bag.lst (B : Bag K b I H) : ∃ xs, H b.a = some (.lst xs) := by
  obtain ⟨_, _, _, l, ns, p, q, m, c, e, _⟩ := B
  exact ⟨_, e⟩
theorem Ext.trans (e : Ext K b I H I' H') (f : Ext K b I' H' I2 H2) : Ext K b I H I2 H2 := by
  refine ⟨e.i.trans f.i, fun a o n t h => f.h a o n t (e.h a o n t h), fun a o n h t => ?_, fun l xs h => (let ⟨ys, h1⟩ := e.k l xs h; f.k l ys h1), f.s, f.b⟩
  by_cases z : a = b.a
  · subst z
    obtain ⟨xs, q⟩ := e.b.lst
    exact f.n _ _ (e.n _ o n h t) q lst_tbl
  · exact f.n a o (e.n a o n h t) (e.h a o z t h) t
theorem Ext.refl (S : Same I H) (B : Bag K b I H) : Ext K b I H I H := ⟨Same.refl I, fun _ _ _ _ h => h, fun _ _ n _ _ => n, fun _ xs h => ⟨xs, h⟩, S, B⟩
theorem Ext.free (e : Ext K b I H I' H') {a : Addr} (h : Fr H' a) : Fr H a := fun o q => by
  by_cases t : ∃ ps, o = .tbl ps
  · exact t
  · have t' : ∀ ps, o ≠ .tbl ps := fun ps z => t ⟨ps, z⟩
    by_cases z : a = b.a
    · subst z
      obtain ⟨xs, q2⟩ := e.b.lst
      exact (fr_lst h q2).elim
    · exact (fr_not h (e.h a o z t' q) t').elim
end
theorem dct_tbl {a : Addr} {es : List DK.Ent} : ∀ ps, DK.dctO a es ≠ .tbl ps := fun _ z => by cases z
def DEnt (K : PySem.W.Frag) (I : Hp) (e : DK.Ent) (kv : PyData × PyData) : Prop := DK.keyOf kv.1 = some e.1 ∧ Dp K I (.ref e.2.1) kv.1 ∧ Dp K I e.2.2 kv.2
abbrev DctR (K : PySem.W.Frag) (I : Hp) (es : List DK.Ent) (kvs : List (PyData × PyData)) : Prop := Paired (DEnt K I) es kvs
theorem dctR_mono {K : PySem.W.Frag} {I I' : Hp} (s : Same I I') : ∀ {es : List DK.Ent} {kvs : List (PyData × PyData)}, DctR K I es kvs → DctR K I' es kvs
  | _, _, .nil => .nil
  | _, _, .cons h t => .cons ⟨h.1, dp_mono s h.2.1, dp_mono s h.2.2⟩ (dctR_mono s t)
def Res (K : PySem.W.Frag) (b : Bg) (H0 I H : Hp) (v : V) : DV → Prop
  | .dat d => Dp K I v d
  | .own ds => ∃ a xs, v = .ref a ∧ Fr H0 a ∧ I a = none ∧ a ≠ b.a ∧ H a = some (.lst xs) ∧ DpAll K I xs ds
  | .bor ds => ∃ a xs, v = .ref a ∧ H a = some (.lst xs) ∧ a ≠ b.a ∧ I a = none ∧ DpAll K I xs ds
  | .raw u => v = u
  | .bag => v = .ref b.a
  | .dct own kvs => ∃ a es, v = .ref a ∧ (own = true → Fr H0 a) ∧ I a = none ∧ a ≠ b.a ∧ H a = some (DK.dctO a es) ∧ DctR K I es kvs
structure EnvR (K : PySem.W.Frag) (b : Bg) (H0 I H : Hp) (σ : St) (δ : Env) : Prop where
  len : σ.length = δ.length
  at_ : ∀ (i : Nat) (r : DV), δ[i]? = some (some r) → ∃ v, σ[i]? = some (some v) ∧ Res K b H0 I H v r
  nd : ∀ (i j : Nat) (a : Addr) (ds es : List PyData), δ[i]? = some (some (.own ds)) → σ[i]? = some (some (.ref a)) → δ[j]? = some (some (.own es)) → σ[j]? = some (some (.ref a)) → i = j
section
variable {K : PySem.W.Frag} {b : Bg} {H0 I H I' H' : Hp} {v : V} {r : DV} {σ : St} {δ : Env}
theorem Res.ext (e : Ext K b I H I' H') (h : Res K b H0 I H v r) : Res K b H0 I' H' v r := by
  cases r with
  | dat d => exact dp_mono e.i h
  | own ds =>
    obtain ⟨a, xs, rfl, h0, hi, hb, ha, hd⟩ := h
    exact ⟨a, xs, rfl, h0, e.n a _ hi ha lst_tbl, hb, e.h a _ hb lst_tbl ha, dpa_mono e.i hd⟩
  | bor ds =>
    obtain ⟨a, xs, rfl, ha, hb, hi, hd⟩ := h
    exact ⟨a, xs, rfl, e.h a _ hb lst_tbl ha, hb, e.n a _ hi ha lst_tbl, dpa_mono e.i hd⟩
  | raw u => exact h
  | bag => exact h
  | dct own kvs =>
    obtain ⟨a, es, rfl, h0, hi, hb, ha, hd⟩ := h
    exact ⟨a, es, rfl, h0, e.n a _ hi ha dct_tbl, hb, e.h a _ hb dct_tbl ha, dctR_mono e.i hd⟩
theorem EnvR.ext (e : Ext K b I H I' H') (h : EnvR K b H0 I H σ δ) : EnvR K b H0 I' H' σ δ :=
  ⟨h.len, fun i r q => (h.at_ i r q).imp fun v z => ⟨z.1, z.2.ext e⟩, h.nd⟩
def LstR (r : DV) (ds : List PyData) : Prop := r = .own ds ∨ r = .bor ds ∨ r = .dat (.list ds)
theorem EnvR.set (h : EnvR K b H0 I H σ δ) {i : Nat} (hi : i < δ.length) (q : Res K b H0 I H v r)
    (hf : ∀ a ds, r = .own ds → v = .ref a → ∀ (j : Nat) es, j ≠ i → δ[j]? = some (some (.own es)) → σ[j]? ≠ some (some (.ref a))) : EnvR K b H0 I H (σ.set i (some v)) (δ.set i (some r)) := by
  have hi' : i < σ.length := by rw [h.len]; exact hi
  refine ⟨by rw [List.length_set, List.length_set]; exact h.len, fun j u e => ?_, fun j k a ds es h1 h2 h3 h4 => ?_⟩
  · by_cases z : i = j
    · subst z
      rw [List.getElem?_set_self hi] at e
      cases e
      exact ⟨v, by rw [List.getElem?_set_self hi'], q⟩
    · rw [List.getElem?_set_ne z] at e
      obtain ⟨w, e1, e2⟩ := h.at_ j u e
      exact ⟨w, by rw [List.getElem?_set_ne z]; exact e1, e2⟩
  · by_cases zj : i = j
    · by_cases zk : i = k
      · rw [← zj, ← zk]
      · subst zj
        rw [List.getElem?_set_self hi] at h1
        rw [List.getElem?_set_self hi'] at h2
        rw [List.getElem?_set_ne zk] at h3 h4
        cases h1; cases h2
        exact absurd h4 (hf a ds rfl rfl k es (fun q => zk q.symm) h3)
    · by_cases zk : i = k
      · subst zk
        rw [List.getElem?_set_self hi] at h3
        rw [List.getElem?_set_self hi'] at h4
        rw [List.getElem?_set_ne zj] at h1 h2
        cases h3; cases h4
        exact absurd h2 (hf a es rfl rfl j ds (fun q => zj q.symm) h1)
      · rw [List.getElem?_set_ne zj] at h1 h2
        rw [List.getElem?_set_ne zk] at h3 h4
        exact h.nd j k a ds es h1 h2 h3 h4
end
end DL
namespace DL
open PySem L2
structure Ok (K : PySem.W.Frag) (b : Bg) (I H : Hp) : Prop where
  s : Same I H
  b : Bag K b I H
section
variable {K : PySem.W.Frag} {b : Bg} {I0 H0 I H I' H' : Hp}
theorem Ext.ok (e : Ext K b I0 H0 I H) : Ok K b I H := ⟨e.s, e.b⟩
theorem Ok.nb (k : Ok K b I H) {p : Addr} (hp : H p = none) : p ≠ b.a := fun z => by
  obtain ⟨xs, e⟩ := k.b.lst
  rw [← z, hp] at e
  cases e
end
section
variable (K : PySem.W.Frag) (b : Bg) (I0 H0 : Hp)
def EvD (te : TE) (δ : Env) (P : DV → Prop) : Prop := ∀ (σ : St) (I H : Hp), Ext K b I0 H0 I H → EnvR K b H0 I H σ δ → ∀ Q : VK,
  (∀ r v I' H', P r → Ext K b I H I' H' → Res K b H I' H' v r → Q v H') → te σ H Q
def EvT (tt : TT) (δ : Env) (P : Bool → Prop) : Prop := ∀ (σ : St) (I H : Hp), Ext K b I0 H0 I H → EnvR K b H0 I H σ δ → ∀ Q : Bool → Hp → Prop,
  (∀ c I' H', P c → Ext K b I H I' H' → Q c H') → tt σ H Q
inductive ResA (K : PySem.W.Frag) (b : Bg) (H0 I H : Hp) : List V → List DV → Prop
  | nil : ResA K b H0 I H [] []
  | cons {v : V} {vs : List V} {r : DV} {rs : List DV} : Res K b H0 I H v r → ResA K b H0 I H vs rs → ResA K b H0 I H (v :: vs) (r :: rs)
def EvA (ta : TA) (δ : Env) (P : List DV → Prop) : Prop := ∀ (σ : St) (I H : Hp), Ext K b I0 H0 I H → EnvR K b H0 I H σ δ → ∀ Q : List V → Hp → Prop,
  (∀ rs vs I' H', P rs → Ext K b I H I' H' → ResA K b H I' H' vs rs → Q vs H') → ta σ H Q
end
section
variable {K : PySem.W.Frag} {b : Bg} {I0 H0 H1 I H I' H' : Hp} {δ : Env} {ta tb te : TE} {P Pa Pb : DV → Prop}
theorem ResA.ext (e : Ext K b I H I' H') : ∀ {vs : List V} {rs : List DV}, ResA K b H0 I H vs rs → ResA K b H0 I' H' vs rs
  | _, _, .nil => .nil
  | _, _, .cons q r => .cons (q.ext e) (ResA.ext e r)
theorem EvD.mono (h : EvD K b I0 H0 te δ Pa) (m : ∀ r, Pa r → P r) : EvD K b I0 H0 te δ P := fun σ I H e n Q q => h σ I H e n Q fun r v I' H' p => q r v I' H' (m r p)
theorem EvT.mono {tt : TT} {A B : Bool → Prop} (h : EvT K b I0 H0 tt δ A) (m : ∀ r, A r → B r) : EvT K b I0 H0 tt δ B := fun σ I H e n Q q => h σ I H e n Q fun r I' H' p => q r I' H' (m r p)
theorem EvA.mono {ta : TA} {A B : List DV → Prop} (h : EvA K b I0 H0 ta δ A) (m : ∀ r, A r → B r) : EvA K b I0 H0 ta δ B := fun σ I H e n Q q => h σ I H e n Q fun r v I' H' p => q r v I' H' (m r p)
theorem Ext.frz {a : Addr} {xs : List V} (e : Ext K b I H I' H') (h0 : Fr H a) (hi : I' a = none) (hb : a ≠ b.a) (ha : H' a = some (.lst xs)) : Ext K b I H (upd I' a (.lst xs)) H' := by
  obtain ⟨n, pl, tb, l, ns, x, q, m, c, e1, sl, r⟩ := e.b
  refine ⟨fun c o h => ?_, e.h, fun c o n h t => ?_, e.k, fun c o h => ?_, by rw [upd_ne (fun z => hb z.symm)]; exact n, fun c ps h => ?_, tb, l, ns, x, q, m, c, e1, sl_mono (fun d u h => ?_) sl, r⟩
  · rw [upd_ne (ne_of_none (e.i c o h) hi)]; exact e.i c o h
  · rw [upd_ne (fun (z : c = a) => fr_not h0 (z ▸ h) t)]; exact e.n c o n h t
  · by_cases z : c = a
    · subst z; rw [upd_same] at h; rw [ha]; exact h
    · rw [upd_ne z] at h; exact e.s c o h
  · by_cases z : c = a
    · subst z; rw [upd_same] at h; cases h; exact True.intro
    · rw [upd_ne z] at h; exact pl c _ h
  · rw [upd_ne (ne_of_none h hi)]; exact h
end
end DL
namespace DL
open PySem L2 RZ
section
variable {K : PySem.W.Frag} {b : Bg} {i j : Int}
def cutD (ds : List PyData) (lo hi : Option Int) : List PyData := (ds.drop (HT.sIx ds.length 0 lo)).take (HT.sIx ds.length ds.length hi - HT.sIx ds.length 0 lo)
end
abbrev Rel := Hp → Hp → V → PyData → Prop
section
variable (K : PySem.W.Frag) (b : Bg) (Rl : Rel)
def IterOk (J : It) (I : Hp) (ds : List PyData) : Prop := ∃ G Y, Walk J ds.length G Y ∧ (∀ H, Same I H → G H) ∧
  ∀ (i : Nat) (I2 H : Hp) (x : V) (H' : Hp) (d : PyData), Same I I2 → Ok K b I2 H → Y i H x H' → ds[i]? = some d → ∃ I3, Ext K b I2 H I3 H' ∧ Rl I3 H' x d
def ItD (I0 H0 : Hp) (wi : TI) (δ : Env) (A : List PyData → Prop) : Prop := ∀ (σ : St) (I H : Hp), Ext K b I0 H0 I H → EnvR K b H0 I H σ δ → ∀ R : It → Hp → Prop,
  (∀ ds J I' H', A ds → Ext K b I H I' H' → IterOk K b Rl J I' ds → R J H') → wi σ H R
end
section
variable {K : PySem.W.Frag} {b : Bg} {I0 H0 : Hp} {δ : Env} {te : TE}
def rangeD (lo : Int) (n : Nat) : List PyData := (List.range n).map fun (k : Nat) => .int (lo + (k : Int))
def zipD (ds es : List PyData) : List PyData := List.zipWith (fun d e => .tuple [d, e]) ds es
def enumD (ds : List PyData) : List PyData := ds.zipIdx.map fun p => .tuple [.int (p.2 : Int), p.1]
end
end DL
namespace DL
open PySem PySem.Spec PyProof.Rows L2
section
variable (K : PySem.W.Frag) (b : Bg) (I0 H0 : Hp)
def SvD (ts : TS) (δ : Env) (N : Env → Prop) (R : DV → Prop) (Bk Ct : Env → Prop) : Prop := ∀ (σ : L2.St) (I H : Hp), Ext K b I0 H0 I H → EnvR K b H0 I H σ δ → ∀ D : Ends,
  (∀ δ' σ' I' H', N δ' → Ext K b I0 H0 I' H' → Same I I' → EnvR K b H0 I' H' σ' δ' → D.nx σ' H') →
  (∀ r v I' H', R r → Ext K b I0 H0 I' H' → Res K b H0 I' H' v r → D.rt v H') →
  (∀ δ' σ' I' H', Bk δ' → Ext K b I0 H0 I' H' → Same I I' → EnvR K b H0 I' H' σ' δ' → D.bk σ' H') →
  (∀ δ' σ' I' H', Ct δ' → Ext K b I0 H0 I' H' → Same I I' → EnvR K b H0 I' H' σ' δ' → D.ct σ' H') → ts D σ H
end
section
variable {K : PySem.W.Frag} {b : Bg} {I0 H0 : Hp} {δ δ' : Env} {N N' Bk Ct : Env → Prop} {R : DV → Prop} {te : TE} {t u : TS} {P : DV → Prop}
theorem SvD.mono {N2 B2 C2 : Env → Prop} {R2 : DV → Prop} (h : SvD K b I0 H0 t δ N R Bk Ct) (hn : ∀ d, N d → N2 d) (hr : ∀ r, R r → R2 r) (hb : ∀ d, Bk d → B2 d) (hc : ∀ d, Ct d → C2 d) : SvD K b I0 H0 t δ N2 R2 B2 C2 :=
  fun σ I H e n D h1 h2 h3 h4 => h σ I H e n D (fun d σ' I' H' p => h1 d σ' I' H' (hn d p)) (fun r v I' H' p => h2 r v I' H' (hr r p)) (fun d σ' I' H' p => h3 d σ' I' H' (hb d p)) (fun d σ' I' H' p => h4 d σ' I' H' (hc d p))
end
abbrev XD := Addr → List (Str × V) → Prop
end DL
namespace DL
open PySem PySem.Spec PyProof.Rows L2
def tyN : PyData → String
  | .none => "NoneType"
  | .bool _ => "bool"
  | .int _ => "int"
  | .str _ => "str"
  | .list _ => "list"
  | .tuple _ => "tuple"
  | .dict _ => "dict"
theorem Ext.bag {K : PySem.W.Frag} {b : Bg} {I H : Hp} {l : Addr} {ns : List Int} {p q m c : Int} (k : Ok K b I H) (hbl : ∃ xs, H b.a = some (.lst (.ref l :: xs))) (hl : SqL K I l (ns.map V.int)) (hp : 0 ≤ p) (hq : 0 ≤ q) (hm : 0 ≤ m) (hm2 : m < 2147483647) :
    Ext K b I H I (upd H b.a (.lst [.ref l, .int p, .int q, .int m, .int c])) := by
  obtain ⟨ib, pl, tb, l', ns', x, q', m', c', e, sl, r⟩ := k.b
  exact ⟨Same.refl I, fun a o n _ h => by rw [upd_ne n]; exact h, fun a o n _ _ => n, fun l0 xs h => (by obtain ⟨zs, hz⟩ := hbl; rw [hz] at h; cases h; exact ⟨_, upd_same⟩), fun a o h => by rw [upd_ne (ne_of_none h ib)]; exact k.s a o h, ib, pl, tabs_upd tb e, l, ns, p, q, m, c, upd_same, hl, hp, hq, hm, hm2⟩
end DL
namespace DL
open PySem PySem.Spec PyProof.Rows L2 RZ
abbrev nums (ns : List Int) : PyData := .tuple (ns.map .int)
section
variable {K : PySem.W.Frag} {b : Bg} {I0 H0 : Hp} {δ : Env} {ta te tb : TE} {P : DV → Prop}
theorem ItD.mono {Rl : Rel} {wi : TI} {A B : List PyData → Prop} (h : ItD K b Rl I0 H0 wi δ A) (m : ∀ x, A x → B x) : ItD K b Rl I0 H0 wi δ B := fun σ I H k n R q => h σ I H k n R fun ds J I' H' p => q ds J I' H' (m ds p)
theorem paired_fun {α β : Type} {f : α → β} : ∀ {l : List α} {ys : List β}, Paired (fun x y => y = f x) l ys → ys = l.map f
  | _, _, .nil => rfl
  | _, _, .cons r t => by rw [List.map_cons, ← paired_fun t, r]
end
section
variable (K : PySem.W.Frag) (b : Bg) (I0 H0 : Hp)
def EvI (te : TE) (δ : Env) (C : Int → Prop) : Prop := EvD K b I0 H0 te δ (fun r => ∃ i, r = dint i ∧ C i)
end
section
variable {K : PySem.W.Frag} {b : Bg} {I0 H0 : Hp} {δ : Env} {ta te tb : TE} {P : DV → Prop} {A B C : Int → Prop}
theorem EvI.mono (h : EvI K b I0 H0 te δ A) (m : ∀ i, A i → B i) : EvI K b I0 H0 te δ B := EvD.mono h fun _ ⟨i, e, a⟩ => ⟨i, e, m i a⟩
end
end DL
namespace DL
open PySem PySem.Spec PyProof.Rows L2 RZ
theorem all_nil {p : PyData → Prop} : ∀ x ∈ ([] : List PyData), p x := fun _ h => by cases h
theorem all_cons {p : PyData → Prop} {d : PyData} {ds : List PyData} (h : p d) (t : ∀ x ∈ ds, p x) : ∀ x ∈ d :: ds, p x := fun x hx => by
  rcases List.mem_cons.mp hx with e | e
  · rw [e]; exact h
  · exact t x e
def noBor (δ : Env) : Bool := δ.all fun x => match x with
  | some (.bor _) => false
  | some (.dct false _) => false
  | _ => true
theorem noBor_at {δ : Env} (h : noBor δ = true) : ∀ (j : Nat) es, δ[j]? ≠ some (some (.bor es)) := fun j es e => by
  have hm := List.mem_of_getElem? e
  have := List.all_eq_true.mp h _ hm
  cases this
section
variable {K : PySem.W.Frag} {b : Bg} {I0 H0 : Hp} {δ : Env} {N Bk Ct : Env → Prop} {R : DV → Prop} {te ti : TE} {t u : TS} {P : DV → Prop}
theorem EnvR.own {I H : Hp} {σ : L2.St} {i : Nat} {a : Addr} {ds es : List PyData} {ys : List V} (n : EnvR K b H0 I H σ δ) (hbor : noBor δ = true) (hi : δ[i]? = some (some (.own ds))) (hs : σ[i]? = some (some (.ref a))) (h0 : Fr H0 a) (hn : I a = none) (hb : a ≠ b.a) (hd : DpAll K I ys es) :
    EnvR K b H0 I (upd H a (.lst ys)) σ (δ.set i (some (.own es))) := by
  have hlt : i < δ.length := (List.getElem?_eq_some_iff.mp hi).1
  refine ⟨by rw [List.length_set]; exact n.len, fun j r hj => ?_, fun j k c ds' es' h1 h2 h3 h4 => ?_⟩
  · by_cases z : i = j
    · subst z
      rw [List.getElem?_set_self hlt] at hj
      cases hj
      exact ⟨_, hs, a, ys, rfl, h0, hn, hb, upd_same, hd⟩
    · rw [List.getElem?_set_ne z] at hj
      obtain ⟨w, g1, g2⟩ := n.at_ j r hj
      refine ⟨w, g1, ?_⟩
      cases r with
      | dat d => exact g2
      | raw u => exact g2
      | bag => exact g2
      | dct own kvs =>
        obtain ⟨c, zs, rfl, q0, qn, qb, qa, qd⟩ := g2
        obtain ⟨_, f1, f2⟩ := n.at_ i _ hi
        rw [hs] at f1
        cases f1
        obtain ⟨_, _, f3, _, _, _, f4, _⟩ := f2
        cases f3
        have nc : c ≠ a := fun zz => by
          subst zz
          rw [f4] at qa
          cases qa
        exact ⟨c, zs, rfl, q0, qn, qb, by rw [upd_ne nc]; exact qa, qd⟩
      | own es' =>
        obtain ⟨c, zs, rfl, q0, qn, qb, qa, qd⟩ := g2
        have nc : c ≠ a := fun zz => by
          subst zz
          exact z (n.nd i j c ds es' hi hs hj g1)
        exact ⟨c, zs, rfl, q0, qn, qb, by rw [upd_ne nc]; exact qa, qd⟩
      | bor es' => exact absurd hj (noBor_at hbor j es')
  · have fix : ∀ (m : Nat) xs, (δ.set i (some (.own es)))[m]? = some (some (.own xs)) → ∃ xs', δ[m]? = some (some (.own xs')) := fun m xs e => by
      by_cases z : i = m
      · subst z
        exact ⟨ds, hi⟩
      · rw [List.getElem?_set_ne z] at e
        exact ⟨xs, e⟩
    obtain ⟨x1, e1⟩ := fix j ds' h1
    obtain ⟨x2, e2⟩ := fix k es' h3
    exact n.nd j k c x1 x2 e1 h2 e2 h4
end
end DL
namespace DL
open PySem PySem.Spec PyProof.Rows L2 RZ
end DL
namespace DL
open PySem PySem.Spec PyProof.Rows L2
abbrev Cls := Value × (Addr → Value → Option Addr → TS)
end DL
namespace DL
open PySem PySem.Spec PyProof.Rows L2
def XW (K : PySem.W.Frag) (b : Bg) (I H : Hp) (E : XK) (X : XD) : Prop := ∀ C fs d I' H', X C fs → Ext K b I H I' H' → I' d = none → H' d = some (.xd fs) → E (.ref C) (some d) H'
theorem XW.ext {K : PySem.W.Frag} {b : Bg} {I H I' H' : Hp} {E : XK} {X : XD} (x : XW K b I H E X) (e : Ext K b I H I' H') : XW K b I' H' E X := fun C fs d I2 H2 p e2 => x C fs d I2 H2 p (e.trans e2)
end DL
namespace DL
open PySem PySem.Spec PyProof.Rows L2
end DL
namespace DL
open PySem PySem.Spec PyProof.Rows L2 RZ
def KT (K : PySem.W.Frag) : Prop := ∀ a o, K.lookup a = some o → o.cls = .type "tuple" → o.dict = none
def ktB (K : PySem.W.Frag) : Bool := K.all fun p => !decide (p.2.cls = .type "tuple") || p.2.dict.isNone
section
variable {K : PySem.W.Frag} {b : Bg} {I0 H0 : Hp} {δ : Env} {ta te tb ti : TE} {P : DV → Prop} {N Bk Ct : Env → Prop} {R : DV → Prop}
def EvN (K : PySem.W.Frag) (b : Bg) (I0 H0 : Hp) (te : TE) (δ : Env) (D : List Int → Prop) : Prop := EvD K b I0 H0 te δ (fun r => ∃ ns : List Int, r = .dat (nums ns) ∧ D ns)
theorem EvN.mono {D D' : List Int → Prop} (h : EvN K b I0 H0 te δ D) (m : ∀ ns, D ns → D' ns) : EvN K b I0 H0 te δ D' := EvD.mono h fun _ ⟨ns, e, d⟩ => ⟨ns, e, m ns d⟩
end
end DL
namespace DL
open PySem PySem.Spec PyProof.Rows L2 RZ
inductive LessP : Env → Env → Prop
  | nil : LessP [] []
  | no {x : Option DV} {t' t : Env} : LessP t' t → LessP (none :: t') (x :: t)
  | dat {d : PyData} {t' t : Env} : LessP t' t → LessP (some (.dat d) :: t') (some (.dat d) :: t)
  | bag {t' t : Env} : LessP t' t → LessP (some .bag :: t') (some .bag :: t)
theorem LessP.len : ∀ {δ' δ : Env}, LessP δ' δ → δ'.length = δ.length
  | _, _, .nil => rfl
  | _, _, .no h => congrArg Nat.succ h.len
  | _, _, .dat h => congrArg Nat.succ h.len
  | _, _, .bag h => congrArg Nat.succ h.len
end DL
namespace DL
open PySem PySem.Spec PyProof.Rows L2 RZ
inductive LessO : Env → Env → Prop
  | nil : LessO [] []
  | no {x : Option DV} {t' t : Env} : LessO t' t → LessO (none :: t') (x :: t)
  | keep {x : DV} {t' t : Env} : LessO t' t → LessO (some x :: t') (some x :: t)
theorem LessO.len : ∀ {δ' δ : Env}, LessO δ' δ → δ'.length = δ.length
  | _, _, .nil => rfl
  | _, _, .no h => congrArg Nat.succ h.len
  | _, _, .keep h => congrArg Nat.succ h.len
def strsB : List Value → List Str → Bool
  | [], [] => true
  | .str x _ :: vs, y :: ys => decide (x = y) && strsB vs ys
  | _, _ => false
def strTupB (K : PySem.W.Frag) (a : Addr) (ss : List Str) : Bool := match K.lookup a with
  | some ⟨.type "tuple", _, .seq vs _, _⟩ => decide (vs.size ≤ 1000) && strsB vs.toList ss
  | _ => false
def KL (K : PySem.W.Frag) : Prop := ∀ a o, K.lookup a = some o → o.cls ≠ .type "list"
def klB (K : PySem.W.Frag) : Bool := K.all fun p => !decide (p.2.cls = .type "list")
section
variable {K : PySem.W.Frag} {b : Bg} {I0 H0 : Hp} {δ : Env} {ta tb te : TE} {P : DV → Prop}
theorem LstR.lst {I H H1 : Hp} {r : DV} {v : V} {ds : List PyData} (kl : KL K) (k : Ok K b I H) (l : LstR r ds) (h : Res K b H1 I H v r) : ∃ a xs, v = .ref a ∧ H a = some (.lst xs) ∧ DpAll K I xs ds := by
  rcases l with rfl | rfl | rfl
  · obtain ⟨a, xs, rfl, _, _, _, ha, hd⟩ := h
    exact ⟨a, xs, rfl, ha, hd⟩
  · obtain ⟨a, xs, rfl, ha, _, _, hd⟩ := h
    exact ⟨a, xs, rfl, ha, hd⟩
  · have h : Dp K I v (.list ds) := h
    cases h with
    | @lst a xs _ q r =>
      rcases q with (q | ⟨o, q⟩) | ⟨o, its, n, q1, q2, _⟩
      · exact ⟨a, xs, rfl, k.s a _ q, r⟩
      · exact absurd (k.b.2.1 a _ q) (fun z => z)
      · exact absurd q2 (kl a o q1)
end
end DL
namespace DW
open PySem PySem.Spec PyProof.Rows L2 RZ DL
abbrev DP := DV → Prop
abbrev En := DL.Env
abbrev XN := Nat → List (Str × V) → Prop
structure Cn where
  x : XN
  fa : Nat → Addr
abbrev DE := Cn → En → DP → Prop
abbrev DT := Cn → En → (Bool → Prop) → Prop
abbrev DA := Cn → En → (List DV → Prop) → Prop
abbrev DO := Cn → En → (Option Int → Prop) → Prop
abbrev DI := Cn → En → (List PyData → Prop) → Prop
structure Ed where
  nx : En → Prop
  rt : DP
  bk : En → Prop
  ct : En → Prop
abbrev DS := Cn → En → Ed → Prop
abbrev Wt := List DV → DP → Cn → Prop
structure Sg where
  n : Nat
  E : XK
  cls : Nat → Addr
  fa : Nat → Addr
  tb : List (Addr × Str) → Prop
def toXD (cls : Nat → Addr) (x : XN) : XD := fun C fs => ∃ s, C = cls s ∧ x s fs
structure Cok (K : PySem.W.Frag) (S : Sg) (b : Bg) (I0 H0 : Hp) (c : Cn) : Prop where
  fa : c.fa = S.fa
  xw : XW K b I0 H0 S.E (toXD S.cls c.x)
  tb : S.tb b.T
structure NB (n : Nat) (δ : En) : Prop where
  len : δ.length = n
  nb : noBor δ = true
def isPl : DV → Bool
  | .own _ => false
  | .bor _ => false
  | .dct _ _ => false
  | _ => true
def fz : DV → DV
  | .own ds => .dat (.list ds)
  | r => r
def dVar (i : Nat) : DE := fun _ δ P => match δ[i]? with
  | some (some (.own ds)) => P (.bor ds)
  | some (some (.dct true kvs)) => P (.dct false kvs)
  | some (some r) => P r
  | _ => False
def dC (r : DV) : DE := fun _ _ P => P r
section
variable {X : Cx} {S : Sg} {a b e : Expr} {da db de : DE} {pos : Pos}
def dBin (o : DV → DV → DP → Prop) (da db : DE) : DE := fun c δ P => da c δ fun x => db c δ fun y => o (fz x) (fz y) P
def dUn (o : DV → DP → Prop) (da : DE) : DE := fun c δ P => da c δ fun x => o (fz x) P
def dChain (o o' : DV → DV → DP → Prop) (da db dc : DE) : DE := fun c δ P => da c δ fun x => db c δ fun y => o (fz x) (fz y) fun z => match z with
  | .dat (.bool k) => if k = true then dc c δ fun w => o' (fz y) (fz w) P else P (dbl false)
  | _ => False
def dTst (de : DE) : DT := fun c δ P => de c δ fun r => match r with
  | .dat (.bool k) => P k
  | _ => False
def dAnd (a b : DT) : DT := fun c δ P => a c δ fun v => if v = true then b c δ P else P false
def dOr (a b : DT) : DT := fun c δ P => a c δ fun v => if v = true then P true else b c δ P
def dNot (a : DT) : DT := fun c δ P => a c δ fun v => P (!v)
def dYes : DT := fun _ _ P => P true
def dAndV (a b : DE) : DE := fun c δ P => a c δ fun r => match r with
  | .dat (.bool k) => if k = true then b c δ P else P (dbl false)
  | _ => False
def dOrV (a b : DE) : DE := fun c δ P => a c δ fun r => match r with
  | .dat (.bool k) => if k = true then P (dbl true) else b c δ P
  | _ => False
def dNotV (a : DE) : DE := fun c δ P => a c δ fun r => match r with
  | .dat (.bool k) => P (dbl (!k))
  | _ => False
def dIfE (t : DT) (a b : DE) : DE := fun c δ P => t c δ fun v => if v = true then a c δ P else b c δ P
def dNil : DA := fun _ _ P => P []
def dCons (de : DE) (da : DA) : DA := fun c δ P => de c δ fun r => da c δ fun rs => P (fz r :: rs)
def dats : List DV → Option (List PyData)
  | [] => some []
  | .dat d :: rs => match dats rs with
    | some ds => some (d :: ds)
    | none => none
  | _ :: _ => none
def dTup (da : DA) : DE := fun c δ P => da c δ fun rs => match dats rs with
  | some ds => P (.dat (.tuple ds))
  | none => False
def dLst (da : DA) : DE := fun c δ P => da c δ fun rs => match dats rs with
  | some ds => P (.own ds)
  | none => False
def dNone : DO := fun _ _ P => P none
def dSome (de : DE) : DO := fun c δ P => de c δ fun r => match r with
  | .dat (.int i) => P (some i)
  | _ => False
def oCut (lo hi : Option Int) : DV → DP → Prop
  | .dat (.tuple ds), P => P (.dat (.tuple (cutD ds lo hi)))
  | .dat (.list ds), P => P (.own (cutD ds lo hi))
  | .bor ds, P => P (.own (cutD ds lo hi))
  | .dat (.str z), P => z.length ≤ 100000 ∧ P (.dat (.str (cutS z lo hi)))
  | _, _ => False
def dSl (de : DE) (dl dh : DO) : DE := fun c δ P => de c δ fun r => dl c δ fun lo => dh c δ fun hi => oCut lo hi (fz r) P
end
end DW
namespace DW
open PySem PySem.Spec PyProof.Rows L2 RZ DL
def toD : DV → Option PyData
  | .dat d => some d
  | .own ds => some (.list ds)
  | .bor ds => some (.list ds)
  | _ => none
def keyT (d : PyData) : Option NestedKey := match d with
  | .tuple ds => match DK.keyOf (.tuple ds) with
    | some k => if k.depth ≤ 8 then some k else none
    | none => none
  | _ => none
def lkD (kvs : List (PyData × PyData)) (k : NestedKey) : Option PyData := (kvs.find? fun kv => decide (DK.keyOf kv.1 = some k)).map (·.2)
def putD (kvs : List (PyData × PyData)) (d : PyData) (k : NestedKey) (v : PyData) : List (PyData × PyData) := if (lkD kvs k).isSome = true then kvs.map (fun kv => if DK.keyOf kv.1 = some k then (kv.1, v) else kv) else kvs ++ [(d, v)]
def oAdd : DV → DV → DP → Prop
  | .dat (.int i), .dat (.int j), P => P (dint (i + j))
  | .dat (.tuple xs), .dat (.tuple ys), P => xs.length + ys.length ≤ 100000 ∧ P (.dat (.tuple (xs ++ ys)))
  | .dat (.str s), .dat (.str t), P => s.length + t.length ≤ 100000 ∧ P (.dat (.str (s ++ t)))
  | .dat (.list xs), .dat (.list ys), P => xs.length + ys.length ≤ 100000 ∧ P (.own (xs ++ ys))
  | .bor xs, .dat (.list ys), P => xs.length + ys.length ≤ 100000 ∧ P (.own (xs ++ ys))
  | .dat (.list xs), .bor ys, P => xs.length + ys.length ≤ 100000 ∧ P (.own (xs ++ ys))
  | .bor xs, .bor ys, P => xs.length + ys.length ≤ 100000 ∧ P (.own (xs ++ ys))
  | _, _, _ => False
def oSub : DV → DV → DP → Prop
  | .dat (.int i), .dat (.int j), P => P (dint (i - j))
  | _, _, _ => False
def oMul : DV → DV → DP → Prop
  | .dat (.int i), .dat (.int j), P => (CMul i j ∨ CMulW i j) ∧ P (dint (i * j))
  | .dat (.tuple xs), .dat (.int k), P => (xs ≠ [] ∧ xs.length ≤ 1000 ∧ -1000 ≤ k ∧ k ≤ 1000) ∧ P (.dat (.tuple (List.replicate k.toNat xs).flatten))
  | .dat (.list xs), .dat (.int k), P => (-1000000 ≤ k ∧ k ≤ 1000000 ∧ xs.length * k.toNat ≤ 100000) ∧ P (.own (List.replicate k.toNat xs).flatten)
  | .bor xs, .dat (.int k), P => (-1000000 ≤ k ∧ k ≤ 1000000 ∧ xs.length * k.toNat ≤ 100000) ∧ P (.own (List.replicate k.toNat xs).flatten)
  | _, _, _ => False
def oMod : DV → DV → DP → Prop
  | .dat (.int i), .dat (.int j), P => 0 < j ∧ P (dint (i % j))
  | _, _, _ => False
def oDiv : DV → DV → DP → Prop
  | .dat (.int i), .dat (.int j), P => (0 < j ∧ j.natAbs.log2 < 9000) ∧ P (dint (i / j))
  | _, _, _ => False
def oCmp (g : Int → Int → Bool) : DV → DV → DP → Prop
  | .dat (.int i), .dat (.int j), P => P (dbl (g i j))
  | _, _, _ => False
abbrev oLe := oCmp fun i j => decide (i ≤ j)
def oEq (neg : Bool) (x y : DV) (P : DP) : Prop := match toD x, toD y with
  | some d, some e => (SeqAt.shaped d = true ∧ SeqAt.shaped e = true) ∧ P (dbl (if neg then !PyData.eqv d e else PyData.eqv d e))
  | _, _ => False
def oIsN (neg : Bool) (x y : DV) (P : DP) : Prop := match x, y with
  | .dat d, .dat .none => P (dbl (if neg then !decide (tyN d = "NoneType") else decide (tyN d = "NoneType")))
  | .dat (.bool a), .dat (.bool c) => P (dbl (if neg then a != c else a == c))
  | _, _ => False
def flD : PyData → Bool
  | .list _ => false
  | .tuple _ => false
  | .dict _ => false
  | _ => true
def seqD : DV → Option (List PyData)
  | .dat (.list ds) => some ds
  | .dat (.tuple ds) => some ds
  | .bor ds => some ds
  | .own ds => some ds
  | _ => none
def oIn (neg : Bool) (x y : DV) (P : DP) : Prop := match x with
  | .dat d => match seqD y with
    | some ds => ((flD d = true ∧ ds.all flD = true) ∨ (SeqAt.shaped d = true ∧ SeqAt.shaped (.list ds) = true ∧ ∃ e, toD y = some (.list e))) ∧ P (dbl (if neg then !ds.any fun z => PyData.eqv z d else ds.any fun z => PyData.eqv z d))
    | none => match d, y with
      | .str x, .dat (.str z) => match x.cps.toList with
        | [k] => P (dbl (if neg then !decide (k ∈ z.cps.toList) else decide (k ∈ z.cps.toList)))
        | _ => False
      | .tuple ds, .dct _ kvs => match keyT (.tuple ds) with
        | some k => P (dbl (if neg then !(lkD kvs k).isSome else (lkD kvs k).isSome))
        | none => False
      | _, _ => False
  | _ => False
section
variable {X : Cx}
def atD (ds : List PyData) (i : Int) : Option PyData := match ixN ds.length i with
  | some j => ds[j]?
  | none => none
def oIx (x y : DV) (P : DP) : Prop := match y with
  | .dat (.int i) => match seqD x with
    | some ds => match atD ds i with
      | some d => P (.dat d)
      | none => False
    | none => match x with
      | .dat (.str z) => z.length ≤ 100000 ∧ match atI z.cps.toList i with
        | some k => P (.dat (.str ⟨#[k]⟩))
        | none => False
      | _ => False
  | .dat (.tuple es) => match x with
    | .dct _ kvs => match keyT (.tuple es) with
      | some k => match lkD kvs k with
        | some d => P (.dat d)
        | none => False
      | none => False
    | _ => False
  | _ => False
def oNeg : DV → DP → Prop
  | .dat (.int i), P => P (dint (-i))
  | _, _ => False
def bLen : List DV → DP → Prop
  | [x], P => match seqD x with
    | some ds => P (dint ds.length)
    | none => match x with
      | .dat (.str z) => z.length ≤ 100000 ∧ P (dint z.length)
      | .dct _ kvs => P (dint kvs.length)
      | _ => False
  | _, _ => False
def intsD : List PyData → Option (List Int)
  | [] => some []
  | .int i :: ds => match intsD ds with
    | some is => some (i :: is)
    | none => none
  | _ :: _ => none
def boolsD : List PyData → Option (List Bool)
  | [] => some []
  | .bool i :: ds => match boolsD ds with
    | some is => some (i :: is)
    | none => none
  | _ :: _ => none
theorem bools_map (ns : List Bool) : boolsD (ns.map .bool) = some ns := by
  induction ns with
  | nil => rfl
  | cons n ns ih =>
    show (match boolsD (ns.map .bool) with
      | some is => some (n :: is)
      | none => none) = _
    rw [ih]
def lstD : DV → Option (List PyData)
  | .dat (.list ds) => some ds
  | .bor ds => some ds
  | .own ds => some ds
  | _ => none
def bTuple : List DV → DP → Prop
  | [x], P => match lstD x with
    | some ds => P (.dat (.tuple ds))
    | none => match x with
      | .dat (.tuple ds) => P (.dat (.tuple ds))
      | _ => False
  | _, _ => False
def bList : List DV → DP → Prop
  | [x], P => match seqD x with
    | some ds => P (.own ds)
    | none => match x with
      | .dct _ kvs => P (.own (kvs.map (·.1)))
      | _ => False
  | _, _ => False
def bAbs : List DV → DP → Prop
  | [.dat (.int i)], P => P (dint (if i < 0 then -i else i))
  | _, _ => False
def bMin : List DV → DP → Prop
  | [.dat (.int i), .dat (.int j)], P => P (dint (if j < i then j else i))
  | [x], P => match lstD x with
    | some ds => match intsD ds with
      | some ns => 0 < ns.length ∧ ∀ m, m ∈ ns → (∀ y, y ∈ ns → m ≤ y) → P (dint m)
      | none => False
    | none => False
  | _, _ => False
def bMax : List DV → DP → Prop
  | [.dat (.int i), .dat (.int j)], P => P (dint (if j > i then j else i))
  | [x], P => match lstD x with
    | some ds => match intsD ds with
      | some ns => 0 < ns.length ∧ ∀ m, m ∈ ns → (∀ y, y ∈ ns → y ≤ m) → P (dint m)
      | none => False
    | none => False
  | _, _ => False
def bSum : List DV → DP → Prop
  | [x], P => match seqD x with
    | some ds => match intsD ds with
      | some ns => P (dint ns.sum)
      | none => False
    | none => False
  | _, _ => False
def bAll : List DV → DP → Prop
  | [x], P => match lstD x with
    | some ds => match boolsD ds with
      | some ns => P (dbl (ns.all id))
      | none => False
    | none => False
  | _, _ => False
def bAny : List DV → DP → Prop
  | [x], P => match lstD x with
    | some ds => match boolsD ds with
      | some ns => P (dbl (ns.any id))
      | none => False
    | none => False
  | _, _ => False
def bSorted : List DV → DP → Prop
  | [x], P => match lstD x with
    | some ds => match intsD ds with
      | some ns => ∀ ms : List Int, ms.Perm ns → ms.Pairwise (· ≤ ·) → P (.own (ms.map .int))
      | none => False
    | none => False
  | _, _ => False
def bIsi : List DV → DP → Prop
  | [.dat d, .raw (.ty n)], P => match kitB (tyN d) n with
    | some k => P (dbl k)
    | none => False
  | _, _ => False
end
end DW
namespace DW
open PySem PySem.Spec PyProof.Rows L2 RZ DL
def dCall (W : Wt) (da : DA) : DE := fun c δ P => da c δ fun rs => rs.all isPl = true ∧ W rs P c
def dCb (o : List DV → DP → Prop) (da : DA) : DE := fun c δ P => da c δ fun rs => o rs P
section
variable {X : Cx} {S : Sg} {a b e : Expr} {es : List Expr} {da db de : DE} {pos p : Pos} {x : Str}
def bRange (n : Nat) : List PyData := (List.range n).map fun (k : Nat) => .int (k : Int)
def dLrg (de : DE) : DE := fun c δ P => de c δ fun r => match r with
  | .dat (.int n) => (0 ≤ n ∧ n ≤ 100000) ∧ P (.own (bRange n.toNat))
  | _ => False
section
variable {k : Nat} {f : Addr} {fd : FuncData} {ps : List Str} {W : Wt} {da : DA}
def pk (is : List Nat) {α : Type} (vs ws : List α) : List α := is.filterMap fun i => (vs ++ ws)[i]?
def dCallK (W : Wt) (is : List Nat) (da dk : DA) : DE := fun c δ P => da c δ fun rs => dk c δ fun zs => (pk is rs zs).all isPl = true ∧ W (pk is rs zs) P c
def dTab (tab : List (Str × Nat)) (de : DE) : DE := fun c δ P => de c δ fun r => match r with
  | .dat (.str s) => match tab.lookup s with
    | some f => P (.raw (.ref (c.fa f)))
    | none => False
  | _ => False
def dCallV (i : Nat) (ws : List (Nat × Wt)) (da : DA) : DE := fun c δ P => ∃ f W, (f, W) ∈ ws ∧ δ[i]? = some (some (.raw (.ref (c.fa f)))) ∧ da c δ fun rs => rs.all isPl = true ∧ W rs P c
end
end
def chars (z : Str) : List PyData := z.cps.toList.map fun k => .str ⟨#[k]⟩
def dISeq (de : DE) : DI := fun c δ A => de c δ fun r => match fz r with
  | .dat (.list ds) => A ds
  | .dat (.tuple ds) => A ds
  | .dat (.str z) => A (chars z)
  | _ => False
def dIRg1 (da : DA) : DI := fun c δ A => da c δ fun rs => match rs with
  | [.dat (.int n)] => (-(2 ^ 62) ≤ n ∧ n < 2 ^ 62) ∧ A (rangeD 0 n.toNat)
  | _ => False
def dIRg2 (da : DA) : DI := fun c δ A => da c δ fun rs => match rs with
  | [.dat (.int m), .dat (.int n)] => (-(2 ^ 62) ≤ m ∧ m < 2 ^ 62 ∧ -(2 ^ 62) ≤ n ∧ n < 2 ^ 62) ∧ A (rangeD m (n - m).toNat)
  | _ => False
def dIZip (da : DA) : DI := fun c δ A => da c δ fun rs => match rs with
  | [.dat (.tuple ds), .dat (.tuple es)] => A (zipD ds es)
  | _ => False
def dIEnum (da : DA) : DI := fun c δ A => da c δ fun rs => match rs with
  | [.dat (.tuple ds)] => A (enumD ds)
  | [.dat (.list ds)] => A (enumD ds)
  | _ => False
end DW
namespace DW
open PySem PySem.Spec PyProof.Rows L2 RZ DL
abbrev Tf := PyData → En → Option En
def tfName (i : Nat) : Tf := fun d δ => some (δ.set i (some (.dat d)))
def tfPair (i j : Nat) : Tf := fun d δ => match d with
  | .tuple [a, b] => some ((δ.set i (some (.dat a))).set j (some (.dat b)))
  | _ => none
def lcGo (step : PyData → (Option DV → Prop) → Prop) : List PyData → (List PyData → Prop) → Prop
  | [], P => P []
  | d :: ds, P => step d fun o => match o with
    | none => lcGo step ds P
    | some (.dat y) => lcGo step ds fun ys => P (y :: ys)
    | _ => False
def Cn.no (c : Cn) : Cn := ⟨fun _ _ => False, c.fa⟩
def Sg.no (S : Sg) : Sg := ⟨S.n, fun _ _ _ => False, S.cls, S.fa, S.tb⟩
def lcStep (tf : Tf) (dt : DT) (de : DE) (c : Cn) (δ : En) : PyData → (Option DV → Prop) → Prop := fun d k => match tf d δ with
  | some δ' => dt c.no δ' fun t => if t = true then de c.no δ' fun r => k (some (fz r)) else k none
  | none => False
def dLc (di : DI) (tf : Tf) (dt : DT) (de : DE) (vs : List Nat) : DE := fun c δ P => (∀ v ∈ vs, δ[v]? = some none) ∧ di c δ fun items => items.length ≤ 100000 ∧ lcGo (lcStep tf dt de c δ) items fun ys => P (.own ys)
theorem Cok.no {K : PySem.W.Frag} {S : Sg} {b : Bg} {I0 H0 : Hp} {c : Cn} (h : Cok K S b I0 H0 c) : Cok K S.no b I0 H0 c.no := ⟨h.fa, (fun C fs d I' H' hx => by
  obtain ⟨s, _, z⟩ := hx
  exact z.elim), h.tb⟩
end DW
namespace DW
open PySem PySem.Spec PyProof.Rows L2 RZ DL
def dNext : DS := fun _ δ D => D.nx δ
def later (b : DS) (c : Cn) (D : Ed) (δ : En) : Prop := b c δ D
def dSeq (a b : DS) : DS := fun c δ D => a c δ ⟨later b c D, D.rt, D.bk, D.ct⟩
def dIfS (t : DT) (a b : DS) : DS := fun c δ D => t c δ fun v => if v = true then a c δ D else b c δ D
def dAsg (i : Nat) (de : DE) : DS := fun c δ D => de c δ fun r => match r with
  | .bor _ => False
  | .dct false _ => False
  | r => D.nx (δ.set i (some r))
def dPar (i j : Nat) (da : DA) : DS := fun c δ D => da c δ fun rs => match rs with
  | [.dat a, .dat b] => D.nx ((δ.set i (some (.dat a))).set j (some (.dat b)))
  | _ => False
def dRet (de : DE) : DS := fun c δ D => de c δ D.rt
def dRetV (i : Nat) : DS := fun _ δ D => match δ[i]? with
  | some (some (.dct _ _)) => False
  | some (some r) => D.rt r
  | _ => False
def dRetN : DS := fun _ _ D => D.rt (.dat .none)
def dExpr (de : DE) : DS := fun c δ D => de c δ fun _ => D.nx δ
def dBrk : DS := fun _ δ D => D.bk δ
def dCnt : DS := fun _ δ D => D.ct δ
def forGo (c : Cn) (tf : Tf) (db : DS) (D : Ed) : List PyData → En → Prop
  | [], δ => D.nx δ
  | d :: ds, δ => match tf d δ with
    | some δ' => db c δ' ⟨forGo c tf db D ds, D.rt, D.nx, forGo c tf db D ds⟩
    | none => False
def dFor (di : DI) (tf : Tf) (db : DS) : DS := fun c δ D => di c δ fun items => forGo c tf db D items δ
def frzAt (i : Nat) (δ : En) : En := match δ[i]? with
  | some (some (.own ds)) => δ.set i (some (.dat (.list ds)))
  | _ => δ
def dFrz (i : Nat) (ds : DS) : DS := fun c δ D => ds c (frzAt i δ) D
abbrev DG := Cn → En → PyData → (En → Prop) → Prop
abbrev DGs := Cn → En → List PyData → (En → Prop) → Prop
def dGName (i : Nat) : DG := fun _ δ d N => N (δ.set i (some (.dat d)))
def oneDct : Nat → En → Bool
  | _, [] => true
  | 0, _ :: δ => δ.all fun x => match x with
    | some (.dct _ _) => false
    | _ => true
  | i + 1, x :: δ => (match x with
    | some (.dct _ _) => false
    | _ => true) && oneDct i δ
def dGSub (i : Nat) (di : DE) : DG := fun c δ d N => match δ[i]? with
  | some (some (.own ds)) => di c δ fun k => match k with
    | .dat (.int k) => match ixN ds.length k with
      | some j => N (δ.set i (some (.own (ds.set j d))))
      | none => False
    | _ => False
  | some (some (.dct true kvs)) => di c δ fun k => match k with
    | .dat kd => match keyT kd with
      | some kk => (oneDct i δ = true ∧ kvs.length < 100000) ∧ N (δ.set i (some (.dct true (putD kvs kd kk d))))
      | none => False
    | _ => False
  | _ => False
def dGNil : DGs := fun _ δ ds N => match ds with
  | [] => N δ
  | _ => False
def dGCons (g : DG) (gs : DGs) : DGs := fun c δ ds N => match ds with
  | d :: ds => g c δ d fun δ' => gs c δ' ds N
  | [] => False
def dGTup (n : Nat) (gs : DGs) : DG := fun c δ d N => match d with
  | .tuple ds => ds.length = n ∧ gs c δ ds N
  | _ => False
def dAsgG (de : DE) (dg : DG) : DS := fun c δ D => de c δ fun r => match fz r with
  | .dat d => dg c δ d D.nx
  | _ => False
def dAugI (i : Nat) (g : Int → Int → Int) (di de : DE) : DS := fun c δ D => match δ[i]? with
  | some (some (.own ds)) => di c δ fun k => match k with
    | .dat (.int k) => 0 ≤ k ∧ match ds[k.toNat]? with
      | some (.int m) => de c δ fun r => match r with
        | .dat (.int n) => D.nx (δ.set i (some (.own (ds.set k.toNat (.int (g m n))))))
        | _ => False
      | _ => False
    | _ => False
  | _ => False
def dAug (i : Nat) (g : Int → Int → Int) (de : DE) : DS := fun c δ D => match δ[i]? with
  | some (some (.dat (.int m))) => de c δ fun r => match r with
    | .dat (.int n) => D.nx (δ.set i (some (dint (g m n))))
    | _ => False
  | _ => False
def dApp (i : Nat) (de : DE) : DS := fun c δ D => match δ[i]? with
  | some (some (.own ds)) => de c δ fun r => match fz r with
    | .dat d => ds.length < 100000 ∧ D.nx (δ.set i (some (.own (ds ++ [d]))))
    | _ => False
  | _ => False
def dExt (i : Nat) (de : DE) : DS := fun c δ D => match δ[i]? with
  | some (some (.own ds)) => de c δ fun r => match fz r with
    | .dat (.list es) => ds.length + es.length ≤ 100000 ∧ D.nx (δ.set i (some (.own (ds ++ es))))
    | _ => False
  | _ => False
def scV : DV → Option V
  | .dat .none => some .non
  | .dat (.bool i) => some (.bl i)
  | .dat (.int i) => some (.int i)
  | .dat (.str i) => some (.str i)
  | _ => none
def scVs : List DV → Option (List V)
  | [] => some []
  | r :: rs => match scV r with
    | some v => match scVs rs with
      | some vs => some (v :: vs)
      | none => none
    | none => none
def dRaise (x : Nat) (mk : List V → List (Str × V)) (da : DA) : DS := fun c δ _ => da c δ fun rs => match scVs rs with
  | some vs => c.x x (mk vs)
  | none => False
def dCount (do_ de : DE) : DE := fun c δ P => do_ c δ fun x => match x with
  | .dat (.tuple ds) => match intsD ds with
    | some ns => de c δ fun y => match y with
      | .dat (.int k) => P (dint (ns.count k))
      | _ => False
    | none => False
  | _ => False
def wFn (n m : Nat) (D : DS) : Wt := fun rs P c => rs.length = n ∧ D c (rs.map some ++ List.replicate (m - n) none) ⟨fun _ => P (.dat .none), P, fun _ => False, fun _ => False⟩
end DW
namespace DW
open PySem PySem.Spec PyProof.Rows L2 RZ DL
end DW
namespace DW
open PySem PySem.Spec PyProof.Rows L2 RZ DL
end DW
namespace DW
open PySem PySem.Spec PyProof.Rows L2 RZ DL
end DW
namespace DW
open PySem PySem.Spec PyProof.Rows L2 RZ DL
end DW
namespace DW
open PySem PySem.Spec PyProof.Rows L2 RZ DL
end DW
namespace DZ
open PySem PySem.Spec PyProof.Rows L2 RZ DL
end DZ
set_option maxHeartbeats 1000000
namespace DZ
open PySem PySem.Spec PyProof.Rows L2 RZ DL
end DZ
namespace DW
open PySem PySem.Spec PyProof.Rows L2 RZ DL DZ
end DW
namespace DW
open PySem PySem.Spec PyProof.Rows L2 RZ DL
end DW
namespace DW
open PySem PySem.Spec PyProof.Rows L2 RZ DL DZ
end DW
set_option maxHeartbeats 4000000
namespace DW
open PySem PySem.Spec PyProof.Rows L2 RZ DL
end DW
namespace DW
open PySem PySem.Spec PyProof.Rows L2 RZ DL
end DW
namespace OEL
open PySem PySem.Spec PySem.W PySem.Calls PyProof.Rows L2
abbrev tlL : List Value := [.type "LookupError", .type "Exception", .type "BaseException", .type "object"]
abbrev tlI : List Value := [.type "IndexError", .type "LookupError", .type "Exception", .type "BaseException", .type "object"]
structure Of (K : Frag) (C : Addr) (nid : String) (tl : List Value) : Prop where
  cls : ∃ nm q N bs bm sn sub ab col dd k0 k1 k2 k3 k5, K.lookup C = some (excClassObj nm q C N bs bm true sn sub ab col dd k0 k1 k2 k3 k5 nid)
  over : excOver K C tl = true
  sa : findIn K (.ref C) "__setattr__" = some (some (.builtin "object.__setattr__"))
  exC : subIn K (.ref C) (.type "BaseException") = some true
  tyC : typeIn K (.ref C) = some (.type "type")
  kC : keepIn K (.ref C) = true
end OEL
namespace DL
open PySem PySem.Spec PyProof.Rows L2
end DL
namespace DW
open PySem PySem.Spec PyProof.Rows L2 RZ DL
end DW
namespace DL
open PySem PySem.Spec PyProof.Rows L2 RZ
end DL
namespace DW
open PySem PySem.Spec PyProof.Rows L2 RZ DL
end DW
namespace DW
open PySem PySem.Spec PyProof.Rows L2 RZ DL
end DW
namespace DW
open PySem PySem.Spec PyProof.Rows L2 RZ DL
end DW
namespace DW
open PySem PySem.Spec PyProof.Rows L2 RZ DL
end DW
namespace DW
open PySem PySem.Spec PyProof.Rows L2 RZ DL
end DW
namespace DW
open PySem PySem.Spec PyProof.Rows L2 RZ DL
end DW
namespace DW
open PySem PySem.Spec PyProof.Rows L2 RZ DL
end DW
namespace DL
open PySem PySem.Spec PyProof.Rows L2
end DL
set_option maxHeartbeats 1000000
namespace DW
open PySem PySem.Spec PyProof.Rows L2 RZ DL
end DW
namespace HX
open PySem PySem.Spec PyProof.Rows L2 DL DW
abbrev dd (a x : Str) (st : Stmt) : He.DefD := ⟨(a, none), x, x, defArgs st, defBody st, defScope st, [], []⟩
abbrev di (c q : Str) (st : Stmt) : He.DefD := ⟨(c, some "__init__"), "__init__", q, defArgs st, defBody st, defScope st, [], []⟩
def exB (K : PySem.W.Frag) (C : Addr) : Bool := match K.lookup C with
  | some ⟨.type c, _, .cls cd, sl⟩ => (match cd.mro, sl.toList with
    | .ref C' :: bm, [_, _, _, _, some (.builtin n), _] => decide (c = "type") && (decide (C' = C) && (decide (n = "ValueError.__new__") && (!cd.hasDel && (cd.hasDict && PySem.HandSPX.refsVE bm))))
    | _, _ => false)
  | _ => false
def clsX (K : PySem.W.Frag) (x : Str) (fs : List Str) : Bool :=
  exB K (He.ga K x) && (He.eqO (PySem.W.findIn K (.ref (He.ga K x)) "__setattr__") (some (some (.builtin "object.__setattr__"))) && (decide (PySem.W.subIn K (.ref (He.ga K x)) (.type "BaseException") = some true) && (decide (PySem.W.typeIn K (.ref (He.ga K x)) = some (.type "type")) && (PySem.W.keepIn K (.ref (He.ga K x)) && (xfB K (He.ga K x) &&
    (decide (PySem.W.typeIn K (.ref (He.ma K (He.ga K x) "__init__")) = some (.type "function")) && (He.eqO (PySem.W.findIn K (.ref (He.ga K x)) "__init__") (some (some (.ref (He.ma K (He.ga K x) "__init__")))) && fs.all fun f => He.eqO (PySem.W.findIn K (.ref (He.ga K x)) f) (some none))))))))
def strX (K : PySem.W.Frag) (x : Str) (ss : List Str) : Bool := strTupB K (He.ga K x) ss
end HX
namespace HX
open PySem PySem.Spec PyProof.Rows L2 DL DW
def topAs (g : Addr → Option Obj) (names : List Str) : List Addr := match g mainGlobals with
  | some o => (match o.data with
    | .dict es _ => es.toList.flatMap fun e => match names.any (fun x => e.key.isStr x) with
      | true => He.refV e.val
      | false => []
    | _ => [])
  | none => []
def upAs (g : Addr → Option Obj) (as : List Addr) : List Addr := as.flatMap fun a => match g a with
  | some o => He.refsD o
  | none => []
def accL (g : Addr → Option Obj) : Nat → List Addr → List Addr
  | 0, f => f
  | n + 1, f => f ++ accL g n (upAs g f)
def asL (g : Addr → Option Obj) (names : List Str) (n : Nat) : List Addr := mainGlobals :: accL g n (topAs g names)
def obsL (names : List Str) (n : Nat) (fa : List He.Fa) (fn : List He.DefD) (ts : List He.Tab) (tf : List He.Defn) (ex : PySem.W.Frag → Bool) (g : Addr → Option Obj) : He.AlX := (He.obsT fa fn ts (He.frT g (asL g names n)), ex (He.frT g (asL g names n)) && He.tabsB g tf (He.frT g (asL g names n)))
theorem saysL_of {names : List Str} {n : Nat} {fa : List He.Fa} {fn : List He.DefD} {ts : List He.Tab} {tf : List He.Defn} {ex : PySem.W.Frag → Bool} {w : World} {h : Heap} (e : obsL names n fa fn ts tf ex h.get? = He.valX fn ts w) : He.SaysX fa fn ts tf ex w h (He.frT h.get? (asL h.get? names n)) := by
  have e1 := congrArg Prod.fst e
  have e2 := congrArg Prod.snd e
  obtain ⟨m1, m2⟩ := Bool.and_eq_true_iff.mp e2
  have all := List.all_eq_true.mp m2
  have tab : ∀ p ∈ tf, ∃ o, h.get? (He.cT (He.frT h.get? (asL h.get? names n)) p).2 = some o ∧ He.emptyTab o = true := fun p hp => by
    obtain ⟨_, v⟩ := Bool.and_eq_true_iff.mp (all p hp)
    cases q : h.get? (He.cT (He.frT h.get? (asL h.get? names n)) p).2 with
    | none => rw [q] at v; cases v
    | some o => rw [q] at v; exact ⟨o, rfl, v⟩
  refine ⟨e1, m1, fun p hp => (Bool.and_eq_true_iff.mp (all p hp)).1, fun p hp => ?_, fun p hp => ?_⟩
  · obtain ⟨o, q, z⟩ := tab p hp
    exact He.frT_none q z
  · obtain ⟨o, q, z⟩ := tab p hp
    rw [q, He.emptyTab_eq z]
def hookL (names : List Str) (n : Nat) (fa : List He.Fa) (fn : List He.DefD) (ts : List He.Tab) (tf : List He.Defn) (ex : PySem.W.Frag → Bool) : PySem.W.Hook where
  α := He.AlX
  obs := fun s => obsL names n fa fn ts tf ex s.heap.get?
  val := fun w => He.valX fn ts w
  says := fun w h => ∃ K : PySem.W.Frag, K.In h ∧ He.SaysX fa fn ts tf ex w h K
  of := fun _ _ e => ⟨_, He.frT_in, saysL_of e⟩
  keeps := fun _ _ _ ⟨K, hK, c⟩ k => ⟨K, PySem.W.Frag.In.keeps hK k, ⟨c.t, c.more, c.hd, c.out, fun p hp => k _ _ (c.empty p hp)⟩⟩
theorem obsL_eq {names : List Str} {n : Nat} {fa : List He.Fa} {fn : List He.DefD} {ts : List He.Tab} {tf : List He.Defn} {ex : PySem.W.Frag → Bool} {g : Addr → Option Obj} {s : Shared} (h : ∀ a, g a = s.heap.get? a) : obsL names n fa fn ts tf ex g = (hookL names n fa fn ts tf ex).obs s := by
  have e : g = s.heap.get? := funext h
  rw [e] <;> rfl
end HX
namespace HX
open PySem PySem.Spec PyProof.Rows L2 DL DW
def exN (nid : String) (K : PySem.W.Frag) (C : Addr) : Bool := match K.lookup C with
  | some ⟨.type c, _, .cls cd, sl⟩ => (match cd.mro, sl.toList with
    | .ref C' :: bm, [_, _, _, _, some (.builtin n), _] => decide (c = "type") && (decide (C' = C) && (decide (n = nid) && (!cd.hasDel && cd.hasDict)))
    | _, _ => false)
  | _ => false
def clsN (nid : String) (tl : List Value) (K : PySem.W.Frag) (x : Str) (fs : List Str) : Bool :=
  exN nid K (He.ga K x) && (PySem.W.excOver K (He.ga K x) tl && (He.eqO (PySem.W.findIn K (.ref (He.ga K x)) "__setattr__") (some (some (.builtin "object.__setattr__"))) && (decide (PySem.W.subIn K (.ref (He.ga K x)) (.type "BaseException") = some true) && (decide (PySem.W.typeIn K (.ref (He.ga K x)) = some (.type "type")) && (PySem.W.keepIn K (.ref (He.ga K x)) && (xfB K (He.ga K x) &&
    (decide (PySem.W.typeIn K (.ref (He.ma K (He.ga K x) "__init__")) = some (.type "function")) && (He.eqO (PySem.W.findIn K (.ref (He.ga K x)) "__init__") (some (some (.ref (He.ma K (He.ga K x) "__init__")))) && fs.all fun f => He.eqO (PySem.W.findIn K (.ref (He.ga K x)) f) (some none)))))))))
end HX
set_option maxHeartbeats 4000000
namespace Lw
open PySem PySem.Spec PyProof.Rows L2 DL DW
def topS (i : Nat) : Stmt := PySem.Challenge.pw_hidelater_k25_rounds_written_in_a_book.main.body.getD i (.Pass ⟨0, 0, 0, 0⟩)
abbrev s_look_sizes : Stmt := topS 15
abbrev s_fault_place : Stmt := topS 19
abbrev s_length_fits : Stmt := topS 20
abbrev s_swap_fault : Stmt := topS 21
abbrev s_cask_fault : Stmt := topS 22
abbrev s_Book_init : Stmt := inClass (topS 29) 0
abbrev s_is_name : Stmt := topS 30
abbrev s_step_fault : Stmt := topS 31
abbrev s_calls : Stmt := topS 32
abbrev s_law_open : Stmt := topS 34
abbrev s_law_take : Stmt := topS 35
abbrev s_law_pick : Stmt := topS 36
abbrev s_law_same : Stmt := topS 37
abbrev s_law_word : Stmt := topS 38
abbrev s_law_sizes : Stmt := topS 39
abbrev s_law_any_sizes : Stmt := topS 40
abbrev s_law_number : Stmt := topS 41
abbrev s_law_shuffled : Stmt := topS 42
abbrev s_law_some_casks : Stmt := topS 43
abbrev s_law_alike : Stmt := topS 44
abbrev s_law_deed : Stmt := topS 45
abbrev s_law_names : Stmt := topS 46
abbrev s_law_step : Stmt := topS 47
abbrev s_law_step_word : Stmt := topS 48
abbrev s_law_laid : Stmt := topS 49
abbrev s_law_due : Stmt := topS 50
abbrev s_law : Stmt := topS 51
abbrev s_Book_write : Stmt := inClass (topS 29) 1
abbrev s_Book_steps : Stmt := inClass (topS 29) 3
abbrev s_Book_flat : Stmt := inClass (topS 29) 4
abbrev s_Book_callers : Stmt := inClass (topS 29) 5
abbrev s_Book_names : Stmt := inClass (topS 29) 6
abbrev s_Book_sizes : Stmt := inClass (topS 29) 7
abbrev s_Book_look_fresh : Stmt := inClass (topS 29) 9
abbrev s_Book_look_written : Stmt := inClass (topS 29) 10
abbrev s_Book_look_steps : Stmt := inClass (topS 29) 11
abbrev s_Book_count_deeds : Stmt := inClass (topS 29) 12
abbrev s_Book_lay_out : Stmt := inClass (topS 29) 13
abbrev s_Book_len : Stmt := inClass (topS 29) 14
abbrev s_Book_repr : Stmt := inClass (topS 29) 16
abbrev s_BadSizes : Stmt := topS 3
abbrev si_BadSizes : Stmt := inClass s_BadSizes 0
abbrev s_BadRow : Stmt := topS 4
abbrev si_BadRow : Stmt := inClass s_BadRow 0
abbrev s_BadName : Stmt := topS 5
abbrev si_BadName : Stmt := inClass s_BadName 0
abbrev s_Taken : Stmt := topS 6
abbrev si_Taken : Stmt := inClass s_Taken 0
abbrev s_TooLong : Stmt := topS 7
abbrev si_TooLong : Stmt := inClass s_TooLong 0
abbrev s_TooMany : Stmt := topS 8
abbrev si_TooMany : Stmt := inClass s_TooMany 0
abbrev s_NoRound : Stmt := topS 10
abbrev si_NoRound : Stmt := inClass s_NoRound 0
abbrev s_NothingLeft : Stmt := topS 11
abbrev si_NothingLeft : Stmt := inClass s_NothingLeft 0
end Lw
namespace Lw
open PySem PySem.Spec PyProof.Rows L2 DL DW
abbrev dmth (c m q : Str) (st : Stmt) : He.DefD := ⟨(c, some m), m, q, defArgs st, defBody st, defScope st, [], []⟩
abbrev RR : PySem.W.OpenRow := PySem.W.OpenLaw.row PySem.Challenge.rw_hidelater_k25_rounds_written_in_a_book
abbrev hd0 : He.DefD := HX.dd "look_sizes" "look_sizes" s_look_sizes
abbrev hd1 : He.DefD := HX.dd "fault_place" "fault_place" s_fault_place
abbrev hd2 : He.DefD := HX.dd "length_fits" "length_fits" s_length_fits
abbrev hd3 : He.DefD := HX.dd "swap_fault" "swap_fault" s_swap_fault
abbrev hd4 : He.DefD := HX.dd "cask_fault" "cask_fault" s_cask_fault
abbrev hd5 : He.DefD := dmth "Book" "__init__" "Book.__init__" s_Book_init
abbrev hd6 : He.DefD := HX.dd "is_name" "is_name" s_is_name
abbrev hd7 : He.DefD := HX.dd "step_fault" "step_fault" s_step_fault
abbrev hd8 : He.DefD := HX.dd "calls" "calls" s_calls
abbrev hd9 : He.DefD := HX.dd "_law_open" "_law_open" s_law_open
abbrev hd10 : He.DefD := HX.dd "_law_take" "_law_take" s_law_take
abbrev hd11 : He.DefD := HX.dd "_law_pick" "_law_pick" s_law_pick
abbrev hd12 : He.DefD := HX.dd "_law_same" "_law_same" s_law_same
abbrev hd13 : He.DefD := HX.dd "_law_word" "_law_word" s_law_word
abbrev hd14 : He.DefD := HX.dd "_law_sizes" "_law_sizes" s_law_sizes
abbrev hd15 : He.DefD := HX.dd "_law_any_sizes" "_law_any_sizes" s_law_any_sizes
abbrev hd16 : He.DefD := HX.dd "_law_number" "_law_number" s_law_number
abbrev hd17 : He.DefD := HX.dd "_law_shuffled" "_law_shuffled" s_law_shuffled
abbrev hd18 : He.DefD := HX.dd "_law_some_casks" "_law_some_casks" s_law_some_casks
abbrev hd19 : He.DefD := HX.dd "_law_alike" "_law_alike" s_law_alike
abbrev hd20 : He.DefD := HX.dd "_law_deed" "_law_deed" s_law_deed
abbrev hd21 : He.DefD := HX.dd "_law_names" "_law_names" s_law_names
abbrev hd22 : He.DefD := HX.dd "_law_step" "_law_step" s_law_step
abbrev hd23 : He.DefD := HX.dd "_law_step_word" "_law_step_word" s_law_step_word
abbrev hd24 : He.DefD := HX.dd "_law_laid" "_law_laid" s_law_laid
abbrev hd25 : He.DefD := HX.dd "_law_due" "_law_due" s_law_due
abbrev hd26 : He.DefD := HX.dd "law" "law" s_law
abbrev hd27 : He.DefD := dmth "Book" "write" "Book.write" s_Book_write
abbrev hd28 : He.DefD := dmth "Book" "steps" "Book.steps" s_Book_steps
abbrev hd29 : He.DefD := dmth "Book" "flat" "Book.flat" s_Book_flat
abbrev hd30 : He.DefD := dmth "Book" "callers" "Book.callers" s_Book_callers
abbrev hd31 : He.DefD := dmth "Book" "names" "Book.names" s_Book_names
abbrev hd32 : He.DefD := dmth "Book" "sizes" "Book.sizes" s_Book_sizes
abbrev hd33 : He.DefD := dmth "Book" "look_fresh" "Book.look_fresh" s_Book_look_fresh
abbrev hd34 : He.DefD := dmth "Book" "look_written" "Book.look_written" s_Book_look_written
abbrev hd35 : He.DefD := dmth "Book" "look_steps" "Book.look_steps" s_Book_look_steps
abbrev hd36 : He.DefD := dmth "Book" "count_deeds" "Book.count_deeds" s_Book_count_deeds
abbrev hd37 : He.DefD := dmth "Book" "lay_out" "Book.lay_out" s_Book_lay_out
abbrev hd38 : He.DefD := dmth "Book" "__len__" "Book.__len__" s_Book_len
abbrev hd39 : He.DefD := dmth "Book" "__repr__" "Book.__repr__" s_Book_repr
abbrev hd40 : He.DefD := HX.di "BadSizes" "BadSizes.__init__" si_BadSizes
abbrev hd41 : He.DefD := HX.di "BadRow" "BadRow.__init__" si_BadRow
abbrev hd42 : He.DefD := HX.di "BadName" "BadName.__init__" si_BadName
abbrev hd43 : He.DefD := HX.di "Taken" "Taken.__init__" si_Taken
abbrev hd44 : He.DefD := HX.di "TooLong" "TooLong.__init__" si_TooLong
abbrev hd45 : He.DefD := HX.di "TooMany" "TooMany.__init__" si_TooMany
abbrev hd46 : He.DefD := HX.di "NoRound" "NoRound.__init__" si_NoRound
abbrev hd47 : He.DefD := HX.di "NothingLeft" "NothingLeft.__init__" si_NothingLeft
def hfa : List He.Fa := [.glo "look_sizes",
  .glo "fault_place",
  .glo "length_fits",
  .glo "swap_fault",
  .glo "cask_fault",
  .glo "is_name",
  .glo "step_fault",
  .glo "calls",
  .glo "_law_open",
  .glo "_law_take",
  .glo "_law_pick",
  .glo "_law_same",
  .glo "_law_word",
  .glo "_law_sizes",
  .glo "_law_any_sizes",
  .glo "_law_number",
  .glo "_law_shuffled",
  .glo "_law_some_casks",
  .glo "_law_alike",
  .glo "_law_deed",
  .glo "_law_names",
  .glo "_law_step",
  .glo "_law_step_word",
  .glo "_law_laid",
  .glo "_law_due",
  .glo "law",
  .glo "Book",
  .cls "Book",
  .noat "Book" "held_sizes",
  .noat "Book" "written",
  .noat "Book" "laid",
  .meth "Book" "__init__",
  .mkr "Book",
  .meth "Book" "write",
  .meth "Book" "steps",
  .meth "Book" "flat",
  .meth "Book" "callers",
  .meth "Book" "names",
  .meth "Book" "sizes",
  .meth "Book" "look_fresh",
  .meth "Book" "look_written",
  .meth "Book" "look_steps",
  .meth "Book" "count_deeds",
  .meth "Book" "lay_out",
  .meth "Book" "__len__",
  .meth "Book" "__repr__",
  .free "enumerate",
  .free "len",
  .free "range",
  .free "all",
  .free "any",
  .free "list",
  .free "isinstance",
  .free "bool",
  .free "int",
  .free "str",
  .free "tuple",
  .free "sum",
  .free "repr",
  .int "MOST_CASKS" (6),
  .int "MOST_SIZE" (40),
  .int "GREAT" (1000000000000000000000000000000),
  .glo "WORDS",
  .int "MOST_ROUNDS" (12),
  .int "MOST_FLAT" (200),
  .int "MOST_CALLS" (9),
  .int "MOST_LETTERS" (8),
  .str "LETTERS" "abcdefghijklmnopqrstuvwxyz",
  .glo "BadSizes",
  .glo "BadRow",
  .glo "BadName",
  .glo "Taken",
  .glo "TooLong",
  .glo "TooMany",
  .glo "NoRound",
  .glo "NothingLeft",
  .glo "HideError",
  .exm "BadSizes" "HideError" true,
  .exm "BadRow" "HideError" true,
  .exm "BadName" "HideError" true,
  .exm "Taken" "HideError" true,
  .exm "TooLong" "HideError" true,
  .exm "TooMany" "HideError" true,
  .exm "NoRound" "HideError" false,
  .exm "NothingLeft" "HideError" false,
  .glo "Missing",
  .exm "BadSizes" "Missing" false,
  .exm "BadRow" "Missing" false,
  .exm "BadName" "Missing" false,
  .exm "Taken" "Missing" false,
  .exm "TooLong" "Missing" false,
  .exm "TooMany" "Missing" false,
  .exm "NoRound" "Missing" true,
  .exm "NothingLeft" "Missing" false,
  .glo "NothingLeft",
  .exm "BadSizes" "NothingLeft" false,
  .exm "BadRow" "NothingLeft" false,
  .exm "BadName" "NothingLeft" false,
  .exm "Taken" "NothingLeft" false,
  .exm "TooLong" "NothingLeft" false,
  .exm "TooMany" "NothingLeft" false,
  .exm "NoRound" "NothingLeft" false,
  .exm "NothingLeft" "NothingLeft" true,
  .exm "BadSizes" "NothingLeft" false,
  .exm "BadRow" "NothingLeft" false,
  .exm "BadName" "NothingLeft" false,
  .exm "Taken" "NothingLeft" false,
  .exm "TooLong" "NothingLeft" false,
  .exm "TooMany" "NothingLeft" false,
  .exm "NoRound" "NothingLeft" false,
  .exm "NothingLeft" "NothingLeft" true]
def hfn_a : List He.DefD := [hd0, hd1, hd2, hd3, hd4, hd5, hd6, hd7, hd8, hd9, hd10, hd11, hd12, hd13, hd14, hd15, hd16, hd17, hd18, hd19, hd20, hd21, hd22, hd23]
def hfn_b : List He.DefD := [hd24, hd25, hd26, hd27, hd28, hd29, hd30, hd31, hd32, hd33, hd34, hd35, hd36, hd37, hd38, hd39, hd40, hd41, hd42, hd43, hd44, hd45, hd46, hd47]
def hfn : List He.DefD := hfn_a ++ hfn_b
def hts : List He.Tab := []
def htf : List He.Defn := [("law", none)]
def hex (K : PySem.W.Frag) : Bool := (ktB K && (klB K && (HX.strX K "WORDS" ["over", "down", "swap", "tap", "drain"] && (HX.clsX K "BadSizes" ["word", "cask"] && (HX.clsX K "BadRow" ["word", "step", "place"] && (HX.clsN "ValueError.__new__" ([.type "ValueError", .type "Exception", .type "BaseException", .type "object"] : List Value) K "BadName" ["word"] && (HX.clsX K "Taken" ["word", "name"] && (HX.clsX K "TooLong" ["word", "most"] && (HX.clsX K "TooMany" ["word", "most"] && (HX.clsN "LookupError.__new__" OEL.tlL K "NoRound" ["word", "name"] && (HX.clsN "IndexError.__new__" OEL.tlI K "NothingLeft" ["word"] && true)))))))))))
def hln : List Str := (["look_sizes", "fault_place", "length_fits", "swap_fault", "cask_fault", "is_name", "step_fault", "calls", "_law_open", "_law_take", "_law_pick", "_law_same", "_law_word", "_law_sizes", "_law_any_sizes", "_law_number", "_law_shuffled", "_law_some_casks", "_law_alike", "_law_deed", "_law_names", "_law_step", "_law_step_word", "_law_laid", "_law_due", "law", "Book", "WORDS", "BadSizes", "BadRow"] : List Str) ++ (["BadName", "Taken", "TooLong", "TooMany", "NoRound", "NothingLeft", "HideError", "Missing", "NothingLeft"] : List Str)
abbrev hk : PySem.W.Hook := HX.hookL hln 4 hfa hfn hts htf hex
def hob (s : PySem.W.SharedT) : He.AlX := HX.obsL hln 4 hfa hfn hts htf hex (HandSHeadRun.getT s)
theorem hob_eq (s : PySem.W.SharedT) : hob s = hk.obs s.abs := HX.obsL_eq (HandSHeadRun.getT_eq s)
def hnames : List Str := (["_wall", "__name__", "HideError", "BadSizes", "BadRow", "BadName", "Taken", "TooLong", "TooMany", "Missing", "NoRound", "NothingLeft", "MOST_CASKS", "MOST_SIZE", "look_sizes", "GREAT", "WORDS", "fault_place", "length_fits", "swap_fault", "cask_fault", "MOST_ROUNDS", "MOST_FLAT", "MOST_CALLS", "MOST_LETTERS", "LETTERS", "Book", "is_name", "step_fault", "calls"] : List Str) ++ (["_law_open", "_law_take", "_law_pick", "_law_same", "_law_word", "_law_sizes", "_law_any_sizes", "_law_number", "_law_shuffled", "_law_some_casks", "_law_alike", "_law_deed", "_law_names", "_law_step", "_law_step_word", "_law_laid", "_law_due"] : List Str)
def hK (s : PySem.W.SharedT) : PySem.W.Frag := He.frT (HandSHeadRun.getT s) (HX.asL (HandSHeadRun.getT s) hln 4)
theorem hTwo {S : Type} {x : Option S} {A : S → Bool} {F : S → List He.FnW} {T : S → List (Option (List (Option (Str × Int))))} {E : S → Bool} {f0 : List He.FnW} {t0 : List (Option (List (Option (Str × Int))))} {C N O : S → Bool} (hA : ∀ s, A s = (C s && (N s && O s))) (e1 : x.map C = some true) (e2 : x.map N = some true) (e4 : x.map O = some true) (e3 : x.map (fun s => ((F s, T s), E s)) = some ((f0, t0), true)) : x.map (fun s => (((A s, F s), T s), E s)) = some (((true, f0), t0), true) := by
  cases x with
  | none => cases e1
  | some s =>
    have a1 : C s = true := Option.some.inj e1
    have a2 : N s = true := Option.some.inj e2
    have a8 : O s = true := Option.some.inj e4
    have a3 := Option.some.inj e3
    show some (((A s, F s), T s), E s) = _
    rw [hA s, a1, a2, a8]
    injection a3 with a4 a5
    injection a4 with a6 a7
    rw [a5, a6, a7]
    rfl
theorem three {S A B C : Type} {x : Option S} {f : S → A} {g : S → B} {h : S → C} {a : A} {b : B} {c : C} (e1 : x.map f = some a) (e2 : x.map g = some b) (e3 : x.map h = some c) : x.map (fun s => (f s, g s, h s)) = some (a, b, c) := by
  cases x with
  | none => cases e1
  | some s => cases e1; cases e2; cases e3; rfl
theorem hrun1_false (w : World) (os : PySem.OsState) : (HandSHeadRun.endF (HandSHeadRun.stepQ (HandSHeadRun.denQ HandSHeadRun.tabQ) RR.prog (w.withFollow "special-get-raises" false)) 15000 RR.prog (w.withFollow "special-get-raises" false) os).map (fun s => HandSHeadRun.looksF RR.prog (PySem.W.boot_heap (w.withFollow "special-get-raises" false).params) s.abs) = some true := by
  kernel_rfl
theorem hrun2_false (w : World) (os : PySem.OsState) : (HandSHeadRun.endF (HandSHeadRun.stepQ (HandSHeadRun.denQ HandSHeadRun.tabQ) RR.prog (w.withFollow "special-get-raises" false)) 15000 RR.prog (w.withFollow "special-get-raises" false) os).map (fun s => HandSHeadRun.seenQ (PySem.W.view RR.prog [51]) hnames (importedModules RR.prog.main.body) (fun s => PySem.W.xlAt (PySem.W.view RR.prog [51]) [] s && PySem.W.recOk RR.toRowW.records s) s.abs) = some (PySem.W.openGood (PySem.W.view RR.prog [51]) hnames) := by
  kernel_rfl
theorem hrun3_false (w : World) (os : PySem.OsState) : (HandSHeadRun.endF (HandSHeadRun.stepQ (HandSHeadRun.denQ HandSHeadRun.tabQ) RR.prog (w.withFollow "special-get-raises" false)) 15000 RR.prog (w.withFollow "special-get-raises" false) os).map (fun s => hfa.all fun f => f.ok (hK s)) = some true := by
  kernel_rfl
theorem hrun4_false (w : World) (os : PySem.OsState) : (HandSHeadRun.endF (HandSHeadRun.stepQ (HandSHeadRun.denQ HandSHeadRun.tabQ) RR.prog (w.withFollow "special-get-raises" false)) 15000 RR.prog (w.withFollow "special-get-raises" false) os).map (fun s => hfn_a.all fun d => d.ok (hK s)) = some true := by
  kernel_rfl
theorem hrun5_false (w : World) (os : PySem.OsState) : (HandSHeadRun.endF (HandSHeadRun.stepQ (HandSHeadRun.denQ HandSHeadRun.tabQ) RR.prog (w.withFollow "special-get-raises" false)) 15000 RR.prog (w.withFollow "special-get-raises" false) os).map (fun s => hfn_b.all fun d => d.ok (hK s)) = some true := by
  kernel_rfl
theorem hrun6_false (w : World) (os : PySem.OsState) : (HandSHeadRun.endF (HandSHeadRun.stepQ (HandSHeadRun.denQ HandSHeadRun.tabQ) RR.prog (w.withFollow "special-get-raises" false)) 15000 RR.prog (w.withFollow "special-get-raises" false) os).map (fun s => ((hfn.map fun d => He.fnW (hK s) d.at_, hts.map fun t => He.dicW (hK s) (t.1 (hK s))), hex (hK s) && He.tabsB (HandSHeadRun.getT s) htf (hK s))) = some ((hfn.map He.DefD.val, hts.map fun t => some (He.keysIn ((w.withFollow "special-get-raises" false)).params t.2)), true) := by
  kernel_rfl
theorem hrun9_false (w : World) (os : PySem.OsState) : (HandSHeadRun.endF (HandSHeadRun.stepQ (HandSHeadRun.denQ HandSHeadRun.tabQ) RR.prog (w.withFollow "special-get-raises" false)) 15000 RR.prog (w.withFollow "special-get-raises" false) os).map (fun s => hob s) = some (hk.val (w.withFollow "special-get-raises" false)) := hTwo (A := fun s => (hfa.all fun f => f.ok (hK s)) && hfn.all fun d => d.ok (hK s)) (fun s => by
  show (hfa.all (fun f => f.ok (hK s)) && (hfn_a ++ hfn_b).all (fun d => d.ok (hK s))) = _
  rw [List.all_append]) (hrun3_false w os) (hrun4_false w os) (hrun5_false w os) (hrun6_false w os)
theorem hrun1_true (w : World) (os : PySem.OsState) : (HandSHeadRun.endF (HandSHeadRun.stepQ (HandSHeadRun.denQ HandSHeadRun.tabQ) RR.prog (w.withFollow "special-get-raises" true)) 15000 RR.prog (w.withFollow "special-get-raises" true) os).map (fun s => HandSHeadRun.looksF RR.prog (PySem.W.boot_heap (w.withFollow "special-get-raises" true).params) s.abs) = some true := by
  kernel_rfl
theorem hrun2_true (w : World) (os : PySem.OsState) : (HandSHeadRun.endF (HandSHeadRun.stepQ (HandSHeadRun.denQ HandSHeadRun.tabQ) RR.prog (w.withFollow "special-get-raises" true)) 15000 RR.prog (w.withFollow "special-get-raises" true) os).map (fun s => HandSHeadRun.seenQ (PySem.W.view RR.prog [51]) hnames (importedModules RR.prog.main.body) (fun s => PySem.W.xlAt (PySem.W.view RR.prog [51]) [] s && PySem.W.recOk RR.toRowW.records s) s.abs) = some (PySem.W.openGood (PySem.W.view RR.prog [51]) hnames) := by
  kernel_rfl
theorem hrun3_true (w : World) (os : PySem.OsState) : (HandSHeadRun.endF (HandSHeadRun.stepQ (HandSHeadRun.denQ HandSHeadRun.tabQ) RR.prog (w.withFollow "special-get-raises" true)) 15000 RR.prog (w.withFollow "special-get-raises" true) os).map (fun s => hfa.all fun f => f.ok (hK s)) = some true := by
  kernel_rfl
theorem hrun4_true (w : World) (os : PySem.OsState) : (HandSHeadRun.endF (HandSHeadRun.stepQ (HandSHeadRun.denQ HandSHeadRun.tabQ) RR.prog (w.withFollow "special-get-raises" true)) 15000 RR.prog (w.withFollow "special-get-raises" true) os).map (fun s => hfn_a.all fun d => d.ok (hK s)) = some true := by
  kernel_rfl
theorem hrun5_true (w : World) (os : PySem.OsState) : (HandSHeadRun.endF (HandSHeadRun.stepQ (HandSHeadRun.denQ HandSHeadRun.tabQ) RR.prog (w.withFollow "special-get-raises" true)) 15000 RR.prog (w.withFollow "special-get-raises" true) os).map (fun s => hfn_b.all fun d => d.ok (hK s)) = some true := by
  kernel_rfl
theorem hrun6_true (w : World) (os : PySem.OsState) : (HandSHeadRun.endF (HandSHeadRun.stepQ (HandSHeadRun.denQ HandSHeadRun.tabQ) RR.prog (w.withFollow "special-get-raises" true)) 15000 RR.prog (w.withFollow "special-get-raises" true) os).map (fun s => ((hfn.map fun d => He.fnW (hK s) d.at_, hts.map fun t => He.dicW (hK s) (t.1 (hK s))), hex (hK s) && He.tabsB (HandSHeadRun.getT s) htf (hK s))) = some ((hfn.map He.DefD.val, hts.map fun t => some (He.keysIn ((w.withFollow "special-get-raises" true)).params t.2)), true) := by
  kernel_rfl
theorem hrun9_true (w : World) (os : PySem.OsState) : (HandSHeadRun.endF (HandSHeadRun.stepQ (HandSHeadRun.denQ HandSHeadRun.tabQ) RR.prog (w.withFollow "special-get-raises" true)) 15000 RR.prog (w.withFollow "special-get-raises" true) os).map (fun s => hob s) = some (hk.val (w.withFollow "special-get-raises" true)) := hTwo (A := fun s => (hfa.all fun f => f.ok (hK s)) && hfn.all fun d => d.ok (hK s)) (fun s => by
  show (hfa.all (fun f => f.ok (hK s)) && (hfn_a ++ hfn_b).all (fun d => d.ok (hK s))) = _
  rw [List.all_append]) (hrun3_true w os) (hrun4_true w os) (hrun5_true w os) (hrun6_true w os)
theorem hrun (w : World) : HandSHeadRun.RunEq RR (PySem.W.view RR.prog [51]) hk hob 15000 hnames w := PySem.W.byRow2 "special-get-raises" (P := fun w => HandSHeadRun.RunEq RR (PySem.W.view RR.prog [51]) hk hob 15000 hnames w) (fun w os => three (hrun1_false w os) (hrun2_false w os) (hrun9_false w os)) (fun w os => three (hrun1_true w os) (hrun2_true w os) (hrun9_true w os)) w
open PySem.W PyProof.Rows in
theorem hhead (call : PySem.W.WalkO (PySem.W.view RR.prog [51]) hnames (PySem.W.XL (PySem.W.view RR.prog [51]) []) hk.says RR.toRowW (HandSHeadRun.topDef RR.prog 51) [] fun f vs => PySem.call f vs) : RR.Holds := by
  refine HandSHeadRun.head_any (r := RR) (q := (PySem.W.view RR.prog [51])) (H := hk) (ob := hob) (M := 15000) (loose := hnames) (d := HandSHeadRun.topDef RR.prog 51) (kwd := []) hob_eq
    (by kernel_rfl) (fun s => by kernel_rfl) hrun (by kernel_rfl) (by kernel_rfl) (by kernel_rfl) (by rfl) (by first | assumption | decide +kernel) (by decide +kernel) ⟨rfl, rfl, rfl, rfl, rfl, by decide +kernel⟩ ?hw call
  case hw => w_witness2
end Lw
set_option maxHeartbeats 1000000
namespace DL
open PySem PySem.Spec PyProof.Rows L2 RZ
end DL
namespace DW
open PySem PySem.Spec PyProof.Rows L2 RZ DL
end DW
set_option maxHeartbeats 4000000
namespace DW
open PySem PySem.Spec PyProof.Rows L2 RZ DL
theorem isPl_dat {d : PyData} : isPl (.dat d) = true := rfl
theorem isPl_raw {v : V} : isPl (.raw v) = true := rfl
theorem isPl_bag : isPl .bag = true := rfl
theorem lc_rel {β : Type} {step : PyData → (Option DV → Prop) → Prop} {P : List PyData → Prop} {l : List β} {gI : β → PyData} {f : β → Bool} {R : β → PyData → Prop}
    (h : ∀ x ∈ l, ∀ k : Option DV → Prop, (f x = true → ∀ y, R x y → k (some (.dat y))) → (f x = false → k none) → step (gI x) k) (hP : ∀ ys, Paired R (l.filter f) ys → P ys) : lcGo step (l.map gI) P := by
  induction l generalizing P with
  | nil => exact hP [] .nil
  | cons x l ih =>
    show step (gI x) _
    refine h x (List.mem_cons_self ..) _ (fun hf y hy => ?_) fun hf => ?_
    · refine ih (fun z hz => h z (List.mem_cons_of_mem _ hz)) fun ys hp => hP (y :: ys) ?_
      rw [List.filter_cons, if_pos hf]
      exact .cons hy hp
    · refine ih (fun z hz => h z (List.mem_cons_of_mem _ hz)) fun ys hp => hP ys ?_
      rw [List.filter_cons, if_neg (by rw [hf]; decide)]
      exact hp
theorem lc_all {β : Type} {step : PyData → (Option DV → Prop) → Prop} {P : List PyData → Prop} {l : List β} {gI : β → PyData} {R : β → PyData → Prop}
    (h : ∀ x ∈ l, ∀ k : Option DV → Prop, (∀ y, R x y → k (some (.dat y))) → step (gI x) k) (hP : ∀ ys, Paired R l ys → P ys) : lcGo step (l.map gI) P :=
  lc_rel (f := fun _ => true) (R := R) (fun x hx k h1 _ => h x hx k fun y hy => h1 rfl y hy) fun ys hp => hP ys (by
    have e : l.filter (fun _ => true) = l := by simp
    rw [e] at hp
    exact hp)
theorem lc_map {β : Type} {step : PyData → (Option DV → Prop) → Prop} {P : List PyData → Prop} {l : List β} {gI : β → PyData} (g : β → PyData)
    (h : ∀ x ∈ l, ∀ k : Option DV → Prop, k (some (.dat (g x))) → step (gI x) k) (hP : P (l.map g)) : lcGo step (l.map gI) P :=
  lc_all (R := fun x y => y = g x) (fun x hx k h1 => h x hx k (h1 _ rfl)) fun ys hp => by
    rw [paired_fun hp]
    exact hP
def at_ (ns : List Int) (i : Int) : Int := ns.getD i.toNat 0
end DW
namespace DW
open PySem PySem.Spec PyProof.Rows L2 RZ DL
end DW
namespace DW
open PySem PySem.Spec PyProof.Rows L2 RZ DL
theorem eqv_ss {i j : Str} : PyData.eqv (.str i) (.str j) = decide (i = j) := by
  rw [PyData.eqv]
  by_cases h : i = j
  · subst h; simp
  · simp [h]
theorem w_ne {a b : Str} (h : decide (a = b) = false) : (a = b) = False := eq_false (of_decide_eq_false h)
theorem oks_over : SeqAt.shaped (.str "over") = true := by decide +kernel
theorem oks_down : SeqAt.shaped (.str "down") = true := by decide +kernel
theorem oks_swap : SeqAt.shaped (.str "swap") = true := by decide +kernel
theorem oks_tap : SeqAt.shaped (.str "tap") = true := by decide +kernel
theorem oks_drain : SeqAt.shaped (.str "drain") = true := by decide +kernel
end DW
namespace DW
open PySem PySem.Spec PyProof.Rows L2 RZ DL
end DW
namespace DW
open PySem PySem.Spec PyProof.Rows L2 RZ DL
end DW
namespace DW
open PySem PySem.Spec PyProof.Rows L2 RZ DL
end DW
namespace DW
open PySem PySem.Spec PyProof.Rows L2 RZ DL
end DW
namespace DW
open PySem PySem.Spec PyProof.Rows L2 RZ DL
end DW
set_option maxHeartbeats 1000000
namespace DW
open PySem PySem.Spec PyProof.Rows L2 RZ DL
abbrev WtM := List DV → (List PyData → Prop) → Cn → Prop
def wM (m : Nat) (D : DS) : WtM := fun rs P c => D c (rs.map some ++ List.replicate (m - 4) none) ⟨fun δ => ∃ ds, δ[1]? = some (some (.own ds)) ∧ P ds, fun _ => False, fun _ => False, fun _ => False⟩
end DW
namespace DW
open PySem PySem.Spec PyProof.Rows L2 RZ DL
structure Nest (K : PySem.W.Frag) (b : Bg) (H0 I H : Hp) (a : Addr) (cs : List Addr) (rows : List (List Int)) : Prop where
  fr : DL.Fr H0 a
  ni : I a = none
  nb : a ≠ b.a
  at_ : H a = some (.lst (cs.map V.ref))
  na : a ∉ cs
  nd : cs.Nodup
  len : cs.length = rows.length
  each : ∀ (j : Nat) c row, cs[j]? = some c → rows[j]? = some row → DL.Fr H0 c ∧ I c = none ∧ c ≠ b.a ∧ H c = some (.lst (row.map V.int))
section
variable {K : PySem.W.Frag} {b : Bg} {H0 I H I' H' I0 : Hp} {a : Addr} {cs : List Addr} {rows : List (List Int)}
theorem Nest.ext (n : Nest K b H0 I H a cs rows) (e : Ext K b I H I' H') : Nest K b H0 I' H' a cs rows :=
  ⟨n.fr, e.n a _ n.ni n.at_ lst_tbl, n.nb, e.h a _ n.nb lst_tbl n.at_, n.na, n.nd, n.len, fun j c row h1 h2 => (let ⟨f, i, b, h⟩ := n.each j c row h1 h2; ⟨f, e.n c _ i h lst_tbl, b, e.h c _ b lst_tbl h⟩)⟩
end
end DW
namespace DL
open PySem PySem.Spec PyProof.Rows L2 RZ
end DL
namespace DW
open PySem PySem.Spec PyProof.Rows L2 RZ DL
end DW
set_option maxHeartbeats 4000000
namespace DW
open PySem PySem.Spec PyProof.Rows L2 RZ DL LamX
end DW
namespace DM
open PySem PySem.Spec PyProof.Rows L2 RZ DL DW
inductive SO where
  | lst (xs : List DV)
  | dic (kvs : List (Key × DV))
  /-- a dict while a walk goes over it -/
  | dicL (kvs : List (Key × DV))
  | ins (C : Addr) (fs : List (Str × DV))
  /-- a tuple that holds things of the store -/
  | tup (xs : List DV)
abbrev Mem := Addr → Option SO
def um (M : Mem) (a : Addr) (o : SO) : Mem := fun b => if b = a then some o else M b
def VB (K : PySem.W.Frag) (b : Bg) (I : Hp) (v : V) : DV → Prop
  | .dat d => Dp K I v d
  | .raw u => v = u
  | .bag => v = .ref b.a
  | _ => False
def KVB {κ : Type} (K : PySem.W.Frag) (b : Bg) (I : Hp) (p : κ × V) (q : κ × DV) : Prop := p.1 = q.1 ∧ VB K b I p.2 q.2
def SR (K : PySem.W.Frag) (b : Bg) (I : Hp) : SO → HO → Prop
  | .lst xs, ho => ∃ vs, ho = .lst vs ∧ Paired (VB K b I) vs xs
  | .dic kvs, ho => ∃ l, ho = .dK l ∧ Paired (KVB K b I) l kvs
  | .dicL kvs, ho => ∃ od l, ho = .frz od (.dK l) ∧ Paired (KVB K b I) l kvs
  | .ins C fs, ho => ∃ dx l, ho = .ins C dx l ∧ Paired (KVB K b I) l fs
  | .tup xs, ho => ∃ od vs, ho = .frz od (.tup vs) ∧ Paired (VB K b I) vs xs
def MR (K : PySem.W.Frag) (b : Bg) (I H : Hp) (M : Mem) : Prop := ∀ a o, M a = some o → I a = none ∧ a ≠ b.a ∧ ∃ ho, H a = some ho ∧ SR K b I o ho
section
variable {K : PySem.W.Frag} {b : Bg} {I H I' H' I2 H2 : Hp} {M M' M2 : Mem}
theorem VB.mono (s : Same I I') {v : V} {r : DV} (h : VB K b I v r) : VB K b I' v r := by
  cases r with
  | dat d => exact dp_mono s h
  | raw u => exact h
  | bag => exact h
  | own _ => exact h.elim
  | bor _ => exact h.elim
  | dct _ _ => exact h.elim
theorem KVB.mono {κ : Type} (s : Same I I') {p : κ × V} {q : κ × DV} (h : KVB K b I p q) : KVB K b I' p q := ⟨h.1, h.2.mono s⟩
theorem SR.mono (s : Same I I') {o : SO} {ho : HO} (h : SR K b I o ho) : SR K b I' o ho := by
  cases o with
  | lst xs => obtain ⟨vs, e, r⟩ := h; exact ⟨vs, e, Paired.mapP r fun _ _ z => z.mono s⟩
  | dic kvs => obtain ⟨l, e, r⟩ := h; exact ⟨l, e, Paired.mapP r fun _ _ z => z.mono s⟩
  | dicL kvs => obtain ⟨od, l, e, r⟩ := h; exact ⟨od, l, e, Paired.mapP r fun _ _ z => z.mono s⟩
  | ins C fs => obtain ⟨dx, l, e, r⟩ := h; exact ⟨dx, l, e, Paired.mapP r fun _ _ z => z.mono s⟩
  | tup xs => obtain ⟨od, l, e, r⟩ := h; exact ⟨od, l, e, Paired.mapP r fun _ _ z => z.mono s⟩
theorem SR.tbl {o : SO} {ho : HO} (h : SR K b I o ho) : ∀ ps, ho ≠ .tbl ps := fun ps z => by
  cases o with
  | lst xs => obtain ⟨vs, e, r⟩ := h; rw [e] at z; cases z
  | dic kvs => obtain ⟨l, e, r⟩ := h; rw [e] at z; cases z
  | dicL kvs => obtain ⟨od, l, e, r⟩ := h; rw [e] at z; cases z
  | ins C fs => obtain ⟨dx, l, e, r⟩ := h; rw [e] at z; cases z
  | tup xs => obtain ⟨od, l, e, r⟩ := h; rw [e] at z; cases z
theorem SR.xd {o : SO} {fs : List (Str × V)} (h : SR K b I o (.xd fs)) : False := by
  cases o with
  | lst xs => obtain ⟨vs, e, r⟩ := h; cases e
  | dic kvs => obtain ⟨l, e, r⟩ := h; cases e
  | dicL kvs => obtain ⟨od, l, e, r⟩ := h; cases e
  | ins C fs => obtain ⟨dx, l, e, r⟩ := h; cases e
  | tup xs => obtain ⟨od, l, e, r⟩ := h; cases e
end
structure XM (K : PySem.W.Frag) (b : Bg) (I H : Hp) (M : Mem) (I' H' : Hp) (M' : Mem) : Prop where
  i : Same I I'
  h : ∀ a o, a ≠ b.a → (∀ ps, o ≠ .tbl ps) → M a = none → H a = some o → H' a = some o
  n : ∀ a o, I a = none → M a = none → H a = some o → (∀ ps, o ≠ .tbl ps) → I' a = none
  m : ∀ a o, M a = none → H a = some o → (∀ ps, o ≠ .tbl ps) → M' a = none
  k : ∀ l xs, H b.a = some (.lst (.ref l :: xs)) → ∃ ys, H' b.a = some (.lst (.ref l :: ys))
  ok : Ok K b I' H'
  r : MR K b I' H' M'
  lk : ∀ a kvs, M a = some (.dicL kvs) → M' a = some (.dicL kvs) ∧ H' a = H a
section
variable {K : PySem.W.Frag} {b : Bg} {I H I' H' I2 H2 : Hp} {M M' M2 : Mem}
theorem MR.none (r : MR K b I H M) {a : Addr} (h : H a = Option.none) : M a = Option.none := by
  cases q : M a with
  | none => rfl
  | some o =>
    obtain ⟨_, _, ho, e, _⟩ := r a o q
    rw [h] at e
    cases e
theorem MR.bag (r : MR K b I H M) : M b.a = Option.none := by
  cases q : M b.a with
  | none => rfl
  | some o =>
    obtain ⟨_, e, _⟩ := r _ o q
    exact absurd rfl e
theorem XM.refl (o : Ok K b I H) (r : MR K b I H M) : XM K b I H M I H M := ⟨Same.refl I, fun _ _ _ _ _ h => h, fun _ _ n _ _ _ => n, fun _ _ n _ _ => n, fun _ xs h => ⟨xs, h⟩, o, r, fun _ _ h => ⟨h, rfl⟩⟩
theorem XM.keep (e : XM K b I H M I' H' M') {a : Addr} {o : HO} (hm : M a = none) (h : H a = some o) (t : ∀ ps, o ≠ .tbl ps) : ∃ o', H' a = some o' ∧ ∀ ps, o' ≠ .tbl ps := by
  by_cases z : a = b.a
  · subst z
    obtain ⟨xs, q⟩ := e.ok.b.lst
    exact ⟨_, q, lst_tbl⟩
  · exact ⟨o, e.h a o z t hm h, t⟩
theorem XM.trans (e : XM K b I H M I' H' M') (f : XM K b I' H' M' I2 H2 M2) : XM K b I H M I2 H2 M2 := by
  refine ⟨e.i.trans f.i, fun a o n t hm h => f.h a o n t (e.m a o hm h t) (e.h a o n t hm h), fun a o n hm h t => ?_, fun a o hm h t => ?_, fun l xs h => (let ⟨ys, h1⟩ := e.k l xs h; f.k l ys h1), f.ok, f.r, fun a kvs h => (let z := e.lk a kvs h; let y := f.lk a kvs z.1; ⟨y.1, y.2.trans z.2⟩)⟩
  · obtain ⟨o', h', t'⟩ := e.keep hm h t
    exact f.n a o' (e.n a o n hm h t) (e.m a o hm h t) h' t'
  · obtain ⟨o', h', t'⟩ := e.keep hm h t
    exact f.m a o' (e.m a o hm h t) h' t'
theorem MR.ext (r : MR K b I H M) (e : Ext K b I H I' H') : MR K b I' H' M := fun a o h => by
  obtain ⟨h1, h2, ho, h3, h4⟩ := r a o h
  exact ⟨e.n a ho h1 h3 h4.tbl, h2, ho, e.h a ho h2 h4.tbl h3, h4.mono e.i⟩
end
structure EnvM (K : PySem.W.Frag) (b : Bg) (I : Hp) (σ : L2.St) (δ : En) : Prop where
  len : σ.length = δ.length
  at_ : ∀ (i : Nat) (r : DV), δ[i]? = some (some r) → ∃ v, σ[i]? = some (some v) ∧ VB K b I v r
theorem EnvM.mono {K : PySem.W.Frag} {b : Bg} {I I' : Hp} {σ : L2.St} {δ : En} (s : Same I I') (h : EnvM K b I σ δ) : EnvM K b I' σ δ := ⟨h.len, fun i r q => (h.at_ i r q).imp fun v z => ⟨z.1, z.2.mono s⟩⟩
theorem EnvM.nb {K : PySem.W.Frag} {b : Bg} {I : Hp} {σ : L2.St} {δ : En} {n : Nat} (h : EnvM K b I σ δ) (hl : δ.length = n) : NB n δ := by
  refine ⟨hl, ?_⟩
  unfold noBor
  rw [List.all_eq_true]
  intro x hx
  obtain ⟨i, hi⟩ := List.mem_iff_getElem?.mp hx
  cases x with
  | none => rfl
  | some r =>
    obtain ⟨v, _, z⟩ := h.at_ i r hi
    cases r with
    | bor _ => exact z.elim
    | dct _ _ => exact z.elim
    | _ => rfl
theorem EnvM.set {K : PySem.W.Frag} {b : Bg} {I : Hp} {σ : L2.St} {δ : En} {i : Nat} {v : V} {r : DV} (h : EnvM K b I σ δ) (hi : i < δ.length) (q : VB K b I v r) : EnvM K b I (σ.set i (some v)) (δ.set i (some r)) := by
  have hi' : i < σ.length := by rw [h.len]; exact hi
  refine ⟨by rw [List.length_set, List.length_set]; exact h.len, fun j u e => ?_⟩
  by_cases z : i = j
  · subst z
    rw [List.getElem?_set_self hi] at e
    cases e
    exact ⟨v, by rw [List.getElem?_set_self hi'], q⟩
  · rw [List.getElem?_set_ne z] at e
    obtain ⟨w, e1, e2⟩ := h.at_ j u e
    exact ⟨w, by rw [List.getElem?_set_ne z]; exact e1, e2⟩
structure Cm where
  x : Nat → List (Str × V) → Mem → Prop
  fa : Nat → Addr
abbrev MP := DV → Mem → Prop
abbrev MPA := List DV → Mem → Prop
abbrev ME := Cm → En → Mem → MP → Prop
abbrev MT := Cm → En → Mem → (Bool → Mem → Prop) → Prop
abbrev MA := Cm → En → Mem → MPA → Prop
structure MEd where
  nx : En → Mem → Prop
  rt : MP
  bk : En → Mem → Prop
  ct : En → Mem → Prop
abbrev MS := Cm → En → Mem → MEd → Prop
abbrev MW := List DV → Mem → MP → Cm → Prop
structure Cmk (K : PySem.W.Frag) (S : Sg) (b : Bg) (I0 H0 : Hp) (M0 : Mem) (c : Cm) : Prop where
  fa : c.fa = S.fa
  xw : ∀ s fs d I' H' M', c.x s fs M' → XM K b I0 H0 M0 I' H' M' → I' d = none → H' d = some (.xd fs) → M' d = none → S.E (.ref (S.cls s)) (some d) H'
  tb : S.tb b.T
section
variable (K : PySem.W.Frag) (b : Bg) (I0 H0 : Hp) (M0 : Mem)
def EvM (te : TE) (δ : En) (M : Mem) (P : MP) : Prop := ∀ (σ : L2.St) (I H : Hp), XM K b I0 H0 M0 I H M → EnvM K b I σ δ → ∀ Q : VK,
  (∀ r v I' H' M', P r M' → XM K b I H M I' H' M' → VB K b I' v r → Q v H') → te σ H Q
end
section
variable (K : PySem.W.Frag) (S : Sg)
def CmE (te : TE) (de : ME) : Prop := ∀ b I0 H0 M0 c δ M P, δ.length = S.n → Cmk K S b I0 H0 M0 c → de c δ M P → EvM K b I0 H0 M0 te δ M P
end
end DM
namespace DM
open PySem PySem.Spec PyProof.Rows L2 RZ DL DW
def lftP (P : MP) (M : Mem) : DP := fun r => match r with
  | .dat d => P (.dat d) M
  | .own ds => P (.dat (.list ds)) M
  | .raw u => P (.raw u) M
  | .bag => P .bag M
  | _ => False
abbrev Fin := MP → Mem → DP
def mLft (f : Fin) (de : DE) : ME := fun c δ M P => de ⟨fun s fs => c.x s fs M, c.fa⟩ δ (f P M)
def mLftT (dt : DT) : MT := fun c δ M P => dt ⟨fun s fs => c.x s fs M, c.fa⟩ δ (fun v => P v M)
section
variable {X : Cx} {S : Sg} {a b e : Expr} {pos : Pos}
def mVar (i : Nat) : ME := fun _ δ M P => match δ[i]? with
  | some (some r) => P r M
  | _ => False
def insAt (M : Mem) (C : Addr) : DV → Option (Addr × List (Str × DV))
  | .raw (.ref a) => match M a with
    | some (.ins C' fs) => if C' = C then some (a, fs) else none
    | _ => none
  | _ => none
theorem insAt_mk {M : Mem} {C a : Addr} {fs : List (Str × DV)} (h : M a = some (.ins C fs)) : insAt M C (.raw (.ref a)) = some (a, fs) := by
  unfold insAt
  simp [h]
def mFld (j : Nat) (f : Str) (me : ME) : ME := fun c δ M P => me c δ M fun r M1 => match insAt M1 (c.fa j) r with
  | some (_, fs) => match fs.lookup f with
    | some x => P x M1
    | none => False
  | none => False
abbrev MO := DV → DV → Mem → MP → Prop
abbrev MU := DV → Mem → MP → Prop
abbrev MC := List DV → Mem → MP → Prop
def vw (M : Mem) : DV → DV
  | .raw (.ref a) => match M a with
    | some (.lst xs) => match dats xs with
      | some ds => .bor ds
      | none => .raw (.ref a)
    | _ => .raw (.ref a)
  | r => r
theorem vbs_dats {K : PySem.W.Frag} {b : Bg} {I : Hp} : ∀ {vs : List V} {ds : List PyData}, Paired (VB K b I) vs (ds.map .dat) → DpAll K I vs ds
  | _, [], .nil => .nil
  | _, _ :: _, .cons h t => .cons h (vbs_dats t)
def mo (f : Fin) (o : DV → DV → DP → Prop) : MO := fun x y M P => o (vw M x) (vw M y) (f P M)
def mu (f : Fin) (o : DV → DP → Prop) : MU := fun x M P => o (vw M x) (f P M)
def mc (f : Fin) (o : List DV → DP → Prop) : MC := fun rs M P => o (rs.map (vw M)) (f P M)
def mBin (o : MO) (ma mb : ME) : ME := fun c δ M P => ma c δ M fun x M1 => mb c δ M1 fun y M2 => o x y M2 P
def mUn (o : MU) (ma : ME) : ME := fun c δ M P => ma c δ M fun x M1 => o x M1 P
def mChain (o o' : MO) (ma mb md : ME) : ME := fun c δ M P => ma c δ M fun x M1 => mb c δ M1 fun y M2 => o x y M2 fun z M3 => match z with
  | .dat (.bool k) => if k = true then md c δ M3 fun w M4 => o' y w M4 P else P (dbl false) M3
  | _ => False
def mTst (me : ME) : MT := fun c δ M P => me c δ M fun r M1 => match r with
  | .dat (.bool k) => P k M1
  | _ => False
def mAnd (s t : MT) : MT := fun c δ M P => s c δ M fun v M1 => if v = true then t c δ M1 P else P false M1
def mOr (s t : MT) : MT := fun c δ M P => s c δ M fun v M1 => if v = true then P true M1 else t c δ M1 P
def mNot (s : MT) : MT := fun c δ M P => s c δ M fun v M1 => P (!v) M1
def mAndV (ma mb : ME) : ME := fun c δ M P => ma c δ M fun r M1 => match r with
  | .dat (.bool k) => if k = true then mb c δ M1 P else P (dbl false) M1
  | _ => False
def mOrV (ma mb : ME) : ME := fun c δ M P => ma c δ M fun r M1 => match r with
  | .dat (.bool k) => if k = true then P (dbl true) M1 else mb c δ M1 P
  | _ => False
def mNotV (ma : ME) : ME := fun c δ M P => ma c δ M fun r M1 => match r with
  | .dat (.bool k) => P (dbl (!k)) M1
  | _ => False
def mIfE (t : MT) (ma mb : ME) : ME := fun c δ M P => t c δ M fun v M1 => if v = true then ma c δ M1 P else mb c δ M1 P
def mNil : MA := fun _ _ M P => P [] M
def mCons (me : ME) (ma : MA) : MA := fun c δ M P => me c δ M fun r M1 => ma c δ M1 fun rs M2 => P (r :: rs) M2
def mTup (ma : MA) : ME := fun c δ M P => ma c δ M fun rs M1 => match dats rs with
  | some ds => P (.dat (.tuple ds)) M1
  | none => False
def mLstD (ma : MA) : ME := fun c δ M P => ma c δ M fun rs M1 => match dats rs with
  | some ds => P (.dat (.list ds)) M1
  | none => False
def mLstM (ma : MA) : ME := fun c δ M P => ma c δ M fun rs M1 => ∀ p, M1 p = none → P (.raw (.ref p)) (um M1 p (.lst rs))
end
end DM
namespace DM
open PySem PySem.Spec PyProof.Rows L2 RZ DL DW
def mCb (o : MC) (ma : MA) : ME := fun c δ M P => ma c δ M fun rs M1 => o rs M1 P
section
variable {X : Cx} {S : Sg} {a b e : Expr} {es : List Expr} {ma : MA} {me : ME} {pos p : Pos} {x : Str}
def mCallW (f : Fin) (W : Wt) (ma : MA) : ME := fun c δ M P => ma c δ M fun rs M1 => rs.all isPl = true ∧ W rs (f P M1) ⟨fun s fs => c.x s fs M1, c.fa⟩
end
end DM
namespace DM
open PySem PySem.Spec PyProof.Rows L2 RZ DL DW
def wM (n m : Nat) (D : MS) : MW := fun rs M P c => rs.length = n ∧ D c (rs.map some ++ List.replicate (m - n) none) M ⟨fun _ M' => P (.dat .none) M', P, fun _ _ => False, fun _ _ => False⟩
section
variable {X : Cx} {S : Sg} {a b e o : Expr} {es : List Expr} {ma : MA} {me : ME} {pos p apos : Pos} {x : Str}
section
variable {k : Nat} {f : Addr} {fd : FuncData} {ps : List Str} {W : MW} {tb : List (Addr × Str) → Prop}
def mCall (W : MW) (ma : MA) : ME := fun c δ M P => ma c δ M fun rs M1 => W rs M1 P c
def mMeth (j : Nat) (m : Str) (W : MW) (me : ME) (ma : MA) : ME := fun c δ M P => me c δ M fun r M1 => match insAt M1 (c.fa j) r with
  | some (_, fs) => fs.lookup m = none ∧ ma c δ M1 fun rs M2 => W (r :: rs) M2 P c
  | none => False
def mNew (j : Nat) (W : MW) (rs : List DV) (M : Mem) (P : MP) (c : Cm) : Prop := ∀ p, M p = none → W (.raw (.ref p) :: rs) (um M p (.ins (c.fa j) [])) (fun r M2 => r = .dat .none ∧ P (.raw (.ref p)) M2) c
def mMake (j : Nat) (W : MW) (ma : MA) : ME := fun c δ M P => ma c δ M fun rs M1 => mNew j W rs M1 P c
def mMakeK (j : Nat) (W : MW) (is : List Nat) (ma mk : MA) : ME := fun c δ M P => ma c δ M fun rs M1 => mk c δ M1 fun zs M2 => ∀ p, M2 p = none → W (pk is (.raw (.ref p) :: rs) zs) (um M2 p (.ins (c.fa j) [])) (fun r M3 => r = .dat .none ∧ P (.raw (.ref p)) M3) c
end
def keyD : DV → Option Key
  | .dat (.int i) => some (.inl i)
  | .dat (.str s) => some (.inr s)
  | _ => none
def dicAt (M : Mem) : DV → Option (Addr × List (Key × DV))
  | .raw (.ref a) => match M a with
    | some (.dic kvs) => some (a, kvs)
    | some (.dicL kvs) => some (a, kvs)
    | _ => none
  | _ => none
def gV (kvs : List (Key × DV)) (k : Key) : Option DV := (kvs.find? fun kv => decide (kv.1 = k)).map (·.2)
def gPut (kvs : List (Key × DV)) (k : Key) (v : DV) : List (Key × DV) :=
  if (gV kvs k).isSome = true then kvs.map (fun kv => if kv.1 = k then (kv.1, v) else kv) else kvs ++ [(k, v)]
def gDrop (kvs : List (Key × DV)) (k : Key) : List (Key × DV) := kvs.filter fun kv => decide (kv.1 ≠ k)
def oDGet : MO := fun x y M P => match dicAt M x, keyD y with
  | some (_, kvs), some k => match gV kvs k with
    | some r => P r M
    | none => False
  | _, _ => False
def oDIn (neg : Bool) : MO := fun y x M P => match dicAt M x, keyD y with
  | some (_, kvs), some k => P (dbl (if neg then !(gV kvs k).isSome else (gV kvs k).isSome)) M
  | _, _ => False
def cLenD : MC := fun rs M P => match rs with
  | [x] => match x with
    | .raw (.ref a) => match M a with
      | some (.dic kvs) => P (dint kvs.length) M
      | some (.lst xs) => P (dint xs.length) M
      | _ => False
    | _ => False
  | _ => False
def mDNew : ME := fun _ _ M P => ∀ p, M p = none → P (.raw (.ref p)) (um M p (.dic []))
def keyPD : Key → PyData
  | .inl i => .int i
  | .inr s => .str s
def cListD (f : Fin) : MC := fun rs M P => match rs with
  | [x] => match dicAt M x with
    | some (_, kvs) => f P M (.own (kvs.map fun kv => keyPD kv.1))
    | none => False
  | _ => False
def cDictD : MC := fun rs M P => match rs with
  | [x] => match dicAt M x with
    | some (_, kvs) => ∀ p, M p = none → P (.raw (.ref p)) (um M p (.dic kvs))
    | none => False
  | _ => False
def oIxR : MO := fun x y M P => match x, y with
  | .raw (.ref a), .dat (.int i) => match M a with
    | some (.lst xs) => match ixN xs.length i with
      | some j => match xs[j]? with
        | some r => P r M
        | none => False
      | none => False
    | _ => False
  | _, _ => False
end
end DM
namespace DM
open PySem PySem.Spec PyProof.Rows L2 RZ DL DW
def mNext : MS := fun _ δ M D => D.nx δ M
def laterM (b : MS) (c : Cm) (D : MEd) (δ : En) (M : Mem) : Prop := b c δ M D
def mSeq (a b : MS) : MS := fun c δ M D => a c δ M ⟨laterM b c D, D.rt, D.bk, D.ct⟩
def mIfS (t : MT) (a b : MS) : MS := fun c δ M D => t c δ M fun v M1 => if v = true then a c δ M1 D else b c δ M1 D
def mAsg (i : Nat) (me : ME) : MS := fun c δ M D => me c δ M fun r M1 => D.nx (δ.set i (some r)) M1
def mRet (me : ME) : MS := fun c δ M D => me c δ M D.rt
def mRetN : MS := fun _ _ M D => D.rt (.dat .none) M
def mExpr (me : ME) : MS := fun c δ M D => me c δ M fun _ M1 => D.nx δ M1
def mBrk : MS := fun _ δ M D => D.bk δ M
def mCnt : MS := fun _ δ M D => D.ct δ M
def okS : Option DV → Bool
  | none => true
  | some (.dat _) => true
  | some (.raw _) => true
  | some .bag => true
  | _ => false
def mLftS (ds : DS) : MS := fun c δ M D => ds ⟨fun s fs => c.x s fs M, c.fa⟩ δ ⟨fun δ' => δ'.all okS = true ∧ D.nx δ' M, fun r => lftP D.rt M r, fun δ' => δ'.all okS = true ∧ D.bk δ' M, fun δ' => δ'.all okS = true ∧ D.ct δ' M⟩
section
variable {K : PySem.W.Frag} {S : Sg} {b : Bg}
def fPut (f : Str) (r : DV) : List (Str × DV) → List (Str × DV)
  | [] => [(f, r)]
  | (k, w) :: t => if k = f then (f, r) :: t else (k, w) :: fPut f r t
def mFldS (j : Nat) (f : Str) (mo mv : ME) : MS := fun c δ M D => mv c δ M fun y M1 => mo c δ M1 fun r M2 => match insAt M2 (c.fa j) r with
  | some (a, fs) => fs.length < 1000 ∧ D.nx δ (um M2 a (.ins (c.fa j) (fPut f y fs)))
  | none => False
def mFldAug (j : Nat) (f : Str) (g : Int → Int → Int) (mo mv : ME) : MS := fun c δ M D => mo c δ M fun r M1 => match insAt M1 (c.fa j) r with
  | some (a, fs) => match fs.lookup f with
    | some (.dat (.int m)) => mv c δ M1 fun y M2 => match y with
      | .dat (.int n) => M2 a = some (.ins (c.fa j) fs) ∧ fs.length < 1000 ∧ D.nx δ (um M2 a (.ins (c.fa j) (fPut f (dint (g m n)) fs)))
      | _ => False
    | _ => False
  | none => False
def mDPut (md mk mv : ME) : MS := fun c δ M D => mv c δ M fun y M1 => md c δ M1 fun x M2 => mk c δ M2 fun k M3 => match x, keyD k with
  | .raw (.ref a), some kk => match M3 a with
    | some (.dic kvs) => kvs.length < 100000 ∧ D.nx δ (um M3 a (.dic (gPut kvs kk y)))
    | _ => False
  | _, _ => False
def mDDel (md mk : ME) : MS := fun c δ M D => md c δ M fun x M1 => mk c δ M1 fun k M2 => match x, keyD k with
  | .raw (.ref a), some kk => match M2 a with
    | some (.dic kvs) => (gV kvs kk).isSome = true ∧ D.nx δ (um M2 a (.dic (gDrop kvs kk)))
    | _ => False
  | _, _ => False
def mApp (mo mv : ME) : ME := fun c δ M P => mo c δ M fun x M1 => match x with
  | .raw (.ref a) => (∃ xs, M1 a = some (.lst xs)) ∧ mv c δ M1 fun y M2 => match M2 a with
    | some (.lst xs) => xs.length < 100000 ∧ P (.dat .none) (um M2 a (.lst (xs ++ [y])))
    | _ => False
  | _ => False
end
end DM
namespace DM
open PySem PySem.Spec PyProof.Rows L2 RZ DL DW
def forGoM (c : Cm) (tf : Tf) (db : MS) (D : MEd) : List PyData → En → Mem → Prop
  | [], δ, M => D.nx δ M
  | d :: ds, δ, M => match tf d δ with
    | some δ' => db c δ' M ⟨forGoM c tf db D ds, D.rt, D.nx, forGoM c tf db D ds⟩
    | none => False
abbrev MI := Cm → En → Mem → (List PyData → Mem → Prop) → Prop
def mLftI (di : DI) : MI := fun c δ M A => di ⟨fun s fs => c.x s fs M, c.fa⟩ δ (fun ds => A ds M)
def mFor (di : MI) (tf : Tf) (db : MS) : MS := fun c δ M D => di c δ M fun items M1 => forGoM c tf db D items δ M1
section
variable {K : PySem.W.Frag} {S : Sg} {b : Bg}
def Cm.no (c : Cm) : Cm := ⟨fun _ _ _ => False, c.fa⟩
theorem Cmk.no {I0 H0 : Hp} {M0 : Mem} {c : Cm} (h : Cmk K S b I0 H0 M0 c) : Cmk K S.no b I0 H0 M0 c.no := ⟨h.fa, fun _ _ _ _ _ _ z => z.elim, h.tb⟩
inductive LcK
  | dat
  | sto
def lcFin (k : LcK) (P : MP) (rs : List DV) (M : Mem) : Prop := match k with
  | .dat => match dats rs with
    | some ds => P (.dat (.list ds)) M
    | none => False
  | .sto => ∀ p, M p = none → P (.raw (.ref p)) (um M p (.lst rs))
def lcGoM {α : Type} (step : α → Mem → (Option DV → Mem → Prop) → Prop) : List α → Mem → (List DV → Mem → Prop) → Prop
  | [], M, P => P [] M
  | d :: ds, M, P => step d M fun o M1 => match o with
    | none => lcGoM step ds M1 P
    | some y => lcGoM step ds M1 fun ys M2 => P (y :: ys) M2
def lcStepM (tf : Tf) (dt : MT) (de : ME) (c : Cm) (δ : En) : PyData → Mem → (Option DV → Mem → Prop) → Prop := fun d M k => match tf d δ with
  | some δ' => dt c.no δ' M fun t M1 => if t = true then de c.no δ' M1 fun r M2 => k (some r) M2 else k none M1
  | none => False
def mLc (kd : LcK) (di : MI) (tf : Tf) (dt : MT) (de : ME) (vs : List Nat) : ME := fun c δ M P => (∀ v ∈ vs, δ[v]? = some none) ∧ di c δ M fun items M1 => items.length ≤ 100000 ∧ lcGoM (lcStepM tf dt de c δ) items M1 fun ys M2 => lcFin kd P ys M2
end
end DM
namespace DM
open PySem PySem.Spec PyProof.Rows L2 RZ DL DW
def mFrz (i : Nat) (ds : MS) : MS := fun c δ M D => match δ[i]? with
  | some (some (.raw (.ref a))) => match M a with
    | some (.lst xs) => match dats xs with
      | some es => ds c (δ.set i (some (.dat (.list es)))) (fun x => if x = a then none else M x) D
      | none => ds c δ M D
    | _ => ds c δ M D
  | _ => ds c δ M D
section
variable {K : PySem.W.Frag} {S : Sg} {b : Bg} {I H : Hp} {M : Mem}
theorem XM.frz {a : Addr} {vs : List V} {ds : List PyData} (o : Ok K b I H) (r : MR K b I H M) (hm : M a = some (.lst (ds.map .dat))) : ∃ vs, XM K b I H M (upd I a (.lst vs)) H (fun x => if x = a then none else M x) ∧ Dp K (upd I a (.lst vs)) (.ref a) (.list ds) := by
  obtain ⟨h1, h2, ho, h3, vs, rfl, pl⟩ := r a _ hm
  have hd := vbs_dats pl
  have s1 : Same I (upd I a (.lst vs)) := fun c o h => by rw [upd_ne (ne_of_none h h1)]; exact h
  obtain ⟨n, pln, tb, l, ns, x0, q0, m0, c0, e1, sl, r0⟩ := o.b
  refine ⟨vs, ⟨s1, fun _ _ _ _ _ h => h, fun c u hi hc h t => ?_, fun c u hc h t => ?_, fun l xs h => ⟨xs, h⟩, ⟨fun c u h => ?_, by rw [upd_ne (fun z => h2 z.symm)]; exact n, fun c u h => ?_, tb, l, ns, x0, q0, m0, c0, e1, sl_mono s1 sl, r0⟩, fun c so h => ?_, fun c kvs h => ?_⟩, .lst (.inl (.inl upd_same)) (dpa_mono s1 hd)⟩
  · rw [upd_ne (fun z => by rw [z, hm] at hc; cases hc)]
    exact hi
  · show (if c = a then none else M c) = none
    split
    · rfl
    · exact hc
  · by_cases z : c = a
    · subst z; rw [upd_same] at h; cases h; exact h3
    · rw [upd_ne z] at h; exact o.s c u h
  · by_cases z : c = a
    · subst z; rw [upd_same] at h; cases h; exact True.intro
    · rw [upd_ne z] at h; exact pln c u h
  · have h : (if c = a then none else M c) = some so := h
    by_cases z : c = a
    · rw [if_pos z] at h; cases h
    · rw [if_neg z] at h
      obtain ⟨g1, g2, ho, g3, g4⟩ := r c so h
      exact ⟨by rw [upd_ne z]; exact g1, g2, ho, g3, g4.mono s1⟩
  · exact ⟨by show (if c = a then none else M c) = _; rw [if_neg (fun z => by rw [z, hm] at h; cases h)]; exact h, rfl⟩
def mExt (mo mv : ME) : ME := fun c δ M P => mo c δ M fun x M1 => match x with
  | .raw (.ref a) => (∃ xs, M1 a = some (.lst xs)) ∧ mv c δ M1 fun y M2 => match M2 a, y with
    | some (.lst xs), .dat (.tuple ds) => xs.length + ds.length ≤ 100000 ∧ P (.dat .none) (um M2 a (.lst (xs ++ ds.map .dat)))
    | _, _ => False
  | _ => False
end
section
variable {X : Cx} {S : Sg} {e a b o tg iter : Expr} {me mo mv mk : ME} {pos : Pos} {st : Stmt} {sts : List Stmt} {d d' : MS}
def mYes : MT := fun _ _ M P => P true M
end
end DM
namespace DM
open PySem PySem.Spec PyProof.Rows L2 RZ DL DW
def oMulE : DV → DV → DP → Prop := fun x y P => match x, y with
  | .dat (.tuple []), .dat (.int k) => (-1000 ≤ k ∧ k ≤ 1000) ∧ P (.dat (.tuple []))
  | x, y => oMul x y P
def setAll : List Nat → List DV → En → En
  | i :: is, r :: rs, δ => setAll is rs (δ.set i (some r))
  | _, _, δ => δ
def mParG (is : List Nat) (ma : MA) : MS := fun c δ M D => ma c δ M fun rs M1 => rs.length = is.length ∧ D.nx (setAll is rs δ) M1
end DM
namespace DM
open PySem PySem.Spec PyProof.Rows L2 RZ DL DW
def mFgt (i : Nat) (ds : MS) : MS := fun c δ M D => ds c (δ.set i none) M D
end DM
namespace DM
open PySem PySem.Spec PyProof.Rows L2 RZ DL DW
def mISeq (me : ME) : MI := fun c δ M A => me c δ M fun r M1 => match r with
  | .dat (.list ds) => A ds M1
  | .dat (.tuple ds) => A ds M1
  | .dat (.str z) => A (chars z) M1
  | _ => False
end DM
namespace DM
open PySem PySem.Spec PyProof.Rows L2 RZ DL DW
theorem vw_dat {M : Mem} {d : PyData} : vw M (.dat d) = .dat d := rfl
theorem sqM {a b : MS} {c : Cm} {δ : En} {M : Mem} {D : MEd} (h : a c δ M ⟨laterM b c D, D.rt, D.bk, D.ct⟩) : mSeq a b c δ M D := h
theorem ltM {b : MS} {c : Cm} {δ : En} {M : Mem} {D : MEd} (h : b c δ M D) : laterM b c D δ M := h
theorem nxM {b : MS} {c : Cm} {δ : En} {M : Mem} {D : MEd} {r : MP} {bk ct : En → Mem → Prop} (h : b c δ M D) : (⟨laterM b c D, r, bk, ct⟩ : MEd).nx δ M := h
end DM
namespace DW
open PySem PySem.Spec PyProof.Rows L2 RZ DL
end DW
namespace DW
open PySem PySem.Spec PyProof.Rows L2 RZ DL
end DW
namespace DW
open PySem PySem.Spec PyProof.Rows L2 RZ DL
end DW
namespace DM
open PySem PySem.Spec PyProof.Rows L2 RZ DL DW
abbrev MOp := Cm → En → Mem → (Option Int → Mem → Prop) → Prop
def mONone : MOp := fun _ _ M P => P none M
def mOSome (me : ME) : MOp := fun c δ M P => me c δ M fun r M1 => match r with
  | .dat (.int i) => P (some i) M1
  | _ => False
def cutR (xs : List DV) (lo hi : Option Int) : List DV := (xs.drop (HT.sIx xs.length 0 lo)).take (HT.sIx xs.length xs.length hi - HT.sIx xs.length 0 lo)
def oCutM (lo hi : Option Int) (r : DV) (M : Mem) (P : MP) : Prop := match r with
  | .raw (.ref a) => match M a with
    | some (.lst xs) => ∀ p, M p = none → P (.raw (.ref p)) (um M p (.lst (cutR xs lo hi)))
    | _ => False
  | .dat d => oCut lo hi (.dat d) (lftP P M)
  | _ => False
def mSl (me : ME) (ml mh : MOp) : ME := fun c δ M P => me c δ M fun r M1 => ml c δ M1 fun lo M2 => mh c δ M2 fun hi M3 => oCutM lo hi r M3 P
section
variable {X : Cx} {S : Sg} {a b e : Expr} {me : ME} {pos : Pos}
def oAddR : MO := fun x y M P => match x, y with
  | .raw (.ref a), .raw (.ref d) => match M a, M d with
    | some (.lst xs), some (.lst ys) => xs.length + ys.length ≤ 100000 ∧ ∀ p, M p = none → P (.raw (.ref p)) (um M p (.lst (xs ++ ys)))
    | _, _ => False
  | _, _ => False
end
def lcGoL (a : Addr) (xs : List DV) (step : DV → Mem → (Option DV → Mem → Prop) → Prop) : List DV → Mem → (List DV → Mem → Prop) → Prop
  | [], M, P => M a = some (.lst xs) ∧ P [] M
  | d :: ds, M, P => M a = some (.lst xs) ∧ step d M fun o M1 => match o with
    | none => lcGoL a xs step ds M1 P
    | some y => lcGoL a xs step ds M1 fun ys M2 => P (y :: ys) M2
def lcStepL (i : Nat) (dt : MT) (de : ME) (c : Cm) (δ : En) : DV → Mem → (Option DV → Mem → Prop) → Prop := fun r M k => dt c.no (δ.set i (some r)) M fun t M1 => if t = true then de c.no (δ.set i (some r)) M1 fun r M2 => k (some r) M2 else k none M1
def mLcL (kd : LcK) (me : ME) (i : Nat) (dt : MT) (de : ME) (vs : List Nat) : ME := fun c δ M P => (∀ v ∈ vs, δ[v]? = some none) ∧ me c δ M fun x M1 => match x with
  | .raw (.ref a) => match M1 a with
    | some (.lst xs) => xs.length ≤ 100000 ∧ lcGoL a xs (lcStepL i dt de c δ) xs M1 fun ys M2 => lcFin kd P ys M2
    | _ => False
  | _ => False
end DM
namespace DW
open PySem PySem.Spec PyProof.Rows L2 RZ DL
def downD (i : Int) (n : Nat) : List PyData := (List.range n).map fun (k : Nat) => .int (i - (k : Int))
def dIRg3 (da : DA) : DI := fun c δ A => da c δ fun rs => match rs with
  | [.dat (.int i), .dat (.int j), .dat (.int k)] => k = -1 ∧ (-(2 ^ 62) ≤ i ∧ i < 2 ^ 62 ∧ -(2 ^ 62) ≤ j ∧ j < 2 ^ 62) ∧ A (downD i (i - j).toNat)
  | _ => False
end DW
namespace DM
open PySem PySem.Spec PyProof.Rows L2 RZ DL DW
end DM
namespace DM
open PySem PySem.Spec PyProof.Rows L2 RZ DL DW
end DM
namespace DM
open PySem PySem.Spec PyProof.Rows L2 RZ DL DW
section
variable {X : Cx} {S : Sg} {o e : Expr} {es : List Expr} {ma : MA} {me mo mk : ME} {pos : Pos}
def mTupM (ma : MA) : ME := fun c δ M P => ma c δ M fun rs M1 => ∀ p, M1 p = none → P (.raw (.ref p)) (um M1 p (.tup rs))
def oIxT : MO := fun x y M P => match x, y with
  | .raw (.ref a), .dat (.int i) => match M a with
    | some (.tup xs) => match ixN xs.length i with
      | some j => match xs[j]? with
        | some r => P r M
        | none => False
      | none => False
    | _ => False
  | _, _ => False
def mUnp (is : List Nat) (me : ME) : MS := fun c δ M D => me c δ M fun r M1 => match r with
  | .raw (.ref a) => match M1 a with
    | some (.tup rs) => rs.length = is.length ∧ D.nx (setAll is rs δ) M1
    | _ => False
  | _ => False
def mPop (mo : ME) : ME := fun c δ M P => mo c δ M fun r M1 => match r with
  | .raw (.ref a) => match M1 a with
    | some (.lst xs) => match xs[xs.length - 1]? with
      | some y => P y (um M1 a (.lst xs.dropLast))
      | none => False
    | _ => False
  | _ => False
def mDPop (mo mk : ME) : ME := fun c δ M P => mo c δ M fun r M1 => match r with
  | .raw (.ref a) => (∃ kvs, M1 a = some (.dic kvs)) ∧ mk c δ M1 fun k M2 => match keyD k, M2 a with
    | some kk, some (.dic kvs) => match gV kvs kk with
      | some y => P y (um M2 a (.dic (gDrop kvs kk)))
      | none => False
    | _, _ => False
  | _ => False
end
end DM
namespace L2
open PySem PySem.Spec PyProof.Rows
end L2
namespace DM
open PySem PySem.Spec PyProof.Rows L2 RZ DL DW
section
variable {X : Cx} {S : Sg} {o e : Expr} {es : List Expr} {ma : MA} {me mo mk mv : ME} {pos : Pos}
def oEmp : MO := fun x y M P => match x, y with
  | .raw (.ref a), .raw (.ref b) => match M a, M b with
    | some (.lst xs), some (.lst []) => P (dbl xs.isEmpty) M
    | some (.dic kvs), some (.dic []) => P (dbl kvs.isEmpty) M
    | _, _ => False
  | _, _ => False
def oEmpN : MO := fun x y M P => match x, y with
  | .raw (.ref a), .raw (.ref b) => match M a, M b with
    | some (.dic kvs), some (.dic []) => P (dbl (!kvs.isEmpty)) M
    | _, _ => False
  | _, _ => False
def mPairs : List (Key × ME) → Cm → En → Mem → (List (Key × DV) → Mem → Prop) → Prop
  | [], _, _, M, Q => Q [] M
  | (k, mv) :: r, c, δ, M, Q => mv c δ M fun y M1 => mPairs r c δ M1 fun ps M2 => Q ((k, y) :: ps) M2
def gMerge (kvs more : List (Key × DV)) : List (Key × DV) := more.foldl (fun acc kv => gPut acc kv.1 kv.2) kvs
def mDisp (ps : List (Key × ME)) : ME := fun c δ M P => ∀ p, M p = none → mPairs ps c δ (um M p (.dic [])) fun kvs M2 => M2 p = some (.dic []) ∧ P (.raw (.ref p)) (um M2 p (.dic (gMerge [] kvs)))
inductive XPs (X : Cx) (S : Sg) (pos : Pos) : List (Option Expr) → List Expr → List (TE × TE) → List (Key × ME) → Prop
  | nil : XPs X S pos [] [] [] []
  | cons {k v : Expr} {ks : List (Option Expr)} {vs : List Expr} {tk tv : TE} {ts : List (TE × TE)} {kk : Key} {mv : ME} {ps : List (Key × ME)} : PE X k tk → (∀ σ H Q, Q (kV kk) H → tk σ H Q) → PE X v tv → CmE X.K S tv mv → XPs X S pos ks vs ts ps → XPs X S pos (some k :: ks) (v :: vs) ((tk, tv) :: ts) ((kk, mv) :: ps)
theorem XPs.len {ks : List (Option Expr)} {vs : List Expr} {ts : List (TE × TE)} {ps : List (Key × ME)} (h : XPs X S pos ks vs ts ps) : ks.length = ps.length ∧ ks.length = vs.length ∧ ks.all (·.isSome) = true := by
  induction h with
  | nil => exact ⟨rfl, rfl, rfl⟩
  | cons a _ c _ _ ih => exact ⟨by simp [ih.1], by simp [ih.2.1], by simp [ih.2.2]⟩
abbrev MG := Cm → En → Mem → DV → (En → Mem → Prop) → Prop
def mGName (i : Nat) : MG := fun _ δ M r P => P (δ.set i (some r)) M
def mGPut (md mk : ME) : MG := fun c δ M y P => md c δ M fun x M2 => mk c δ M2 fun k M3 => match x, keyD k with
  | .raw (.ref a), some kk => match M3 a with
    | some (.dic kvs) => kvs.length < 100000 ∧ P δ (um M3 a (.dic (gPut kvs kk y)))
    | _ => False
  | _, _ => False
def mGs : List MG → Cm → En → Mem → List DV → (En → Mem → Prop) → Prop
  | [], _, δ, M, [], P => P δ M
  | g :: gs, c, δ, M, r :: rs, P => g c δ M r fun δ1 M1 => mGs gs c δ1 M1 rs P
  | _, _, _, _, _, _ => False
def mAsgGs (gs : List MG) (ma : MA) : MS := fun c δ M D => ma c δ M fun rs M1 => rs.length = gs.length ∧ mGs gs c δ M1 rs D.nx
end
end DM
namespace DM
open PySem PySem.Spec PyProof.Rows L2 RZ DL DW
end DM
namespace DM
open PySem PySem.Spec PyProof.Rows L2 RZ DL DW
section
variable {X : Cx} {S : Sg} {tg e : Expr} {me : ME} {st : Stmt} {ds : MS}
def mLockE (me : ME) : ME := fun c δ M P => ∃ a kvs, M a = some (.dic kvs) ∧ me c δ (um M a (.dicL kvs)) fun r M' => P r (um M' a (.dic kvs))
def mIKeys (me : ME) : MI := fun c δ M A => me c δ M fun r M1 => match r with
  | .raw (.ref a) => match M1 a with
    | some (.dicL kvs) => A (kvs.map fun kv => keyPD kv.1) M1
    | _ => False
  | _ => False
end
end DM
namespace DM
open PySem PySem.Spec PyProof.Rows L2 RZ DL DW
end DM
namespace DM
open PySem PySem.Spec PyProof.Rows L2 RZ DL DW
def mLockS (ds : MS) : MS := fun c δ M D => ∃ a kvs, M a = some (.dic kvs) ∧ ds c δ (um M a (.dicL kvs)) ⟨fun δ' M' => D.nx δ' (um M' a (.dic kvs)), fun r M' => D.rt r (um M' a (.dic kvs)), fun δ' M' => D.bk δ' (um M' a (.dic kvs)), fun δ' M' => D.ct δ' (um M' a (.dic kvs))⟩
end DM
namespace DM
open PySem PySem.Spec PyProof.Rows L2 RZ DL DW
end DM
namespace DM
open PySem PySem.Spec PyProof.Rows L2 RZ DL DW
def mIRg1 (ma : MA) : MI := fun c δ M A => ma c δ M fun rs M1 => match rs with
  | [.dat (.int n)] => (-(2 ^ 62) ≤ n ∧ n < 2 ^ 62) ∧ A (rangeD 0 n.toNat) M1
  | _ => False
end DM
namespace PySem
open Sem (wp)
end PySem
namespace DW
open PySem PySem.Spec PyProof.Rows L2 RZ DL LamX
end DW
namespace DM
open PySem PySem.Spec PyProof.Rows L2 RZ DL DW
end DM
namespace OEL
open PySem PySem.Spec PySem.W PySem.Calls PyProof.Rows L2
abbrev tlV : List Value := [.type "ValueError", .type "Exception", .type "BaseException", .type "object"]
end OEL
namespace DW
open PySem PySem.Spec PyProof.Rows L2 RZ DL
end DW
namespace DM
open PySem PySem.Spec PyProof.Rows L2 RZ DL DW
end DM
set_option maxHeartbeats 1000000
namespace DM
open PySem PySem.Spec PyProof.Rows L2 RZ DL DW
end DM
set_option maxHeartbeats 4000000
namespace DM
open PySem PySem.Spec PyProof.Rows L2 RZ DL DW
end DM
namespace DM
open PySem PySem.Spec PyProof.Rows L2 RZ DL DW
end DM
namespace DW
open PySem PySem.Spec PyProof.Rows L2 RZ DL
end DW
namespace DM
open PySem PySem.Spec PyProof.Rows L2 RZ DL DW
end DM
namespace DM
open PySem PySem.Spec PyProof.Rows L2 RZ DL DW
end DM
namespace DM
open PySem PySem.Spec PyProof.Rows L2 RZ DL DW
end DM
namespace DM
open PySem PySem.Spec PyProof.Rows L2 RZ DL DW
end DM
namespace DM
open PySem PySem.Spec PyProof.Rows L2 RZ DL DW
end DM
namespace DM
open PySem PySem.Spec PyProof.Rows L2 RZ DL DW
end DM
namespace DM
open PySem PySem.Spec PyProof.Rows L2 RZ DL DW
end DM
namespace Lw
open PySem PySem.Spec PyProof.Rows L2 DL DW DM
def D_is_name : DS := (dRet (dAndV (dChain oLe oLe (dC (dint 1)) (dCb bLen (dCons (dVar 0) dNil)) (dC (dint (8)))) (dCb bAll (dCons (dLc (dISeq (dVar 0)) (tfName 1) dYes (dBin (oIn false) (dVar 1) (dC (dstr "abcdefghijklmnopqrstuvwxyz"))) [1]) dNil))))
def W_is_name : Wt := wFn 1 2 D_is_name
end Lw
namespace Lw
open PySem PySem.Spec PyProof.Rows L2 DL DW DM
structure Top (K : PySem.W.Frag) (mg : Str → Option Value) (w : World) : Type where
  a_look_sizes : Addr
  fd_look_sizes : FuncData
  F_look_sizes : Fun K "look_sizes" "look_sizes" s_look_sizes a_look_sizes fd_look_sizes
  g_look_sizes : mg "look_sizes" = some (.ref a_look_sizes)
  b_look_sizes : Binds K fd_look_sizes ["sizes"] []
  a_fault_place : Addr
  fd_fault_place : FuncData
  F_fault_place : Fun K "fault_place" "fault_place" s_fault_place a_fault_place fd_fault_place
  g_fault_place : mg "fault_place" = some (.ref a_fault_place)
  b_fault_place : Binds K fd_fault_place ["sizes", "deed"] []
  a_length_fits : Addr
  fd_length_fits : FuncData
  F_length_fits : Fun K "length_fits" "length_fits" s_length_fits a_length_fits fd_length_fits
  g_length_fits : mg "length_fits" = some (.ref a_length_fits)
  b_length_fits : Binds K fd_length_fits ["sizes", "deed"] []
  a_swap_fault : Addr
  fd_swap_fault : FuncData
  F_swap_fault : Fun K "swap_fault" "swap_fault" s_swap_fault a_swap_fault fd_swap_fault
  g_swap_fault : mg "swap_fault" = some (.ref a_swap_fault)
  b_swap_fault : Binds K fd_swap_fault ["sizes", "deed"] []
  a_cask_fault : Addr
  fd_cask_fault : FuncData
  F_cask_fault : Fun K "cask_fault" "cask_fault" s_cask_fault a_cask_fault fd_cask_fault
  g_cask_fault : mg "cask_fault" = some (.ref a_cask_fault)
  b_cask_fault : Binds K fd_cask_fault ["sizes", "deed", "start"] []
  a_Book_init : Addr
  fd_Book_init : FuncData
  F_Book_init : Fun K "__init__" "Book.__init__" s_Book_init a_Book_init fd_Book_init
  b_Book_init : Binds K fd_Book_init ["self", "sizes"] []
  a_is_name : Addr
  fd_is_name : FuncData
  F_is_name : Fun K "is_name" "is_name" s_is_name a_is_name fd_is_name
  g_is_name : mg "is_name" = some (.ref a_is_name)
  b_is_name : Binds K fd_is_name ["name"] []
  a_step_fault : Addr
  fd_step_fault : FuncData
  F_step_fault : Fun K "step_fault" "step_fault" s_step_fault a_step_fault fd_step_fault
  g_step_fault : mg "step_fault" = some (.ref a_step_fault)
  b_step_fault : Binds K fd_step_fault ["sizes", "step"] []
  a_calls : Addr
  fd_calls : FuncData
  F_calls : Fun K "calls" "calls" s_calls a_calls fd_calls
  g_calls : mg "calls" = some (.ref a_calls)
  b_calls : Binds K fd_calls ["steps", "name"] []
  a_law_open : Addr
  fd_law_open : FuncData
  F_law_open : Fun K "_law_open" "_law_open" s_law_open a_law_open fd_law_open
  g_law_open : mg "_law_open" = some (.ref a_law_open)
  b_law_open : Binds K fd_law_open ["_law_script"] []
  a_law_take : Addr
  fd_law_take : FuncData
  F_law_take : Fun K "_law_take" "_law_take" s_law_take a_law_take fd_law_take
  g_law_take : mg "_law_take" = some (.ref a_law_take)
  b_law_take : Binds K fd_law_take ["_law_bag", "_law_sides"] []
  a_law_pick : Addr
  fd_law_pick : FuncData
  F_law_pick : Fun K "_law_pick" "_law_pick" s_law_pick a_law_pick fd_law_pick
  g_law_pick : mg "_law_pick" = some (.ref a_law_pick)
  b_law_pick : Binds K fd_law_pick ["_law_bag", "_law_row"] []
  a_law_same : Addr
  fd_law_same : FuncData
  F_law_same : Fun K "_law_same" "_law_same" s_law_same a_law_same fd_law_same
  g_law_same : mg "_law_same" = some (.ref a_law_same)
  b_law_same : Binds K fd_law_same ["_law_found", "_law_due_here"] []
  a_law_word : Addr
  fd_law_word : FuncData
  F_law_word : Fun K "_law_word" "_law_word" s_law_word a_law_word fd_law_word
  g_law_word : mg "_law_word" = some (.ref a_law_word)
  b_law_word : Binds K fd_law_word ["_law_ask"] []
  a_law_sizes : Addr
  fd_law_sizes : FuncData
  F_law_sizes : Fun K "_law_sizes" "_law_sizes" s_law_sizes a_law_sizes fd_law_sizes
  g_law_sizes : mg "_law_sizes" = some (.ref a_law_sizes)
  b_law_sizes : Binds K fd_law_sizes ["_law_bag", "_law_mcasks", "_law_most"] []
  a_law_any_sizes : Addr
  fd_law_any_sizes : FuncData
  F_law_any_sizes : Fun K "_law_any_sizes" "_law_any_sizes" s_law_any_sizes a_law_any_sizes fd_law_any_sizes
  g_law_any_sizes : mg "_law_any_sizes" = some (.ref a_law_any_sizes)
  b_law_any_sizes : Binds K fd_law_any_sizes ["_law_bag"] []
  a_law_number : Addr
  fd_law_number : FuncData
  F_law_number : Fun K "_law_number" "_law_number" s_law_number a_law_number fd_law_number
  g_law_number : mg "_law_number" = some (.ref a_law_number)
  b_law_number : Binds K fd_law_number ["_law_bag"] []
  a_law_shuffled : Addr
  fd_law_shuffled : FuncData
  F_law_shuffled : Fun K "_law_shuffled" "_law_shuffled" s_law_shuffled a_law_shuffled fd_law_shuffled
  g_law_shuffled : mg "_law_shuffled" = some (.ref a_law_shuffled)
  b_law_shuffled : Binds K fd_law_shuffled ["_law_bag", "_law_row"] []
  a_law_some_casks : Addr
  fd_law_some_casks : FuncData
  F_law_some_casks : Fun K "_law_some_casks" "_law_some_casks" s_law_some_casks a_law_some_casks fd_law_some_casks
  g_law_some_casks : mg "_law_some_casks" = some (.ref a_law_some_casks)
  b_law_some_casks : Binds K fd_law_some_casks ["_law_bag", "_law_mcasks", "_law_mmany"] []
  a_law_alike : Addr
  fd_law_alike : FuncData
  F_law_alike : Fun K "_law_alike" "_law_alike" s_law_alike a_law_alike fd_law_alike
  g_law_alike : mg "_law_alike" = some (.ref a_law_alike)
  b_law_alike : Binds K fd_law_alike ["_law_msizes"] []
  a_law_deed : Addr
  fd_law_deed : FuncData
  F_law_deed : Fun K "_law_deed" "_law_deed" s_law_deed a_law_deed fd_law_deed
  g_law_deed : mg "_law_deed" = some (.ref a_law_deed)
  b_law_deed : Binds K fd_law_deed ["_law_bag", "_law_msizes", "_law_number_here", "_law_taps"] []
  a_law_names : Addr
  fd_law_names : FuncData
  F_law_names : Fun K "_law_names" "_law_names" s_law_names a_law_names fd_law_names
  g_law_names : mg "_law_names" = some (.ref a_law_names)
  b_law_names : Binds K fd_law_names ["_law_bag", "_law_count"] []
  a_law_step : Addr
  fd_law_step : FuncData
  F_law_step : Fun K "_law_step" "_law_step" s_law_step a_law_step fd_law_step
  g_law_step : mg "_law_step" = some (.ref a_law_step)
  b_law_step : Binds K fd_law_step ["_law_bag", "_law_msizes", "_law_names_here"] []
  a_law_step_word : Addr
  fd_law_step_word : FuncData
  F_law_step_word : Fun K "_law_step_word" "_law_step_word" s_law_step_word a_law_step_word fd_law_step_word
  g_law_step_word : mg "_law_step_word" = some (.ref a_law_step_word)
  b_law_step_word : Binds K fd_law_step_word ["_law_msizes", "_law_flats", "_law_mstep"] []
  a_law_laid : Addr
  fd_law_laid : FuncData
  F_law_laid : Fun K "_law_laid" "_law_laid" s_law_laid a_law_laid fd_law_laid
  g_law_laid : mg "_law_laid" = some (.ref a_law_laid)
  b_law_laid : Binds K fd_law_laid ["_law_flats", "_law_mstep"] []
  a_law_due : Addr
  fd_law_due : FuncData
  F_law_due : Fun K "_law_due" "_law_due" s_law_due a_law_due fd_law_due
  g_law_due : mg "_law_due" = some (.ref a_law_due)
  b_law_due : Binds K fd_law_due ["_law_msizes", "_law_flats", "_law_mname", "_law_msteps"] []
  a_law : Addr
  fd_law : FuncData
  F_law : Fun K "law" "law" s_law a_law fd_law
  g_law : mg "law" = some (.ref a_law)
  b_law : Binds K fd_law ["_law_script"] []
  a_Book_write : Addr
  fd_Book_write : FuncData
  F_Book_write : Fun K "write" "Book.write" s_Book_write a_Book_write fd_Book_write
  b_Book_write : Binds K fd_Book_write ["self", "name", "steps"] []
  a_Book_steps : Addr
  fd_Book_steps : FuncData
  F_Book_steps : Fun K "steps" "Book.steps" s_Book_steps a_Book_steps fd_Book_steps
  b_Book_steps : Binds K fd_Book_steps ["self", "name"] []
  a_Book_flat : Addr
  fd_Book_flat : FuncData
  F_Book_flat : Fun K "flat" "Book.flat" s_Book_flat a_Book_flat fd_Book_flat
  b_Book_flat : Binds K fd_Book_flat ["self", "name"] []
  a_Book_callers : Addr
  fd_Book_callers : FuncData
  F_Book_callers : Fun K "callers" "Book.callers" s_Book_callers a_Book_callers fd_Book_callers
  b_Book_callers : Binds K fd_Book_callers ["self", "name"] []
  a_Book_names : Addr
  fd_Book_names : FuncData
  F_Book_names : Fun K "names" "Book.names" s_Book_names a_Book_names fd_Book_names
  b_Book_names : Binds K fd_Book_names ["self"] []
  a_Book_sizes : Addr
  fd_Book_sizes : FuncData
  F_Book_sizes : Fun K "sizes" "Book.sizes" s_Book_sizes a_Book_sizes fd_Book_sizes
  b_Book_sizes : Binds K fd_Book_sizes ["self"] []
  a_Book_look_fresh : Addr
  fd_Book_look_fresh : FuncData
  F_Book_look_fresh : Fun K "look_fresh" "Book.look_fresh" s_Book_look_fresh a_Book_look_fresh fd_Book_look_fresh
  b_Book_look_fresh : Binds K fd_Book_look_fresh ["self", "name"] []
  a_Book_look_written : Addr
  fd_Book_look_written : FuncData
  F_Book_look_written : Fun K "look_written" "Book.look_written" s_Book_look_written a_Book_look_written fd_Book_look_written
  b_Book_look_written : Binds K fd_Book_look_written ["self", "name"] []
  a_Book_look_steps : Addr
  fd_Book_look_steps : FuncData
  F_Book_look_steps : Fun K "look_steps" "Book.look_steps" s_Book_look_steps a_Book_look_steps fd_Book_look_steps
  b_Book_look_steps : Binds K fd_Book_look_steps ["self", "steps"] []
  a_Book_count_deeds : Addr
  fd_Book_count_deeds : FuncData
  F_Book_count_deeds : Fun K "count_deeds" "Book.count_deeds" s_Book_count_deeds a_Book_count_deeds fd_Book_count_deeds
  b_Book_count_deeds : Binds K fd_Book_count_deeds ["self", "step"] []
  a_Book_lay_out : Addr
  fd_Book_lay_out : FuncData
  F_Book_lay_out : Fun K "lay_out" "Book.lay_out" s_Book_lay_out a_Book_lay_out fd_Book_lay_out
  b_Book_lay_out : Binds K fd_Book_lay_out ["self", "steps"] []
  a_Book_len : Addr
  fd_Book_len : FuncData
  F_Book_len : Fun K "__len__" "Book.__len__" s_Book_len a_Book_len fd_Book_len
  b_Book_len : Binds K fd_Book_len ["self"] []
  a_Book_repr : Addr
  fd_Book_repr : FuncData
  F_Book_repr : Fun K "__repr__" "Book.__repr__" s_Book_repr a_Book_repr fd_Book_repr
  b_Book_repr : Binds K fd_Book_repr ["self"] []
  kt : KT K
  kl : KL K
  m_enumerate : mg "enumerate" = none
  m_len : mg "len" = none
  m_range : mg "range" = none
  m_all : mg "all" = none
  m_any : mg "any" = none
  m_list : mg "list" = none
  m_isinstance : mg "isinstance" = none
  m_bool : mg "bool" = none
  m_int : mg "int" = none
  m_str : mg "str" = none
  m_tuple : mg "tuple" = none
  m_sum : mg "sum" = none
  m_repr : mg "repr" = none
  c_MOST_CASKS : ∃ tk, mg "MOST_CASKS" = some (.int (6) tk)
  c_MOST_SIZE : ∃ tk, mg "MOST_SIZE" = some (.int (40) tk)
  c_GREAT : ∃ tk, mg "GREAT" = some (.int (1000000000000000000000000000000) tk)
  a_WORDS : Addr
  c_WORDS : mg "WORDS" = some (.ref a_WORDS)
  d_WORDS : ∀ I, Dp K I (.ref a_WORDS) (.tuple ((["over", "down", "swap", "tap", "drain"] : List Str).map .str))
  c_MOST_ROUNDS : ∃ tk, mg "MOST_ROUNDS" = some (.int (12) tk)
  c_MOST_FLAT : ∃ tk, mg "MOST_FLAT" = some (.int (200) tk)
  c_MOST_CALLS : ∃ tk, mg "MOST_CALLS" = some (.int (9) tk)
  c_MOST_LETTERS : ∃ tk, mg "MOST_LETTERS" = some (.int (8) tk)
  c_LETTERS : ∃ tk, mg "LETTERS" = some (.str "abcdefghijklmnopqrstuvwxyz" tk)
  C_BadSizes : Addr
  g_BadSizes : mg "BadSizes" = some (.ref C_BadSizes)
  o_BadSizes : OexC K C_BadSizes
  f_BadSizes : XfC K C_BadSizes
  fi_BadSizes : Addr
  fdi_BadSizes : FuncData
  Fi_BadSizes : Fun K "__init__" "BadSizes.__init__" si_BadSizes fi_BadSizes fdi_BadSizes
  ii_BadSizes : PySem.W.findIn K (.ref C_BadSizes) "__init__" = some (some (.ref fi_BadSizes))
  ti_BadSizes : PySem.W.typeIn K (.ref fi_BadSizes) = some (.type "function")
  bi_BadSizes : Binds K fdi_BadSizes ["self", "cask"] []
  n_BadSizes_word : PySem.W.findIn K (.ref C_BadSizes) "word" = some none
  n_BadSizes_cask : PySem.W.findIn K (.ref C_BadSizes) "cask" = some none
  C_BadRow : Addr
  g_BadRow : mg "BadRow" = some (.ref C_BadRow)
  o_BadRow : OexC K C_BadRow
  f_BadRow : XfC K C_BadRow
  fi_BadRow : Addr
  fdi_BadRow : FuncData
  Fi_BadRow : Fun K "__init__" "BadRow.__init__" si_BadRow fi_BadRow fdi_BadRow
  ii_BadRow : PySem.W.findIn K (.ref C_BadRow) "__init__" = some (some (.ref fi_BadRow))
  ti_BadRow : PySem.W.typeIn K (.ref fi_BadRow) = some (.type "function")
  bi_BadRow : Binds K fdi_BadRow ["self", "step", "place"] []
  n_BadRow_word : PySem.W.findIn K (.ref C_BadRow) "word" = some none
  n_BadRow_step : PySem.W.findIn K (.ref C_BadRow) "step" = some none
  n_BadRow_place : PySem.W.findIn K (.ref C_BadRow) "place" = some none
  C_BadName : Addr
  g_BadName : mg "BadName" = some (.ref C_BadName)
  o_BadName : OEL.Of K C_BadName "ValueError.__new__" OEL.tlV
  f_BadName : XfC K C_BadName
  fi_BadName : Addr
  fdi_BadName : FuncData
  Fi_BadName : Fun K "__init__" "BadName.__init__" si_BadName fi_BadName fdi_BadName
  ii_BadName : PySem.W.findIn K (.ref C_BadName) "__init__" = some (some (.ref fi_BadName))
  ti_BadName : PySem.W.typeIn K (.ref fi_BadName) = some (.type "function")
  bi_BadName : Binds K fdi_BadName ["self"] []
  n_BadName_word : PySem.W.findIn K (.ref C_BadName) "word" = some none
  C_Taken : Addr
  g_Taken : mg "Taken" = some (.ref C_Taken)
  o_Taken : OexC K C_Taken
  f_Taken : XfC K C_Taken
  fi_Taken : Addr
  fdi_Taken : FuncData
  Fi_Taken : Fun K "__init__" "Taken.__init__" si_Taken fi_Taken fdi_Taken
  ii_Taken : PySem.W.findIn K (.ref C_Taken) "__init__" = some (some (.ref fi_Taken))
  ti_Taken : PySem.W.typeIn K (.ref fi_Taken) = some (.type "function")
  bi_Taken : Binds K fdi_Taken ["self", "name"] []
  n_Taken_word : PySem.W.findIn K (.ref C_Taken) "word" = some none
  n_Taken_name : PySem.W.findIn K (.ref C_Taken) "name" = some none
  C_TooLong : Addr
  g_TooLong : mg "TooLong" = some (.ref C_TooLong)
  o_TooLong : OexC K C_TooLong
  f_TooLong : XfC K C_TooLong
  fi_TooLong : Addr
  fdi_TooLong : FuncData
  Fi_TooLong : Fun K "__init__" "TooLong.__init__" si_TooLong fi_TooLong fdi_TooLong
  ii_TooLong : PySem.W.findIn K (.ref C_TooLong) "__init__" = some (some (.ref fi_TooLong))
  ti_TooLong : PySem.W.typeIn K (.ref fi_TooLong) = some (.type "function")
  bi_TooLong : Binds K fdi_TooLong ["self", "most"] []
  n_TooLong_word : PySem.W.findIn K (.ref C_TooLong) "word" = some none
  n_TooLong_most : PySem.W.findIn K (.ref C_TooLong) "most" = some none
  C_TooMany : Addr
  g_TooMany : mg "TooMany" = some (.ref C_TooMany)
  o_TooMany : OexC K C_TooMany
  f_TooMany : XfC K C_TooMany
  fi_TooMany : Addr
  fdi_TooMany : FuncData
  Fi_TooMany : Fun K "__init__" "TooMany.__init__" si_TooMany fi_TooMany fdi_TooMany
  ii_TooMany : PySem.W.findIn K (.ref C_TooMany) "__init__" = some (some (.ref fi_TooMany))
  ti_TooMany : PySem.W.typeIn K (.ref fi_TooMany) = some (.type "function")
  bi_TooMany : Binds K fdi_TooMany ["self", "most"] []
  n_TooMany_word : PySem.W.findIn K (.ref C_TooMany) "word" = some none
  n_TooMany_most : PySem.W.findIn K (.ref C_TooMany) "most" = some none
  C_NoRound : Addr
  g_NoRound : mg "NoRound" = some (.ref C_NoRound)
  o_NoRound : OEL.Of K C_NoRound "LookupError.__new__" OEL.tlL
  f_NoRound : XfC K C_NoRound
  fi_NoRound : Addr
  fdi_NoRound : FuncData
  Fi_NoRound : Fun K "__init__" "NoRound.__init__" si_NoRound fi_NoRound fdi_NoRound
  ii_NoRound : PySem.W.findIn K (.ref C_NoRound) "__init__" = some (some (.ref fi_NoRound))
  ti_NoRound : PySem.W.typeIn K (.ref fi_NoRound) = some (.type "function")
  bi_NoRound : Binds K fdi_NoRound ["self", "name"] []
  n_NoRound_word : PySem.W.findIn K (.ref C_NoRound) "word" = some none
  n_NoRound_name : PySem.W.findIn K (.ref C_NoRound) "name" = some none
  C_NothingLeft : Addr
  g_NothingLeft : mg "NothingLeft" = some (.ref C_NothingLeft)
  o_NothingLeft : OEL.Of K C_NothingLeft "IndexError.__new__" OEL.tlI
  f_NothingLeft : XfC K C_NothingLeft
  fi_NothingLeft : Addr
  fdi_NothingLeft : FuncData
  Fi_NothingLeft : Fun K "__init__" "NothingLeft.__init__" si_NothingLeft fi_NothingLeft fdi_NothingLeft
  ii_NothingLeft : PySem.W.findIn K (.ref C_NothingLeft) "__init__" = some (some (.ref fi_NothingLeft))
  ti_NothingLeft : PySem.W.typeIn K (.ref fi_NothingLeft) = some (.type "function")
  bi_NothingLeft : Binds K fdi_NothingLeft ["self"] []
  n_NothingLeft_word : PySem.W.findIn K (.ref C_NothingLeft) "word" = some none
  e_BadSizes_NothingLeft : PySem.W.exmOne K (.ref C_BadSizes) (.ref C_NothingLeft) = some false
  e_BadRow_NothingLeft : PySem.W.exmOne K (.ref C_BadRow) (.ref C_NothingLeft) = some false
  e_BadName_NothingLeft : PySem.W.exmOne K (.ref C_BadName) (.ref C_NothingLeft) = some false
  e_Taken_NothingLeft : PySem.W.exmOne K (.ref C_Taken) (.ref C_NothingLeft) = some false
  e_TooLong_NothingLeft : PySem.W.exmOne K (.ref C_TooLong) (.ref C_NothingLeft) = some false
  e_TooMany_NothingLeft : PySem.W.exmOne K (.ref C_TooMany) (.ref C_NothingLeft) = some false
  e_NoRound_NothingLeft : PySem.W.exmOne K (.ref C_NoRound) (.ref C_NothingLeft) = some false
  e_NothingLeft_NothingLeft : PySem.W.exmOne K (.ref C_NothingLeft) (.ref C_NothingLeft) = some true
  k_law : Addr
  P_law : Addr
  L_law : ∃ (oc : Value) (od : Option Addr) (kV doc pm : Value) (an : Option Addr) (ct : Value) (osl : Array (Option Value)), fd_law = PySem.W.fnOf "law" "law" (defArgs s_law) (defBody s_law) (defScope s_law) .none kV doc pm an (.ref k_law) ct ∧ K.lookup a_law = some ⟨oc, od, .func fd_law, osl⟩ ∧ PySem.W.codeIn K (.ref k_law) "law" = true

  B_HideError : Addr
  gB_HideError : mg "HideError" = some (.ref B_HideError)
  eB_BadSizes_HideError : PySem.W.exmOne K (.ref C_BadSizes) (.ref B_HideError) = some true
  eB_BadRow_HideError : PySem.W.exmOne K (.ref C_BadRow) (.ref B_HideError) = some true
  eB_BadName_HideError : PySem.W.exmOne K (.ref C_BadName) (.ref B_HideError) = some true
  eB_Taken_HideError : PySem.W.exmOne K (.ref C_Taken) (.ref B_HideError) = some true
  eB_TooLong_HideError : PySem.W.exmOne K (.ref C_TooLong) (.ref B_HideError) = some true
  eB_TooMany_HideError : PySem.W.exmOne K (.ref C_TooMany) (.ref B_HideError) = some true
  eB_NoRound_HideError : PySem.W.exmOne K (.ref C_NoRound) (.ref B_HideError) = some false
  eB_NothingLeft_HideError : PySem.W.exmOne K (.ref C_NothingLeft) (.ref B_HideError) = some false
  B_Missing : Addr
  gB_Missing : mg "Missing" = some (.ref B_Missing)
  eB_BadSizes_Missing : PySem.W.exmOne K (.ref C_BadSizes) (.ref B_Missing) = some false
  eB_BadRow_Missing : PySem.W.exmOne K (.ref C_BadRow) (.ref B_Missing) = some false
  eB_BadName_Missing : PySem.W.exmOne K (.ref C_BadName) (.ref B_Missing) = some false
  eB_Taken_Missing : PySem.W.exmOne K (.ref C_Taken) (.ref B_Missing) = some false
  eB_TooLong_Missing : PySem.W.exmOne K (.ref C_TooLong) (.ref B_Missing) = some false
  eB_TooMany_Missing : PySem.W.exmOne K (.ref C_TooMany) (.ref B_Missing) = some false
  eB_NoRound_Missing : PySem.W.exmOne K (.ref C_NoRound) (.ref B_Missing) = some true
  eB_NothingLeft_Missing : PySem.W.exmOne K (.ref C_NothingLeft) (.ref B_Missing) = some false
  B_NothingLeft : Addr
  gB_NothingLeft : mg "NothingLeft" = some (.ref B_NothingLeft)
  eB_BadSizes_NothingLeft : PySem.W.exmOne K (.ref C_BadSizes) (.ref B_NothingLeft) = some false
  eB_BadRow_NothingLeft : PySem.W.exmOne K (.ref C_BadRow) (.ref B_NothingLeft) = some false
  eB_BadName_NothingLeft : PySem.W.exmOne K (.ref C_BadName) (.ref B_NothingLeft) = some false
  eB_Taken_NothingLeft : PySem.W.exmOne K (.ref C_Taken) (.ref B_NothingLeft) = some false
  eB_TooLong_NothingLeft : PySem.W.exmOne K (.ref C_TooLong) (.ref B_NothingLeft) = some false
  eB_TooMany_NothingLeft : PySem.W.exmOne K (.ref C_TooMany) (.ref B_NothingLeft) = some false
  eB_NoRound_NothingLeft : PySem.W.exmOne K (.ref C_NoRound) (.ref B_NothingLeft) = some false
  eB_NothingLeft_NothingLeft : PySem.W.exmOne K (.ref C_NothingLeft) (.ref B_NothingLeft) = some true
  C_Book : Addr
  g_Book : mg "Book" = some (.ref C_Book)
  K_Book : Cls K C_Book
  N_Book_held_sizes : NoAttr K C_Book "held_sizes"
  N_Book_written : NoAttr K C_Book "written"
  N_Book_laid : NoAttr K C_Book "laid"
  M_Book_init : Meth K C_Book "__init__" a_Book_init
  Mk_Book : Mk K C_Book a_Book_init
  M_Book_write : Meth K C_Book "write" a_Book_write
  M_Book_steps : Meth K C_Book "steps" a_Book_steps
  M_Book_flat : Meth K C_Book "flat" a_Book_flat
  M_Book_callers : Meth K C_Book "callers" a_Book_callers
  M_Book_names : Meth K C_Book "names" a_Book_names
  M_Book_sizes : Meth K C_Book "sizes" a_Book_sizes
  M_Book_look_fresh : Meth K C_Book "look_fresh" a_Book_look_fresh
  M_Book_look_written : Meth K C_Book "look_written" a_Book_look_written
  M_Book_look_steps : Meth K C_Book "look_steps" a_Book_look_steps
  M_Book_count_deeds : Meth K C_Book "count_deeds" a_Book_count_deeds
  M_Book_lay_out : Meth K C_Book "lay_out" a_Book_lay_out
  M_Book_len : Meth K C_Book "__len__" a_Book_len
  M_Book_repr : Meth K C_Book "__repr__" a_Book_repr
section
variable {K : PySem.W.Frag} {mg : Str → Option Value} {w : World}
def Top.cls (T : Top K mg w) : Nat → Addr := fun n => [T.C_BadSizes, 0, 0, 0, T.C_BadRow, 0, T.C_BadName, 0, T.C_Taken, 0, 0, T.C_TooLong, T.C_TooMany, 0, T.C_NoRound, 0, 0, T.C_NothingLeft].getD n 0
def Top.fa (T : Top K mg w) : Nat → Addr := fun n => [T.C_Book].getD n 0
end
end Lw
namespace Lw
open PySem PySem.Spec PyProof.Rows L2 DL DW DM
abbrev deedD (w : Str) (ns : List Int) : PyData := .tuple (.str w :: ns.map .int)
def Ck (ms : List Int) (c : Int) : Prop := 0 ≤ c ∧ c < (ms.length : Int)
def Nm (n : Int) : Prop := 0 ≤ n ∧ n < 1000000000000000000000000000000
inductive Deed where
  | over (n : Int) (ks : List Int)
  | down (n : Int) (ks : List Int)
  | swap (a b : Int)
  | tap (n k : Int)
  | drain (n k : Int)
def Deed.w : Deed → Str
  | .over _ _ => "over"
  | .down _ _ => "down"
  | .swap _ _ => "swap"
  | .tap _ _ => "tap"
  | .drain _ _ => "drain"
def Deed.ns : Deed → List Int
  | .over n ks => n :: ks
  | .down n ks => n :: ks
  | .swap a b => [a, b]
  | .tap n k => [n, k]
  | .drain n k => [n, k]
structure Way (ms : List Int) (ks : List Int) : Prop where
  lo : 2 ≤ ks.length
  hi : ks.length ≤ ms.length
  ck : ∀ c ∈ ks, Ck ms c
  nd : ks.Nodup
def Deed.Ok (ms : List Int) : Deed → Prop
  | .over n ks => Nm n ∧ Way ms ks
  | .down n ks => Nm n ∧ Way ms ks
  | .swap a b => Ck ms a ∧ Ck ms b ∧ a ≠ b ∧ at_ ms a = at_ ms b
  | .tap n k => Nm n ∧ Ck ms k
  | .drain n k => Nm n ∧ Ck ms k
abbrev Deed.D (d : Deed) : PyData := deedD d.w d.ns
def Rows (ms : List Int) (ds : List Deed) : Prop := ∀ d ∈ ds, d.Ok ms
abbrev rowD (ds : List Deed) : List PyData := ds.map fun d => d.D
theorem kb_NoneType_bool : kitB "NoneType" "bool" = some false := by decide +kernel
theorem kb_NoneType_int : kitB "NoneType" "int" = some false := by decide +kernel
theorem kb_NoneType_str : kitB "NoneType" "str" = some false := by decide +kernel
theorem kb_NoneType_tuple : kitB "NoneType" "tuple" = some false := by decide +kernel
theorem kb_NoneType_list : kitB "NoneType" "list" = some false := by decide +kernel
theorem kb_bool_bool : kitB "bool" "bool" = some true := by decide +kernel
theorem kb_bool_int : kitB "bool" "int" = some true := by decide +kernel
theorem kb_bool_str : kitB "bool" "str" = some false := by decide +kernel
theorem kb_bool_tuple : kitB "bool" "tuple" = some false := by decide +kernel
theorem kb_bool_list : kitB "bool" "list" = some false := by decide +kernel
theorem kb_int_bool : kitB "int" "bool" = some false := by decide +kernel
theorem kb_int_int : kitB "int" "int" = some true := by decide +kernel
theorem kb_int_str : kitB "int" "str" = some false := by decide +kernel
theorem kb_int_tuple : kitB "int" "tuple" = some false := by decide +kernel
theorem kb_int_list : kitB "int" "list" = some false := by decide +kernel
theorem kb_str_bool : kitB "str" "bool" = some false := by decide +kernel
theorem kb_str_int : kitB "str" "int" = some false := by decide +kernel
theorem kb_str_str : kitB "str" "str" = some true := by decide +kernel
theorem kb_str_tuple : kitB "str" "tuple" = some false := by decide +kernel
theorem kb_str_list : kitB "str" "list" = some false := by decide +kernel
theorem kb_list_bool : kitB "list" "bool" = some false := by decide +kernel
theorem kb_list_int : kitB "list" "int" = some false := by decide +kernel
theorem kb_list_str : kitB "list" "str" = some false := by decide +kernel
theorem kb_list_tuple : kitB "list" "tuple" = some false := by decide +kernel
theorem kb_list_list : kitB "list" "list" = some true := by decide +kernel
theorem kb_tuple_bool : kitB "tuple" "bool" = some false := by decide +kernel
theorem kb_tuple_int : kitB "tuple" "int" = some false := by decide +kernel
theorem kb_tuple_str : kitB "tuple" "str" = some false := by decide +kernel
theorem kb_tuple_tuple : kitB "tuple" "tuple" = some true := by decide +kernel
theorem kb_tuple_list : kitB "tuple" "list" = some false := by decide +kernel
theorem isN_b {b : Bool} : decide (tyN (.bool b) = "NoneType") = false := by simp [tyN]
theorem isN_i {b : Int} : decide (tyN (.int b) = "NoneType") = false := by simp [tyN]
theorem isN_s {b : Str} : decide (tyN (.str b) = "NoneType") = false := by simp [tyN]
theorem isN_l {b : List PyData} : decide (tyN (.list b) = "NoneType") = false := by simp [tyN]
theorem isN_t {b : List PyData} : decide (tyN (.tuple b) = "NoneType") = false := by simp [tyN]
end Lw
namespace Lw
open PySem PySem.Spec PyProof.Rows L2 DL DW DM
inductive Stp where
  | dd (d : Deed)
  | cl (x : Str) (n : Nat)
def Stp.D : Stp → PyData
  | .dd d => d.D
  | .cl x n => .tuple [.str "call", .str x, .int (n : Int)]
structure Rd where
  nm : Str
  st : List Stp
  fl : List Deed
def wrOf (bk : List Rd) : List (Key × DV) := bk.map fun r => ((Sum.inr r.nm : Key), DV.dat (.tuple (r.st.map Stp.D)))
def ldOf (bk : List Rd) : List (Key × DV) := bk.map fun r => ((Sum.inr r.nm : Key), DV.dat (.tuple (rowD r.fl)))
def look (bk : List Rd) (x : Str) : Option Rd := bk.find? fun r => decide (r.nm = x)
def Stp.Ok (ms : List Int) (bk : List Rd) : Stp → Prop
  | .dd d => d.Ok ms
  | .cl x n => (∃ r, look bk x = some r) ∧ n ≤ 9
structure Bks (ms : List Int) (bk : List Rd) : Prop where
  nd : (bk.map (·.nm)).Nodup
  fl : ∀ r ∈ bk, Rows ms r.fl
  len : ∀ r ∈ bk, r.fl.length ≤ 200
def bkF (ms : List Int) (w l : Addr) : List (Str × DV) := [("held_sizes", .dat (nums ms)), ("written", .raw (.ref w)), ("laid", .raw (.ref l))]
structure BookAt (C : Addr) (M : Mem) (a w l : Addr) (ms : List Int) (bk : List Rd) : Prop where
  aw : a ≠ w
  al : a ≠ l
  wl : w ≠ l
  ha : M a = some (.ins C (bkF ms w l))
  hw : M w = some (.dic (wrOf bk))
  hl : M l = some (.dic (ldOf bk))
theorem BookAt.mono {C : Addr} {M M' : Mem} {a w l : Addr} {ms : List Int} {bk : List Rd} (h : BookAt C M a w l ms bk) (e : ∀ x, x = a ∨ x = w ∨ x = l → M' x = M x) : BookAt C M' a w l ms bk :=
  ⟨h.aw, h.al, h.wl, by rw [e a (.inl rfl)]; exact h.ha, by rw [e w (.inr (.inl rfl))]; exact h.hw, by rw [e l (.inr (.inr rfl))]; exact h.hl⟩
theorem BookAt.ins {C a w l : Addr} {M : Mem} {ms : List Int} {bk : List Rd} (h : BookAt C M a w l ms bk) : insAt M C (.raw (.ref a)) = some (a, bkF ms w l) := insAt_mk h.ha
def NmOk (x : Str) : Prop := ∀ (P : DP) (c : Cn), P (dbl true) → W_is_name [dstr x] P c
end Lw
namespace Lw
open PySem PySem.Spec PyProof.Rows L2 DL DW DM
local macro_rules | `(tactic| walk_at "dwt") => `(tactic| (try simp only [wFn, dSeq, dIfS, dNext, dAsg, dPar, dRet, dRetV, dRetN, dExpr, dBrk, dCnt, dFor, dFrz, frzAt, dAsgG, dGName, dGSub, dGNil, dGCons, dGTup, dAugI, dAug, dApp, dExt, dRaise, dVar, dC, dBin, dUn, dChain, dTst, dAnd, dOr, dNot, dYes, dAndV, dOrV, dNotV, dIfE, dNil, dCons, dTup, dLst, dats, dNone, dSome, dSl, oCut, dCall, dCb, dLrg, pk, dCallK, dTab, dCallV, dISeq, dIRg1, dIRg2, dIZip, dIEnum, tfName, tfPair, dLc, lcStep, Cn.no, dCount, scVs, scV, oAdd, oSub, oMul, oMod, oDiv, oCmp, oNeg, oEq, toD, oIsN, oIx, seqD, lstD, bLen, bTuple, bList, bAbs, bMin, bMax, bSum, bAll, bAny, bSorted, bIsi, fz, isPl_dat, isPl_raw, isPl_bag, oIn, flD, List.cons_append, List.nil_append, List.append_nil, List.getElem?_cons_zero, List.getElem?_cons_succ, List.getElem?_nil, List.set_cons_zero, List.set_cons_succ, List.length_cons, List.length_nil, List.all_cons, List.all_nil, List.replicate_succ, List.replicate_zero, Bool.and_true, Bool.and_self, Bool.true_and, List.filterMap_cons, List.filterMap_nil, Nat.reduceAdd, Nat.reduceSub, Nat.zero_add, true_and, and_true, if_true, ite_true, Bool.not_true, Bool.not_false, Bool.false_eq_true, if_false, ite_false]))
local macro_rules | `(tactic| walk_at "dws") => `(tactic| ((try simp only [wFn, List.length_cons, List.length_nil, Nat.reduceAdd, true_and, Nat.reduceSub, List.replicate_succ, List.replicate_zero, List.append_nil, List.cons_append, List.nil_append, List.map_cons, List.map_nil]) <;> try simp only [wFn, dSeq, dIfS, dNext, dAsg, dPar, dRet, dRetV, dRetN, dExpr, dBrk, dCnt, dFor, dFrz, frzAt, dAsgG, dGName, dGSub, dGNil, dGCons, dGTup, dAugI, dAug, dApp, dExt, dRaise, dVar, dC, dBin, dUn, dChain, dTst, dAnd, dOr, dNot, dYes, dAndV, dOrV, dNotV, dIfE, dNil, dCons, dTup, dLst, dats, dNone, dSome, dSl, oCut, dCall, dCb, dLrg, pk, dCallK, dTab, dCallV, dISeq, dIRg1, dIRg2, dIZip, dIEnum, tfName, tfPair, dLc, lcStep, Cn.no, dCount, scVs, scV, oAdd, oSub, oMul, oMod, oDiv, oCmp, oNeg, oEq, toD, oIsN, oIx, seqD, lstD, bLen, bTuple, bList, bAbs, bMin, bMax, bSum, bAll, bAny, bSorted, bIsi, fz, isPl_dat, isPl_raw, isPl_bag, oIn, flD, List.map_cons, List.map_nil, List.cons_append, List.nil_append, List.append_nil, List.getElem?_cons_zero, List.getElem?_cons_succ, List.getElem?_nil, List.set_cons_zero, List.set_cons_succ, List.length_cons, List.length_nil, List.all_cons, List.all_nil, List.replicate_succ, List.replicate_zero, Bool.and_true, Bool.and_self, Bool.true_and, List.filterMap_cons, List.filterMap_nil, Nat.reduceAdd, Nat.reduceSub, Nat.zero_add, true_and, and_true, if_true, ite_true, Bool.not_true, Bool.not_false, Bool.false_eq_true, if_false, ite_false]))
theorem bools_map : ∀ {ns : List Bool}, boolsD (ns.map fun b => PyData.bool b) = some ns
  | [] => rfl
  | n :: ns => by
    rw [List.map_cons]
    unfold boolsD
    rw [bools_map]
abbrev abc : Str := "abcdefghijklmnopqrstuvwxyz"
theorem nm_ok {x : Str} (h1 : 1 ≤ x.length) (h2 : x.length ≤ 8) (h3 : x.cps.toList.all (fun k => decide (k ∈ abc.cps.toList)) = true) : NmOk x := fun P c p => by
  unfold W_is_name D_is_name
  walk_at "dws"
  refine ⟨by omega, ?_⟩
  rw [if_pos (decide_eq_true (by omega)), if_pos (decide_eq_true (by omega))]
  refine ⟨by simp, by unfold chars; rw [List.length_map]; show x.length ≤ _; omega, ?_⟩
  refine lc_map (l := x.cps.toList) (gI := fun k => PyData.str ⟨#[k]⟩) (fun k => PyData.bool (decide (k ∈ abc.cps.toList))) (fun k hk K hK => ?_) ?_
  · walk_at "dwt"
    exact hK
  · have e : (x.cps.toList.map fun k => PyData.bool (decide (k ∈ abc.cps.toList))) = (x.cps.toList.map fun k => decide (k ∈ abc.cps.toList)).map fun b => PyData.bool b := by
      rw [List.map_map]
      rfl
    rw [e, bools_map]
    have e2 : ((x.cps.toList.map fun k => decide (k ∈ abc.cps.toList)).all id) = true := by
      rw [List.all_map]
      exact h3
    show P (dbl _)
    rw [e2]
    exact p
end Lw
namespace Lw
open PySem PySem.Spec PyProof.Rows L2 DL DW DM
def flOf (bk : List Rd) : List (Key × DV) := bk.map fun r => ((Sum.inr r.nm : Key), DV.dat (.list (rowD r.fl)))
def Nm8 (x : Str) : Prop := 1 ≤ x.length ∧ x.length ≤ 8 ∧ ∀ k ∈ x.cps.toList, k ∈ abc.cps.toList
theorem Nm8.ok {x : Str} (h : Nm8 x) : NmOk x := nm_ok h.1 h.2.1 (List.all_eq_true.mpr fun k hk => decide_eq_true (h.2.2 k hk))
theorem abc_lt : ∀ k ∈ abc.cps.toList, 97 ≤ k ∧ k ≤ 122 := by decide +kernel
theorem Nm8.cl {x : Str} (h : Nm8 x) : PyData.canLay0 (.str x) = true := by
  show x.cps.all _ = true
  rw [← Array.all_toList, List.all_eq_true]
  intro k hk
  have := abc_lt k (h.2.2 k hk)
  exact decide_eq_true (by omega)
def zzc : PyData := .tuple [.str "call", .str "Zz", .int 1]
def odd5 : List PyData := [.tuple [.str "call", .str "zz", .int 10], .tuple [.str "call"], .tuple [], .tuple [.str "over", .int 1, .int 0, .int 0], .tuple [.str "call", .str "Zz", .int 1, .int 1]]
inductive Sx where
  | g (s : Stp)
  | b (d : PyData)
  | z
def Sx.D : Sx → PyData
  | .g s => s.D
  | .b d => d
  | .z => zzc
def Sx.Ok (ms : List Int) (bk : List Rd) : Sx → Prop
  | .g s => s.Ok ms bk
  | .b d => d ∈ odd5
  | .z => True
def Sx.w : Sx → Str
  | .g _ => ""
  | .b _ => "bad row"
  | .z => "no round"
def fw : List Sx → Str
  | [] => ""
  | s :: r => if s.w = "" then fw r else s.w
end Lw
namespace Lw
open PySem PySem.Spec PyProof.Rows L2 DL DW DM
def wlOf (bk : List Rd) : List (Key × DV) := bk.map fun r => ((Sum.inr r.nm : Key), DV.dat (.list (r.st.map Stp.D)))
def Sg (ms : List Int) : Stp → Prop
  | .dd d => d.Ok ms
  | .cl y n => Nm8 y ∧ n ≤ 9
structure St (C : Addr) (M : Mem) (a w l o f v : Addr) (ms : List Int) (bk : List Rd) (n : Nat) : Prop where
  b : BookAt C M a w l ms bk
  k : Bks ms bk
  nm : ∀ r ∈ bk, Nm8 r.nm
  sl : ∀ r ∈ bk, r.st.length ≤ 6
  so : ∀ r ∈ bk, ∀ s ∈ r.st, Sg ms s
  hf : M f = some (.dic (flOf bk))
  hv : M v = some (.dic (wlOf bk))
  ho : M o = some (.lst ((bk.map (·.nm)).map fun s => .dat (.str s)))
  ln : bk.length ≤ n
  fw : f ≠ w
  fl : f ≠ l
  vw : v ≠ w
  vl : v ≠ l
  fv : f ≠ v
section
variable {C : Addr} {M M' : Mem} {a w l o f v : Addr} {ms : List Int} {bk : List Rd} {n : Nat}
theorem St.keep (h : St C M a w l o f v ms bk n) (k : ∀ y u, M y = some u → M' y = some u) : St C M' a w l o f v ms bk n :=
  ⟨⟨h.b.aw, h.b.al, h.b.wl, k _ _ h.b.ha, k _ _ h.b.hw, k _ _ h.b.hl⟩, h.k, h.nm, h.sl, h.so, k _ _ h.hf, k _ _ h.hv, k _ _ h.ho, h.ln, h.fw, h.fl, h.vw, h.vl, h.fv⟩
end
end Lw
namespace TF
open PySem PySem.Spec PyProof.Rows L2
def NewT (xs : List V) (H : Hp) (Q : VK) : Prop := ∀ (p : Addr) (o : Obj), H p = none → o.dict = none → Q (.ref p) (upd H p (.frz o (.tup xs)))
section
variable {X : Cx} {pins : List (Addr × Obj)} {σ : L2.St} {H : Hp} {s : Shared} {Q : VK}
theorem laidT {xs : List V} {us : List Value} {g : Heap} {tk : Nat} (J : Inv X pins σ H { s with heap := g }) (rel : Vals xs us) (small : xs.length ≤ sizeLine) (goal : NewT xs H Q) :
    EP X pins σ Q (.ref g.objs.size) { s with heap := g.push { cls := .type "tuple", data := .seq us.toArray }, toks := tk } := by
  have got : (g.push { cls := .type "tuple", data := .seq us.toArray }).get? g.objs.size = some { cls := .type "tuple", data := .seq us.toArray } := Heap.get?_push_size _ rfl
  refine ⟨.ref g.objs.size, upd H g.objs.size (.frz { cls := .type "tuple", data := .seq us.toArray } (.tup xs)), ?_, rfl, goal _ _ (J.hok.fresh (Nat.le_refl _)) rfl⟩
  exact J.laid (t' := tk) (fun _ _ old => Heap.get?_push_of_some _ old) (Nat.le_refl _) ⟨got, small, us, rel, _, got, rfl, _, rfl⟩
end
section
variable {X : Cx} {es : List Expr} {t : TA} {pos : Pos}
def tTupF (t : TA) : TE := fun σ H Q => t σ H fun xs H1 => xs.length ≤ sizeLine ∧ NewT xs H1 Q
theorem pe_tupF {x1} (h : PA X es t) : PE X (.Tuple es x1 pos) (tTupF t) :=
  ⟨fun pins s σ H Q I hq => wpAny_Tuple_spliced (thn (h.run pos pins s σ H _ I hq) fun us s1 ⟨xs, H1, I1, r, z, q⟩ => ⟨r.length ▸ z, laidT (tk := s1.toks) I1 r z q⟩)⟩
def rTupleF (K : PySem.W.Frag) : List V → Hp → VK → Prop := fun xs H Q => ∃ p ys, xs = [.ref p] ∧ ((SqL K H p ys ∧ NewT ys H Q) ∨ (SqT K H p ys ∧ Q (.ref p) H))
theorem call_tupleF : CallR X (.type "tuple") (rTupleF X.K) := fun pins s σ H xs us Q I r ⟨p, ys, e, h⟩ => by
  subst e
  obtain ⟨u, rfl, ru⟩ := vals1 r
  obtain rfl : u = Value.ref p := ru
  rcases h with ⟨isl, q⟩ | ⟨ist, q⟩
  · obtain ⟨its, rel, pl, small⟩ := I.list isl
    exact call_tuple_list pl.isList (fun g kept => laidT (tk := s.toks) (I.kept (t' := s.toks) kept) rel small q) (by rw [List.size_toArray, ← rel.length]; exact small)
  · obtain ⟨its, rel, pt, _⟩ := I.tuple ist
    exact call_tuple_same pt ⟨.ref p, H, I, rfl, q⟩
def rCatF (K : PySem.W.Frag) : R2 := fun x y H Q => ∃ a c xs ys, x = .ref a ∧ y = .ref c ∧ SqT K H a xs ∧ SqT K H c ys ∧ xs.length + ys.length ≤ sizeLine ∧ (xs = [] → Q (.ref c) H) ∧ (xs ≠ [] → ys = [] → Q (.ref a) H) ∧ (xs ≠ [] → ys ≠ [] → NewT (xs ++ ys) H Q)
theorem op_catF : OpR X (binaryOp .Add) (rCatF X.K) := fun pins s σ H x y v u Q I rx ry ⟨a, c, xs, ys, ex, ey, ha, hc, small, q0, q1, q2⟩ => by
  subst ex ey
  obtain rfl : v = Value.ref a := rx
  obtain rfl : u = Value.ref c := ry
  obtain ⟨vs, rel1, pt1, _⟩ := I.tuple ha
  obtain ⟨ws, rel2, pt2, _⟩ := I.tuple hc
  by_cases hx : xs = []
  · subst hx
    cases rel1
    exact cat_tup0 pt1 pt2 ⟨.ref c, H, I, rfl, q0 rfl⟩
  · have n1 := rel1.nil_iff
    have n2 := rel2.nil_iff
    exact HT.cat_tup pt1 pt2 (fun z => hx (n1.mp z)) (fun z => ⟨.ref a, H, I, rfl, q1 hx (n2.mp z)⟩) (fun z => laidT (tk := s.toks) I (rel1.append rel2) (by rw [List.length_append]; exact small) (q2 hx fun zz => z (n2.mpr zz))) (by rw [← rel1.length, ← rel2.length]; exact small)
def rSlF (K : PySem.W.Frag) : V → Option Int → Option Int → Hp → VK → Prop := fun x lo hi H Q => ∃ a xs, x = .ref a ∧ SqT K H a xs ∧
  (HT.sIx xs.length 0 lo = 0 ∧ HT.sIx xs.length xs.length hi = xs.length → Q (.ref a) H) ∧ (¬ (HT.sIx xs.length 0 lo = 0 ∧ HT.sIx xs.length xs.length hi = xs.length) → NewT (cutV xs lo hi) H Q)
theorem sl_tupF : SlR X (rSlF X.K) := fun pins s σ H x v vl vu lo hi sl Q I rx hs pl pu ⟨a, xs, ex, ha, q1, q2⟩ => by
  subst ex
  obtain rfl : v = Value.ref a := rx
  obtain ⟨vs, rel, pt, small⟩ := I.tuple ha
  have size : vs.toArray.size = xs.length := by rw [List.size_toArray, rel.length]
  refine ⟨"tuple", _, PyProof.Rows.slot_tuple_getitem.lookup, pt.typeIs, ?_⟩
  by_cases hw : HT.sIx xs.length 0 lo = 0 ∧ HT.sIx xs.length xs.length hi = xs.length
  · exact getItem_tuple_whole pt hs pl pu (by rw [size]; exact hw) ⟨.ref a, H, I, rfl, q1 hw⟩
  · refine HT.getItem_tuple_cut pt hs pl pu (by rw [size]; exact hw) ?_ (by rw [size]; exact small)
    rw [size]
    exact laidT (tk := s.toks) I ((rel.drop _).take _) (Nat.le_trans (cutV_length xs lo hi) small) (q2 hw)
end
def IteT (K : PySem.W.Frag) (a : Addr) : It :=
  ⟨fun i H => ∃ (xs : List V) (x : V), SqT K H a xs ∧ xs[i]? = some x, fun i H v H' => ∃ T x, v = .ref T ∧ H T = none ∧ H' = upd H T (.tup [.int (i : Nat), x]) ∧ ∀ xs, SqT K H a xs → xs[i]? = some x, fun i H => ∃ xs : List V, SqT K H a xs ∧ xs.length ≤ i⟩
theorem meets_enum1 {v : Value} {o : Obj} {S : Heap → Prop} (B : Begins v o S) : Meets (Builtin.«enumerate.__new__» ⟨[.type "enumerate", v], []⟩) (fun _ R s => S s.heap ∧
    R (.ok (.ret (.ref (s.heap.push o).objs.size))) { s with heap := (s.heap.push o).push { cls := .type "enumerate", data := .fields #[.none, .bool false, .ref s.heap.objs.size, rawInt 0, .none, .none] } }) :=
  .of_wp fun prog w A R s h => by
    obtain ⟨hp, g, d, tk, os⟩ := s
    obtain ⟨h1, h⟩ := h
    have sub := sub_enumerate
    have begin_ : ∀ {A' : Around} {E : Value → Shared → Prop} {Q : Value → Shared → Prop}, Q (.ref hp.objs.size) ⟨hp.push o, g, d, tk, os⟩ → wpAny (model prog w) A' (pyIter v) Q E ⟨hp, g, d, tk, os⟩ := fun q => B.iter prog w _ _ ⟨hp, g, d, tk, os⟩ _ h1 q
    wp_walk using begin_
    refine wpAny_stack_any fun st => wpAny_pure ?_
    split
    · rename_i c _ _ _ _ _
      cases (c == Value.type "enumerate") <;> (wp_walk using begin_; exact ⟨_, rfl, h⟩)
    · wp_walk using begin_
      exact ⟨_, rfl, h⟩
section
variable {prog : Program} {w : World} {A : Around} {E : Value → Shared → Prop} {s : Shared}
theorem call_enum1 {v : Value} {o : Obj} {S : Heap → Prop} {Q : Value → Shared → Prop} (B : Begins v o S) (h1 : S s.heap)
    (h : ∀ g, IsEnum g (s.heap.objs.size + 1) s.heap.objs.size 0 .none → g.get? s.heap.objs.size = some o → (∀ b u, s.heap.get? b = some u → g.get? b = some u) → Q (.ref (s.heap.objs.size + 1)) { s with heap := g }) :
    wpAny (model prog w) A (call (.type "enumerate") [v]) Q E s := by
  have size : (s.heap.push o).objs.size = s.heap.objs.size + 1 := Heap.size_push ..
  have isE : IsEnum ((s.heap.push o).push { cls := .type "enumerate", data := .fields #[.none, .bool false, .ref s.heap.objs.size, rawInt 0, .none, .none] }) (s.heap.objs.size + 1) s.heap.objs.size 0 .none := by
    have z := Heap.get?_push_size (s.heap.push o) (o := { cls := .type "enumerate", data := .fields #[.none, .bool false, .ref s.heap.objs.size, rawInt 0, .none, .none] }) rfl
    rw [size] at z
    exact z
  refine callType_new F.called_enumerate (by decide) (F.typeCall_enumerate_1 _) (F.newCall_enumerate_1 _) (fun obj => F.args_object_init_2 obj _) F.entry_enumerate_new (meets_enum1 B) ⟨h1, ?_⟩
  show _ ∧ _
  rw [size]
  exact ⟨⟨_, isE, rfl⟩, h _ isE (Heap.get?_push_of_some _ (Heap.get?_push_size _ B.free)) fun b u x => Heap.get?_push_of_some _ (Heap.get?_push_of_some _ x)⟩
end
section
variable {prog : Program} {w : World} {A : Around} {E : Value → Shared → Prop} {s : Shared}
theorem end_enumT {e it a : Addr} {i : Nat} {k : Int} {items : Array Value} {old : Value} {Q : Option Value → Shared → Prop} (calm : A.handled = none) (isE : IsEnum s.heap e it k old) (itr : s.heap.IsTupleIter it a i) (isT : s.heap.IsTuple a items) (out : items[i]? = none)
    (hQ : ∀ g, Heap.ExtBut it s.heap g → Q none { s with heap := g }) : wpAny (model prog w) A (pyNext (.ref e)) Q E s := by
  have ty : s.TypeIs (.ref e) "enumerate" := ⟨_, isE, rfl⟩
  unfold pyNext
  refine wpAny_bind (wpAny_attempt (wpAny_callSpecial?_slot (name := Str.ofString "__next__") ty F.slot_enumerate_next (wpAny_call_entry F.slot_enumerate_next ty F.entry_enumerate_next ?_ (F.args_enumerate_next_1 _))))
  show wpAny _ _ (field (.ref e) 2 >>= _) _ _ _
  refine wpAny_bind (wpAny_field isE rfl (x := .ref it) rfl (wpAny_bind (wpAny_nextOf_tuple_end calm itr isT out ?_)))
  rintro g x kept ⟨o, got, cls⟩
  exact wpAny_bind (wpAny_isInstance (T := "StopIteration") (b := true) ⟨o, got, cls⟩ isSubtype_stop (wpAny_pure (hQ g kept)))
end
theorem turn_enumT {P : Program} {w : World} {K : PySem.W.Frag} {elts : List Expr} {kk : Nat} {tpos : Pos} (a e it : Addr) :
    Turn P w K (.Tuple elts kk tpos) (IteT K a) [e, it] e (fun i h => (∃ old, IsEnum h e it ((i : Nat) : Int) old) ∧ h.IsTupleIter it a i ∧ e ≠ it) where
  mem := List.mem_cons_self
  obj := by
    rintro i h ⟨⟨old, isE⟩, ⟨o, got, _, dat⟩, _⟩ b hb
    rcases List.mem_cons.mp hb with z | z
    · exact ⟨_, z ▸ isE, by intro v q; cases q⟩
    · cases List.mem_singleton.mp z
      exact ⟨o, got, fun v q => by rw [dat] at q; cases q⟩
  keep := by
    rintro i h h' ⟨⟨old, isE⟩, ⟨o, got, r⟩, ne⟩ k
    exact ⟨⟨old, k e List.mem_cons_self _ isE⟩, ⟨o, k it (List.mem_cons_of_mem _ List.mem_cons_self) _ got, r⟩, ne⟩
  item := by
    rintro X rfl rfl rfl calm i pins s σ H E I off ⟨⟨old, isE⟩, itr, ne⟩ ⟨xs, x, isT, hx⟩
    obtain ⟨us, rel, pt, small⟩ := I.tuple isT
    have lt : i < us.toArray.size := by
      rw [List.size_toArray, ← rel.length]
      exact (List.getElem?_eq_some_iff.mp hx).1
    have pt' : s.heap.IsTuple a us.toArray := pt
    obtain ⟨oT, gotT, clsT, _⟩ := id pt'
    obtain ⟨oI, gotI, clsI, _⟩ := id itr
    have nai : a ≠ it := fun z => by
      rw [z, gotI] at gotT
      cases gotT
      rw [clsI] at clsT
      exact absurd (Value.type.inj clsT) (by decide)
    have nea : e ≠ a := fun z => by
      have q : s.heap.get? a = _ := z ▸ isE
      rw [gotT] at q
      rw [Option.some.inj q] at clsT
      exact absurd (Value.type.inj clsT) (by decide)
    refine wpAny_pyNext_enum_itemD (Draws.tuple (A := X.A.in1) (I.ok.hd calm) it a nai us.toArray) isE ⟨itr, pt'⟩ lt ne (fun hm => ?_) fun u h1 tk hu out st1 gotN size kept => ?_
    · rcases List.mem_cons.mp hm with z | z
      · exact ne z
      · exact nea (List.mem_singleton.mp z)
    refine ⟨_, rfl, wpAny_letOwnedTupleGo_enum (s := { s with heap := h1, toks := tk + 1 }) out fun h2 isE2 same => ?_⟩
    obtain ⟨u', hu', ru'⟩ := rel.get hx
    have eu : u = u' := by
      have z : us[i]? = some u := by simpa using hu
      rw [hu'] at z
      exact (Option.some.inj z).symm
    subst eu
    have le : e < s.heap.objs.size := Heap.lt_size isE
    have li : it < s.heap.objs.size := Heap.lt_size gotI
    have gotN2 : h2.get? s.heap.objs.size = some { cls := .type "tuple", data := .seq #[.int i tk, u] } := (same.2 _ (Nat.ne_of_gt le)).trans gotN
    have new : ObjOk X.prog X.w (upd H s.heap.objs.size (.tup [.int (i : Nat), x])) h2 s.heap.objs.size (.tup [.int (i : Nat), x]) := ⟨by show 2 ≤ sizeLine; decide, [.int i tk, u], .cons ⟨_, rfl⟩ (.cons ru' .nil), ⟨_, gotN2, rfl, _, rfl⟩⟩
    have J : Inv X pins σ (upd H s.heap.objs.size (.tup [.int (i : Nat), x])) { s with heap := h2, toks := tk + 1 } :=
      I.turnedNew (ch := [e, it]) (fun b o hb q => (same.2 b (fun z => hb (by simp [z]))).trans (kept b o (fun z => hb (by simp [z])) (fun z => hb (by simp [z])) q)) off (Nat.le_refl _) new
    obtain ⟨⟨oJ, gotJ, rJ⟩, _⟩ := st1
    refine ⟨.ref s.heap.objs.size, _, J, rfl, ⟨_, x, rfl, I.hok.fresh (Nat.le_refl _), rfl, fun ys hy => by rw [I.tuple_inj hy isT]; exact hx⟩, ⟨⟨u, ?_⟩, ⟨oJ, (same.2 it (fun z => ne z.symm)).trans gotJ, rJ⟩, ne⟩, fun b hb => ?_⟩
    · rw [show ((i + 1 : Nat) : Int) = (i : Int) + 1 by omega]
      exact isE2
    · rw [upd_ne (fun z => ?_)]
      · exact (off b hb).1
      · rcases List.mem_cons.mp hb with q | q
        · exact absurd (z.symm.trans q) (Nat.ne_of_gt le)
        · exact absurd (z.symm.trans (List.mem_singleton.mp q)) (Nat.ne_of_gt li)
  done := by
    rintro X rfl rfl rfl calm i pins s σ H E I off ⟨⟨old, isE⟩, itr, ne⟩ ⟨xs, isT, hx⟩
    obtain ⟨us, rel, pt, small⟩ := I.tuple isT
    obtain ⟨f0, f1, f2, f3, f4, f5⟩ := off it (List.mem_cons_of_mem _ List.mem_cons_self)
    refine end_enumT (I.ok.hd calm) isE itr (show s.heap.IsTuple a us.toArray from pt) ?_ fun g kept => ⟨rfl, I.turned (t' := s.toks) (fun b o hb q => kept b o hb q) f0 f1 f3 f4 f5⟩
    have len := rel.length
    simp
    omega
  self := by
    rintro A i s Q E ⟨⟨_, isE⟩, _⟩ h
    exact wpAny_pyIter_enum isE h
end TF
namespace TF
open PySem PySem.Spec PyProof.Rows L2
theorem mul_0 (l : Addr) (items : Array Value) (n : Nat) (dd : Option Addr) (sl : Array (Option Value)) (x : Int) (u : Tok) (c0 : (decide (x < -(2 ^ 63)) || decide (x ≥ 2 ^ 63)) = false) (c1 : (items.isEmpty || x == 1) = false) (c2 : (decide (x ≤ 0) || items.isEmpty) = true) :
    Meets (Builtin.«tuple.__mul__» ⟨[.ref l, .int x u], []⟩) (fun _ R s => s.heap.get? l = some { cls := .type "tuple", dict := dd, data := .seq items n, slots := sl } ∧
      R (.ok (.ret (Value.ref s.heap.objs.size))) { s with heap := s.heap.push { cls := Value.type "tuple", data := Data.seq #[] }, toks := s.toks }) :=
  .of_wp fun prog w A R s h => by
    obtain ⟨hp, g, d, tk, os⟩ := s
    obtain ⟨hl, h⟩ := h
    have idx := AutoSeq1.idx_int
    wp_walk using wpAny_loadPart' hl
    repeat (first
      | (refine wpAny_ite_false (decide_eq_false (by rw [c0]; exact Bool.false_ne_true)) ?_; wp_walk using wpAny_loadPart' hl)
      | (refine wpAny_ite_false (decide_eq_false (by rw [c1]; exact Bool.false_ne_true)) ?_; wp_walk using wpAny_loadPart' hl)
      | (refine wpAny_ite_true (decide_eq_true (by rw [c2])) ?_; wp_walk using wpAny_loadPart' hl))
    exact ⟨_, rfl, h⟩
theorem mul_1 (l : Addr) (items : Array Value) (n : Nat) (dd : Option Addr) (sl : Array (Option Value)) (x : Int) (u : Tok) (c0 : (decide (x < -(2 ^ 63)) || decide (x ≥ 2 ^ 63)) = false) (c1 : (items.isEmpty || x == 1) = true) :
    Meets (Builtin.«tuple.__mul__» ⟨[.ref l, .int x u], []⟩) (fun _ R s => s.heap.get? l = some { cls := .type "tuple", dict := dd, data := .seq items n, slots := sl } ∧ R (.ok (.ret (Value.ref l))) s) :=
  .of_wp fun prog w A R s h => by
    obtain ⟨hp, g, d, tk, os⟩ := s
    obtain ⟨hl, h⟩ := h
    have idx := AutoSeq1.idx_int
    wp_walk using wpAny_loadPart' hl
    repeat (first
      | (refine wpAny_ite_false (decide_eq_false (by rw [c0]; exact Bool.false_ne_true)) ?_; wp_walk using wpAny_loadPart' hl)
      | (refine wpAny_ite_true (decide_eq_true (by rw [c1])) ?_; wp_walk using wpAny_loadPart' hl))
    exact ⟨_, rfl, h⟩
def rRepF (K : PySem.W.Frag) : R2 := fun x y H Q => ∃ l k xs, x = .ref l ∧ y = .int k ∧ SqT K H l xs ∧ xs ≠ [] ∧ -1000 ≤ k ∧ k ≤ 1000 ∧ xs.length ≤ 1000 ∧ (k ≤ 0 → NewT [] H Q) ∧ (k = 1 → Q (.ref l) H) ∧ (2 ≤ k → NewT (List.replicate k.toNat xs).flatten H Q)
section
variable {X : Cx}
theorem op_repF : OpR X (binaryOp .Mult) (rRepF X.K) := fun pins s σ H x y v u Q I rx ry ⟨l, k, xs, ex, ey, isT, ne, k0, k1, small, q0, q1, q2⟩ => by
  subst ex ey
  obtain rfl : v = Value.ref l := rx
  obtain ⟨tk, rfl⟩ := ry
  obtain ⟨us, rel, ⟨⟨c, dd, dt, sl⟩, got, cls, n, dat⟩, _⟩ := I.tuple isT
  simp only at cls dat
  subst cls dat
  have len : us.length = xs.length := rel.length.symm
  have nonempty : us.toArray.isEmpty = false := by
    cases us with
    | nil => exact absurd (List.eq_nil_of_length_eq_zero len.symm) ne
    | cons _ _ => rfl
  have inside : (decide (k < -(2 ^ 63)) || decide (k ≥ 2 ^ 63)) = false := by
    rw [decide_eq_false (by omega), decide_eq_false (by omega), Bool.or_false]
  have go : ∀ {S : PySem.Spec}, Meets (Builtin.«tuple.__mul__» ⟨[.ref l, .int k tk], []⟩) S → S X.A (wants (EP X pins σ Q) X.xe) s → wpAny (model X.prog X.w) X.A (binaryOp .Mult (.ref l) (.int k tk)) (EP X pins σ Q) X.xe s := fun m h =>
    wpAny_binaryOp_repeat_ref (T := "tuple") (U := "int") (by decide) ⟨_, got, rfl⟩ (fun s' => typeIs_int s' k tk) noFill_tuple_mul F.fills_int_mul F.slot_int_rmul repeat_tuple F.slot_int_index.lookup
      (call_meets F.slot_int_rmul (typeIs_int s k tk) F.entry_int_rmul (F.args_int_rmul_2 _ _) (int_rmul_tuple k tk l us.toArray n dd sl) ⟨got, rfl, ⟨_, got, rfl⟩, call_meets F.slot_tuple_mul ⟨_, got, rfl⟩ F.entry_tuple_mul (F.args_tuple_mul_2 _ _) m h⟩)
  by_cases h1 : k = 1
  · exact go (mul_1 l us.toArray n dd sl k tk inside (by rw [h1, nonempty]; rfl)) ⟨got, ⟨.ref l, H, I, rfl, q1 h1⟩⟩
  · have one : (us.toArray.isEmpty || k == 1) = false := by
      rw [nonempty, Bool.false_or]
      exact beq_eq_false_iff_ne.mpr h1
    by_cases h0 : k ≤ 0
    · exact go (mul_0 l us.toArray n dd sl k tk inside one (by rw [decide_eq_true h0, Bool.true_or])) ⟨got, laidT (us := []) (tk := s.toks) I .nil (Nat.zero_le _) (q0 h0)⟩
    · have prod : ((us.toArray.size : Nat) : Int) * k ≤ 1000000 := by
        rw [List.size_toArray, len]
        have z : ((xs.length : Nat) : Int) * k ≤ 1000 * k := Int.mul_le_mul_of_nonneg_right (by omega) (by omega)
        omega
      have fits : (List.replicate k.toNat us).flatten.length ≤ 1000000 := by
        rw [PyProof.Rows.lm_len_rep_flat, len]
        have z : k.toNat * xs.length ≤ 1000 * 1000 := Nat.mul_le_mul (by omega) small
        omega
      have line : 1000000 ≤ sizeLine := by rw [sizeLine_eq]; decide
      refine go (tuple_mulW l us.toArray n dd sl k tk inside one (by rw [nonempty, Bool.or_false]; exact decide_eq_false (by omega)) (by omega) ?_ (by rw [size_rep, List.size_toArray]; exact Nat.le_trans fits line)) ⟨got, ?_⟩
      · unfold Builtin.Tuple.tupleTooMany
        rw [sizeLine_eq]
        exact decide_eq_false (by omega)
      · rw [size_rep]
        exact laidT (tk := s.toks) I (rel.rep k.toNat) (by rw [PyProof.Rows.lm_len_rep_flat, ← len]; rw [PyProof.Rows.lm_len_rep_flat] at fits; exact Nat.le_trans fits line) (q2 (by omega))
end
end TF
namespace DK
open PySem PySem.Spec PyProof.Rows L2
section
variable {X : Cx} {pins : List (Addr × Obj)} {σ : L2.St} {H : Hp} {s : Shared}
mutual
theorem dp_key (I : Inv X pins σ H s) : ∀ {d : PyData} {v : V} {u : Value} {k : NestedKey}, Dp X.K H v d → keyOf d = some k → RelV v u → NestedIs s.heap k u
  | .int i, _, _, _, .int _, h, r => by
    rw [keyOf] at h
    cases h
    obtain ⟨t, rfl⟩ := r
    exact .int i t
  | .tuple ds, _, _, k, .tup hs hd, h, r => by
    rw [keyOf] at h
    cases q : keysOf ds with
    | none => rw [q] at h; cases h
    | some ks =>
      rw [q] at h
      cases h
      obtain ⟨its, rv, ⟨o, e, c, n, hdat⟩, _⟩ := I.tuple hs
      cases r
      exact .tup e c hdat (by simpa using dpa_key I hd q rv)
  | .none, _, _, _, _, h, _ => by simp [keyOf] at h
  | .bool _, _, _, _, _, h, _ => by simp [keyOf] at h
  | .str _, _, _, _, _, h, _ => by simp [keyOf] at h
  | .list _, _, _, _, _, h, _ => by simp [keyOf] at h
  | .dict _, _, _, _, _, h, _ => by simp [keyOf] at h
theorem dpa_key (I : Inv X pins σ H s) : ∀ {ds : List PyData} {vs : List V} {us : List Value} {ks : List NestedKey}, DpAll X.K H vs ds → keysOf ds = some ks → Vals vs us → NestedAll s.heap ks us
  | [], _, _, ks, .nil, h, .nil => by
    rw [keysOf] at h
    cases h
    exact .nil
  | d :: ds, _, _, ks, .cons hd ht, h, .cons r rt => by
    rw [keysOf] at h
    cases q : keyOf d with
    | none => rw [q] at h; cases h
    | some k =>
      cases q2 : keysOf ds with
      | none => rw [q, q2] at h; cases h
      | some ks' =>
        rw [q, q2] at h
        cases h
        exact .cons (dp_key I hd q r) (dpa_key I ht q2 rt)
end
end
theorem dct_of {P : Program} {w : World} {H : Hp} {h : Heap} {a : Addr} {es : List Ent} (ok : HOk P w H h) (e : H a = some (dctO a es)) : dctP a es h := (ok a _ e).1
def KeysOk (K : PySem.W.Frag) (H : Hp) (es : List Ent) : Prop := ∀ e ∈ es, ∃ d, keyOf d = some e.1 ∧ Dp K H (.ref e.2.1) d
theorem paired_memR {α β : Type} {F : α → β → Prop} : ∀ {l : List α} {m : List β}, Paired F l m → ∀ y ∈ m, ∃ x ∈ l, F x y
  | _, _, .nil, _, h => by cases h
  | _, _, .cons r t, y, h => by
    rcases List.mem_cons.mp h with e | e
    · exact ⟨_, List.mem_cons_self .., e ▸ r⟩
    · obtain ⟨x, hx, hf⟩ := paired_memR t y e
      exact ⟨x, List.mem_cons_of_mem _ hx, hf⟩
theorem dct_dd {X : Cx} {pins : List (Addr × Obj)} {σ : L2.St} {H : Hp} {s : Shared} {a : Addr} {es : List Ent} (I : Inv X pins σ H s) (e : H a = some (dctO a es)) (hk : KeysOk X.K H es) :
    ∃ xs, Paired REnt es xs ∧ s.heap.DictOfH (nestedKind X.prog X.w) a xs := by
  obtain ⟨⟨_, _, pk⟩, xs, r, o, ds, ep, ho, hc, hd, he, hn⟩ := dct_of I.hok e
  refine ⟨xs, r, o, ds, ep, ho, hc, hd, he _ _, fun x hx => ?_, hn⟩
  obtain ⟨p, hp, e1, e2, _⟩ := paired_memR r x hx
  obtain ⟨d, hd1, hd2⟩ := hk p hp
  rw [← e1, ← e2]
  exact ⟨dp_key I hd2 hd1 rfl, (pk p hp).2⟩
def atE (es : List Ent) (k : NestedKey) : Option V := (es.find? fun e => decide (e.1 = k)).map (·.2.2)
theorem atE_rel {es : List Ent} {xs : List (NestedKey × Addr × Value)} (r : Paired REnt es xs) (k : NestedKey) : RelO (atE es k) ((atKey xs k).map (·.2)) := by
  unfold atE atKey
  induction r with
  | nil => exact True.intro
  | @cons p q ps qs h t ih =>
    obtain ⟨h1, h2, h3⟩ := h
    by_cases z : p.1 = k
    · rw [List.find?_cons_of_pos (by simpa using z), List.find?_cons_of_pos (by simpa using h1.symm.trans z)]
      exact h3
    · rw [List.find?_cons_of_neg (by simpa using z), List.find?_cons_of_neg (by simpa using fun y => z (h1.trans y))]
      exact ih
theorem room8 {A : Around} (hu : A.units + 64 < cLine) {P : Program} {w : World} : (nestedKind P w).room A.in1 := by
  show A.units + 1 + 8 < cLine
  omega
def KeyV (K : PySem.W.Frag) (H : Hp) (x : V) (b : Addr) (k : NestedKey) : Prop := x = .ref b ∧ k.depth ≤ 8 ∧ ∃ d, keyOf d = some k ∧ Dp K H x d
theorem keyV_is {X : Cx} {pins : List (Addr × Obj)} {σ : L2.St} {H : Hp} {s : Shared} {x : V} {b : Addr} {k : NestedKey} {u : Value} (I : Inv X pins σ H s) (h : KeyV X.K H x b k) (r : RelV x u) : u = .ref b ∧ (nestedKind X.prog X.w).is s.heap k b := by
  obtain ⟨rfl, hd, d, h1, h2⟩ := h
  obtain rfl : u = .ref b := r
  exact ⟨rfl, dp_key I h2 h1 rfl, hd⟩
def rDIn (K : PySem.W.Frag) (neg : Bool) : R2 := fun x y H Q => ∃ b k d es, KeyV K H x b k ∧ y = .ref d ∧ H d = some (dctO d es) ∧ KeysOk K H es ∧ Q (.bl (if neg then !(atE es k).isSome else (atE es k).isSome)) H
def rDIx (K : PySem.W.Frag) : R2 := fun x y H Q => ∃ b k d es v, KeyV K H y b k ∧ x = .ref d ∧ H d = some (dctO d es) ∧ KeysOk K H es ∧ atE es k = some v ∧ Q v H
def rDLen (K : PySem.W.Frag) : List V → Hp → VK → Prop := fun vs H Q => ∃ d es, vs = [.ref d] ∧ H d = some (dctO d es) ∧ KeysOk K H es ∧ Q (.int (es.length : Int)) H
def rDList (K : PySem.W.Frag) : List V → Hp → VK → Prop := fun vs H Q => ∃ d es, vs = [.ref d] ∧ H d = some (dctO d es) ∧ KeysOk K H es ∧ ∀ p, H p = none → Q (.ref p) (upd H p (.lst (es.map fun e => V.ref e.2.1)))
section
variable {X : Cx}
theorem op_din (hu : X.A.units + 64 < cLine) : OpR X (compareOp .In) (rDIn X.K false) := fun pins s σ H x y v u Q I rx ry h => by
  obtain ⟨b, k, d, es, hk, rfl, hd, ko, q⟩ := h
  obtain ⟨rfl, is⟩ := keyV_is I hk rx
  obtain rfl : u = .ref d := ry
  obtain ⟨xs, r, dd⟩ := dct_dd I hd ko
  refine wpAny_in_heap (room8 hu) is (dct_of I.hok hd).1.2.1 dd ?_
  have e := (atE_rel r k).isSome_eq
  rw [Option.isSome_map] at e
  rw [← e]
  exact ⟨.bl (atE es k).isSome, H, I.tok _, rfl, q⟩
theorem op_dnotin (hu : X.A.units + 64 < cLine) : OpR X (compareOp .NotIn) (rDIn X.K true) := fun pins s σ H x y v u Q I rx ry h => by
  obtain ⟨b, k, d, es, hk, rfl, hd, ko, q⟩ := h
  obtain ⟨rfl, is⟩ := keyV_is I hk rx
  obtain rfl : u = .ref d := ry
  obtain ⟨xs, r, dd⟩ := dct_dd I hd ko
  refine wpAny_notIn_heap (room8 hu) is (dct_of I.hok hd).1.2.1 dd ?_
  have e := (atE_rel r k).isSome_eq
  rw [Option.isSome_map] at e
  rw [← e]
  exact ⟨.bl (!(atE es k).isSome), H, I.tok _, rfl, q⟩
theorem ix_dct (hu : X.A.units + 64 < cLine) : IxR X (rDIx X.K) := fun value slice pins s σ H x y v u Q I rx ry h hs => by
  obtain ⟨b, k, d, es, z, hk, rfl, hd, ko, hz, q⟩ := h
  obtain ⟨rfl, is⟩ := keyV_is I hk ry
  obtain rfl : v = .ref d := rx
  obtain ⟨xs, r, dd⟩ := dct_dd I hd ko
  obtain ⟨w', hw, rw'⟩ := RelO.some_of (v := z) (o := (atKey xs k).map (·.2)) (by rw [← hz]; exact atE_rel r k)
  obtain ⟨p, hp, hp2⟩ := Option.map_eq_some_iff.mp hw
  refine tail_any dd.typeIs slot_dict_getitem.lookup (wpAny_getItem_heap (room8 hu) is dd hp ?_) hs
  rw [hp2]
  exact ⟨z, H, I.tok _, rw', q⟩
theorem call_lenDct : CallR X (.builtin "len") (rDLen X.K) := by
  intro pins s σ H xs us Q I r h
  obtain ⟨d, es, rfl, hd, ko, q⟩ := h
  obtain ⟨u, rfl, rx⟩ := vals1 r
  obtain rfl : u = .ref d := rx
  obtain ⟨⟨z, hs, _⟩, _⟩ := dct_of I.hok hd
  obtain ⟨ys, rel, dd⟩ := dct_dd I hd ko
  have hl : es.length = ys.length := Paired.length rel
  refine call_len_dictH hs dd (by rw [← hl]; rw [sizeLine_eq] at z; omega) ?_
  rw [← hl]
  exact ⟨.int (es.length : Int), H, I.tok _, ⟨_, rfl⟩, q⟩
theorem ent_refs : ∀ {kvs : List Ent} {ks : List (NestedKey × Addr × Value)}, Paired REnt kvs ks → (kvs.map fun e => V.ref e.2.1) = (ks.map fun x => x.2.1).map V.ref
  | _, _, .nil => rfl
  | _, _, .cons h t => by
    rw [List.map_cons, List.map_cons, List.map_cons, h.2.1, ent_refs t]
theorem call_listDct (hc : X.calm = true) : CallR X (.type "list") (rDList X.K) := by
  intro pins s σ H xs us Q I r h
  obtain ⟨d, kvs, rfl, hd, ko, q⟩ := h
  obtain ⟨u, rfl, rx⟩ := r.one
  cases rx
  obtain ⟨⟨z, hs, _⟩, ks, pr, o, es, ep, ho, hx, hdt, he, hn⟩ := dct_of I.hok hd
  have he := he X.prog X.w
  have l1 : es.size = ks.length := size_of_entries he
  have l2 : kvs.length = ks.length := Paired.length pr
  refine PySem.W.kdl_call (kdl_raw hs hx hdt) (I.ok.hd hc) ho (by omega) fun h' tk acc' c' kp e it => ?_
  have ea : acc'.toList = ks.map fun x => Value.ref x.2.1 := by
    have hl : acc'.toList.length = ks.length := by rw [Array.length_toList, it.1]; exact l1
    apply List.ext_getElem?
    intro j
    rw [List.getElem?_map]
    cases hj : acc'.toList[j]? with
    | none =>
      have h1 := List.getElem?_eq_none_iff.mp hj
      rw [List.getElem?_eq_none (by omega)]
      all_goals rfl
    | some v =>
      obtain ⟨en, hen, hv⟩ := it.2 j v (by rw [← Array.getElem?_toList]; exact hj)
      have qe := entry_at he j
      rw [hen] at qe
      cases hb : ks[j]? with
      | none =>
        rw [hb] at qe
        exact nomatch (show some en = none from qe)
      | some b =>
        rw [hb] at qe
        have e2 : en = entryOfKey (nestedKind X.prog X.w) b := Option.some.inj qe
        rw [hv, e2]
        all_goals rfl
  have eks := ent_refs pr
  have eb : acc'.toList = (ks.map fun x => x.2.1).map Value.ref := by rw [ea, List.map_map]; all_goals rfl
  have rv : Vals (kvs.map fun e => V.ref e.2.1) acc'.toList := by rw [eb, eks]; exact vals_refs _
  have hz : (kvs.map fun e => V.ref e.2.1).length ≤ sizeLine := by rw [List.length_map]; omega
  refine ⟨.ref s.heap.objs.size, _, I.laid (t' := tk) (o := .lst (kvs.map fun e => V.ref e.2.1)) kp (Nat.le_refl _) ?_, rfl, q _ (I.hok.fresh (Nat.le_refl _))⟩
  exact ⟨hz, acc'.toList, c', rv, by rw [Array.toArray_toList]; exact e⟩
end
end DK
namespace DL
open PySem L2
theorem dpa_len {K : PySem.W.Frag} {H : Hp} : ∀ {vs : List V} {ds : List PyData}, DpAll K H vs ds → vs.length = ds.length
  | _, _, .nil => rfl
  | _, _, .cons _ r => congrArg Nat.succ (dpa_len r)
theorem dpa_app {K : PySem.W.Frag} {H : Hp} : ∀ {vs ws : List V} {ds es : List PyData}, DpAll K H vs ds → DpAll K H ws es → DpAll K H (vs ++ ws) (ds ++ es)
  | _, _, _, _, .nil, r => r
  | _, _, _, _, .cons q t, r => .cons q (dpa_app t r)
theorem dpa_get {K : PySem.W.Frag} {H : Hp} : ∀ {vs : List V} {ds : List PyData} {i : Nat} {d : PyData}, DpAll K H vs ds → ds[i]? = some d → ∃ v, vs[i]? = some v ∧ Dp K H v d
  | _, _, _, _, .nil, h => by simp at h
  | _, _, 0, _, .cons q _, h => by
    have e := Option.some.inj h
    subst e
    exact ⟨_, rfl, q⟩
  | _, _, i + 1, _, .cons _ r, h => dpa_get (i := i) r h
theorem dpa_take {K : PySem.W.Frag} {H : Hp} : ∀ {vs : List V} {ds : List PyData} (n : Nat), DpAll K H vs ds → DpAll K H (vs.take n) (ds.take n)
  | _, _, 0, _ => .nil
  | _, _, _ + 1, .nil => .nil
  | _, _, n + 1, .cons q r => .cons q (dpa_take n r)
theorem dpa_drop {K : PySem.W.Frag} {H : Hp} : ∀ {vs : List V} {ds : List PyData} (n : Nat), DpAll K H vs ds → DpAll K H (vs.drop n) (ds.drop n)
  | _, _, 0, r => r
  | _, _, _ + 1, .nil => .nil
  | _, _, n + 1, .cons _ r => dpa_drop n r
theorem dpa_ints {K : PySem.W.Frag} {H : Hp} : ∀ {vs : List V} {ns : List Int}, DpAll K H vs (ns.map .int) → vs = ns.map V.int
  | [], [], _ => rfl
  | _ :: _, n :: ns, .cons q r => by
    cases q
    rw [dpa_ints r]
    rfl
theorem dpa_bools {K : PySem.W.Frag} {H : Hp} : ∀ {vs : List V} {ns : List Bool}, DpAll K H vs (ns.map .bool) → vs = ns.map V.bl
  | [], [], _ => rfl
  | _ :: _, n :: ns, .cons q r => by
    cases q
    rw [dpa_bools r]
    rfl
theorem dpa_ofInts {K : PySem.W.Frag} {H : Hp} : ∀ (ns : List Int), DpAll K H (ns.map V.int) (ns.map .int)
  | [] => .nil
  | n :: ns => .cons (.int n) (dpa_ofInts ns)
theorem fr_none {H : Hp} {a : Addr} (h : H a = none) : Fr H a := fun o e => by rw [h] at e; cases e
theorem plain_tbl {o : HO} (h : PlainO o) : ∀ ps, o ≠ .tbl ps := fun ps z => by subst z; exact h
section
variable {K : PySem.W.Frag} {b : Bg} {I H I' H' I2 H2 : Hp}
theorem Ext.re (e : Ext K b I H I' H') : Ext K b I' H' I' H' := Ext.refl e.s e.b
theorem Ext.new {p : Addr} {o : HO} (S : Same I H) (B : Bag K b I H) (hp : H p = none) (ho : PlainO o) : Ext K b I H (upd I p o) (upd H p o) := by
  have ip : I p = none := by
    cases q : I p with
    | none => rfl
    | some u => rw [S p u q] at hp; cases hp
  obtain ⟨n, pl, tb, l, ns, x, q, m, c, e, sl, r⟩ := B
  have pb : b.a ≠ p := ne_of_none e hp
  refine ⟨fun a u h => ?_, fun a u _ _ h => ?_, fun a u n h _ => ?_, fun l xs h => ⟨xs, by rw [upd_ne pb]; exact h⟩, fun a u h => ?_, ?_, fun a ps h => ?_, tb.ext fun a u h => ?_, l, ns, x, q, m, c, ?_, ?_, r⟩
  · rw [upd_ne (ne_of_none h ip)]; exact h
  · rw [upd_ne (ne_of_none h hp)]; exact h
  · rw [upd_ne (ne_of_none h hp)]; exact n
  · by_cases z : a = p
    · subst z; rw [upd_same] at h ⊢; exact h
    · rw [upd_ne z] at h ⊢; exact S a u h
  · rw [upd_ne pb]; exact n
  · by_cases z : a = p
    · subst z; rw [upd_same] at h; cases h; exact ho
    · rw [upd_ne z] at h; exact pl a _ h
  · rw [upd_ne (ne_of_none h hp)]; exact h
  · rw [upd_ne pb]; exact e
  · exact sl_mono (fun a u h => by rw [upd_ne (ne_of_none h ip)]; exact h) sl
theorem Ext.newH {p : Addr} {o : HO} (S : Same I H) (B : Bag K b I H) (hp : H p = none) : Ext K b I H I (upd H p o) := by
  obtain ⟨n, pl, tb, l, ns, x, q, m, c, e, sl, r⟩ := B
  refine ⟨Same.refl I, fun a u _ _ h => ?_, fun a u n _ _ => n, fun l xs h => ⟨xs, by rw [upd_ne (ne_of_none h hp)]; exact h⟩, fun a u h => ?_, n, pl, tb.ext fun a u h => ?_, l, ns, x, q, m, c, ?_, sl, r⟩
  · rw [upd_ne (ne_of_none h hp)]; exact h
  · rw [upd_ne (ne_of_none (S a u h) hp)]; exact S a u h
  · rw [upd_ne (ne_of_none h hp)]; exact h
  · rw [upd_ne (ne_of_none e hp)]; exact e
end
section
variable {K : PySem.W.Frag} {b : Bg} {H0 I H I' H' : Hp} {v : V} {r : DV} {σ : St} {δ : Env}
theorem LstR.read {ds : List PyData} (S : Same I H) (l : LstR r ds) (h : Res K b H0 I H v r) : ∃ a xs, v = .ref a ∧ SqL K H a xs ∧ DpAll K I xs ds := by
  rcases l with rfl | rfl | rfl
  · obtain ⟨a, xs, rfl, _, _, _, ha, hd⟩ := h
    exact ⟨a, xs, rfl, .inl (.inl ha), hd⟩
  · obtain ⟨a, xs, rfl, ha, _, _, hd⟩ := h
    exact ⟨a, xs, rfl, .inl (.inl ha), hd⟩
  · have h : Dp K I v (.list ds) := h
    cases h with
    | lst q r => exact ⟨_, _, rfl, sl_mono S q, r⟩
theorem tup_read {ds : List PyData} (S : Same I H) (h : Res K b H0 I H v (.dat (.tuple ds))) : ∃ a xs, v = .ref a ∧ SqT K H a xs ∧ DpAll K I xs ds := by
  have h : Dp K I v (.tuple ds) := h
  cases h with
  | tup q r => exact ⟨_, _, rfl, st_mono S q, r⟩
theorem int_read {i : Int} (h : Res K b H0 I H v (dint i)) : v = .int i := by
  have h : Dp K I v (.int i) := h
  cases h; rfl
theorem bl_read {i : Bool} (h : Res K b H0 I H v (dbl i)) : v = .bl i := by
  have h : Dp K I v (.bool i) := h
  cases h; rfl
theorem str_read {i : Str} (h : Res K b H0 I H v (dstr i)) : v = .str i := by
  have h : Dp K I v (.str i) := h
  cases h; rfl
theorem non_read (h : Res K b H0 I H v (.dat .none)) : v = .non := by
  have h : Dp K I v .none := h
  cases h; rfl
theorem EnvR.setD (h : EnvR K b H0 I H σ δ) {i : Nat} (hi : i < δ.length) (q : Res K b H0 I H v r) (hr : ∀ ds, r ≠ .own ds) : EnvR K b H0 I H (σ.set i (some v)) (δ.set i (some r)) :=
  h.set hi q fun _ ds e => absurd e (hr ds)
end
end DL
namespace DL
open PySem L2
section
variable {K : PySem.W.Frag} {b : Bg} {I0 H0 I H I' H' : Hp}
theorem Ok.re (o : Ok K b I H) : Ext K b I H I H := Ext.refl o.s o.b
theorem Ok.new {p : Addr} {o : HO} (k : Ok K b I H) (hp : H p = none) (ho : PlainO o) : Ext K b I H (upd I p o) (upd H p o) := Ext.new k.s k.b hp ho
theorem Ok.newH {p : Addr} {o : HO} (k : Ok K b I H) (hp : H p = none) : Ext K b I H I (upd H p o) := Ext.newH k.s k.b hp
theorem Ok.inone (k : Ok K b I H) {p : Addr} (hp : H p = none) : I p = none := by
  cases q : I p with
  | none => rfl
  | some u => rw [k.s p u q] at hp; cases hp
theorem Res.since {H1 : Hp} {v : V} {r : DV} (h : Res K b H1 I H v r) (f : ∀ a, Fr H1 a → Fr H0 a) : Res K b H0 I H v r := by
  cases r with
  | own ds =>
    obtain ⟨a, xs, rfl, h0, hi, hb, ha, hd⟩ := h
    exact ⟨a, xs, rfl, f a h0, hi, hb, ha, hd⟩
  | dct own kvs =>
    obtain ⟨a, xs, rfl, h0, h⟩ := h
    exact ⟨a, xs, rfl, fun z => f a (h0 z), h⟩
  | _ => exact h
end
section
variable (K : PySem.W.Frag) (b : Bg)
def OpD (r : R2) (x y : DV) (P : DV → Prop) : Prop := ∀ (H0 I H : Hp) (v w : V), Ok K b I H → Res K b H0 I H v x → Res K b H0 I H w y → ∀ Q : VK,
  (∀ z u I' H', P z → Ext K b I H I' H' → Res K b H I' H' u z → Q u H') → r v w H Q
def UnD (r : V → Hp → VK → Prop) (x : DV) (P : DV → Prop) : Prop := ∀ (H0 I H : Hp) (v : V), Ok K b I H → Res K b H0 I H v x → ∀ Q : VK,
  (∀ z u I' H', P z → Ext K b I H I' H' → Res K b H I' H' u z → Q u H') → r v H Q
def CbD (r : List V → Hp → VK → Prop) (rs : List DV) (P : DV → Prop) : Prop := ∀ (H0 I H : Hp) (vs : List V), Ok K b I H → ResA K b H0 I H vs rs → ∀ Q : VK,
  (∀ z u I' H', P z → Ext K b I H I' H' → Res K b H I' H' u z → Q u H') → r vs H Q
end
section
variable {K : PySem.W.Frag} {b : Bg} {I0 H0 H1 I H I' H' : Hp} {δ : Env} {ta tb te : TE} {P Pa Pb : DV → Prop}
theorem ResA.since (f : ∀ a, Fr H1 a → Fr H0 a) : ∀ {vs : List V} {rs : List DV}, ResA K b H1 I H vs rs → ResA K b H0 I H vs rs
  | _, _, .nil => .nil
  | _, _, .cons q r => .cons (q.since f) (ResA.since f r)
theorem EvD.to {r s : DV} (h : EvD K b I0 H0 te δ (fun x => x = r)) (e : r = s) : EvD K b I0 H0 te δ (fun x => x = s) := e ▸ h
theorem ev_var {i : Nat} {r : DV} (h : δ[i]? = some (some r)) (hr : ∀ ds, r ≠ .own ds := by intro _ z; cases z) (hd2 : ∀ kvs, r ≠ .dct true kvs := by intro _ z; cases z) : EvD K b I0 H0 (tVar i) δ (fun x => x = r) := fun σ I H e n Q q => by
  obtain ⟨v, e1, e2⟩ := n.at_ i r h
  refine ⟨v, e1, q r v I H rfl e.re ?_⟩
  cases r with
  | own ds => exact absurd rfl (hr ds)
  | dat d => exact e2
  | bor ds => exact e2
  | raw u => exact e2
  | bag => exact e2
  | dct own kvs =>
    cases own with
    | true => exact absurd rfl (hd2 kvs)
    | false =>
      obtain ⟨a, es, rfl, _, z⟩ := e2
      exact ⟨a, es, rfl, (fun z => by cases z), z⟩
theorem ev_varK {i : Nat} {kvs : List (PyData × PyData)} (h : δ[i]? = some (some (.dct true kvs))) : EvD K b I0 H0 (tVar i) δ (fun x => x = .dct false kvs) := fun σ I H e n Q q => by
  obtain ⟨v, e1, e2⟩ := n.at_ i _ h
  obtain ⟨a, es, rfl, _, z⟩ := e2
  exact ⟨_, e1, q _ _ I H rfl e.re ⟨a, es, rfl, (fun z => by cases z), z⟩⟩
theorem ev_varB {i : Nat} {ds : List PyData} (h : δ[i]? = some (some (.own ds))) : EvD K b I0 H0 (tVar i) δ (fun x => x = .bor ds) := fun σ I H e n Q q => by
  obtain ⟨v, e1, e2⟩ := n.at_ i _ h
  obtain ⟨a, xs, rfl, _, hi, hb, ha, hd⟩ := e2
  exact ⟨_, e1, q _ _ I H rfl e.re ⟨a, xs, rfl, ha, hb, hi, hd⟩⟩
theorem frz_res {ds : List PyData} {v : V} {I2 H2 : Hp} (e : Ext K b I2 H2 I' H') (rs : Res K b H2 I' H' v (.own ds)) : ∃ I'', Ext K b I2 H2 I'' H' ∧ Res K b H2 I'' H' v (.dat (.list ds)) := by
  obtain ⟨a, xs, rfl, h0, hi, hb, ha, hd⟩ := rs
  have s1 : Same I' (upd I' a (.lst xs)) := fun c o h => by rw [upd_ne (ne_of_none h hi)]; exact h
  exact ⟨_, e.frz h0 hi hb ha, .lst (.inl (.inl upd_same)) (dpa_mono s1 hd)⟩
theorem free_of (e : Ext K b I H I' H') : ∀ a, Fr H' a → Fr H a := fun _ h => e.free h
theorem ev_un {r : V → Hp → VK → Prop} (ha : EvD K b I0 H0 ta δ Pa) (ho : ∀ x, Pa x → UnD K b r x P) : EvD K b I0 H0 (tUn r ta) δ P := fun σ I H e n Q q =>
  ha σ I H e n _ fun x v I1 H1 p1 x1 r1 => ho x p1 H I1 H1 v x1.ok r1 Q fun z u I3 H3 p3 x3 r3 => q z u I3 H3 p3 (x1.trans x3) (r3.since (free_of x1))
theorem ea_nil : EvA K b I0 H0 tNil δ (fun x => x = []) := fun σ I H e n Q q => q [] [] I H rfl e.re .nil
theorem ea_cons {tr : TA} {A : List DV → Prop} {B : List DV → Prop} (ha : EvD K b I0 H0 ta δ Pa) (hr : EvA K b I0 H0 tr δ A) (hB : ∀ r rs, Pa r → A rs → B (r :: rs)) : EvA K b I0 H0 (tCons ta tr) δ B := fun σ I H e n Q q =>
  ha σ I H e n _ fun x v I1 H1 p1 x1 r1 => hr σ I1 H1 (e.trans x1) (n.ext x1) _ fun rs vs I2 H2 p2 x2 r2 =>
    q (x :: rs) (v :: vs) I2 H2 (hB x rs p1 p2) (x1.trans x2) (.cons (r1.ext x2) (r2.since (free_of x1)))
theorem ea_cons1 {tr : TA} {r : DV} {rs : List DV} (ha : EvD K b I0 H0 ta δ (fun x => x = r)) (hr : EvA K b I0 H0 tr δ (fun x => x = rs)) : EvA K b I0 H0 (tCons ta tr) δ (fun x => x = r :: rs) :=
  ea_cons ha hr fun _ _ e f => by rw [e, f]
theorem ev_cb {r : List V → Hp → VK → Prop} {t : TA} {A : List DV → Prop} (ha : EvA K b I0 H0 t δ A) (hc : ∀ rs, A rs → CbD K b r rs P) : EvD K b I0 H0 (tCB r t) δ P := fun σ I H e n Q q =>
  ha σ I H e n _ fun rs vs I1 H1 p1 x1 r1 => hc rs p1 H I1 H1 vs x1.ok r1 Q fun z u I2 H2 p2 x2 r2 => q z u I2 H2 p2 (x1.trans x2) (r2.since (free_of x1))
theorem et_test {A : Bool → Prop} (h : EvD K b I0 H0 te δ (fun x => ∃ c, x = dbl c ∧ A c)) : EvT K b I0 H0 (tTest te) δ A := fun σ I H e n Q q =>
  h σ I H e n _ fun r v I' H' p x rs => by
    obtain ⟨c, rfl, p⟩ := p
    exact ⟨c, bl_read rs, q c I' H' p x⟩
theorem et_B {A : Bool → Prop} (h : EvD K b I0 H0 te δ (fun x => ∃ c, x = dbl c ∧ A c)) : EvT K b I0 H0 (tB te) δ A := fun σ I H e n Q q =>
  h σ I H e n _ fun r v I' H' p x rs => by
    obtain ⟨c, rfl, p⟩ := p
    exact ⟨c, bl_read rs, q c I' H' p x⟩
theorem et_and {t u : TT} {A B C : Bool → Prop} (h1 : EvT K b I0 H0 t δ A) (h2 : A true → EvT K b I0 H0 u δ B) (h3 : A false → C false) (h4 : A true → ∀ c, B c → C c) : EvT K b I0 H0 (tAnd t u) δ C := fun σ I H e n Q q =>
  h1 σ I H e n _ fun c I1 H1 p x => by
    cases c with
    | true => exact h2 p σ I1 H1 (e.trans x) (n.ext x) Q fun c I2 H2 p2 x2 => q c I2 H2 (h4 p c p2) (x.trans x2)
    | false => exact q false I1 H1 (h3 p) x
theorem et_or {t u : TT} {A B C : Bool → Prop} (h1 : EvT K b I0 H0 t δ A) (h2 : A false → EvT K b I0 H0 u δ B) (h3 : A true → C true) (h4 : A false → ∀ c, B c → C c) : EvT K b I0 H0 (tOr t u) δ C := fun σ I H e n Q q =>
  h1 σ I H e n _ fun c I1 H1 p x => by
    cases c with
    | false => exact h2 p σ I1 H1 (e.trans x) (n.ext x) Q fun c I2 H2 p2 x2 => q c I2 H2 (h4 p c p2) (x.trans x2)
    | true => exact q true I1 H1 (h3 p) x
theorem et_not {t : TT} {A : Bool → Prop} (h1 : EvT K b I0 H0 t δ A) : EvT K b I0 H0 (tNot t) δ (fun c => A (!c)) := fun σ I H e n Q q =>
  h1 σ I H e n _ fun c I1 H1 p x => q (!c) I1 H1 (by show A (!(!c)); rw [Bool.not_not]; exact p) x
theorem ev_if {t : TT} {A : Bool → Prop} (h1 : EvT K b I0 H0 t δ A) (h2 : A true → EvD K b I0 H0 ta δ P) (h3 : A false → EvD K b I0 H0 tb δ P) : EvD K b I0 H0 (tIf t ta tb) δ P := fun σ I H e n Q q =>
  h1 σ I H e n _ fun c I1 H1 p x => by
    cases c with
    | true => exact h2 p σ I1 H1 (e.trans x) (n.ext x) Q fun r v I2 H2 p2 x2 r2 => q r v I2 H2 p2 (x.trans x2) (r2.since (free_of x))
    | false => exact h3 p σ I1 H1 (e.trans x) (n.ext x) Q fun r v I2 H2 p2 x2 r2 => q r v I2 H2 p2 (x.trans x2) (r2.since (free_of x))
theorem ev_andV {A : Bool → Prop} (h1 : EvD K b I0 H0 ta δ (fun x => ∃ c, x = dbl c ∧ A c)) (h2 : A true → EvD K b I0 H0 tb δ P) (h3 : A false → P (dbl false)) : EvD K b I0 H0 (tAndV ta tb) δ P := fun σ I H e n Q q =>
  h1 σ I H e n _ fun r v I1 H1 p x rs => by
    obtain ⟨c, rfl, p⟩ := p
    refine ⟨c, bl_read rs, ?_⟩
    cases c with
    | true => exact h2 p σ I1 H1 (e.trans x) (n.ext x) Q fun r v I2 H2 p2 x2 r2 => q r v I2 H2 p2 (x.trans x2) (r2.since (free_of x))
    | false => exact q _ _ I1 H1 (h3 p) x (Dp.bl false)
theorem ev_notV {A : Bool → Prop} (h1 : EvD K b I0 H0 ta δ (fun x => ∃ c, x = dbl c ∧ A c)) (h2 : ∀ c, A c → P (dbl (!c))) : EvD K b I0 H0 (tNotV ta) δ P := fun σ I H e n Q q =>
  h1 σ I H e n _ fun r v I1 H1 p x rs => by
    obtain ⟨c, rfl, p⟩ := p
    exact ⟨c, bl_read rs, q _ _ I1 H1 (h2 c p) x (Dp.bl _)⟩
theorem resA_dats : ∀ {vs : List V} {ds : List PyData}, ResA K b H0 I H vs (ds.map .dat) → DpAll K I vs ds
  | [], [], _ => .nil
  | _ :: _, d :: ds, .cons q r => .cons q (resA_dats r)
theorem newT_res {I1 H1 : Hp} {xs : List V} {ds : List PyData} {Q : VK} (k : Ok K b I1 H1) (hd : DpAll K I1 xs ds) (q : ∀ v I' H', Ext K b I1 H1 I' H' → Dp K I' v (.tuple ds) → Q v H') : TF.NewT xs H1 Q := fun p o hp ho => by
  have x2 := k.new (o := .frz o (.tup xs)) hp ho
  exact q _ _ _ x2 (.tup (.inl (.inr ⟨o, upd_same⟩)) (dpa_mono x2.i hd))
theorem ev_tup {t : TA} {A : List PyData → Prop} (h : EvA K b I0 H0 t δ (fun rs => ∃ ds, rs = ds.map .dat ∧ ds.length ≤ 100000 ∧ A ds)) : EvD K b I0 H0 (TF.tTupF t) δ (fun x => ∃ ds, x = .dat (.tuple ds) ∧ A ds) := fun σ I H e n Q q =>
  h σ I H e n _ fun rs vs I1 H1 p x r => by
    obtain ⟨ds, rfl, hl, p⟩ := p
    have hd := resA_dats r
    exact ⟨Nat.le_trans (by rw [dpa_len hd]; exact hl) (by decide : 100000 ≤ sizeLine), newT_res x.ok hd fun v I' H' x2 d => q _ v I' H' ⟨ds, rfl, p⟩ (x.trans x2) d⟩
theorem ev_lst {t : TA} {A : List PyData → Prop} (h : EvA K b I0 H0 t δ (fun rs => ∃ ds, rs = ds.map .dat ∧ ds.length ≤ 100000 ∧ A ds)) : EvD K b I0 H0 (tLst t) δ (fun x => ∃ ds, x = .own ds ∧ A ds) := fun σ I H e n Q q =>
  h σ I H e n _ fun rs vs I1 H1 p x r => by
    obtain ⟨ds, rfl, hl, p⟩ := p
    have hd := resA_dats r
    refine ⟨Nat.le_trans (by rw [dpa_len hd]; exact hl) (by decide : 100000 ≤ sizeLine), fun p' hp => ?_⟩
    have x2 := x.ok.newH (o := .lst vs) hp
    exact q _ _ _ _ ⟨ds, rfl, p⟩ (x.trans x2) ⟨p', vs, rfl, x.free (fr_none hp), x.ok.inone hp, x.ok.nb hp, upd_same, hd⟩
end
end DL
namespace DL
open PySem L2 RZ
section
variable {K : PySem.W.Frag} {b : Bg} {H0 I H I' H' : Hp}
theorem Ext.mut {D : Addr} {xs : List V} {o : HO} (e : Ext K b I H I' H') (h0 : Fr H D) (hi : I' D = none) (hb : D ≠ b.a) (hD : H' D = some (.lst xs)) : Ext K b I H I' (upd H' D o) := by
  obtain ⟨n, pl, tb, l, ns, x, q, m, c, e1, sl, r⟩ := e.b
  refine ⟨e.i, fun a u n t h => ?_, e.n, fun l xs h => (let ⟨ys, h1⟩ := e.k l xs h; ⟨ys, by rw [upd_ne (fun z => hb z.symm)]; exact h1⟩), fun a u h => ?_, n, pl, tabs_upd tb hD, l, ns, x, q, m, c, ?_, sl, r⟩
  · rw [upd_ne (fun (z : a = D) => fr_not h0 (z ▸ h) t)]; exact e.h a u n t h
  · rw [upd_ne (ne_of_none h hi)]; exact e.s a u h
  · rw [upd_ne (fun z => hb z.symm)]; exact e1
end
section
variable {K : PySem.W.Frag} {b : Bg} {i j : Int}
theorem cb_lenL {x : DV} {ds : List PyData} (l : LstR x ds) : CbD K b (fun xs H Q => ∃ p ys, xs = [.ref p] ∧ (SqL K H p ys ∨ SqT K H p ys) ∧ Q (.int ys.length) H) [x] (fun r => r = dint ds.length) := fun H0 I H vs k rs Q q => by
  cases rs with
  | cons r1 rr =>
    cases rr
    obtain ⟨a, xs, rfl, hs, hd⟩ := l.read k.s r1
    exact ⟨a, xs, rfl, .inl hs, q _ _ I H rfl k.re (by rw [dpa_len hd]; exact Dp.int _)⟩
theorem cb_lenT {ds : List PyData} : CbD K b (fun xs H Q => ∃ p ys, xs = [.ref p] ∧ (SqL K H p ys ∨ SqT K H p ys) ∧ Q (.int ys.length) H) [.dat (.tuple ds)] (fun r => r = dint ds.length) := fun H0 I H vs k rs Q q => by
  cases rs with
  | cons r1 rr =>
    cases rr
    obtain ⟨a, xs, rfl, hs, hd⟩ := tup_read k.s r1
    exact ⟨a, xs, rfl, .inr hs, q _ _ I H rfl k.re (by rw [dpa_len hd]; exact Dp.int _)⟩
theorem cb_tupleL {x : DV} {ds : List PyData} (l : LstR x ds) : CbD K b (TF.rTupleF K) [x] (fun r => r = .dat (.tuple ds)) := fun H0 I H vs k rs Q q => by
  cases rs with
  | cons r1 rr =>
    cases rr
    obtain ⟨a, xs, rfl, hs, hd⟩ := l.read k.s r1
    exact ⟨a, xs, rfl, .inl ⟨hs, newT_res k hd fun v I' H' x2 d => q _ v I' H' rfl x2 d⟩⟩
theorem cb_tupleT {ds : List PyData} : CbD K b (TF.rTupleF K) [.dat (.tuple ds)] (fun r => r = .dat (.tuple ds)) := fun H0 I H vs k rs Q q => by
  cases rs with
  | cons r1 rr =>
    cases rr
    obtain ⟨a, xs, e, hs, hd⟩ := tup_read k.s r1
    subst e
    exact ⟨a, xs, rfl, .inr ⟨hs, q _ _ I H rfl k.re r1⟩⟩
theorem cb_listL {x : DV} {ds : List PyData} (l : LstR x ds) : CbD K b (fun xs H Q => ∃ p ys, xs = [.ref p] ∧ (SqL K H p ys ∨ SqT K H p ys) ∧ ∀ l, H l = none → Q (.ref l) (upd H l (.lst ys))) [x] (fun r => r = .own ds) := fun H0 I H vs k rs Q q => by
  cases rs with
  | cons r1 rr =>
    cases rr
    obtain ⟨a, xs, rfl, hs, hd⟩ := l.read k.s r1
    exact ⟨a, xs, rfl, .inl hs, fun p hp => q _ _ _ _ rfl (k.newH hp) ⟨p, xs, rfl, fr_none hp, k.inone hp, k.nb hp, upd_same, hd⟩⟩
theorem cb_all {x : DV} {ns : List Bool} (l : LstR x (ns.map .bool)) : CbD K b (rAll K) [x] (fun r => r = dbl (ns.all id)) := fun H0 I H vs k rs Q q => by
  cases rs with
  | cons r1 rr =>
    cases rr
    obtain ⟨a, xs, rfl, hs, hd⟩ := l.read k.s r1
    rw [dpa_bools hd] at hs
    exact ⟨a, ns, rfl, hs, q _ _ I H rfl k.re (Dp.bl _)⟩
theorem cb_any {x : DV} {ns : List Bool} (l : LstR x (ns.map .bool)) : CbD K b (rAny K) [x] (fun r => r = dbl (ns.any id)) := fun H0 I H vs k rs Q q => by
  cases rs with
  | cons r1 rr =>
    cases rr
    obtain ⟨a, xs, rfl, hs, hd⟩ := l.read k.s r1
    rw [dpa_bools hd] at hs
    exact ⟨a, ns, rfl, hs, q _ _ I H rfl k.re (Dp.bl _)⟩
theorem od_cat {ds es : List PyData} (hl : ds.length + es.length ≤ 100000) : OpD K b (TF.rCatF K) (.dat (.tuple ds)) (.dat (.tuple es)) (fun x => x = .dat (.tuple (ds ++ es))) := fun H0 I H v w k r1 r2 Q q => by
  obtain ⟨a, xs, e1, hs, hd⟩ := tup_read k.s r1
  obtain ⟨c, ys, e2, ht, he⟩ := tup_read k.s r2
  subst e1 e2
  have l1 := dpa_len hd
  have l2 := dpa_len he
  refine ⟨a, c, xs, ys, rfl, rfl, hs, ht, Nat.le_trans (by omega) (by decide : 100000 ≤ sizeLine), fun z => ?_, fun _ z => ?_, fun _ _ => newT_res k (dpa_app hd he) fun v I' H' x2 d => q _ v I' H' rfl x2 d⟩
  · subst z
    cases hd
    exact q _ _ I H rfl k.re r2
  · subst z
    cases he
    rw [List.append_nil] at q
    exact q _ _ I H rfl k.re r1
theorem dpa_rep {I : Hp} {xs : List V} {ds : List PyData} (h : DpAll K I xs ds) : ∀ n : Nat, DpAll K I (List.replicate n xs).flatten (List.replicate n ds).flatten
  | 0 => .nil
  | n + 1 => by
    rw [List.replicate_succ, List.replicate_succ, List.flatten_cons, List.flatten_cons]
    exact dpa_app h (dpa_rep h n)
theorem od_rep {ds : List PyData} {n : Int} (h0 : ds ≠ []) (hl : ds.length ≤ 1000) (n0 : -1000 ≤ n) (n1 : n ≤ 1000) : OpD K b (TF.rRepF K) (.dat (.tuple ds)) (dint n) (fun x => x = .dat (.tuple (List.replicate n.toNat ds).flatten)) := fun H0 I H v w k r1 r2 Q q => by
  obtain ⟨a, xs, e1, hs, hd⟩ := tup_read k.s r1
  subst e1
  have l1 := dpa_len hd
  refine ⟨a, n, xs, rfl, int_read r2, hs, fun z => h0 ?_, n0, n1, by omega, fun z => ?_, fun z => ?_, fun _ => newT_res k (dpa_rep hd _) fun v I' H' x2 d => q _ v I' H' rfl x2 d⟩
  · subst z
    exact List.eq_nil_of_length_eq_zero l1.symm
  · have ez : (List.replicate n.toNat ds).flatten = [] := by
      rw [show n.toNat = 0 by omega]
      rfl
    exact newT_res k .nil fun v I' H' x2 d => q (.dat (.tuple [])) v I' H' (by rw [ez]) x2 d
  · subst z
    refine q (.dat (.tuple ds)) _ I H ?_ k.re r1
    simp
end
def DpR (K : PySem.W.Frag) : Rel := fun I _ v d => Dp K I v d
def PairR (K : PySem.W.Frag) : Rel := fun I H v d => ∃ T x1 x2 d1 d2, v = .ref T ∧ H T = some (.tup [x1, x2]) ∧ d = .tuple [d1, d2] ∧ Dp K I x1 d1 ∧ Dp K I x2 d2
section
variable (K : PySem.W.Frag) (b : Bg) (Rl : Rel)
def TgD (g : TG) (is : List Nat) (d : PyData) (δ δ' : Env) : Prop := ∀ (H0 I H : Hp) (σ : St) (v : V), Ok K b I H → EnvR K b H0 I H σ δ → Rl I H v d → ∀ Q : St → Hp → Prop,
  (∀ σ', EnvR K b H0 I H σ' δ' → (∀ j, j ∉ is → σ'[j]? = σ[j]?) → σ'.length = σ.length → Q σ' H) → g v σ H Q
end
section
variable {K : PySem.W.Frag} {b : Bg} {I0 H0 : Hp} {δ : Env} {te : TE}
theorem rangeD_len (lo : Int) (n : Nat) : (rangeD lo n).length = n := by simp [rangeD]
theorem rangeD_get {lo : Int} {n i : Nat} {d : PyData} (h : (rangeD lo n)[i]? = some d) : i < n ∧ d = .int (lo + i) := by
  unfold rangeD at h
  rw [List.getElem?_map] at h
  cases q : (List.range n)[i]? with
  | none => rw [q] at h; cases h
  | some j =>
    rw [q] at h
    obtain ⟨h1, h2⟩ := List.getElem?_eq_some_iff.mp q
    rw [List.getElem_range] at h2
    rw [List.length_range] at h1
    subst h2
    exact ⟨h1, (Option.some.inj h).symm⟩
theorem range_ok {lo : Int} {n : Nat} {I : Hp} : IterOk K b (DpR K) (Itr lo n) I (rangeD lo n) := by
  refine ⟨_, _, by rw [rangeD_len]; exact walk_range, fun _ _ => True.intro, fun i I2 H x H' d e k2 y hd => ?_⟩
  obtain ⟨rfl, rfl⟩ := y
  obtain ⟨_, rfl⟩ := rangeD_get hd
  exact ⟨I2, k2.re, Dp.int _⟩
theorem itd_rng1 {ta : TA} {A : Int → Prop} (h : EvA K b I0 H0 ta δ (fun rs => ∃ n, rs = [dint n] ∧ n < 2 ^ 62 ∧ -(2 ^ 62) ≤ n ∧ A n)) : ItD K b (DpR K) I0 H0 (iRng1 ta) δ (fun ds => ∃ n, ds = rangeD 0 n.toNat ∧ A n) := fun σ I H k n R q =>
  h σ I H k n _ fun rs vs I1 H1 p x r => by
    obtain ⟨m, rfl, h1, h2, p⟩ := p
    cases r with
    | cons r1 rr =>
      cases rr
      rw [int_read r1]
      exact ⟨m, rfl, h2, h1, q _ _ I1 H1 ⟨m, rfl, p⟩ x range_ok⟩
theorem itd_rng2 {ta : TA} {A : Int → Int → Prop} (h : EvA K b I0 H0 ta δ (fun rs => ∃ m n, rs = [dint m, dint n] ∧ (-(2 ^ 62) ≤ m ∧ m < 2 ^ 62 ∧ -(2 ^ 62) ≤ n ∧ n < 2 ^ 62) ∧ A m n)) : ItD K b (DpR K) I0 H0 (iRng2 ta) δ (fun ds => ∃ m n, ds = rangeD m (n - m).toNat ∧ A m n) := fun σ I H k n R q =>
  h σ I H k n _ fun rs vs I1 H1 p x r => by
    obtain ⟨m, n', rfl, hb, p⟩ := p
    cases r with
    | cons r1 rr =>
      cases rr with
      | cons r2 rr =>
        cases rr
        rw [int_read r1, int_read r2]
        exact ⟨m, n', rfl, hb, q _ _ I1 H1 ⟨m, n', rfl, p⟩ x range_ok⟩
theorem tg_name {i : Nat} {d : PyData} (hi : i < δ.length) : TgD K b (DpR K) (gName i) [i] d δ (δ.set i (some (.dat d))) := fun H0 I H σ v k n hd Q q =>
  q _ (n.setD hi (r := .dat d) hd (fun _ z => by cases z)) (fun j hj => List.getElem?_set_ne (fun z => hj (by simp [z]))) List.length_set
theorem tg_pair {i j : Nat} {d e : PyData} (hi : i < δ.length) (hj : j < δ.length) : TgD K b (PairR K) (gTup K 2 (gCons (gName i) (gCons (gName j) gNil))) [i, j] (.tuple [d, e]) δ ((δ.set i (some (.dat d))).set j (some (.dat e))) := fun H0 I H σ v k n hd Q q => by
  obtain ⟨T, v1, v2, d1, d2, rfl, hT, ed, h1, h2⟩ := hd
  cases ed
  refine ⟨T, [v1, v2], rfl, .inl (.inl hT), rfl, v1, [v2], rfl, v2, [], rfl, rfl, q _ ?_ (fun m hm => ?_) ?_⟩
  · exact (n.setD hi (r := .dat d) h1 (fun _ z => by cases z)).setD (by rw [List.length_set]; exact hj) (r := .dat e) h2 (fun _ z => by cases z)
  · have n1 : m ≠ i := fun z => hm (by simp [z])
    have n2 : m ≠ j := fun z => hm (by simp [z])
    rw [List.getElem?_set_ne (fun z => n2 z.symm), List.getElem?_set_ne (fun z => n1 z.symm)]
  · rw [List.length_set, List.length_set]
theorem walk_enumT {a : Addr} {xs : List V} : Walk (TF.IteT K a) xs.length (fun H => SqT K H a xs) (YPair (fun i => some (.int (i : Nat))) (fun i => xs[i]?)) := by
  refine ⟨fun i _ hi q => ⟨xs, xs[i], q, by simp [hi]⟩, fun _ q => ⟨xs, q, Nat.le_refl _⟩, fun i H v H' _ q y => ?_⟩
  obtain ⟨T, x, h1, h2, h3, h4⟩ := y
  exact ⟨T, .int (i : Nat), x, h1, h2, h3, rfl, h4 xs q⟩
end
theorem wipe_get {σ : St} {i : Nat} : ∀ {vs : List Nat}, i ∈ vs → i < σ.length → (wipe σ vs)[i]? = some none
  | [], h, _ => by cases h
  | v :: vs, h, hl => by
    unfold wipe
    by_cases z : v = i
    · subst z
      exact List.getElem?_set_self (by rw [wipe_length]; exact hl)
    · rw [List.getElem?_set_ne z]
      exact wipe_get ((List.mem_cons.mp h).resolve_left (fun q => z q.symm)) hl
theorem wipe_eq {σ τ : St} {vs : List Nat} (hl : τ.length = σ.length) (h : ∀ j, j ∉ vs → τ[j]? = σ[j]?) : wipe τ vs = wipe σ vs := by
  refine List.ext_getElem? fun i => ?_
  by_cases hi : i ∈ vs
  · by_cases hs : i < σ.length
    · rw [wipe_get hi hs, wipe_get hi (by omega)]
    · rw [List.getElem?_eq_none (by rw [wipe_length]; omega), List.getElem?_eq_none (by rw [wipe_length]; omega)]
  · rw [wipe_out hi, wipe_out hi]
    exact h i hi
theorem EnvR.wipe {K : PySem.W.Frag} {b : Bg} {H0 I H : Hp} {σ : St} {δ : Env} (n : EnvR K b H0 I H σ δ) {vs : List Nat} (hv : ∀ v ∈ vs, δ[v]? = some none) : EnvR K b H0 I H (L2.wipe σ vs) δ := by
  have nin : ∀ (i : Nat) (r : DV), δ[i]? = some (some r) → i ∉ vs := fun i r h z => by
    rw [hv i z] at h
    cases h
  refine ⟨by rw [wipe_length]; exact n.len, fun i r h => ?_, fun i j a ds es h1 h2 h3 h4 => ?_⟩
  · rw [wipe_out (nin i r h)]
    exact n.at_ i r h
  · rw [wipe_out (nin i _ h1)] at h2
    rw [wipe_out (nin j _ h3)] at h4
    exact n.nd i j a ds es h1 h2 h3 h4
theorem paired_snoc {α β : Type} {F : α → β → Prop} : ∀ {l : List α} {m : List β} {x : α} {y : β}, Paired F l m → F x y → Paired F (l ++ [x]) (m ++ [y])
  | _, _, _, _, .nil, h => .cons h .nil
  | _, _, _, _, .cons r t, h => .cons r (paired_snoc t h)
end DL
namespace DL
open PySem PySem.Spec PyProof.Rows L2
section
variable {K : PySem.W.Frag} {b : Bg} {I0 H0 : Hp} {δ δ' : Env} {N N' Bk Ct : Env → Prop} {R : DV → Prop} {te : TE} {t u : TS} {P : DV → Prop}
theorem sv_nil (h : N δ) : SvD K b I0 H0 tNext δ N R Bk Ct := fun σ I H e n D h1 _ _ _ => h1 δ σ I H h e (Same.refl I) n
theorem sv_seq (h1 : SvD K b I0 H0 t δ N' R Bk Ct) (h2 : ∀ δ', N' δ' → SvD K b I0 H0 u δ' N R Bk Ct) : SvD K b I0 H0 (tSeq t u) δ N R Bk Ct := fun σ I H e n D a1 a2 a3 a4 =>
  h1 σ I H e n _ (fun d σ' I' H' p e' s' n' => h2 d p σ' I' H' e' n' D (fun d σ2 I2 H2 p e2 s2 n2 => a1 d σ2 I2 H2 p e2 (s'.trans s2) n2) a2 (fun d σ2 I2 H2 p e2 s2 n2 => a3 d σ2 I2 H2 p e2 (s'.trans s2) n2) (fun d σ2 I2 H2 p e2 s2 n2 => a4 d σ2 I2 H2 p e2 (s'.trans s2) n2)) a2 a3 a4
theorem sv_seq1 (h1 : SvD K b I0 H0 t δ (fun x => x = δ') R Bk Ct) (h2 : SvD K b I0 H0 u δ' N R Bk Ct) : SvD K b I0 H0 (tSeq t u) δ N R Bk Ct := sv_seq h1 fun _ e => e ▸ h2
theorem sv_asg {i : Nat} (h : EvD K b I0 H0 te δ P) (hi : i < δ.length) (hN : ∀ r, P r → (∀ ds, r ≠ .bor ds) ∧ N (δ.set i (some r))) : SvD K b I0 H0 (tAsg te (gName i)) δ N R Bk Ct := fun σ I H e n D a1 _ _ _ =>
  h σ I H e n _ fun r v I' H' p x rs => by
    refine a1 _ _ I' H' (hN r p).2 (e.trans x) x.i ((n.ext x).set hi (rs.since (free_of e)) fun a ds er ev j es hj hd => ?_)
    subst er
    subst ev
    obtain ⟨a', xs, ea, h0, hi', hb, ha, hdd⟩ := rs
    cases ea
    intro z
    obtain ⟨w, e1, e2⟩ := n.at_ j _ hd
    rw [z] at e1
    cases e1
    obtain ⟨a'', xs', ea, h0', hi'', hb', ha', hdd'⟩ := e2
    cases ea
    exact fr_lst h0 ha'
theorem sv_set {i : Nat} {r : DV} (h : EvD K b I0 H0 te δ (fun x => x = r)) (hi : i < δ.length := by exact Nat.le_of_ble_eq_true rfl) (hr : ∀ ds, r ≠ .bor ds := by intro _ z; cases z) : SvD K b I0 H0 (tAsg te (gName i)) δ (fun x => x = δ.set i (some r)) R Bk Ct :=
  sv_asg h hi fun x e => by rw [e]; exact ⟨hr, rfl⟩
theorem sv_ret (h : EvD K b I0 H0 te δ P) (hR : ∀ r, P r → R r) : SvD K b I0 H0 (tRet te) δ N R Bk Ct := fun σ I H e n D _ a2 _ _ =>
  h σ I H e n _ fun r v I' H' p x rs => a2 r v I' H' (hR r p) (e.trans x) (rs.since (free_of e))
theorem sv_retO {i : Nat} {ds : List PyData} (h : δ[i]? = some (some (.own ds))) (hR : R (.own ds)) : SvD K b I0 H0 (tRet (tVar i)) δ N R Bk Ct := fun σ I H e n D _ a2 _ _ => by
  obtain ⟨v, e1, e2⟩ := n.at_ i _ h
  exact ⟨v, e1, a2 _ _ I H hR e e2⟩
theorem sv_if {c : TT} {A : Bool → Prop} (h : EvT K b I0 H0 c δ A) (h1 : A true → SvD K b I0 H0 t δ N R Bk Ct) (h2 : A false → SvD K b I0 H0 u δ N R Bk Ct) : SvD K b I0 H0 (tIfS c t u) δ N R Bk Ct := fun σ I H e n D a1 a2 a3 a4 =>
  h σ I H e n _ fun c I' H' p x => by
    cases c with
    | true => exact h1 p σ I' H' (e.trans x) (n.ext x) D (fun d σ2 I2 H2 p e2 s2 n2 => a1 d σ2 I2 H2 p e2 (x.i.trans s2) n2) a2 (fun d σ2 I2 H2 p e2 s2 n2 => a3 d σ2 I2 H2 p e2 (x.i.trans s2) n2) (fun d σ2 I2 H2 p e2 s2 n2 => a4 d σ2 I2 H2 p e2 (x.i.trans s2) n2)
    | false => exact h2 p σ I' H' (e.trans x) (n.ext x) D (fun d σ2 I2 H2 p e2 s2 n2 => a1 d σ2 I2 H2 p e2 (x.i.trans s2) n2) a2 (fun d σ2 I2 H2 p e2 s2 n2 => a3 d σ2 I2 H2 p e2 (x.i.trans s2) n2) (fun d σ2 I2 H2 p e2 s2 n2 => a4 d σ2 I2 H2 p e2 (x.i.trans s2) n2)
theorem sv_for {Rl : Rel} {wi : TI} {g : TG} {tb : TS} {A : List PyData → Prop} (it : ItD K b Rl I0 H0 wi δ A)
    (body : ∀ ds, A ds → ∃ J : Nat → Env → Prop, J 0 δ ∧ (∀ (k : Nat) d δk, ds[k]? = some d → J k δk → ∃ δ' is, TgD K b Rl g is d δk δ' ∧ SvD K b I0 H0 tb δ' (J (k + 1)) R N (J (k + 1))) ∧ ∀ δn, J ds.length δn → N δn) :
    SvD K b I0 H0 (tFor wi g tb) δ N R Bk Ct := fun σ I H e n D a1 a2 a3 a4 =>
  it σ I H e n _ fun ds Jt I1 H1 p x ok => by
    obtain ⟨G, Y, w, hG, hY⟩ := ok
    obtain ⟨J, j0, js, jn⟩ := body ds p
    refine for_it w (fun k σ' H' => ∃ I' δk, J k δk ∧ Ext K b I0 H0 I' H' ∧ Same I1 I' ∧ EnvR K b H0 I' H' σ' δk) ⟨I1, δ, j0, e.trans x, Same.refl _, n.ext x⟩ (fun k σ' H' _ ⟨I', δk, _, e', s', _⟩ => hG H' (s'.trans e'.s)) ?_ ?_
    · rintro k v σ' H' H'' hk ⟨I', δk, jk, e', s', n'⟩ y
      have hd1 : ds[k]? = some ds[k] := List.getElem?_eq_getElem hk
      generalize ds[k] = d at hd1
      obtain ⟨I3, e3, d3⟩ := hY k I' H' v H'' d s' e'.ok y hd1
      obtain ⟨δ', is, tg, sb⟩ := js k d δk hd1 jk
      refine tg H0 I3 H'' σ' v e3.ok (n'.ext e3) d3 _ fun σ2 n2 _ _ => ?_
      have s3 : Same I1 I3 := s'.trans e3.i
      exact sb σ2 I3 H'' (e'.trans e3) n2 _ (fun d σ4 I4 H4 p4 e4 s4 n4 => ⟨I4, d, p4, e4, s3.trans s4, n4⟩) a2 (fun d σ4 I4 H4 p4 e4 s4 n4 => a1 d σ4 I4 H4 p4 e4 ((x.i.trans s3).trans s4) n4) (fun d σ4 I4 H4 p4 e4 s4 n4 => ⟨I4, d, p4, e4, s3.trans s4, n4⟩)
    · rintro σ' H' ⟨I', δn, jk, e', s', n'⟩
      exact a1 δn σ' I' H' (jn δn jk) e' (x.i.trans s') n'
theorem sv_frz {i : Nat} {ds : List PyData} (hi : δ[i]? = some (some (.own ds))) (hbor : ∀ (j : Nat) es, δ[j]? ≠ some (some (.bor es))) (h : SvD K b I0 H0 t (δ.set i (some (.dat (.list ds)))) N R Bk Ct) : SvD K b I0 H0 t δ N R Bk Ct := fun σ I H e n D a1 a2 a3 a4 => by
  obtain ⟨v, e1, e2⟩ := n.at_ i _ hi
  obtain ⟨a, xs, rfl, h0, hn, hb, ha, hd⟩ := e2
  have ex : Ext K b I0 H0 (upd I a (.lst xs)) H := e.frz h0 hn hb ha
  have sm : Same I (upd I a (.lst xs)) := fun c o h => by rw [upd_ne (ne_of_none h hn)]; exact h
  have hlt : i < δ.length := (List.getElem?_eq_some_iff.mp hi).1
  have en : EnvR K b H0 (upd I a (.lst xs)) H σ (δ.set i (some (.dat (.list ds)))) := by
    refine ⟨by rw [List.length_set]; exact n.len, fun j r hj => ?_, fun j k c ds' es h1 h2 h3 h4 => ?_⟩
    · by_cases z : i = j
      · subst z
        rw [List.getElem?_set_self hlt] at hj
        cases hj
        exact ⟨_, e1, Dp.lst (.inl (.inl upd_same)) (dpa_mono sm hd)⟩
      · rw [List.getElem?_set_ne z] at hj
        obtain ⟨w, g1, g2⟩ := n.at_ j r hj
        refine ⟨w, g1, ?_⟩
        cases r with
        | dat d => exact dp_mono sm g2
        | raw u => exact g2
        | bag => exact g2
        | dct own kvs =>
          obtain ⟨c, ys, rfl, q0, qn, qb, qa, qd⟩ := g2
          have nc : c ≠ a := fun zz => by
            subst zz
            rw [ha] at qa
            cases qa
          exact ⟨c, ys, rfl, q0, by rw [upd_ne nc]; exact qn, qb, qa, dctR_mono sm qd⟩
        | own es =>
          obtain ⟨c, ys, rfl, q0, qn, qb, qa, qd⟩ := g2
          have nc : c ≠ a := fun zz => by
            subst zz
            exact z (n.nd i j c ds es hi e1 hj g1)
          exact ⟨c, ys, rfl, q0, by rw [upd_ne nc]; exact qn, qb, qa, dpa_mono sm qd⟩
        | bor es => exact absurd hj (hbor j es)
    · by_cases zj : i = j
      · subst zj
        rw [List.getElem?_set_self hlt] at h1
        cases h1
      · by_cases zk : i = k
        · subst zk
          rw [List.getElem?_set_self hlt] at h3
          cases h3
        · rw [List.getElem?_set_ne zj] at h1
          rw [List.getElem?_set_ne zk] at h3
          exact n.nd j k c ds' es h1 h2 h3 h4
  exact h σ _ H ex en D (fun d σ2 I2 H2 p e2 s2 n2 => a1 d σ2 I2 H2 p e2 (sm.trans s2) n2) a2 (fun d σ2 I2 H2 p e2 s2 n2 => a3 d σ2 I2 H2 p e2 (sm.trans s2) n2) (fun d σ2 I2 H2 p e2 s2 n2 => a4 d σ2 I2 H2 p e2 (sm.trans s2) n2)
end
def spD {α : Type} (K : PySem.W.Frag) (args : α → List DV) (ok : α → Prop) (out : α → DV → Prop) (exc : α → XD) : Sp := fun vs H Q E => ∃ a b I, Ok K b I H ∧ ResA K b H I H vs (args a) ∧ ok a ∧
  (∀ r v I' H', out a r → Ext K b I H I' H' → Res K b H I' H' v r → Q v H') ∧
  (∀ C fs d I' H', exc a C fs → Ext K b I H I' H' → I' d = none → H' d = some (.xd fs) → E (.ref C) (some d) H')
abbrev noX {α : Type} : α → XD := fun _ _ _ => False
section
variable {K : PySem.W.Frag} {b : Bg} {I0 H0 : Hp} {δ : Env} {P : DV → Prop}
def envOf (N : List Str) (rs : List DV) : Env := rs.map some ++ List.replicate (N.length - rs.length) none
theorem resA_len {I H : Hp} : ∀ {vs : List V} {rs : List DV}, ResA K b H0 I H vs rs → vs.length = rs.length
  | _, _, .nil => rfl
  | _, _, .cons _ r => congrArg Nat.succ (resA_len r)
theorem resA_get {I H : Hp} : ∀ {vs : List V} {rs : List DV} {i : Nat} {r : DV}, ResA K b H0 I H vs rs → rs[i]? = some r → ∃ v, vs[i]? = some v ∧ Res K b H0 I H v r
  | _, _, _, _, .nil, h => by simp at h
  | _, _, 0, _, .cons q _, h => by
    cases Option.some.inj h
    exact ⟨_, rfl, q⟩
  | _, _, i + 1, _, .cons _ t, h => resA_get (i := i) t h
theorem env_start {N : List Str} {I H : Hp} {vs : List V} {rs : List DV} (h : ResA K b H I H vs rs) : EnvR K b H I H (start N vs) (envOf N rs) := by
  have hl := resA_len h
  have at_ : ∀ (i : Nat) (r : DV), (envOf N rs)[i]? = some (some r) → ∃ v, (start N vs)[i]? = some (some v) ∧ Res K b H I H v r := fun i r hi => by
    unfold envOf at hi
    unfold L2.start
    by_cases z : i < rs.length
    · rw [List.getElem?_append_left (by rw [List.length_map]; exact z), List.getElem?_map] at hi
      cases q : rs[i]? with
      | none => rw [q] at hi; cases hi
      | some r' =>
        rw [q] at hi
        cases hi
        obtain ⟨v, e1, e2⟩ := resA_get h q
        refine ⟨v, ?_, e2⟩
        rw [List.getElem?_append_left (by rw [List.length_map]; omega), List.getElem?_map, e1]
        rfl
    · rw [List.getElem?_append_right (by rw [List.length_map]; omega), List.getElem?_replicate] at hi
      split at hi <;> cases hi
  refine ⟨?_, at_, fun i j a ds es h1 h2 _ _ => ?_⟩
  · unfold L2.start envOf
    simp only [List.length_append, List.length_map, List.length_replicate]
    omega
  · obtain ⟨v, e1, a', xs, rfl, h0, _, _, ha, _⟩ := at_ i _ h1
    exact (fr_lst h0 ha).elim
def NoOwn (rs : List DV) : Prop := ∀ r ∈ rs, (∀ ds, r ≠ .own ds) ∧ ∀ kvs, r ≠ .dct true kvs
theorem noOwn_nil : NoOwn [] := fun _ h => by cases h
theorem noOwn_cons {r : DV} {rs : List DV} (h : ∀ ds, r ≠ .own ds) (t : NoOwn rs) (hd2 : ∀ kvs, r ≠ .dct true kvs := by intro _ z; cases z) : NoOwn (r :: rs) := fun x hx => by
  rcases List.mem_cons.mp hx with e | e
  · rw [e]; exact ⟨h, hd2⟩
  · exact t x e
theorem resA_now {I H H1 : Hp} : ∀ {vs : List V} {rs : List DV}, ResA K b H I H1 vs rs → NoOwn rs → ResA K b H1 I H1 vs rs
  | _, _, .nil, _ => .nil
  | _, r :: rs, .cons q1 t, p2 => by
    refine .cons ?_ (resA_now t fun r hr => p2 r (List.mem_cons_of_mem _ hr))
    cases r with
    | own ds => exact absurd rfl ((p2 _ (List.mem_cons_self ..)).1 ds)
    | dct own kvs =>
      cases own with
      | true => exact absurd rfl ((p2 _ (List.mem_cons_self ..)).2 kvs)
      | false =>
        obtain ⟨a, es, rfl, _, z⟩ := q1
        exact ⟨a, es, rfl, (fun z => by cases z), z⟩
    | dat d => exact q1
    | bor ds => exact q1
    | raw u => exact q1
    | bag => exact q1
theorem ev_call {α : Type} {args : α → List DV} {ok : α → Prop} {out : α → DV → Prop} {exc : α → XD} {E : XK} {ta : TA} {A : List DV → Prop} (ha : EvA K b I0 H0 ta δ A)
    (hp : ∀ rs, A rs → ∃ a, rs = args a ∧ ok a ∧ NoOwn rs ∧ (∀ r, out a r → P r) ∧ ∀ C fs, exc a C fs → False) : EvD K b I0 H0 (tCall (spD K args ok out exc) [] E ta) δ P := fun σ I H k n Q q =>
  ha σ I H k n _ fun rs vs I1 H1 p x r => by
    obtain ⟨a, rfl, p1, p2, p3, p4⟩ := hp rs p
    rw [List.append_nil]
    exact ⟨a, b, I1, x.ok, resA_now r p2, p1, fun r v I' H' o x2 rs' => q r v I' H' (p3 r o) (x.trans x2) (rs'.since (free_of x)), fun C fs d I' H' he _ _ _ => (p4 C fs he).elim⟩
theorem ev_call1 {α : Type} {args : α → List DV} {ok : α → Prop} {out : α → DV → Prop} {E : XK} {ta : TA} (a : α) (ha : EvA K b I0 H0 ta δ (fun x => x = args a)) (hp : ok a) (ho : ∀ r, out a r → P r) (hn : NoOwn (args a)) :
    EvD K b I0 H0 (tCall (spD K args ok out noX) [] E ta) δ P := ev_call ha fun _ e => ⟨a, e, hp, e ▸ hn, ho, fun _ _ h => h⟩
end
section
variable {P : Program} {w : World} {K : PySem.W.Frag} {mg : Str → Option Value} {base : Heap}
theorem fn_ok {α : Type} {x qual : Str} {st : Stmt} {f : Addr} {fd : FuncData} {N ps : List Str} {k : Nat} {args : α → List DV} {ok : α → Prop} {out : α → DV → Prop} (F : Fun K x qual st f fd) (S : FnScope N ps (defScope st)) (len : ∀ a, ok a → (args a).length = ps.length)
    (hbody : ∀ (cdv : Value) (A : Around) (outer : List PySem.Env) (s : Shared) (H : Hp) (E : XK), Room k (A.deeper (envOfC qual (defScope st) s.heap.objs.size f cdv)) →
      ∃ t, PSs (cxOf CX0 P w K mg base N qual (defScope st) f cdv A outer s H E).nox (defBody st) t ∧ ∀ b I a, ok a → SvD K b I H t (envOf N (args a)) (fun _ => out a (.dat .none)) (out a) (fun _ => False) (fun _ => False)) :
    FnOk P w K mg base CX0 (k + 1) f fd ps (spD K args ok out noX) := by
  refine F.ok S (fun vs H Q E h => ?_) (fun cdv A outer s H vs Q E hr h => ?_)
  · obtain ⟨a, b, I, _, r, p, _⟩ := h
    rw [resA_len r]
    exact len a p
  · obtain ⟨a, b, I, k, r, p, q, _⟩ := h
    obtain ⟨t, ht, hs⟩ := hbody cdv A outer s H E hr
    exact ⟨t, ht, hs b I a p _ I H k.re (env_start r) _ (fun δ' σ' I' H' o e _ _ => q _ _ I' H' o e Dp.non) (fun r v I' H' o e rs => q r v I' H' o e rs) (fun _ _ _ _ z => z.elim) (fun _ _ _ _ z => z.elim)⟩
end
end DL
namespace DL
open PySem PySem.Spec PyProof.Rows L2
theorem dp_ty {K : PySem.W.Frag} {H : Hp} {v : V} {d : PyData} (h : Dp K H v d) : TyX K H v (.type (tyN d)) := by
  cases h with
  | non => exact .base .non
  | bl b => exact .base (.bl b)
  | int i => exact .base (.int i)
  | str x => exact .base (.str x)
  | lst q r =>
    rcases q with (q | ⟨o, q⟩) | ⟨o, its, n, q, c, _⟩
    · exact .base (.lst q)
    · exact .base (.frz q)
    · exact .kList q c
  | tup q r =>
    rcases q with (q | ⟨o, q⟩) | ⟨o, its, n, q, c, _⟩
    · exact .base (.tup q)
    · exact .fTuple q
    · exact .kTuple q c
theorem cb_isi {K : PySem.W.Frag} {b : Bg} {d : PyData} {n : String} {c : Bool} (h : kitB (tyN d) n = some c) : CbD K b (rIsi K) [.dat d, .raw (.ty n)] (fun r => r = dbl c) := fun H0 I H vs k rs Q q => by
  cases rs with
  | cons r1 rr =>
    cases rr with
    | cons r2 rr =>
      cases rr
      have e : _ = V.ty n := r2
      subst e
      exact ⟨_, _, _, _, c, rfl, .ty n, dp_ty (dp_mono k.s r1), kit_ty h, q _ _ I H rfl k.re (Dp.bl c)⟩
theorem dp_isN {K : PySem.W.Frag} {I : Hp} {v : V} {d : PyData} (h : Dp K I v d) : decide (v = V.non) = decide (tyN d = "NoneType") := by
  cases h <;> simp [tyN]
theorem kbn_mk {K : PySem.W.Frag} {x qual : Str} {st : Stmt} {f : Addr} {fd : FuncData} {ps ks : List Str} {n : Nat} (F : Fun K x qual st f fd) (g : {α : Type} → List α → List α → List α)
    (h : ∀ (kV doc pm : Value) (an : Option Addr) (cdv ct : Value) (us ws : List Value), us.length = n → ws.length = ks.length → bindArgs (PySem.W.fnOf x qual (defArgs st) (defBody st) (defScope st) .none kV doc pm an cdv ct) ⟨us, ks.zip ws⟩ = pure (ps.zip (g us ws)))
    (rel : ∀ {vs : List V} {us : List Value} {zs : List V} {ws : List Value}, Vals vs us → Vals zs ws → Vals (g vs zs) (g us ws)) : KBn K fd ps n ks g g := by
  obtain ⟨oc, od, kV, doc, pm, an, cdv, ct, osl, rfl, lk, hcd⟩ := F.ex
  exact ⟨fun s us ws _ l1 l2 => .of_eq (h kV doc pm an cdv ct us ws l1 l2), rel⟩
end DL
namespace DL
open PySem PySem.Spec PyProof.Rows L2 RZ
theorem ltr {a c : Nat} (h : Nat.ble (a + 1) c = true) : a < c := Nat.le_of_ble_eq_true h
theorem hv1 {p : Nat → Prop} {a : Nat} (h : p a) : ∀ v ∈ [a], p v := fun v hv => by
  rcases List.mem_cons.mp hv with e | e
  · rw [e]; exact h
  · cases e
section
variable {X : Cx} (K : PySem.W.Frag)
theorem k_ix_list (h : X.K = K := by rfl) : IxR X (rIxL K) := h ▸ ix_list
theorem k_ix_seq (h : X.K = K := by rfl) : IxR X (rIx K) := h ▸ ix_seq
theorem k_len (h : X.K = K := by rfl) : CallR X (.builtin "len") (fun xs H Q => ∃ p ys, xs = [.ref p] ∧ (SqL K H p ys ∨ SqT K H p ys) ∧ Q (.int ys.length) H) := h ▸ call_len_seq
theorem k_list (h : X.K = K := by rfl) : CallR X (.type "list") (fun xs H Q => ∃ p ys, xs = [.ref p] ∧ (SqL K H p ys ∨ SqT K H p ys) ∧ ∀ l, H l = none → Q (.ref l) (upd H l (.lst ys))) := h ▸ call_list_of
theorem k_sl_list (h : X.K = K := by rfl) : SlR X (rSlL K) := h ▸ sl_list
end
section
variable {K : PySem.W.Frag} {b : Bg} {I0 H0 : Hp} {δ : Env} {ta te tb : TE} {P : DV → Prop} {A B C : Int → Prop}
theorem EvI.one {i : Int} (h : EvI K b I0 H0 te δ (fun x => x = i)) : EvD K b I0 H0 te δ (fun r => r = dint i) := EvD.mono h fun _ ⟨_, e, a⟩ => by rw [e, a]
theorem ev_len {x : DV} {ds : List PyData} (ha : EvD K b I0 H0 ta δ (fun r => r = x)) (l : LstR x ds ∨ x = .dat (.tuple ds)) : EvD K b I0 H0 (tCB (fun xs H Q => ∃ p ys, xs = [.ref p] ∧ (SqL K H p ys ∨ SqT K H p ys) ∧ Q (.int ys.length) H) (tCons ta tNil)) δ (fun r => r = dint ds.length) :=
  ev_cb (ea_cons1 ha ea_nil) fun rs e => by
    subst e
    rcases l with l | l
    · exact cb_lenL l
    · subst l
      exact cb_lenT
end
end DL
namespace DL
open PySem PySem.Spec PyProof.Rows L2 RZ
def Flat : Nat → PyData → Prop
  | 0, _ => False
  | n + 1, d => match d with
    | .none => True
    | .bool _ => True
    | .int _ => True
    | .str _ => True
    | .list ds => ds.length ≤ 100000 ∧ ∀ x ∈ ds, Flat n x
    | .tuple ds => ds.length ≤ 100000 ∧ ∀ x ∈ ds, Flat n x
    | .dict _ => False
theorem flat_int {n : Nat} {i : Int} : Flat (n + 1) (.int i) := True.intro
theorem flat_str {n : Nat} {i : Str} : Flat (n + 1) (.str i) := True.intro
theorem flat_l {n : Nat} {ds : List PyData} (hl : ds.length ≤ 100000) (h : ∀ x ∈ ds, Flat n x) : Flat (n + 1) (.list ds) := ⟨hl, h⟩
theorem flat_t {n : Nat} {ds : List PyData} (hl : ds.length ≤ 100000) (h : ∀ x ∈ ds, Flat n x) : Flat (n + 1) (.tuple ds) := ⟨hl, h⟩
theorem cut_ints (ns : List Int) (lo hi : Option Int) : ∃ ms : List Int, cutV (ns.map V.int) lo hi = ms.map V.int := by
  unfold cutV
  rw [← List.map_drop, ← List.map_take]
  exact ⟨_, rfl⟩
end DL
namespace DL
open PySem PySem.Spec PyProof.Rows L2 RZ
abbrev aTake (n : Int) : List DV := [.bag, dint n]
abbrev okTake (n : Int) : Prop := 0 < n ∧ n < 10000000000000000000000000000000000000000000000000000000000000000000000000000000000000000000000000000000000000000000000000000000000000000000000000000000000000000000000000000000000000000000000000000000000000000000000000000000000000000000000000000000000000000000000000000000000000000000000000000000000000000000000
abbrev outTake (n : Int) (r : DV) : Prop := ∃ i, r = dint i ∧ 0 ≤ i ∧ i < n
theorem noOwn_bag {r : DV} (h : ∀ ds, r ≠ .own ds) (g : ∀ kvs, r ≠ .dct true kvs := by intro _ z; cases z) : NoOwn [.bag, r] := noOwn_cons (fun _ z => by cases z) (noOwn_cons h noOwn_nil g)
section
variable {K : PySem.W.Frag} {b : Bg} {I0 H0 : Hp} {δ : Env} {ta te tb tn : TE} {P : DV → Prop} {E : XK} {i : Nat} {n : Int}
theorem ev_take (hb : δ[i]? = some (some .bag)) (hn : EvD K b I0 H0 tn δ (fun r => r = dint n)) (h : okTake n) : EvI K b I0 H0 (tCall (spD K aTake okTake outTake noX) [] E (tCons (tVar i) (tCons tn tNil))) δ (fun k => 0 ≤ k ∧ k < n) :=
  ev_call1 n (ea_cons1 (ev_var hb) (ea_cons1 hn ea_nil)) h (fun r e => e) (noOwn_bag fun _ z => by cases z)
theorem paired_ints {β : Type} {C : β → Int → Prop} : ∀ {l : List β} {ys : List PyData}, Paired (fun x y => ∃ k : Int, y = .int k ∧ C x k) l ys → ∃ ns : List Int, ys = ns.map .int ∧ Paired C l ns
  | _, _, .nil => ⟨[], rfl, .nil⟩
  | _, _, .cons ⟨k, e, c⟩ t => by
    obtain ⟨ns, f, p⟩ := paired_ints t
    exact ⟨k :: ns, by rw [e, f]; rfl, .cons c p⟩
end
end DL
namespace DL
open PySem PySem.Spec PyProof.Rows L2
def endsN (i : Nat) (D : Ends) : Ends := ⟨fun σ H => D.nx (σ.set i none) H, D.rt, fun σ H => D.bk (σ.set i none) H, fun σ H => D.ct (σ.set i none) H⟩
def wNs (K : PySem.W.Frag) (i : Nat) (D : Ends) : List Cls → WX
  | [] => fun _ _ _ _ => False
  | cl :: more => fun k dd σ H => ∃ y, PySem.W.exmOne K k cl.1 = some y ∧ (y = true → ∀ x, H x = none → cl.2 x k dd (endsN i D) (σ.set i (some (.ref x))) H) ∧ (y = false → wNs K i D more k dd σ H)
inductive ClsOk (X : Cx) (n : Str) : List ExceptHandler → List Cls → Prop
  | nil : ClsOk X n [] []
  | cons {nm : Str} {c : Value} {r : Addr → Value → Option Addr → TS} {st : Stmt} {sts : List Stmt} {q1 q2 : Pos} {hs : List ExceptHandler} {cs : List Cls} (named : Names X nm c)
      (suite : ∀ (x : Addr) (o : Obj) (k : Value) (dd : Option Addr) (ps : List (Addr × Obj)), Zc k dd o → (∃ vs, o.data = .fields vs) → PSs (X.suite x ((x, o) :: ps)) (st :: sts) (r x k dd)) (more : ClsOk X n hs cs) :
      ClsOk X n (.ExceptHandler (some (.Name nm q1)) (some n) (st :: sts) q2 :: hs) ((c, r) :: cs)
section
variable {X : Cx} {n : Str} {i : Nat}
theorem clauses {D : Ends} {ground : Heap} {pins : List (Addr × Obj)} {σ : L2.St} {H : Hp} {k : Value} {dd : Option Addr} {x : Addr} {s : Shared} {ho : Heap} (ok : X.Ok) (nod : X.N.Nodup) (at_ : X.N[i]? = some n) (loc : X.env.kindOf n = some .local)
    (stands : ∀ hh : Heap, HandSPX.FlyingZ ground (X.env :: X.outer) x (Zc k dd) hh → s.heap.UpToSlots hh → Inv X pins σ H { s with heap := hh }) (free : H x = none) (offL : x ≠ X.env.locals) (offF : x ∉ X.fs)
    (fly : HandSPX.FlyingZ ground (X.env :: X.outer) x (Zc k dd) ho) (grew : s.heap.UpToSlots ho) {hs : List ExceptHandler} {cs : List Cls} (h : ClsOk X n hs cs) : wNs X.K i D cs k dd σ H →
    wpAny (model X.prog X.w) X.A (handleBy (.ref x) X.env hs) (SP X pins D) X.xe { s with heap := ho } := by
  induction h with
  | nil => exact fun z => z.elim
  | @cons nm c r st sts q1 q2 hs' cs' named suite more ih =>
    rintro ⟨y, hy, yes, no⟩
    obtain ⟨o1, v1, got1, zc1, dat1⟩ := fly.there
    have inv1 := stands ho fly grew
    have insuite := inv1.suite got1 dat1 free offL offF
    have isCls : PySem.W.Looks (model X.prog X.w) ho (typeOf (.ref x)) k := fun _ _ _ _ keep q => wpAny_typeOf_ref (keep _ _ got1) (by rw [zc1.1]; exact q)
    refine wpAny_handleBy_cons (codeAny_handlers_test ?_) (by intro e; cases e)
    have named' : ∀ {Q E : Value → Shared → Prop}, Q c { s with heap := ho } → wpAny (model X.prog X.w) (X.A.mark (some (.ref x))) (eval (.Name nm q1) X.env) Q E { s with heap := ho } := by
      rcases named with ⟨g1, g2, g3⟩
      rcases g3 with g3 | ⟨g3, g4, g5⟩
      · exact fun q => ld_glob (X := X.suite x ((x, o1) :: (X.pn ++ pins))) insuite g1 g3 q g2
      · exact fun q => ld_blt (X := X.suite x ((x, o1) :: (X.pn ++ pins))) insuite g1 g3 g4 q g5 g2
    refine named' ((PySem.W.exm_one (M := model X.prog X.w) inv1.kIn isCls hy).here ?_)
    match y, yes, no with
    | false, _, no => exact ih (no rfl)
    | true, yes, _ =>
      refine codeAny_handlers_suite_as (HandSPX.lands_againZ fly fun h2 fly2 grew2 => ?_)
      obtain ⟨o2, v2, got2, zc2, dat2⟩ := fly2.there
      have insuite2 := (stands h2 fly2 (grew.trans grew2)).suite got2 dat2 free offL offF
      refine store_ok (X := X.suite x ((x, o2) :: (X.pn ++ pins))) (v := .ref x) insuite2 nod at_ (.inl loc) rfl (fun s2 inv2 => ?_) (.inr loc)
      refine wpAny_mono ((suite x o2 k dd (X.pn ++ pins) zc2 ⟨_, dat2⟩).run [] s2 _ H _ inv2 (yes rfl x free)) (fun fl s3 hsp => ?_) fun _ _ z => z.elim
      have off : ∀ {τ : L2.St} {G : Hp} {Q : Shared → Prop}, Inv (X.suite x ((x, o2) :: (X.pn ++ pins))) [] τ G s3 → (∀ s4, Inv X pins (τ.set i none) G s4 → Q s4) → wpAny (model X.prog X.w) X.A (do bindName X.env n .none; unbindBehindTheSuite X.env n q2) (fun _ s4 => Q s4) X.xe s3 :=
        fun iv go => gone_ok (iv.unsuite ok) nod at_ loc go
      match fl, hsp with
      | .next, ⟨_, _, iv, q⟩ => exact off iv fun _ j => ⟨_, _, j, q⟩
      | .brk, ⟨_, _, iv, q⟩ => exact off iv fun _ j => ⟨_, _, j, q⟩
      | .cont, ⟨_, _, iv, q⟩ => exact off iv fun _ j => ⟨_, _, j, q⟩
      | .ret _, ⟨_, _, _, iv, rv, q⟩ => exact off iv fun _ j => ⟨_, _, _, j, rv, q⟩
theorem ps_tryN {body : List Stmt} {hd : ExceptHandler} {hs : List ExceptHandler} {cs : List Cls} {pos : Pos} {tb : WX → TS} (nod : X.N.Nodup) (at_ : X.N[i]? = some n) (loc : X.env.kindOf n = some .local) (hcs : ClsOk X n (hd :: hs) cs)
    (hb : ∀ (W : WX) (ps : List (Addr × Obj)) (xe : Value → Shared → Prop), Takes (X.tr ps xe) W → PassesOwn (model X.prog X.w) X.A X.env xe → PSs (X.tr ps xe) body (tb W)) (stk : X.stack = X.env :: X.outer := by rfl) (frm : X.env.frame = some X.env.locals := by rfl) :
    PS X (.Try body (hd :: hs) [] [] pos) (fun D σ H => tb (wNs X.K i D cs) D σ H) := by
  refine ⟨fun pins s σ H D I h => wpAny_Try_except ?_⟩
  have ok := I.ok
  refine wpAny_mono ((hb _ (X.pn ++ pins) (fun e t => wpAny (model X.prog X.w) X.A (noteFrame e X.env) (fun _ t2 => wpAny (model X.prog X.w) X.A (setFlight e none) (fun _ t3 => wpAny (model X.prog X.w) X.A (handleBy e X.env (hd :: hs)) (SP X pins D) X.xe t3) X.xe t2) X.xe t) ?_ PassesOwn.looking).run [] s σ H D (I.toTry _) h) ?_ fun _ _ z => z
  · rintro _ s1 ⟨x, ground, s0, ps, τ, G, k, dd, rfl, inv0, nb, up, sky, free, os, ag, w⟩
    have inv := inv0.ofTry ok
    rw [show (X.tr (X.pn ++ pins) _).stack = X.env :: X.outer from stk] at sky
    have fr : X.A.frames = some (X.env :: X.outer) := by rw [ok.frames, stk]
    refine Sky.land Zc.steady fr frm sky fun h3 fly up3 => ?_
    obtain ⟨o3, v3, got3, _, dat3⟩ := fly.there
    have off : x ∉ frs (X.env :: X.outer) := fun hm => by
      obtain ⟨_, o', e', hn⟩ := fly.2.2.1.mem hm
      rw [got3] at e'
      exact hn _ (Option.some.inj e' ▸ dat3)
    refine clauses ok nod at_ loc (fun hh f u => inv.landed nb f.1 (up.trans u) os ag) free (fun z => off (List.mem_filterMap.mpr ⟨X.env, List.mem_cons_self, by rw [frm, z]⟩)) (fun hm => ?_) fly up3 hcs w
    obtain ⟨e, he, q⟩ := List.mem_filterMap.mp hm
    exact off (List.mem_filterMap.mpr ⟨e, List.mem_cons_of_mem _ he, q⟩)
  · intro fl s1 hsp
    match fl, hsp with
    | .next, ⟨_, _, iv, q⟩ => exact wpAny_execs_nil ⟨_, _, iv.ofTry ok, q⟩
    | .brk, ⟨_, _, iv, q⟩ => exact ⟨_, _, iv.ofTry ok, q⟩
    | .cont, ⟨_, _, iv, q⟩ => exact ⟨_, _, iv.ofTry ok, q⟩
    | .ret _, ⟨_, _, _, iv, rv, q⟩ => exact ⟨_, _, _, iv.ofTry ok, rv, q⟩
end
end DL
namespace DL
open PySem PySem.Spec PyProof.Rows L2
def spInit (C : Addr) (m : Nat) (mk : List V → List (Str × V)) : Sp := fun vs H Q _ => ∃ a ws, vs = .ref a :: ws ∧ ws.length = m ∧ H a = some (exo a C none) ∧
  ∀ dx H', H dx = none → dx ≠ a → H' a = some (exo a C (some dx)) → H' dx = some (exd dx (mk ws)) → (∀ c, c ≠ a → c ≠ dx → H' c = H c) → Q .non H'
section
variable {P : Program} {w : World} {K : PySem.W.Frag} {mg : Str → Option Value} {base : Heap}
theorem ok_init1 {qual x : Str} {st : Stmt} {f C : Addr} {fd : FuncData} {wd : Str} {j : Nat} {p1 p2 p3 p4 p5 p6 p7 p8 : Pos} (F : Fun K "__init__" qual st f fd) (sc : FnScope ["self", x] ["self", x] (defScope st)) (T : OexC K C) (n1 : PySem.W.findIn K (.ref C) "word" = some none) (n2 : PySem.W.findIn K (.ref C) x = some none)
    (hb : defBody st = [.Assign [.Attribute (.Name "self" p1) "word" p2] (.Constant (.str wd) j p3) p4, .Assign [.Attribute (.Name "self" p5) x p6] (.Name x p7) p8]) (v0 : Vis (defScope st) "self") (v1 : Vis (defScope st) x)
    (d1 : (x == ("__debug__" : Str)) = false) (d2 : (x == ("__classdict__" : Str)) = false) : FnOk P w K mg base CX0 1 f fd ["self", x] (spInit C 1 fun vs => [(x, vs.getD 0 .non), ("word", .str wd)]) := by
  refine F.ok sc (fun vs H Q E h => ?_) (fun cdv A outer s H vs Q E hr h => ?_)
  · obtain ⟨a, ws, rfl, hl, _⟩ := h
    show ws.length + 1 = 2
    omega
  · obtain ⟨a, ws, rfl, hl, ha, q⟩ := h
    obtain ⟨v, rfl⟩ : ∃ v, ws = [v] := by
      match ws, hl with
      | [v], _ => exact ⟨v, rfl⟩
    rw [hb]
    refine ⟨_, pss_cons (ps_ost (pv 0 (hv := v0)) pe_str) (pss_one (ps_ost (pv 0 (hv := v0)) (pv 1 (hv := v1) (hd := d1) (hcd := d2)))), ?_⟩
    refine ⟨.ref a, rfl, a, C, rfl, T, n1, .inl ⟨ha, fun dx nd ne => ?_⟩⟩
    refine ⟨v, rfl, .ref a, rfl, a, C, rfl, T, n2, .inr ⟨dx, [("word", .str wd)], upd_same, ?_, (by simp), ?_⟩⟩
    · rw [upd_ne ne, upd_same]
    · refine q dx _ nd ne ?_ upd_same fun c h1 h2 => ?_
      · rw [upd_ne ne.symm, upd_same]
      · rw [upd_ne h2, upd_ne h1, upd_ne h2]
theorem ok_init2 {qual x y : Str} {st : Stmt} {f C : Addr} {fd : FuncData} {wd : Str} {j : Nat} {p1 p2 p3 p4 p5 p6 p7 p8 p9 pa pb pc : Pos} (F : Fun K "__init__" qual st f fd) (sc : FnScope ["self", x, y] ["self", x, y] (defScope st)) (T : OexC K C) (n1 : PySem.W.findIn K (.ref C) "word" = some none) (n2 : PySem.W.findIn K (.ref C) x = some none) (n3 : PySem.W.findIn K (.ref C) y = some none)
    (hb : defBody st = [.Assign [.Attribute (.Name "self" p1) "word" p2] (.Constant (.str wd) j p3) p4, .Assign [.Attribute (.Name "self" p5) x p6] (.Name x p7) p8, .Assign [.Attribute (.Name "self" p9) y pa] (.Name y pb) pc]) (v0 : Vis (defScope st) "self") (v1 : Vis (defScope st) x) (v2 : Vis (defScope st) y)
    (d1 : (x == ("__debug__" : Str)) = false) (d2 : (x == ("__classdict__" : Str)) = false) (d3 : (y == ("__debug__" : Str)) = false) (d4 : (y == ("__classdict__" : Str)) = false) :
    FnOk P w K mg base CX0 1 f fd ["self", x, y] (spInit C 2 fun vs => [(y, vs.getD 1 .non), (x, vs.getD 0 .non), ("word", .str wd)]) := by
  refine F.ok sc (fun vs H Q E h => ?_) (fun cdv A outer s H vs Q E hr h => ?_)
  · obtain ⟨a, ws, rfl, hl, _⟩ := h
    show ws.length + 1 = 3
    omega
  · obtain ⟨a, ws, rfl, hl, ha, q⟩ := h
    obtain ⟨v, u, rfl⟩ : ∃ v u, ws = [v, u] := by
      match ws, hl with
      | [v, u], _ => exact ⟨v, u, rfl⟩
    rw [hb]
    refine ⟨_, pss_cons (ps_ost (pv 0 (hv := v0)) pe_str) (pss_cons (ps_ost (pv 0 (hv := v0)) (pv 1 (hv := v1) (hd := d1) (hcd := d2))) (pss_one (ps_ost (pv 0 (hv := v0)) (pv 2 (hv := v2) (hd := d3) (hcd := d4))))), ?_⟩
    refine ⟨.ref a, rfl, a, C, rfl, T, n1, .inl ⟨ha, fun dx nd ne => ?_⟩⟩
    refine ⟨v, rfl, .ref a, rfl, a, C, rfl, T, n2, .inr ⟨dx, [("word", .str wd)], upd_same, ?_, (by simp), ?_⟩⟩
    · rw [upd_ne ne, upd_same]
    · refine ⟨u, rfl, .ref a, rfl, a, C, rfl, T, n3, .inr ⟨dx, [(x, v), ("word", .str wd)], ?_, upd_same, (by simp), ?_⟩⟩
      · rw [upd_ne ne.symm, upd_same]
      · refine q dx _ nd ne ?_ upd_same fun c h1 h2 => ?_
        · rw [upd_ne ne.symm, upd_ne ne.symm, upd_same]
        · rw [upd_ne h2, upd_ne h2, upd_ne h1, upd_ne h2]
end
section
variable {K : PySem.W.Frag} {b : Bg} {I0 H0 : Hp} {δ : Env} {N Bk Ct : Env → Prop} {R : DV → Prop} {P : DV → Prop} {E : XK}
theorem ev_callX {α : Type} {args : α → List DV} {ok : α → Prop} {out : α → DV → Prop} {exc : α → XD} {X : XD} {ta : TA} {A : List DV → Prop} (xw : XW K b I0 H0 E X) (ha : EvA K b I0 H0 ta δ A)
    (hp : ∀ rs, A rs → ∃ a, rs = args a ∧ ok a ∧ NoOwn rs ∧ (∀ r, out a r → P r) ∧ ∀ C fs, exc a C fs → X C fs) : EvD K b I0 H0 (tCall (spD K args ok out exc) [] E ta) δ P := fun σ I H k n Q q =>
  ha σ I H k n _ fun rs vs I1 H1 p x r => by
    obtain ⟨a, rfl, p1, p2, p3, p4⟩ := hp rs p
    rw [List.append_nil]
    exact ⟨a, b, I1, x.ok, resA_now r p2, p1, fun r v I' H' o x2 rs' => q r v I' H' (p3 r o) (x.trans x2) (rs'.since (free_of x)), fun C fs d I' H' he x2 h1 h2 => xw C fs d I' H' (p4 C fs he) ((k.trans x).trans x2) h1 h2⟩
end
section
variable {P : Program} {w : World} {K : PySem.W.Frag} {mg : Str → Option Value} {base : Heap}
theorem fn_okX {α : Type} {x qual : Str} {st : Stmt} {f : Addr} {fd : FuncData} {N ps : List Str} {k : Nat} {args : α → List DV} {ok : α → Prop} {out : α → DV → Prop} {exc : α → XD} (F : Fun K x qual st f fd) (S : FnScope N ps (defScope st)) (len : ∀ a, ok a → (args a).length = ps.length)
    (hbody : ∀ (cdv : Value) (A : Around) (outer : List PySem.Env) (s : Shared) (H : Hp) (E : XK), Room k (A.deeper (envOfC qual (defScope st) s.heap.objs.size f cdv)) →
      ∃ t, PSs (cxOf (L2.CX P w) P w K mg base N qual (defScope st) f cdv A outer s H E) (defBody st) t ∧ ∀ b I a, ok a → XW K b I H E (exc a) → SvD K b I H t (envOf N (args a)) (fun _ => out a (.dat .none)) (out a) (fun _ => False) (fun _ => False)) :
    FnOk P w K mg base (L2.CX P w) (k + 1) f fd ps (spD K args ok out exc) := by
  refine F.okX S (fun vs H Q E h => ?_) (fun cdv A outer s H vs Q E hr h => ?_)
  · obtain ⟨a, b, I, _, r, p, _⟩ := h
    rw [resA_len r]
    exact len a p
  · obtain ⟨a, b, I, k, r, p, q, xw⟩ := h
    obtain ⟨t, ht, hs⟩ := hbody cdv A outer s H E hr
    exact ⟨t, ht, hs b I a p (fun C fs d I' H' hx e h1 h2 => xw C fs d I' H' hx e h1 h2) _ I H k.re (env_start r) _ (fun δ' σ' I' H' o e _ _ => q _ _ I' H' o e Dp.non) (fun r v I' H' o e rs => q r v I' H' o e rs) (fun _ _ _ _ z => z.elim) (fun _ _ _ _ z => z.elim)⟩
end
theorem passX {P : Program} {w : World} {K : PySem.W.Frag} {mg : Str → Option Value} {base : Heap} {N : List Str} {q : Str} {sc : Scope} {f : Addr} {cdv : Value} {A : Around} {outer : List PySem.Env} {s : Shared} {H : Hp} {E : XK} :
    Passes (L2.CX P w) (cxOf (L2.CX P w) P w K mg base N q sc f cdv A outer s H E) E := passes_call (X := cxOf (L2.CX P w) P w K mg base N q sc f cdv A outer s H E) (takes_of rfl rfl rfl rfl) fun _ _ _ _ h => h
end DL
namespace DL
open PySem PySem.Spec PyProof.Rows L2
section
variable {K : PySem.W.Frag} {b : Bg} {I0 H0 : Hp} {δ δ' : Env} {P Pb : DV → Prop} {t : XK → TE} {T : List (Addr × Str)} {After : Addr → List (Str × V) → Hp → VK → Prop}
theorem ext_tab {I H H1 : Hp} (k : Ok K b I H) (x : LamX.ExtN H H1) (t : LamX.Tabs b.T H1) : Ext K b I H I H1 := by
  obtain ⟨n, pl, tb, l, ns, x', q, m, c, e, sl, r⟩ := k.b
  exact ⟨Same.refl I, fun a o _ t h => x a o h t, fun a o n _ _ => n, fun l0 xs h => ⟨xs, x _ _ h lst_tbl⟩, fun a o h => x a o (k.s a o h) (plain_tbl (pl a o h)), n, pl, t, l, ns, x', q, m, c, x _ _ e lst_tbl, sl, r⟩
end
end DL
namespace DL
open PySem PySem.Spec PyProof.Rows L2 RZ
section
variable {X : Cx} (K : PySem.W.Frag)
theorem k_pi_list {tg e : Expr} {te : TE} (he : PE X e te) (h : X.K = K := by rfl) : PI X tg e (iList K te) := h ▸ pi_list he
end
theorem gc_int {mg : Str → Option Value} {x : Str} {i : Int} (h : ∃ tk, mg x = some (.int i tk)) : ∃ u, mg x = some u ∧ RelV (.int i) u := by
  obtain ⟨tk, e⟩ := h
  exact ⟨_, e, tk, rfl⟩
theorem mem_lk : ∀ {K : List (Addr × Obj)} {a : Addr} {o : Obj}, K.lookup a = some o → (a, o) ∈ K
  | [], _, _, h => by cases h
  | (c, u) :: K, a, o, h => by
    rw [List.lookup_cons] at h
    by_cases z : a = c
    · subst z
      rw [show (a == a) = true by simp] at h
      cases h
      exact List.mem_cons_self ..
    · have z' : (a == c) = false := by simp [z]
      rw [z'] at h
      exact List.mem_cons_of_mem _ (mem_lk h)
theorem kt_by {K : PySem.W.Frag} (h : ktB K = true) : KT K := fun a o e c => by
  have m := mem_lk e
  have := List.all_eq_true.mp h _ m
  simp only [c, decide_true, Bool.not_true, Bool.false_or] at this
  exact Option.isNone_iff_eq_none.mp this
section
variable (K : PySem.W.Frag) (b : Bg) (I0 H0 : Hp)
def EvO (to : TO) (δ : Env) (P : Option Int → Prop) : Prop := ∀ (σ : L2.St) (I H : Hp), Ext K b I0 H0 I H → EnvR K b H0 I H σ δ → ∀ Q : Option Int → Hp → Prop,
  (∀ o I' H', P o → Ext K b I H I' H' → Q o H') → to σ H Q
end
section
variable {K : PySem.W.Frag} {b : Bg} {I0 H0 : Hp} {δ : Env} {ta te tb ti : TE} {P : DV → Prop} {N Bk Ct : Env → Prop} {R : DV → Prop}
theorem dpa_cut {I : Hp} {xs : List V} {ds : List PyData} (lo hi : Option Int) (h : DpAll K I xs ds) : DpAll K I (cutV xs lo hi) (cutD ds lo hi) := by
  unfold cutV cutD
  rw [dpa_len h]
  exact dpa_take _ (dpa_drop _ h)
theorem cutD_whole {ds : List PyData} {lo hi : Option Int} (h : HT.sIx ds.length 0 lo = 0 ∧ HT.sIx ds.length ds.length hi = ds.length) : cutD ds lo hi = ds := by
  unfold cutD
  rw [h.1, h.2]
  simp
end
theorem passLam {X : Cx} {A : Around} {outer : List PySem.Env} {s : Shared} {H : Hp} {E : XK} {scope : Scope} {f c' : Addr} : Passes (L2.CX X.prog X.w) (LamX.lamCx X A outer s H E scope f c') E := passes_call (takes_of rfl rfl rfl rfl) fun _ _ _ _ h => h
end DL
namespace DL
open PySem PySem.Spec PyProof.Rows L2 RZ
theorem pe_weak {X : Cx} {e : Expr} {te : TE} (h : PE X e te) : PE X e (fun σ H Q => ∃ QQ : VK, (∀ v H1, QQ v H1 → Q v H1) ∧ te σ H QQ) :=
  ⟨fun pins s σ H Q I ⟨QQ, m, h'⟩ => wpAny_mono (h.run pins s σ H QQ I h') (fun v s1 ⟨x, H1, I1, r1, q1⟩ => ⟨x, H1, I1, r1, m x H1 q1⟩) fun _ _ z => z⟩
end DL
namespace DL
open PySem PySem.Spec PyProof.Rows L2 RZ
section
variable {X : Cx} (K : PySem.W.Frag)
theorem k_bm {o e : Expr} {es : List Expr} {to : TE} {t : TA} {name : Str} {apos cpos : Pos} {T id : String} {r : V → List V → Hp → VK → Prop} (pa : PlainAttrs T) (slot : Slot T name id) (hty : typeOf (.builtin id) = pure (.type "method_descriptor")) (hm : MtR X id r) (ho : PE X o to) (ha : PA X (e :: es) t) (h : X.K = K := by rfl)
    (hbase : attributeBase o name X.env (eval o X.env) = eval o X.env := by rfl)
    (hfew : ((backTo cpos (starEach (e :: es) X.env)).all (fun x => !x.1) && (backToKw cpos (keywordEach [] X.env)).all (fun x => x.1.isSome) && decide ((e :: es).length + ([] : List Keyword).length + (if ([] : List Keyword).isEmpty then 0 else 1) < 30)) = true := by rfl)
    (hline : (apos.endLine == cpos.line) = true := by rfl) (hs : starEach (e :: es) X.env = (false, eval e X.env) :: starEach es X.env := by rfl) (hplain : (backTo cpos (starEach es X.env)).any (·.1) = false := by rfl) :
    PE X (.Call (.Attribute o name apos) (e :: es) [] cpos) (tBM K T r to t) := h ▸ pe_bm pa slot hty hm ho ha hbase hfew hline hs hplain
end
section
variable {K : PySem.W.Frag} {b : Bg} {I0 H0 : Hp} {δ : Env} {ta te tb ti : TE} {P : DV → Prop} {N Bk Ct : Env → Prop} {R : DV → Prop}
theorem erase_perm : ∀ (l : List Int) (k : Nat) (h : k < l.length), (l[k] :: l.eraseIdx k).Perm l
  | x :: l, 0, _ => List.Perm.refl _
  | x :: l, k + 1, h => by
    have ih := erase_perm l k (Nat.lt_of_succ_lt_succ h)
    exact (List.Perm.swap ..).trans (ih.cons x)
theorem EnvR.other {I H : Hp} {σ : L2.St} {D : Addr} {o : HO} (n : EnvR K b H0 I H σ δ) (hbor : noBor δ = true) (hD : ∀ (i : Nat) ds, δ[i]? = some (some (.own ds)) → σ[i]? ≠ some (some (.ref D))) (hK : ∀ (i : Nat) kvs, δ[i]? ≠ some (some (.dct true kvs)) := by intro i kvs; first | (rcases i with _ | _ | _ | _ | i <;> (intro z; first | cases z | (simp at z))) | simp) : EnvR K b H0 I (upd H D o) σ δ :=
  ⟨n.len, fun j r hj => by
    obtain ⟨w, g1, g2⟩ := n.at_ j r hj
    refine ⟨w, g1, ?_⟩
    cases r with
    | dat d => exact g2
    | raw u => exact g2
    | bag => exact g2
    | dct own kvs =>
      cases own with
      | true => exact absurd hj (hK j kvs)
      | false =>
        have hm := List.mem_of_getElem? hj
        have := List.all_eq_true.mp hbor _ hm
        cases this
    | own es =>
      obtain ⟨c, zs, rfl, q0, qn, qb, qa, qd⟩ := g2
      have nc : c ≠ D := fun z => by
        subst z
        exact hD j es hj g1
      exact ⟨c, zs, rfl, q0, qn, qb, by rw [upd_ne nc]; exact qa, qd⟩
    | bor es => exact absurd hj (noBor_at hbor j es), n.nd⟩
theorem perm_erase {outs rest ns : List Int} {k : Nat} (h : (outs ++ rest).Perm ns) (hk : k < rest.length) : (outs ++ [rest[k]] ++ rest.eraseIdx k).Perm ns := by
  refine List.Perm.trans ?_ h
  rw [List.append_assoc]
  refine List.Perm.append_left _ ?_
  exact erase_perm rest k hk
theorem erase_map {rest : List Int} {k : Nat} : (rest.map V.int).eraseIdx k = (rest.eraseIdx k).map V.int := by
  induction rest generalizing k with
  | nil => rfl
  | cons x rest ih =>
    cases k with
    | zero => rfl
    | succ k => rw [List.map_cons, List.eraseIdx_cons_succ, List.eraseIdx_cons_succ, ih]; rfl
theorem seqIx {k : Int} {n : Nat} (h0 : 0 ≤ k) (h1 : k < (n : Int)) : seqIndex? k n = some k.toNat := by
  unfold seqIndex?
  have z : ¬ k < 0 := by omega
  simp [z, h0, h1]
theorem sv_shuf {E : XK} {ns : List Int} (hl : ns.length ≤ 1000) (hR : ∀ ms : List Int, ms.Perm ns → R (.own (ms.map .int))) :
    SvD K b I0 H0 (tRet (tLc (iList K (tVar 1)) (gName 3) tYes (tBM K "list" rPopAt (tVar 2) (tCons (tCall (spD K aTake okTake outTake noX) [] E (tCons (tVar 0) (tCons (tCB (fun xs H Q => ∃ p ys, xs = [.ref p] ∧ (SqL K H p ys ∨ SqT K H p ys) ∧ Q (.int ys.length) H) (tCons (tVar 2) tNil)) tNil))) tNil)) [3]))
      [some .bag, some (.dat (.list (ns.map .int))), some (.own (ns.map .int)), none] N R Bk Ct := fun σ I H e n D a1 a2 a3 a4 => by
  obtain ⟨v1, g1, r1⟩ := n.at_ 1 _ rfl
  obtain ⟨v2, g2, r2⟩ := n.at_ 2 _ rfl
  have r1 : Dp K I v1 (.list (ns.map .int)) := r1
  cases r1 with
  | @lst a1' xs _ hs hd =>
    obtain ⟨L, ys, rfl, h0, hn, hb, hL, hdL⟩ := r2
    have ey := dpa_ints hdL
    subst ey
    refine ⟨_, g1, a1', rfl, ⟨xs, sl_mono e.s hs⟩, fun Dl hD => ?_⟩
    have nDb : Dl ≠ b.a := e.ok.nb hD
    have nLD : L ≠ Dl := ne_of_none hL hD
    have w : Walk (Itl K a1') ns.length (fun H => SqL K H a1' xs) (YAt xs) := by
      have := dpa_len hd
      rw [List.length_map] at this
      rw [← this]
      exact walk_list
    refine lc_it w (fun i Hk => ∃ (Ik : Hp) (outs rest : List Int), Ext K b I0 H0 Ik Hk ∧ Same I Ik ∧ EnvR K b H0 Ik Hk σ [some .bag, some (.dat (.list (ns.map .int))), some (.own (rest.map .int)), none] ∧ Ik Dl = none ∧ Hk Dl = some (.lst (outs.map V.int)) ∧ (outs ++ rest).Perm ns ∧ outs.length = i) ?_ (fun i Hk _ ⟨Ik, outs, rest, ek, sm, _⟩ => sl_mono (sm.trans ek.s) hs) ?_ ?_
    · exact ⟨I, [], ns, e.trans (e.ok.newH hD), Same.refl I, n.ext (e.ok.newH hD), e.ok.inone hD, upd_same, List.Perm.refl _, rfl⟩
    · rintro i x Hk Hk' hi ⟨Ik, outs, rest, ek, sm, nk, iD, aD, pm, ol⟩ ⟨eH, hx⟩
      subst eH
      have xi : ∃ d, (ns.map PyData.int)[i]? = some (.int d) := by
        refine ⟨ns[i], ?_⟩
        rw [List.getElem?_map, List.getElem?_eq_getElem hi]
        rfl
      obtain ⟨d, hdi⟩ := xi
      obtain ⟨u, e1, e2⟩ := dpa_get hd hdi
      rw [hx] at e1
      cases e1
      have rl : rest.length + i = ns.length := by
        have := pm.length_eq
        rw [List.length_append] at this
        omega
      have sl : σ.length = 4 := n.len
      have nw : EnvR K b H0 Ik Hk' (wipe σ [3]) [some .bag, some (.dat (.list (ns.map .int))), some (.own (rest.map .int)), none] := nk.wipe (hv1 rfl)
      have n2 : EnvR K b H0 Ik Hk' ((wipe σ [3]).set 3 (some x)) [some .bag, some (.dat (.list (ns.map .int))), some (.own (rest.map .int)), some (dint d)] :=
        nw.setD (i := 3) (r := dint d) (ltr rfl) (dp_mono sm e2) (fun _ z => by cases z)
      refine ⟨?_, ?_⟩
      · refine (wipe_eq (by rw [List.length_set]) fun j hj => ?_).trans (wipe_eq (wipe_length _ _) fun j hj => wipe_out hj)
        exact List.getElem?_set_ne (fun z => hj (by rw [← z]; exact List.mem_cons_self ..))
      · dsimp only [tYes]
        rw [if_pos rfl]
        obtain ⟨v2', g2', r2'⟩ := n2.at_ 2 _ rfl
        obtain ⟨L', ys', rfl, h0', hn', hb', hL', hdL'⟩ := r2'
        have ey' := dpa_ints hdL'
        subst ey'
        refine ⟨_, g2', .inl ⟨rfl, _, .inl (.inl hL')⟩, ?_⟩
        have take := ev_take (K := K) (b := b) (I0 := I0) (H0 := H0) (E := E) (i := 0) (n := (rest.length : Int)) (δ := [some .bag, some (.dat (.list (ns.map .int))), some (.own (rest.map .int)), some (dint d)]) rfl ((ev_len (ds := rest.map .int) (ev_varB (i := 2) rfl) (.inl (.inr (.inl rfl)))).to (s := dint (rest.length : Int)) (by rw [List.length_map])) ⟨by omega, by omega⟩
        refine take _ Ik Hk' ek n2 _ fun r v I3 H3 ⟨k, er, hk0, hk1⟩ x3 rs => ?_
        subst er
        have ev := int_read rs
        subst ev
        have aD3 : H3 Dl = some (.lst (outs.map V.int)) := x3.h Dl _ nDb lst_tbl aD
        have iD3 : I3 Dl = none := x3.n Dl _ iD aD lst_tbl
        have hL3 : H3 L' = some (.lst (rest.map V.int)) := x3.h L' _ hb' lst_tbl hL'
        have iL3 : I3 L' = none := x3.n L' _ hn' hL' lst_tbl
        have g3 : ((wipe σ [3]).set 3 (some x))[2]? = σ[2]? := by
          rw [List.getElem?_set_ne (by decide), wipe_out (by decide)]
        have eL : L' = L := by
          rw [g3, g2] at g2'
          cases g2'
          rfl
        have nL : L' ≠ Dl := eL ▸ nLD
        have hk : k.toNat < rest.length := by omega
        refine ⟨L', rest.map V.int, k, k.toNat, .int rest[k.toNat], rfl, rfl, hL3, by omega, by omega, ?_, ?_, ?_⟩
        · rw [List.length_map]
          exact seqIx hk0 hk1
        · rw [List.getElem?_map, List.getElem?_eq_getElem hk]
          rfl
        · have e4 : Ext K b I0 H0 I3 (upd H3 L' (.lst ((rest.map V.int).eraseIdx k.toNat))) := (ek.trans x3).mut h0' iL3 hb' hL3
          have aD4 : upd H3 L' (.lst ((rest.map V.int).eraseIdx k.toNat)) Dl = some (.lst (outs.map V.int)) := by rw [upd_ne nL.symm]; exact aD3
          have hsL : σ[2]? = some (some (.ref L')) := by rw [g2, eL]
          have n4 := (nk.ext x3).own (i := 2) (a := L') (ys := (rest.map V.int).eraseIdx k.toNat) (es := (rest.eraseIdx k.toNat).map .int) rfl rfl hsL h0' iL3 hb' (by rw [erase_map]; exact dpa_ofInts _)
          refine ⟨outs.map V.int, aD4, Nat.lt_of_lt_of_le (by rw [List.length_map]; omega : _ < 100000) (by decide : 100000 ≤ sizeLine), I3, outs ++ [rest[k.toNat]], rest.eraseIdx k.toNat, e4.mut (e.free (fr_none hD)) iD3 nDb aD4, sm.trans x3.i, n4.other rfl (fun j ds hj => ?_), iD3, ?_, perm_erase pm hk, by rw [List.length_append, ol]; rfl⟩
          · match j, hj with
            | 0, h => cases h
            | 1, h => cases h
            | 2, _ => rw [hsL]; exact fun z => nL (V.ref.inj (Option.some.inj (Option.some.inj z)))
            | 3, h => cases h
            | j + 4, h => cases h
          · rw [upd_same, List.map_append]
            rfl
    · rintro Hk ⟨Ik, outs, rest, ek, sm, nk, iD, aD, pm, ol⟩
      have hr : rest = [] := by
        have := pm.length_eq
        rw [List.length_append] at this
        exact List.eq_nil_of_length_eq_zero (by omega)
      subst hr
      rw [List.append_nil] at pm
      exact a2 _ _ Ik Hk (hR outs pm) ek ⟨Dl, _, rfl, e.free (fr_none hD), iD, nDb, aD, dpa_ofInts _⟩
end
theorem strsB_ok : ∀ {vs : List Value} {ys : List Str}, strsB vs ys = true → Vals (ys.map V.str) vs
  | [], [], _ => .nil
  | .str x t :: vs, y :: ys, h => by
    unfold strsB at h
    obtain ⟨h1, h2⟩ := Bool.and_eq_true_iff.mp h
    have e := of_decide_eq_true h1
    subst e
    exact .cons ⟨t, rfl⟩ (strsB_ok h2)
  | [], _ :: _, h => by unfold strsB at h; cases h
  | .none :: _, _, h => by unfold strsB at h; cases h
  | .bool _ :: _, _, h => by unfold strsB at h; cases h
  | .int _ _ :: _, _, h => by unfold strsB at h; cases h
  | .ref _ :: _, _, h => by unfold strsB at h; cases h
  | .str _ _ :: _, [], h => by unfold strsB at h; cases h
  | .bytes _ _ :: _, _, h => by unfold strsB at h; cases h
  | .float _ _ :: _, _, h => by unfold strsB at h; cases h
  | .type _ :: _, _, h => by unfold strsB at h; cases h
  | .builtin _ :: _, _, h => by unfold strsB at h; cases h
theorem dpa_ofStrs {K : PySem.W.Frag} {I : Hp} : ∀ (ss : List Str), DpAll K I (ss.map V.str) (ss.map .str)
  | [] => .nil
  | s :: ss => .cons (.str s) (dpa_ofStrs ss)
theorem strTup_ok {K : PySem.W.Frag} {a : Addr} {ss : List Str} (h : strTupB K a ss = true) : ∀ I, Dp K I (.ref a) (.tuple (ss.map .str)) := fun I => by
  unfold strTupB at h
  split at h
  · rename_i dd vs n sl e
    obtain ⟨h1, h2⟩ := Bool.and_eq_true_iff.mp h
    exact .tup (.inr ⟨_, vs, n, e, rfl, rfl, Nat.le_trans (of_decide_eq_true h1) (by decide : 1000 ≤ sizeLine), strsB_ok h2⟩) (dpa_ofStrs ss)
  · cases h
theorem kl_by {K : PySem.W.Frag} (h : klB K = true) : KL K := fun a o e c => by
  have := List.all_eq_true.mp h _ (mem_lk e)
  simp [c] at this
end DL
namespace DW
open PySem PySem.Spec PyProof.Rows L2 RZ DL
theorem isPl_own {rs : List DV} (h : rs.all isPl = true) : NoOwn rs := fun r hr => by
  have := List.all_eq_true.mp h r hr
  constructor
  · intro ds e
    rw [e] at this
    cases this
  · intro ds e
    rw [e] at this
    cases this
section
variable (K : PySem.W.Frag) (S : Sg)
def CE (te : TE) (de : DE) : Prop := ∀ b I0 H0 c δ P, NB S.n δ → Cok K S b I0 H0 c → de c δ P → EvD K b I0 H0 te δ P
def CT (tt : TT) (dt : DT) : Prop := ∀ b I0 H0 c δ P, NB S.n δ → Cok K S b I0 H0 c → dt c δ P → EvT K b I0 H0 tt δ P
def CA (m : Nat) (ta : TA) (da : DA) : Prop := ∀ b I0 H0 c δ P, NB S.n δ → Cok K S b I0 H0 c → da c δ P → EvA K b I0 H0 ta δ (fun rs => rs.length = m ∧ P rs)
def CO (to : TO) (d : DO) : Prop := ∀ b I0 H0 c δ P, NB S.n δ → Cok K S b I0 H0 c → d c δ P → EvO K b I0 H0 to δ P
def CI (Rl : Rel) (wi : TI) (di : DI) : Prop := ∀ b I0 H0 c δ A, NB S.n δ → Cok K S b I0 H0 c → di c δ A → ItD K b Rl I0 H0 wi δ A
def CS (ts : TS) (ds : DS) : Prop := ∀ b I0 H0 c δ D, NB S.n δ → Cok K S b I0 H0 c → ds c δ D → SvD K b I0 H0 ts δ (fun d => NB S.n d ∧ D.nx d) D.rt (fun d => NB S.n d ∧ D.bk d) (fun d => NB S.n d ∧ D.ct d)
end
section
variable (X : Cx) (S : Sg)
def JE (e : Expr) (de : DE) : Prop := ∃ te, PE X e te ∧ CE X.K S te de
def JT (e : Expr) (dt : DT) : Prop := ∃ t, PT X e t ∧ CT X.K S t dt
def JW (e : Expr) (dt : DT) : Prop := ∃ t, PW X e t ∧ CT X.K S t dt
def JA (es : List Expr) (da : DA) : Prop := ∃ t, PA X es t ∧ CA X.K S es.length t da
def JO (e : Option Expr) (d : DO) : Prop := ∃ t, PO X e t ∧ CO X.K S t d
def JI (Rl : Rel) (tg e : Expr) (di : DI) : Prop := ∃ t, PI X tg e t ∧ CI X.K S Rl t di
def JS (st : Stmt) (ds : DS) : Prop := ∃ t, PS X st t ∧ CS X.K S t ds
def JSs (sts : List Stmt) (ds : DS) : Prop := ∃ t, PSs X sts t ∧ CS X.K S t ds
def JOp (f : Value → Value → Sem Value) (o : DV → DV → DP → Prop) : Prop := ∃ r, OpR X f r ∧ ∀ b x y P, o x y P → OpD X.K b r x y P
def JIx (o : DV → DV → DP → Prop) : Prop := ∃ r, IxR X r ∧ ∀ b x y P, o x y P → OpD X.K b r x y P
def JUn (f : Value → Sem Value) (o : DV → DP → Prop) : Prop := ∃ r, UnR X f r ∧ ∀ b x P, o x P → UnD X.K b r x P
def JCb (f : Value) (o : List DV → DP → Prop) : Prop := ∃ r, CallR X f r ∧ ∀ b rs P, o rs P → CbD X.K b r rs P
end
section
variable {K : PySem.W.Frag} {b : Bg} {I0 H0 : Hp} {δ : En} {te ta tb : TE} {P : DP}
theorem ev_fz {Q : DP} (h : EvD K b I0 H0 te δ (fun r => Q (fz r))) : EvD K b I0 H0 te δ Q := fun σ I H e n R q =>
  h σ I H e n R fun r v I' H' p x rs => by
    cases r with
    | own ds =>
      obtain ⟨I'', x', rs'⟩ := frz_res x rs
      exact q _ _ I'' H' p x' rs'
    | dat d => exact q _ _ I' H' p x rs
    | bor ds => exact q _ _ I' H' p x rs
    | raw u => exact q _ _ I' H' p x rs
    | bag => exact q _ _ I' H' p x rs
    | dct o kvs => exact q _ _ I' H' p x rs
theorem ev_opC {r : R2} {Pa : DP} {Pb : DV → DP} (ha : EvD K b I0 H0 ta δ Pa) (hb : ∀ x, Pa x → EvD K b I0 H0 tb δ (Pb x)) (ho : ∀ x y, Pb x y → OpD K b r x y P) : EvD K b I0 H0 (tOp r ta tb) δ P := fun σ I H e n Q q =>
  ha σ I H e n _ fun x v I1 H1 p1 x1 r1 => hb x p1 σ I1 H1 (e.trans x1) (n.ext x1) _ fun y w I2 H2 p2 x2 r2 =>
    ho x y p2 H I2 H2 v w x2.ok (r1.ext x2) (r2.since (free_of x1)) Q fun z u I3 H3 p3 x3 r3 => q z u I3 H3 p3 ((x1.trans x2).trans x3) (r3.since (free_of (x1.trans x2)))
theorem ev_chainC {r r' : R2} {tc : TE} {Pa : DP} {Pb : DV → DP} {Pm : DV → Bool → Prop} {Pc : DV → DP} (ha : EvD K b I0 H0 ta δ Pa) (hb : ∀ x, Pa x → EvD K b I0 H0 tb δ (Pb x)) (ho : ∀ x y, Pb x y → OpD K b r x y (fun z => ∃ c, z = dbl c ∧ Pm y c))
    (hf : ∀ y, Pm y false → P (dbl false)) (hc : ∀ y, Pm y true → EvD K b I0 H0 tc δ (Pc y)) (ho' : ∀ y z, Pc y z → OpD K b r' y z P) : EvD K b I0 H0 (tChain r r' ta tb tc) δ P := fun σ I H e n Q q =>
  ha σ I H e n _ fun x v I1 H1 p1 x1 r1 => hb x p1 σ I1 H1 (e.trans x1) (n.ext x1) _ fun y w I2 H2 p2 x2 r2 =>
    ho x y p2 H I2 H2 v w x2.ok (r1.ext x2) (r2.since (free_of x1)) _ fun z u I3 H3 p3 x3 r3 => by
      obtain ⟨c, rfl, pm⟩ := p3
      refine ⟨c, bl_read r3, ?_⟩
      cases c with
      | false => exact q _ _ I3 H3 (hf y pm) ((x1.trans x2).trans x3) (Dp.bl false)
      | true =>
        exact hc y pm σ I3 H3 (e.trans ((x1.trans x2).trans x3)) (n.ext ((x1.trans x2).trans x3)) _ fun zz ww I4 H4 p4 x4 r4 =>
          ho' y zz p4 H I4 H4 w ww x4.ok (((r2.since (free_of x1)).ext x3).ext x4) (r4.since (free_of ((x1.trans x2).trans x3))) Q fun z5 u5 I5 H5 p5 x5 r5 =>
            q z5 u5 I5 H5 p5 ((((x1.trans x2).trans x3).trans x4).trans x5) (r5.since (free_of (((x1.trans x2).trans x3).trans x4)))
theorem ea_consC {tr : TA} {Pa : DP} {B : List DV → Prop} (ha : EvD K b I0 H0 ta δ Pa) (hr : ∀ x, Pa x → EvA K b I0 H0 tr δ (fun rs => B (x :: rs))) : EvA K b I0 H0 (tCons ta tr) δ B := fun σ I H e n Q q =>
  ha σ I H e n _ fun x v I1 H1 p1 x1 r1 => hr x p1 σ I1 H1 (e.trans x1) (n.ext x1) _ fun rs vs I2 H2 p2 x2 r2 =>
    q (x :: rs) (v :: vs) I2 H2 p2 (x1.trans x2) (.cons (r1.ext x2) (r2.since (free_of x1)))
end
section
variable {X : Cx} {S : Sg} {a b e : Expr} {da db de : DE} {pos : Pos}
theorem je_var {i : Nat} (h : PE X e (tVar i)) : JE X S e (dVar i) := ⟨_, h, fun b I0 H0 c δ P nb ok hd => by
  unfold dVar at hd
  split at hd
  · rename_i ds e1
    exact (ev_varB e1).mono fun _ z => z ▸ hd
  · rename_i kvs e1
    exact (ev_varK e1).mono fun _ z => z ▸ hd
  · rename_i r no nk e1
    exact (ev_var e1 (fun ds z => no ds (z ▸ rfl)) (fun ds z => nk ds (z ▸ rfl))).mono fun _ z => z ▸ hd
  · exact hd.elim⟩
theorem je_c {v : V} {d : PyData} (h : PE X e (tC v)) (hd : ∀ I, Dp X.K I v d) : JE X S e (dC (.dat d)) := ⟨_, h, fun b I0 H0 c δ P nb ok p σ I H ex n Q q => q _ _ I H p ex.re (hd I)⟩
theorem je_int {i j} : JE X S (.Constant (.int i) j pos) (dC (dint i)) := je_c pe_int fun _ => Dp.int _
theorem je_bl {i j} : JE X S (.Constant (.bool i) j pos) (dC (dbl i)) := je_c pe_bl fun _ => Dp.bl _
theorem je_str {i j} : JE X S (.Constant (.str i) j pos) (dC (dstr i)) := je_c pe_str fun _ => Dp.str _
theorem je_non {j} : JE X S (.Constant .none j pos) (dC (.dat .none)) := je_c pe_non fun _ => Dp.non
theorem je_raw {v : V} (h : PE X e (tC v)) : JE X S e (dC (.raw v)) := ⟨_, h, fun b I0 H0 c δ P nb ok p σ I H ex n Q q => q _ _ I H p ex.re rfl⟩
theorem ce_bin {K : PySem.W.Frag} {r : R2} {o : DV → DV → DP → Prop} {ta tb : TE} (ho : ∀ b x y P, o x y P → OpD K b r x y P) (ha : CE K S ta da) (hb : CE K S tb db) : CE K S (tOp r ta tb) (dBin o da db) := fun b I0 H0 c δ P nb ok p =>
  ev_opC (Pa := fun x => db c δ fun y => o x (fz y) P) (Pb := fun x y => o x y P) (ev_fz (ha b I0 H0 c δ _ nb ok p)) (fun x px => ev_fz (hb b I0 H0 c δ _ nb ok px)) fun x y h => ho b x y P h
theorem je_op {op : Operator} {o : DV → DV → DP → Prop} (ho : JOp X (binaryOp op) o) (ha : JE X S a da) (hb : JE X S b db) : JE X S (.BinOp a op b pos) (dBin o da db) := by
  obtain ⟨r, h1, h2⟩ := ho
  obtain ⟨ta, ha1, ha2⟩ := ha
  obtain ⟨tb, hb1, hb2⟩ := hb
  exact ⟨_, pe_op h1 ha1 hb1, ce_bin h2 ha2 hb2⟩
theorem je_cmp {op : CmpOp} {o : DV → DV → DP → Prop} (ho : JOp X (compareOp op) o) (ha : JE X S a da) (hb : JE X S b db) (hm : behindInMarks op b = false) : JE X S (.Compare a [op] [b] pos) (dBin o da db) := by
  obtain ⟨r, h1, h2⟩ := ho
  obtain ⟨ta, ha1, ha2⟩ := ha
  obtain ⟨tb, hb1, hb2⟩ := hb
  exact ⟨_, pe_cmpR h1 ha1 hb1 hm, ce_bin h2 ha2 hb2⟩
theorem je_ix {o : DV → DV → DP → Prop} (ho : JIx X o) (ha : JE X S a da) (hb : JE X S b db) (hs : PlainIx b) : JE X S (.Subscript a b pos) (dBin o da db) := by
  obtain ⟨r, h1, h2⟩ := ho
  obtain ⟨ta, ha1, ha2⟩ := ha
  obtain ⟨tb, hb1, hb2⟩ := hb
  exact ⟨_, pe_ix h1 ha1 hb1 hs, ce_bin h2 ha2 hb2⟩
theorem je_un {op : UnaryOp} {o : DV → DP → Prop} (ho : JUn X (unaryOp op) o) (ha : JE X S a da) : JE X S (.UnaryOp op a pos) (dUn o da) := by
  obtain ⟨r, h1, h2⟩ := ho
  obtain ⟨ta, ha1, ha2⟩ := ha
  exact ⟨_, pe_un h1 ha1, fun b I0 H0 c δ P nb ok p => ev_un (Pa := fun x => o x P) (ev_fz (ha2 b I0 H0 c δ _ nb ok p)) fun x h => h2 b x P h⟩
theorem ce_chain {K : PySem.W.Frag} {r r' : R2} {o o' : DV → DV → DP → Prop} {ta tb tc : TE} {dc : DE} (ho : ∀ b x y P, o x y P → OpD K b r x y P) (ho' : ∀ b x y P, o' x y P → OpD K b r' x y P) (ha : CE K S ta da) (hb : CE K S tb db) (hc : CE K S tc dc) :
    CE K S (tChain r r' ta tb tc) (dChain o o' da db dc) := fun b I0 H0 c δ P nb ok p => by
  refine ev_chainC (Pa := fun x => db c δ fun y => o x (fz y) fun z => match z with
    | .dat (.bool k) => if k = true then dc c δ fun w => o' (fz y) (fz w) P else P (dbl false)
    | _ => False) (Pb := fun x y => o x y fun z => match z with
    | .dat (.bool k) => if k = true then dc c δ fun w => o' y (fz w) P else P (dbl false)
    | _ => False) (Pm := fun y k => if k = true then dc c δ fun w => o' y (fz w) P else P (dbl false)) (Pc := fun y w => o' y w P) (ev_fz (ha b I0 H0 c δ _ nb ok p)) (fun x px => ev_fz (hb b I0 H0 c δ _ nb ok px)) (fun x y h => ?_) (fun y h => h) (fun y h => ev_fz (hc b I0 H0 c δ _ nb ok h)) fun y z h => ho' b y z P h
  have := ho b x y _ h
  intro H0' I H v w k r1 r2 Q q
  refine this H0' I H v w k r1 r2 Q fun z u I' H' hz => ?_
  dsimp only at hz
  split at hz
  · exact q _ u I' H' ⟨_, rfl, hz⟩
  · exact hz.elim
theorem je_chain {op op' : CmpOp} {o o' : DV → DV → DP → Prop} {c' : Expr} {dc : DE} (ho : JOp X (compareOp op) o) (ho' : JOp X (compareOp op') o') (ha : JE X S a da) (hb : JE X S b db) (hc : JE X S c' dc) (hm : lastMarks [op, op'] [b, c'] = false := by with_unfolding_all rfl) :
    JE X S (.Compare a [op, op'] [b, c'] pos) (dChain o o' da db dc) := by
  obtain ⟨r, h1, h2⟩ := ho
  obtain ⟨r', h3, h4⟩ := ho'
  obtain ⟨ta, ha1, ha2⟩ := ha
  obtain ⟨tb, hb1, hb2⟩ := hb
  obtain ⟨tc, hc1, hc2⟩ := hc
  exact ⟨_, pe_chain h1 h3 ha1 hb1 hc1 hm, ce_chain h2 h4 ha2 hb2 hc2⟩
theorem tst_of {K : PySem.W.Frag} {b : Bg} {I0 H0 : Hp} {δ : En} {te : TE} {P : Bool → Prop} (h : EvD K b I0 H0 te δ (fun r => match r with
  | .dat (.bool k) => P k
  | _ => False)) : EvD K b I0 H0 te δ (fun x => ∃ c, x = dbl c ∧ P c) := h.mono fun r hr => by
  split at hr
  · exact ⟨_, rfl, hr⟩
  · exact hr.elim
theorem jt_val (h : JE X S e de) (he : ∀ whole, isTrue e X.env whole = (do let v ← whole; standAt e.pos; holding [v] (truthy v)) := by intro _; rfl) : JT X S e (dTst de) := by
  obtain ⟨te, h1, h2⟩ := h
  exact ⟨_, pt_val h1 he, fun b I0 H0 c δ P nb ok p => et_B (tst_of (h2 b I0 H0 c δ _ nb ok p))⟩
theorem jt_cmp {op : CmpOp} {o : DV → DV → DP → Prop} (ho : JOp X (compareOp op) o) (ha : JE X S a da) (hb : JE X S b db) (hm : behindInMarks op b = false) : JT X S (.Compare a [op] [b] pos) (dTst (dBin o da db)) := by
  obtain ⟨r, h1, h2⟩ := ho
  obtain ⟨ta, ha1, ha2⟩ := ha
  obtain ⟨tb, hb1, hb2⟩ := hb
  exact ⟨_, pt_cmpR h1 ha1 hb1 hm, fun b I0 H0 c δ P nb ok p => et_test (tst_of (ce_bin h2 ha2 hb2 b I0 H0 c δ _ nb ok p))⟩
theorem jt_chain {op op' : CmpOp} {o o' : DV → DV → DP → Prop} {c' : Expr} {dc : DE} (ho : JOp X (compareOp op) o) (ho' : JOp X (compareOp op') o') (ha : JE X S a da) (hb : JE X S b db) (hc : JE X S c' dc) (hm : lastMarks [op, op'] [b, c'] = false := by with_unfolding_all rfl) :
    JT X S (.Compare a [op, op'] [b, c'] pos) (dTst (dChain o o' da db dc)) := by
  obtain ⟨r, h1, h2⟩ := ho
  obtain ⟨r', h3, h4⟩ := ho'
  obtain ⟨ta, ha1, ha2⟩ := ha
  obtain ⟨tb, hb1, hb2⟩ := hb
  obtain ⟨tc, hc1, hc2⟩ := hc
  exact ⟨_, pt_chain h1 h3 ha1 hb1 hc1 hm, fun b I0 H0 c δ P nb ok p => et_test (tst_of (ce_chain h2 h4 ha2 hb2 hc2 b I0 H0 c δ _ nb ok p))⟩
theorem jt_not {dt : DT} (h : JT X S a dt) : JT X S (.UnaryOp .Not a pos) (dNot dt) := by
  obtain ⟨t, h1, h2⟩ := h
  exact ⟨_, pt_not h1, fun b I0 H0 c δ P nb ok p => (et_not (h2 b I0 H0 c δ _ nb ok p)).mono fun r hr => by simpa using hr⟩
theorem jt_w {dt : DT} (h : JW X S a dt) : JT X S a dt := by
  obtain ⟨t, h1, h2⟩ := h
  exact ⟨_, h1.pt, h2⟩
theorem jw_and1 {dt : DT} (h : JT X S a dt) : JW X S (.BoolOp .And [a] pos) dt := by
  obtain ⟨t, h1, h2⟩ := h
  exact ⟨_, pw_and1 h1, h2⟩
theorem jw_or1 {dt : DT} (h : JT X S a dt) : JW X S (.BoolOp .Or [a] pos) dt := by
  obtain ⟨t, h1, h2⟩ := h
  exact ⟨_, pw_or1 h1, h2⟩
theorem ct_and {K : PySem.W.Frag} {t u : TT} {dt du : DT} (h : CT K S t dt) (h' : CT K S u du) : CT K S (tAnd t u) (dAnd dt du) := fun b I0 H0 c δ P nb ok p =>
  et_and (A := fun v => if v = true then du c δ P else P false) (B := P) (h b I0 H0 c δ _ nb ok p) (fun hA => h' b I0 H0 c δ _ nb ok hA) (fun hA => hA) fun _ _ hB => hB
theorem ct_or {K : PySem.W.Frag} {t u : TT} {dt du : DT} (h : CT K S t dt) (h' : CT K S u du) : CT K S (tOr t u) (dOr dt du) := fun b I0 H0 c δ P nb ok p =>
  et_or (A := fun v => if v = true then P true else du c δ P) (B := P) (h b I0 H0 c δ _ nb ok p) (fun hA => h' b I0 H0 c δ _ nb ok hA) (fun hA => hA) fun _ _ hB => hB
theorem jw_and {rest : List Expr} {dt du : DT} (h : JT X S a dt) (h' : JW X S (.BoolOp .And (b :: rest) pos) du) : JW X S (.BoolOp .And (a :: b :: rest) pos) (dAnd dt du) := by
  obtain ⟨t, h1, h2⟩ := h
  obtain ⟨u, h3, h4⟩ := h'
  exact ⟨_, pw_and h1 h3, ct_and h2 h4⟩
theorem jw_or {rest : List Expr} {dt du : DT} (h : JT X S a dt) (h' : JW X S (.BoolOp .Or (b :: rest) pos) du) : JW X S (.BoolOp .Or (a :: b :: rest) pos) (dOr dt du) := by
  obtain ⟨t, h1, h2⟩ := h
  obtain ⟨u, h3, h4⟩ := h'
  exact ⟨_, pw_or h1 h3, ct_or h2 h4⟩
theorem je_one {op} (h : JE X S a da) : JE X S (.BoolOp op [a] pos) da := by
  obtain ⟨t, h1, h2⟩ := h
  exact ⟨_, pe_one h1, h2⟩
theorem je_and {rest : List Expr} (h : JE X S a da) (h' : JE X S (.BoolOp .And (b :: rest) pos) db) : JE X S (.BoolOp .And (a :: b :: rest) pos) (dAndV da db) := by
  obtain ⟨t, h1, h2⟩ := h
  obtain ⟨u, h3, h4⟩ := h'
  exact ⟨_, pe_and h1 h3, fun b I0 H0 c δ P nb ok p => ev_andV (A := fun k => if k = true then db c δ P else P (dbl false)) (tst_of (h2 b I0 H0 c δ _ nb ok p)) (fun hA => h4 b I0 H0 c δ _ nb ok hA) fun hA => hA⟩
theorem je_not (h : JE X S a da) : JE X S (.UnaryOp .Not a pos) (dNotV da) := by
  obtain ⟨t, h1, h2⟩ := h
  exact ⟨_, pe_not h1, fun b I0 H0 c δ P nb ok p => ev_notV (A := fun k => P (dbl (!k))) (tst_of (h2 b I0 H0 c δ _ nb ok p)) fun k hk => hk⟩
theorem je_ifE {t : Expr} {dt : DT} (ht : JT X S t dt) (ha : JE X S a da) (hb : JE X S b db) : JE X S (.IfExp t a b pos) (dIfE dt da db) := by
  obtain ⟨tt, h1, h2⟩ := ht
  obtain ⟨ta, ha1, ha2⟩ := ha
  obtain ⟨tb, hb1, hb2⟩ := hb
  exact ⟨_, pe_ifExp h1 ha1 hb1, fun b I0 H0 c δ P nb ok p => ev_if (A := fun k => if k = true then da c δ P else db c δ P) (h2 b I0 H0 c δ _ nb ok p) (fun hA => ha2 b I0 H0 c δ _ nb ok hA) fun hA => hb2 b I0 H0 c δ _ nb ok hA⟩
theorem ca_nil {K : PySem.W.Frag} : CA K S 0 tNil dNil := fun b I0 H0 c δ P nb ok p => ea_nil.mono fun _ e => by
  subst e
  exact ⟨rfl, p⟩
theorem ca_cons {K : PySem.W.Frag} {m : Nat} {te : TE} {ta : TA} {da : DA} (h : CE K S te de) (h' : CA K S m ta da) : CA K S (m + 1) (tCons te ta) (dCons de da) := fun b I0 H0 c δ P nb ok p =>
  ea_consC (Pa := fun r => da c δ fun rs => P (r :: rs)) (ev_fz (h b I0 H0 c δ _ nb ok p)) fun r hr => (h' b I0 H0 c δ _ nb ok hr).mono fun rs ⟨l, p⟩ => ⟨congrArg Nat.succ l, p⟩
theorem ja_nil : JA X S [] dNil := ⟨_, pa_nil, ca_nil⟩
theorem ja_cons {es : List Expr} {da : DA} (h : JE X S e de) (h' : JA X S es da) (hs : starEach (e :: es) X.env = (false, eval e X.env) :: starEach es X.env := by rfl) : JA X S (e :: es) (dCons de da) := by
  obtain ⟨t, h1, h2⟩ := h
  obtain ⟨u, h3, h4⟩ := h'
  exact ⟨_, pa_cons h1 h3 hs, ca_cons h2 h4⟩
theorem dats_ok : ∀ {rs : List DV} {ds : List PyData}, dats rs = some ds → rs = ds.map .dat
  | [], ds, h => by
    cases h
    rfl
  | .dat d :: rs, ds, h => by
    unfold dats at h
    cases q : dats rs with
    | none => rw [q] at h; cases h
    | some es =>
      rw [q] at h
      cases h
      rw [dats_ok q]
      rfl
  | .own _ :: _, _, h => by cases h
  | .bor _ :: _, _, h => by cases h
  | .raw _ :: _, _, h => by cases h
  | .bag :: _, _, h => by cases h
  | .dct _ _ :: _, _, h => by cases h
theorem dats_ev {K : PySem.W.Frag} {b : Bg} {I0 H0 : Hp} {δ : En} {ta : TA} {m : Nat} {A : List PyData → Prop} (hl : m ≤ 100000) (h : EvA K b I0 H0 ta δ (fun rs => rs.length = m ∧ match dats rs with
  | some ds => A ds
  | none => False)) : EvA K b I0 H0 ta δ (fun rs => ∃ ds, rs = ds.map .dat ∧ ds.length ≤ 100000 ∧ A ds) := h.mono fun rs ⟨l, p⟩ => by
  cases q : dats rs with
  | none => rw [q] at p; exact p.elim
  | some ds =>
    rw [q] at p
    have e := dats_ok q
    refine ⟨ds, e, ?_, p⟩
    rw [e, List.length_map] at l
    omega
theorem je_tup {es : List Expr} {da : DA} {x1} (h : JA X S es da) (hl : es.length ≤ 100000 := by decide) : JE X S (.Tuple es x1 pos) (dTup da) := by
  obtain ⟨t, h1, h2⟩ := h
  exact ⟨_, TF.pe_tupF h1, fun b I0 H0 c δ P nb ok p => (ev_tup (A := fun ds => P (.dat (.tuple ds))) (dats_ev hl (h2 b I0 H0 c δ _ nb ok p))).mono fun r ⟨ds, e, q⟩ => e ▸ q⟩
theorem je_lst {es : List Expr} {da : DA} (h : JA X S es da) (hl : es.length ≤ 100000 := by decide) : JE X S (.List es pos) (dLst da) := by
  obtain ⟨t, h1, h2⟩ := h
  exact ⟨_, pe_lst h1, fun b I0 H0 c δ P nb ok p => (ev_lst (A := fun ds => P (.own ds)) (dats_ev hl (h2 b I0 H0 c δ _ nb ok p))).mono fun r ⟨ds, e, q⟩ => e ▸ q⟩
theorem jo_none : JO X S none dNone := ⟨_, po_none, fun b I0 H0 c δ P nb ok p => fun σ I H e n Q q => q none I H p e.re⟩
theorem jo_some (h : JE X S e de) : JO X S (some e) (dSome de) := by
  obtain ⟨t, h1, h2⟩ := h
  refine ⟨_, po_some h1, fun b I0 H0 c δ P nb ok p => fun σ I H e n Q q => ?_⟩
  refine h2 b I0 H0 c δ _ nb ok p σ I H e n _ fun r v I' H' hr x rs => ?_
  split at hr
  · rename_i i
    exact ⟨i, int_read rs, q _ I' H' hr x⟩
  · exact hr.elim
theorem je_sl {lo hi : Option Expr} {dl dh : DO} {p2 : Pos} (h : JE X S e de) (hl : JO X S lo dl) (hh : JO X S hi dh) : JE X S (.Subscript e (.Slice lo hi none p2) pos) (dSl de dl dh) := by
  obtain ⟨te, h1, h2⟩ := h
  obtain ⟨tl, l1, l2⟩ := hl
  obtain ⟨th, g1, g2⟩ := hh
  refine ⟨_, pe_slice (TF.sl_tupF.or (sl_list.or sl_str)) h1 l1 g1, fun b I0 H0 c δ P nb ok p => fun σ I H e n Q q => ?_⟩
  refine ev_fz (Q := fun r => dl c δ fun lo => dh c δ fun hi => oCut lo hi r P) (h2 b I0 H0 c δ _ nb ok p) σ I H e n _ fun r v I1 H1 p1 x rs => ?_
  refine l2 b I0 H0 c δ _ nb ok p1 σ I1 H1 (e.trans x) (n.ext x) _ fun lo I2 H2 pl x2 => ?_
  refine g2 b I0 H0 c δ _ nb ok pl σ I2 H2 (e.trans (x.trans x2)) (n.ext (x.trans x2)) _ fun hi I3 H3 ph x3 => ?_
  have rs3 := (rs.ext x2).ext x3
  have x13 := (x.trans x2).trans x3
  have lst : ∀ ds, LstR r ds → P (.own (cutD ds lo hi)) → rSlL X.K v lo hi H3 Q := fun ds hr hp => by
    obtain ⟨p, xs, rfl, hs, hd⟩ := hr.read x3.s rs3
    exact ⟨p, xs, rfl, hs, fun c nc => q _ _ _ _ hp (x13.trans (x3.ok.newH nc)) ⟨c, _, rfl, x13.free (fr_none nc), x3.ok.inone nc, x3.ok.nb nc, upd_same, dpa_cut lo hi hd⟩⟩
  unfold oCut at ph
  split at ph
  · rename_i ds
    obtain ⟨a, xs, ev, hs, hd⟩ := tup_read x3.s rs3
    subst ev
    refine .inl ⟨a, xs, rfl, hs, fun z => ?_, fun _ => newT_res x3.ok (dpa_cut lo hi hd) fun v I' H' x4 d => q _ v I' H' ph (x13.trans x4) d⟩
    rw [dpa_len hd] at z
    rw [cutD_whole z] at ph
    exact q _ _ I3 H3 ph x13 rs3
  · exact .inr (.inl (lst _ (.inr (.inr rfl)) ph))
  · exact .inr (.inl (lst _ (.inr (.inl rfl)) ph))
  · obtain ⟨hz, ph⟩ := ph
    rw [str_read rs3]
    exact .inr (.inr ⟨_, rfl, Nat.le_trans hz (by decide : 100000 ≤ sizeLine), q _ _ I3 H3 ph x13 (Dp.str _)⟩)
  · exact ph.elim
end
end DW
namespace DW
open PySem PySem.Spec PyProof.Rows L2 RZ DL
theorem opr_or {X : Cx} {f : Value → Value → Sem Value} {r r' : R2} (h : OpR X f r) (h' : OpR X f r') : OpR X f (fun x y H Q => r x y H Q ∨ r' x y H Q) := fun pins s σ H x y v u Q I rx ry q => q.elim (h pins s σ H x y v u Q I rx ry) (h' pins s σ H x y v u Q I rx ry)
theorem cbr_or {X : Cx} {f : Value} {r r' : List V → Hp → VK → Prop} (h : CallR X f r) (h' : CallR X f r') : CallR X f (fun x H Q => r x H Q ∨ r' x H Q) := fun pins s σ H x v Q I rx q => q.elim (h pins s σ H x v Q I rx) (h' pins s σ H x v Q I rx)
theorem toD_ok {K : PySem.W.Frag} {b : Bg} {H0 I H : Hp} {v : V} {r : DV} {d : PyData} (s : Same I H) (e : toD r = some d) (h : Res K b H0 I H v r) : Dp K H v d := by
  cases r with
  | dat x =>
    cases e
    exact dp_mono s h
  | own ds =>
    cases e
    obtain ⟨a, xs, rfl, _, _, _, ha, hd⟩ := h
    exact .lst (.inl (.inl ha)) (dpa_mono s hd)
  | bor ds =>
    cases e
    obtain ⟨a, xs, rfl, ha, _, _, hd⟩ := h
    exact .lst (.inl (.inl ha)) (dpa_mono s hd)
  | raw u => cases e
  | bag => cases e
  | dct _ _ => cases e
theorem keyT_ok {d : PyData} {k : NestedKey} (h : keyT d = some k) : DK.keyOf d = some k ∧ k.depth ≤ 8 ∧ ∃ ds, d = .tuple ds := by
  unfold keyT at h
  split at h
  · split at h
    · rename_i k' e
      split at h
      · cases h
        exact ⟨e, by assumption, _, rfl⟩
      · cases h
    · cases h
  · cases h
theorem keyV_of {K : PySem.W.Frag} {I H : Hp} {v : V} {d : PyData} {k : NestedKey} (s : Same I H) (h : keyT d = some k) (hd : Dp K I v d) : ∃ b, DK.KeyV K H v b k := by
  obtain ⟨h1, h2, ds, rfl⟩ := keyT_ok h
  have hd' := dp_mono s hd
  cases hd with
  | @tup a xs _ hs ha => exact ⟨a, rfl, h2, _, h1, hd'⟩
theorem keys_ok {K : PySem.W.Frag} {I H : Hp} (s : Same I H) : ∀ {es : List DK.Ent} {kvs : List (PyData × PyData)}, DctR K I es kvs → DK.KeysOk K H es
  | _, _, .nil => fun _ h => by cases h
  | _, _, .cons h t => fun e he => by
    rcases List.mem_cons.mp he with z | z
    · rw [z]; exact ⟨_, h.1, dp_mono s h.2.1⟩
    · exact keys_ok s t e z
theorem lk_rel {K : PySem.W.Frag} {I : Hp} (k : NestedKey) : ∀ {es : List DK.Ent} {kvs : List (PyData × PyData)}, DctR K I es kvs → (lkD kvs k = none ∧ DK.atE es k = none) ∨ ∃ v d, lkD kvs k = some d ∧ DK.atE es k = some v ∧ Dp K I v d
  | _, _, .nil => .inl ⟨rfl, rfl⟩
  | _, _, .cons (a := e) (b := kv) h t => by
    unfold lkD DK.atE
    by_cases z : e.1 = k
    · refine .inr ⟨e.2.2, kv.2, ?_, ?_, h.2.2⟩
      · rw [List.find?_cons_of_pos (by rw [h.1, z]; simp)]; rfl
      · rw [List.find?_cons_of_pos (by simpa using z)]; rfl
    · rw [List.find?_cons_of_neg (by rw [h.1]; simpa using z), List.find?_cons_of_neg (by simpa using z)]
      exact lk_rel k t
theorem lk_some {K : PySem.W.Frag} {I : Hp} (k : NestedKey) {es : List DK.Ent} {kvs : List (PyData × PyData)} (r : DctR K I es kvs) : (DK.atE es k).isSome = (lkD kvs k).isSome := by
  rcases lk_rel k r with ⟨h1, h2⟩ | ⟨x, y, h1, h2, _⟩ <;> rw [h1, h2] <;> rfl
theorem dct_refs {K : PySem.W.Frag} {I : Hp} : ∀ {es : List DK.Ent} {kvs : List (PyData × PyData)}, DctR K I es kvs → DpAll K I (es.map fun e => V.ref e.2.1) (kvs.map (·.1))
  | _, _, .nil => .nil
  | _, _, .cons h t => .cons h.2.1 (dct_refs t)
theorem ixr_or {X : Cx} {r r' : R2} (h : IxR X r) (h' : IxR X r') : IxR X (fun x y H Q => r x y H Q ∨ r' x y H Q) := fun v sl pins s σ H x y u w Q I rx ry q hs => q.elim (fun q => h v sl pins s σ H x y u w Q I rx ry q hs) fun q => h' v sl pins s σ H x y u w Q I rx ry q hs
def CPowG (i j : Int) : Prop := 0 ≤ j ∧ (Builtin.Int.intBits i : Int) * j ≤ 2 ^ 27
theorem op_powG {X : Cx} : OpR X (binaryOp .Pow) (rI CPowG fun i j => .int (i ^ j.toNat)) := opI fun _ _ _ _ _ _ _ hc q => pow_int hc.1 hc.2 q
def oPow : DV → DV → DP → Prop
  | .dat (.int i), .dat (.int j), P => (CPow i j ∨ CPowG i j) ∧ P (dint (i ^ j.toNat))
  | _, _, _ => False
abbrev oLt := oCmp fun i j => decide (i < j)
abbrev oGt := oCmp fun i j => decide (j < i)
abbrev oGe := oCmp fun i j => decide (j ≤ i)
theorem op_isB {X : Cx} : OpR X (compareOp .Is) (fun x y H Q => ∃ a c, x = .bl a ∧ y = .bl c ∧ Q (.bl (a == c)) H) := by
  intro pins s σ H x y v u Q I rx ry h
  obtain ⟨a, c, rfl, rfl, q⟩ := h
  cases rx
  cases ry
  exact is_bool (fin_bl I q rfl)
theorem op_notB {X : Cx} : OpR X (compareOp .IsNot) (fun x y H Q => ∃ a c, x = .bl a ∧ y = .bl c ∧ Q (.bl (a != c)) H) := by
  intro pins s σ H x y v u Q I rx ry h
  obtain ⟨a, c, rfl, rfl, q⟩ := h
  cases rx
  cases ry
  exact isnot_bool (fin_bl I q rfl)
section
variable {X : Cx}
theorem jo_I0 {f : Value → Value → Sem Value} {g : Int → Int → Int} {o : DV → DV → DP → Prop} (h : OpR X f (rI0 fun i j => .int (g i j))) (ho : ∀ x y P, o x y P → ∃ i j, x = dint i ∧ y = dint j ∧ P (dint (g i j))) : JOp X f o := ⟨_, h, fun b x y P p => by
  obtain ⟨i, j, rfl, rfl, p'⟩ := ho x y P p
  intro H0 I H v w k r1 r2 Q q
  exact ⟨i, j, int_read r1, int_read r2, q _ _ I H p' k.re (Dp.int _)⟩⟩
theorem jo_cmp {f : Value → Value → Sem Value} {g : Int → Int → Bool} (h : OpR X f (rI0 fun i j => .bl (g i j))) : JOp X f (oCmp g) := ⟨_, h, fun b x y P p => by
  unfold oCmp at p
  split at p
  · intro H0 I H v w k r1 r2 Q q
    exact ⟨_, _, int_read r1, int_read r2, q _ _ I H p k.re (Dp.bl _)⟩
  · exact p.elim⟩
theorem jo_lt : JOp X (compareOp .Lt) oLt := jo_cmp op_lt
theorem jo_le : JOp X (compareOp .LtE) oLe := jo_cmp op_le
theorem jo_gt : JOp X (compareOp .Gt) oGt := jo_cmp op_gt
theorem jo_ge : JOp X (compareOp .GtE) oGe := jo_cmp op_ge
theorem jo_sub : JOp X (binaryOp .Sub) oSub := jo_I0 op_sub fun x y P p => by
  unfold oSub at p
  split at p
  · exact ⟨_, _, rfl, rfl, p⟩
  · exact p.elim
theorem lst_of {K : PySem.W.Frag} {b : Bg} {I H H1 : Hp} {r : DV} {v : V} {ds : List PyData} (kl : KL K) (k : Ok K b I H) (e : r = .bor ds ∨ r = .dat (.list ds)) (h : Res K b H1 I H v r) : ∃ a xs, v = .ref a ∧ H a = some (.lst xs) ∧ DpAll K I xs ds :=
  LstR.lst kl k (.inr e) h
theorem cat_lst {b : Bg} {x y : DV} {P : DP} {xs ys : List PyData} (kl : KL X.K) (ex : x = .bor xs ∨ x = .dat (.list xs)) (ey : y = .bor ys ∨ y = .dat (.list ys)) (hl : xs.length + ys.length ≤ 100000) (p : P (.own (xs ++ ys))) : OpD X.K b rCat x y P := fun H0 I H v w k r1 r2 Q q => by
  obtain ⟨a, us, rfl, ha, hd⟩ := lst_of kl k ex r1
  obtain ⟨c, ws, rfl, hc, he⟩ := lst_of kl k ey r2
  have l1 := dpa_len hd
  have l2 := dpa_len he
  exact ⟨a, c, us, ws, rfl, rfl, ha, hc, Nat.le_trans (by omega) (by decide : 100000 ≤ sizeLine), fun n hn => q _ _ _ _ p (k.newH hn) ⟨n, _, rfl, fr_none hn, k.inone hn, k.nb hn, upd_same, dpa_app hd he⟩⟩
theorem jo_add (kl : KL X.K) : JOp X (binaryOp .Add) oAdd := ⟨_, opr_or op_add (opr_or TF.op_catF (opr_or op_cat op_add_str)), fun b x y P p => by
  unfold oAdd at p
  split at p
  · intro H0 I H v w k r1 r2 Q q
    exact .inl ⟨_, _, int_read r1, int_read r2, q _ _ I H p k.re (Dp.int _)⟩
  · intro H0 I H v w k r1 r2 Q q
    exact .inr (.inl (od_cat p.1 H0 I H v w k r1 r2 Q fun z u I' H' e => q z u I' H' (e ▸ p.2)))
  · intro H0 I H v w k r1 r2 Q q
    exact .inr (.inr (.inr ⟨_, _, str_read r1, str_read r2, Nat.le_trans p.1 (by decide : 100000 ≤ sizeLine), q _ _ I H p.2 k.re (Dp.str _)⟩))
  · exact fun H0 I H v w k r1 r2 Q q => .inr (.inr (.inl (cat_lst kl (.inr rfl) (.inr rfl) p.1 p.2 H0 I H v w k r1 r2 Q q)))
  · exact fun H0 I H v w k r1 r2 Q q => .inr (.inr (.inl (cat_lst kl (.inl rfl) (.inr rfl) p.1 p.2 H0 I H v w k r1 r2 Q q)))
  · exact fun H0 I H v w k r1 r2 Q q => .inr (.inr (.inl (cat_lst kl (.inr rfl) (.inl rfl) p.1 p.2 H0 I H v w k r1 r2 Q q)))
  · exact fun H0 I H v w k r1 r2 Q q => .inr (.inr (.inl (cat_lst kl (.inl rfl) (.inl rfl) p.1 p.2 H0 I H v w k r1 r2 Q q)))
  · exact p.elim⟩
theorem rep_lst {b : Bg} {x : DV} {P : DP} {xs : List PyData} {n : Int} (kl : KL X.K) (ex : x = .bor xs ∨ x = .dat (.list xs)) (h : -1000000 ≤ n ∧ n ≤ 1000000 ∧ xs.length * n.toNat ≤ 100000) (p : P (.own (List.replicate n.toNat xs).flatten)) : OpD X.K b rRep x (dint n) P := fun H0 I H v w k r1 r2 Q q => by
  obtain ⟨a, us, rfl, ha, hd⟩ := lst_of kl k ex r1
  have l1 := dpa_len hd
  refine ⟨a, n, us, rfl, int_read r2, ha, by omega, by omega, Nat.le_trans (by rw [l1]; exact h.2.2) (by decide : 100000 ≤ sizeLine), fun c hc => q _ _ _ _ p (k.newH hc) ⟨c, _, rfl, fr_none hc, k.inone hc, k.nb hc, upd_same, dpa_rep hd _⟩⟩
theorem jo_mul (kl : KL X.K) : JOp X (binaryOp .Mult) oMul := ⟨_, opr_or op_mul (opr_or op_mulW (opr_or TF.op_repF op_rep)), fun b x y P p => by
  unfold oMul at p
  split at p
  · intro H0 I H v w k r1 r2 Q q
    rcases p with ⟨p | p, pp⟩
    · exact .inl ⟨_, _, int_read r1, int_read r2, p, q _ _ I H pp k.re (Dp.int _)⟩
    · exact .inr (.inl ⟨_, _, int_read r1, int_read r2, p, q _ _ I H pp k.re (Dp.int _)⟩)
  · intro H0 I H v w k r1 r2 Q q
    exact .inr (.inr (.inl (od_rep p.1.1 p.1.2.1 p.1.2.2.1 p.1.2.2.2 H0 I H v w k r1 r2 Q fun z u I' H' e => q z u I' H' (e ▸ p.2))))
  · exact fun H0 I H v w k r1 r2 Q q => .inr (.inr (.inr (rep_lst kl (.inr rfl) p.1 p.2 H0 I H v w k r1 r2 Q q)))
  · exact fun H0 I H v w k r1 r2 Q q => .inr (.inr (.inr (rep_lst kl (.inl rfl) p.1 p.2 H0 I H v w k r1 r2 Q q)))
  · exact p.elim⟩
theorem jo_mod : JOp X (binaryOp .Mod) oMod := ⟨_, op_mod, fun b x y P p => by
  unfold oMod at p
  split at p
  · intro H0 I H v w k r1 r2 Q q
    exact ⟨_, _, int_read r1, int_read r2, p.1, q _ _ I H p.2 k.re (Dp.int _)⟩
  · exact p.elim⟩
theorem jo_div : JOp X (binaryOp .FloorDiv) oDiv := ⟨_, op_fdivW, fun b x y P p => by
  unfold oDiv at p
  split at p
  · intro H0 I H v w k r1 r2 Q q
    exact ⟨_, _, int_read r1, int_read r2, p.1, q _ _ I H p.2 k.re (Dp.int _)⟩
  · exact p.elim⟩
theorem jo_pow : JOp X (binaryOp .Pow) oPow := ⟨_, opr_or op_pow op_powG, fun b x y P p => by
  unfold oPow at p
  split at p
  · intro H0 I H v w k r1 r2 Q q
    rcases p with ⟨p | p, pp⟩
    · exact .inl ⟨_, _, int_read r1, int_read r2, p, q _ _ I H pp k.re (Dp.int _)⟩
    · exact .inr ⟨_, _, int_read r1, int_read r2, p, q _ _ I H pp k.re (Dp.int _)⟩
  · exact p.elim⟩
theorem jo_eq (hu : X.A.units + 64 < cLine) : JOp X (compareOp .Eq) (oEq false) := ⟨_, op_eqD hu, fun b x y P p => by
  unfold oEq at p
  split at p
  · rename_i d e ex ey
    intro H0 I H v w k r1 r2 Q q
    exact ⟨d, e, toD_ok k.s ex r1, toD_ok k.s ey r2, p.1.1, p.1.2, q _ _ I H p.2 k.re (Dp.bl _)⟩
  · exact p.elim⟩
theorem jo_ne (hu : X.A.units + 64 < cLine) : JOp X (compareOp .NotEq) (oEq true) := ⟨_, op_neD hu, fun b x y P p => by
  unfold oEq at p
  split at p
  · rename_i d e ex ey
    intro H0 I H v w k r1 r2 Q q
    exact ⟨d, e, toD_ok k.s ex r1, toD_ok k.s ey r2, p.1.1, p.1.2, q _ _ I H p.2 k.re (Dp.bl _)⟩
  · exact p.elim⟩
theorem jo_isN : JOp X (compareOp .Is) (oIsN false) := ⟨_, opr_or op_isN op_isB, fun b x y P p => by
  unfold oIsN at p
  split at p
  · intro H0 I H v w k r1 r2 Q q
    refine .inl ⟨non_read r2, q _ _ I H p k.re ?_⟩
    rw [dp_isN r1]
    exact Dp.bl _
  · intro H0 I H v w k r1 r2 Q q
    exact .inr ⟨_, _, bl_read r1, bl_read r2, q _ _ I H p k.re (Dp.bl _)⟩
  · exact p.elim⟩
theorem jo_notN : JOp X (compareOp .IsNot) (oIsN true) := ⟨_, opr_or op_notN op_notB, fun b x y P p => by
  unfold oIsN at p
  split at p
  · intro H0 I H v w k r1 r2 Q q
    refine .inl ⟨non_read r2, q _ _ I H p k.re ?_⟩
    rw [dp_isN r1]
    exact Dp.bl _
  · intro H0 I H v w k r1 r2 Q q
    exact .inr ⟨_, _, bl_read r1, bl_read r2, q _ _ I H p k.re (Dp.bl _)⟩
  · exact p.elim⟩
theorem dp_flat {K : PySem.W.Frag} {I : Hp} {v : V} {d : PyData} (h : Dp K I v d) (f : flD d = true) : flatV v = true := by
  cases h with
  | non => rfl
  | bl _ => rfl
  | int _ => rfl
  | str _ => rfl
  | lst _ _ => cases f
  | tup _ _ => cases f
theorem dpa_flat {K : PySem.W.Frag} {I : Hp} : ∀ {vs : List V} {ds : List PyData}, DpAll K I vs ds → ds.all flD = true → vs.all flatV = true
  | _, _, .nil, _ => rfl
  | _, _, .cons q r, f => by
    rw [List.all_cons] at f ⊢
    obtain ⟨f1, f2⟩ := Bool.and_eq_true_iff.mp f
    rw [dp_flat q f1, dpa_flat r f2]
    rfl
theorem dp_eqV {K : PySem.W.Frag} {I : Hp} {v w : V} {d e : PyData} (h : Dp K I v d) (h' : Dp K I w e) (f : flD d = true) (f' : flD e = true) : eqV v w = PyData.eqv d e := by
  cases h <;> cases h' <;> first | rfl | cases f | cases f' | skip
  all_goals (try (rename_i a c; simp [eqV, PyData.eqv]; done))
theorem dpa_inV {K : PySem.W.Frag} {I : Hp} {v : V} {d : PyData} (h : Dp K I v d) (f : flD d = true) : ∀ {vs : List V} {ds : List PyData}, DpAll K I vs ds → ds.all flD = true → inV v vs = ds.any fun z => PyData.eqv z d
  | _, _, .nil, _ => rfl
  | _, _, .cons q r, g => by
    rw [List.all_cons] at g
    obtain ⟨g1, g2⟩ := Bool.and_eq_true_iff.mp g
    have ih := dpa_inV h f r g2
    unfold inV at ih ⊢
    rw [List.any_cons, List.any_cons, ih, dp_eqV q h g1 f]
theorem seqD_ok {K : PySem.W.Frag} {b : Bg} {H0 I H : Hp} {v : V} {r : DV} {ds : List PyData} (s : Same I H) (e : seqD r = some ds) (h : Res K b H0 I H v r) : ∃ a xs, v = .ref a ∧ (SqL K H a xs ∨ SqT K H a xs) ∧ DpAll K I xs ds := by
  unfold seqD at e
  split at e
  · cases e
    obtain ⟨a, xs, e1, hs, hd⟩ := LstR.read s (.inr (.inr rfl)) h
    exact ⟨a, xs, e1, .inl hs, hd⟩
  · cases e
    obtain ⟨a, xs, e1, hs, hd⟩ := tup_read s h
    exact ⟨a, xs, e1, .inr hs, hd⟩
  · cases e
    obtain ⟨a, xs, e1, hs, hd⟩ := LstR.read s (.inr (.inl rfl)) h
    exact ⟨a, xs, e1, .inl hs, hd⟩
  · cases e
    obtain ⟨a, xs, e1, hs, hd⟩ := LstR.read s (.inl rfl) h
    exact ⟨a, xs, e1, .inl hs, hd⟩
  · cases e
theorem toD_seq {y : DV} {ds e : List PyData} (h1 : seqD y = some ds) (h2 : toD y = some (.list e)) : e = ds := by
  cases y with
  | dat d => cases h2; cases h1; rfl
  | own xs => cases h2; cases h1; rfl
  | bor xs => cases h2; cases h1; rfl
  | raw _ => cases h2
  | bag => cases h2
  | dct _ _ => cases h2
theorem str_one {x : Str} {k : Nat} (h : x.cps.toList = [k]) : x = ⟨#[k]⟩ := by
  obtain ⟨a⟩ := x
  congr 1
  exact Array.toList_inj.mp h
theorem jo_in (hu : X.A.units + 65 < cLine) : JOp X (compareOp .In) (oIn false) := ⟨_, opr_or (opr_or op_in_seq (opr_or (op_inD hu) op_in_sign)) (DK.op_din (by omega)), fun b x y P p => by
  unfold oIn at p
  split at p
  · rename_i d
    split at p
    · rename_i ds ey
      obtain ⟨f, p⟩ := p
      intro H0 I H v w k r1 r2 Q q
      rcases f with ⟨f1, f2⟩ | ⟨s1, s2, e, he⟩
      · obtain ⟨a, xs, rfl, hs, hd⟩ := seqD_ok k.s ey r2
        refine .inl (.inl ⟨a, xs, rfl, hs, dp_flat r1 f1, dpa_flat hd f2, q _ _ I H p k.re ?_⟩)
        rw [dpa_inV r1 f1 hd f2]
        exact Dp.bl _
      · have := toD_seq ey he
        subst this
        exact .inl (.inr (.inl ⟨d, e, dp_mono k.s r1, toD_ok k.s he r2, s1, s2, q _ _ I H p k.re (Dp.bl _)⟩))
    · split at p
      · split at p
        · rename_i k ek
          intro H0 I H v w kk r1 r2 Q q
          rw [str_read r1, str_read r2]
          exact .inl (.inr (.inr ⟨k, _, by rw [str_one ek], rfl, q _ _ I H p kk.re (Dp.bl _)⟩))
        · exact p.elim
      · split at p
        · rename_i k ek
          intro H0 I H v w kk r1 r2 Q q
          obtain ⟨bb, hkv⟩ := keyV_of kk.s ek r1
          obtain ⟨a, es, rfl, _, _, _, ha, hr⟩ := r2
          refine .inr ⟨bb, k, a, es, hkv, rfl, ha, keys_ok kk.s hr, ?_⟩
          rw [lk_some k hr]
          exact q _ _ I H p kk.re (Dp.bl _)
        · exact p.elim
      · exact p.elim
  · exact p.elim⟩
theorem jo_notin (hu : X.A.units + 65 < cLine) : JOp X (compareOp .NotIn) (oIn true) := ⟨_, opr_or (opr_or op_notIn_seq (opr_or (op_notInD hu) op_notIn_sign)) (DK.op_dnotin (by omega)), fun b x y P p => by
  unfold oIn at p
  split at p
  · rename_i d
    split at p
    · rename_i ds ey
      obtain ⟨f, p⟩ := p
      intro H0 I H v w k r1 r2 Q q
      rcases f with ⟨f1, f2⟩ | ⟨s1, s2, e, he⟩
      · obtain ⟨a, xs, rfl, hs, hd⟩ := seqD_ok k.s ey r2
        refine .inl (.inl ⟨a, xs, rfl, hs, dp_flat r1 f1, dpa_flat hd f2, q _ _ I H p k.re ?_⟩)
        rw [dpa_inV r1 f1 hd f2]
        exact Dp.bl _
      · have := toD_seq ey he
        subst this
        exact .inl (.inr (.inl ⟨d, e, dp_mono k.s r1, toD_ok k.s he r2, s1, s2, q _ _ I H p k.re (Dp.bl _)⟩))
    · split at p
      · split at p
        · rename_i k ek
          intro H0 I H v w kk r1 r2 Q q
          rw [str_read r1, str_read r2]
          exact .inl (.inr (.inr ⟨k, _, by rw [str_one ek], rfl, q _ _ I H p kk.re (Dp.bl _)⟩))
        · exact p.elim
      · split at p
        · rename_i k ek
          intro H0 I H v w kk r1 r2 Q q
          obtain ⟨bb, hkv⟩ := keyV_of kk.s ek r1
          obtain ⟨a, es, rfl, _, _, _, ha, hr⟩ := r2
          refine .inr ⟨bb, k, a, es, hkv, rfl, ha, keys_ok kk.s hr, ?_⟩
          rw [lk_some k hr]
          exact q _ _ I H p kk.re (Dp.bl _)
        · exact p.elim
      · exact p.elim
  · exact p.elim⟩
theorem atD_nat {ds : List PyData} {i : Int} (h : 0 ≤ i) : atD ds i = ds[i.toNat]? := by
  unfold atD ixN
  rw [if_pos h]
  split
  · rename_i j e
    split at e
    · cases e; rfl
    · cases e
  · rename_i e
    split at e
    · cases e
    · rename_i hh
      rw [List.getElem?_eq_none]
      omega
theorem atD_ok {K : PySem.W.Frag} {I : Hp} {xs : List V} {ds : List PyData} {i : Int} {d : PyData} (hd : DpAll K I xs ds) (e : atD ds i = some d) : ∃ v, atI xs i = some v ∧ Dp K I v d := by
  unfold atD at e
  unfold atI
  rw [dpa_len hd]
  split at e
  · rename_i j ej
    obtain ⟨v, h1, h2⟩ := dpa_get hd e
    rw [ej]
    exact ⟨v, h1, h2⟩
  · cases e
theorem jx_seq (hu : X.A.units + 65 < cLine) : JIx X oIx := ⟨_, ixr_or ix_seq (DK.ix_dct (by omega)), fun b x y P p => by
  unfold oIx at p
  split at p
  · rename_i i
    split at p
    · rename_i ds ex
      split at p
      · rename_i d ed
        intro H0 I H v w k r1 r2 Q q
        obtain ⟨a, xs, rfl, hs, hd⟩ := seqD_ok k.s ex r1
        obtain ⟨u, h1, h2⟩ := atD_ok hd ed
        rcases hs with hs | hs
        · exact .inl (.inl ⟨a, xs, i, u, rfl, int_read r2, hs, h1, q _ _ I H p k.re h2⟩)
        · exact .inl (.inr (.inl ⟨a, xs, i, u, rfl, int_read r2, hs, h1, q _ _ I H p k.re h2⟩))
      · exact p.elim
    · split at p
      · obtain ⟨hz, p⟩ := p
        split at p
        · rename_i kk ek
          intro H0 I H v w k r1 r2 Q q
          exact .inl (.inr (.inr ⟨_, i, kk, str_read r1, int_read r2, Nat.le_trans hz (by decide : 100000 ≤ sizeLine), ek, q _ _ I H p k.re (Dp.str _)⟩))
        · exact p.elim
      · exact p.elim
  · split at p
    · split at p
      · rename_i k ek
        split at p
        · rename_i d ed
          intro H0 I H v w kk r1 r2 Q q
          obtain ⟨bb, hkv⟩ := keyV_of kk.s ek r2
          obtain ⟨a, es, rfl, _, _, _, ha, hr⟩ := r1
          rcases lk_rel k hr with ⟨h1, h2⟩ | ⟨x, y, h1, h2, h3⟩
          · rw [h1] at ed; cases ed
          · rw [h1] at ed
            cases ed
            exact .inr ⟨bb, k, a, es, x, hkv, rfl, ha, keys_ok kk.s hr, h2, q _ _ I H p kk.re h3⟩
        · exact p.elim
      · exact p.elim
    · exact p.elim
  · exact p.elim⟩
theorem ju_neg : JUn X (unaryOp .USub) oNeg := ⟨_, un_neg, fun b x P p => by
  unfold oNeg at p
  split at p
  · intro H0 I H v k r1 Q q
    exact ⟨_, int_read r1, q _ _ I H p k.re (Dp.int _)⟩
  · exact p.elim⟩
theorem jb_len : JCb X (.builtin "len") bLen := ⟨_, cbr_or (cbr_or call_len_seq call_len_str) DK.call_lenDct, fun b rs P p => by
  unfold bLen at p
  split at p
  · split at p
    · rename_i ds ex
      intro H0 I H vs k r Q q
      cases r with
      | cons r1 rr =>
        cases rr
        obtain ⟨a, xs, rfl, hs, hd⟩ := seqD_ok k.s ex r1
        exact .inl (.inl ⟨a, xs, rfl, hs, q _ _ I H p k.re (by rw [dpa_len hd]; exact Dp.int _)⟩)
    · split at p
      · intro H0 I H vs k r Q q
        cases r with
        | cons r1 rr =>
          cases rr
          rw [str_read r1]
          exact .inl (.inr ⟨_, rfl, Nat.le_trans p.1 (by decide : 100000 ≤ sizeLine), q _ _ I H p.2 k.re (Dp.int _)⟩)
      · intro H0 I H vs k r Q q
        cases r with
        | cons r1 rr =>
          cases rr
          obtain ⟨a, es, rfl, _, _, _, ha, hr⟩ := r1
          exact .inr ⟨a, es, rfl, ha, keys_ok k.s hr, q _ _ I H p k.re (by rw [Paired.length hr]; exact Dp.int _)⟩
      · exact p.elim
  · exact p.elim⟩
theorem ints_ok : ∀ {ds : List PyData} {ns : List Int}, intsD ds = some ns → ds = ns.map .int
  | [], ns, h => by cases h; rfl
  | .int i :: ds, ns, h => by
    unfold intsD at h
    cases q : intsD ds with
    | none => rw [q] at h; cases h
    | some es =>
      rw [q] at h
      cases h
      rw [ints_ok q]
      rfl
  | .none :: _, _, h => by cases h
  | .bool _ :: _, _, h => by cases h
  | .str _ :: _, _, h => by cases h
  | .list _ :: _, _, h => by cases h
  | .tuple _ :: _, _, h => by cases h
  | .dict _ :: _, _, h => by cases h
theorem ints_map (ns : List Int) : intsD (ns.map .int) = some ns := by
  induction ns with
  | nil => rfl
  | cons n ns ih =>
    show (match intsD (ns.map .int) with
      | some is => some (n :: is)
      | none => none) = _
    rw [ih]
theorem bools_ok : ∀ {ds : List PyData} {ns : List Bool}, boolsD ds = some ns → ds = ns.map .bool
  | [], ns, h => by cases h; rfl
  | .bool i :: ds, ns, h => by
    unfold boolsD at h
    cases q : boolsD ds with
    | none => rw [q] at h; cases h
    | some es =>
      rw [q] at h
      cases h
      rw [bools_ok q]
      rfl
  | .none :: _, _, h => by cases h
  | .int _ :: _, _, h => by cases h
  | .str _ :: _, _, h => by cases h
  | .list _ :: _, _, h => by cases h
  | .tuple _ :: _, _, h => by cases h
  | .dict _ :: _, _, h => by cases h
theorem lstD_ok {r : DV} {ds : List PyData} (e : lstD r = some ds) : LstR r ds := by
  unfold lstD at e
  split at e
  · cases e; exact .inr (.inr rfl)
  · cases e; exact .inr (.inl rfl)
  · cases e; exact .inl rfl
  · cases e
theorem jb_tuple : JCb X (.type "tuple") bTuple := ⟨_, TF.call_tupleF, fun b rs P p => by
  unfold bTuple at p
  split at p
  · split at p
    · rename_i ds ex
      intro H0 I H vs k r Q q
      exact cb_tupleL (lstD_ok ex) H0 I H vs k r Q fun z u I' H' e => q z u I' H' (e ▸ p)
    · split at p
      · intro H0 I H vs k r Q q
        exact cb_tupleT H0 I H vs k r Q fun z u I' H' e => q z u I' H' (e ▸ p)
      · exact p.elim
  · exact p.elim⟩
theorem jb_list (hc : X.calm = true) : JCb X (.type "list") bList := ⟨_, cbr_or call_list_of (DK.call_listDct hc), fun b rs P p => by
  unfold bList at p
  split at p
  · split at p
    · rename_i ds ex
      intro H0 I H vs k r Q q
      cases r with
      | cons r1 rr =>
        cases rr
        obtain ⟨a, xs, rfl, hs, hd⟩ := seqD_ok k.s ex r1
        exact .inl ⟨a, xs, rfl, hs, fun p' hp => q _ _ _ _ p (k.newH hp) ⟨p', xs, rfl, fr_none hp, k.inone hp, k.nb hp, upd_same, hd⟩⟩
    · split at p
      · intro H0 I H vs k r Q q
        cases r with
        | cons r1 rr =>
          cases rr
          obtain ⟨a, es, rfl, _, _, _, ha, hr⟩ := r1
          exact .inr ⟨a, es, rfl, ha, keys_ok k.s hr, fun p' hp => q _ _ _ _ p (k.newH hp) ⟨p', _, rfl, fr_none hp, k.inone hp, k.nb hp, upd_same, dct_refs hr⟩⟩
      · exact p.elim
  · exact p.elim⟩
def rSumT (K : PySem.W.Frag) : List V → Hp → VK → Prop := fun vs H Q => ∃ (a : Addr) (ns : List Int), vs = [V.ref a] ∧ SqT K H a (ns.map V.int) ∧ Q (.int ns.sum) H
theorem cr_sumT (hc : X.calm = true) : CallR X (.builtin "sum") (rSumT X.K) := by
  intro pins s σ H vs us Q I r h
  obtain ⟨a, ns, rfl, hs, q⟩ := h
  obtain ⟨its, rv, hl, _⟩ := I.tuple hs
  rw [Vals.ref1 r]
  have hi : IntsAre its ns := rv.ints
  obtain ⟨xs, hx⟩ := hi.allInts.items
  have hn : numsOf its.toArray.toList = ns := by rw [show its.toArray.toList = its from rfl, hi.numsOf]
  have hl' : s.heap.IsTuple a its.toArray := hl
  rw [hx] at hl' hn
  rw [nums_intItems] at hn
  refine PySem.W.ktm_sumG (I.ok.hd hc) hl' fun h' tk t' hk => ?_
  rw [preSum_eq, List.take_of_length_le (by simp), hn]
  exact ⟨.int _, H, I.kept hk, ⟨_, rfl⟩, q⟩
theorem jb_sum (hc : X.calm = true) : JCb X (.builtin "sum") bSum := ⟨_, cbr_or (cr_sum hc) (cr_sumT hc), fun b rs P p => by
  unfold bSum at p
  split at p
  · split at p
    · rename_i ds ex
      split at p
      · rename_i ns en
        intro H0 I H vs k r Q q
        cases r with
        | cons r1 rr =>
          cases rr
          obtain ⟨a, xs, rfl, hs, hd⟩ := seqD_ok k.s ex r1
          rw [ints_ok en] at hd
          rw [dpa_ints hd] at hs
          rcases hs with hs | hs
          · exact .inl ⟨a, ns, rfl, hs, q _ _ I H p k.re (Dp.int _)⟩
          · exact .inr ⟨a, ns, rfl, hs, q _ _ I H p k.re (Dp.int _)⟩
      · exact p.elim
    · exact p.elim
  · exact p.elim⟩
theorem jb_all (hc : X.calm = true) : JCb X (.builtin "all") bAll := ⟨_, cr_all hc, fun b rs P p => by
  unfold bAll at p
  split at p
  · split at p
    · rename_i ds ex
      split at p
      · rename_i ns en
        intro H0 I H vs k r Q q
        exact cb_all (by rw [← bools_ok en]; exact lstD_ok ex) H0 I H vs k r Q fun z u I' H' e => q z u I' H' (e ▸ p)
      · exact p.elim
    · exact p.elim
  · exact p.elim⟩
theorem jb_any (hc : X.calm = true) : JCb X (.builtin "any") bAny := ⟨_, cr_any hc, fun b rs P p => by
  unfold bAny at p
  split at p
  · split at p
    · rename_i ds ex
      split at p
      · rename_i ns en
        intro H0 I H vs k r Q q
        exact cb_any (by rw [← bools_ok en]; exact lstD_ok ex) H0 I H vs k r Q fun z u I' H' e => q z u I' H' (e ▸ p)
      · exact p.elim
    · exact p.elim
  · exact p.elim⟩
theorem jb_isi : JCb X (.builtin "isinstance") bIsi := ⟨_, call_isi, fun b rs P p => by
  unfold bIsi at p
  split at p
  · split at p
    · rename_i k ek
      intro H0 I H vs kk r Q q
      exact cb_isi ek H0 I H vs kk r Q fun z u I' H' e => q z u I' H' (e ▸ p)
    · exact p.elim
  · exact p.elim⟩
end
end DW
namespace DW
open PySem PySem.Spec PyProof.Rows L2 RZ DL
def spW (K : PySem.W.Frag) (cls fa : Nat → Addr) (W : Wt) : Sp := spD K (fun a : List DV × DP × Cn => a.1) (fun a => a.2.2.fa = fa ∧ a.1.all isPl = true ∧ W a.1 a.2.1 a.2.2) (fun a => a.2.1) (fun a => toXD cls a.2.2.x)
section
variable {X : Cx} {S : Sg} {a b e : Expr} {es : List Expr} {da db de : DE} {pos p : Pos} {x : Str}
theorem ce_cb {K : PySem.W.Frag} {m : Nat} {r : List V → Hp → VK → Prop} {o : List DV → DP → Prop} {ta : TA} {da : DA} (ho : ∀ b rs P, o rs P → CbD K b r rs P) (ha : CA K S m ta da) : DW.CE K S (tCB r ta) (dCb o da) := fun b I0 H0 c δ P nb ok p =>
  ev_cb (A := fun rs => o rs P) ((ha b I0 H0 c δ _ nb ok p).mono fun rs h => h.2) fun rs h => ho b rs P h
theorem je_callB {id : String} {o : List DV → DP → Prop} {da : DA} (hc : JCb X (.builtin id) o) (hg : Gl X x) (hm : X.mg x = none) (hv : bootBuiltins x = some (.builtin id)) (ha : JA X S (e :: es) da) (hn : x ≠ "__name__" := by decide) (hdb : (x == ("__debug__" : Str)) = false := by decide)
    (he : starEach (e :: es) X.env = (false, eval e X.env) :: starEach es X.env := by rfl) (hpl : (backTo pos (starEach es X.env)).any (·.1) = false := by rfl) : JE X S (.Call (.Name x p) (e :: es) [] pos) (dCb o da) := by
  obtain ⟨r, h1, h2⟩ := hc
  obtain ⟨t, a1, a2⟩ := ha
  exact ⟨_, pe_callB h1 hg hm hv a1 hn hdb he hpl, ce_cb h2 a2⟩
theorem je_callT {T : String} {o : List DV → DP → Prop} {da : DA} (hc : JCb X (.type T) o) (hg : Gl X x) (hm : X.mg x = none) (hv : bootBuiltins x = some (.type T)) (ha : JA X S (e :: es) da) (hn : x ≠ "__name__" := by decide) (hdb : (x == ("__debug__" : Str)) = false := by decide)
    (he : starEach (e :: es) X.env = (false, eval e X.env) :: starEach es X.env := by rfl) (hpl : (backTo pos (starEach es X.env)).any (·.1) = false := by rfl) : JE X S (.Call (.Name x p) (e :: es) [] pos) (dCb o da) := by
  obtain ⟨r, h1, h2⟩ := hc
  obtain ⟨t, a1, a2⟩ := ha
  exact ⟨_, pe_callTy h1 hg hm hv a1 hn hdb he hpl, ce_cb h2 a2⟩
theorem je_lrg {p2 pos2 : Pos} (hc : X.calm = true) (hg : Gl X "list") (hm : X.mg "list" = none) (hg2 : Gl X "range") (hm2 : X.mg "range" = none) (he : JE X S e de) (na : starEach [e] X.env = (false, eval e X.env) :: starEach [] X.env := by rfl)
    (na2 : starEach [(.Call (.Name "range" p2) [e] [] pos2 : Expr)] X.env = (false, eval (.Call (.Name "range" p2) [e] [] pos2) X.env) :: starEach [] X.env := by rfl) : JE X S (.Call (.Name "list" p) [.Call (.Name "range" p2) [e] [] pos2] [] pos) (dLrg de) := by
  obtain ⟨t, h1, h2⟩ := he
  refine ⟨_, pe_listRg hc hg hm (prg_1 hg2 hm2 h1 na) na2, fun b I0 H0 c δ P nb ok p σ I H k e Q q => ?_⟩
  refine h2 b I0 H0 c δ _ nb ok p σ I H k e _ fun r v I1 H1 pr x rs => ?_
  split at pr
  · rename_i n
    obtain ⟨⟨n0, n1⟩, pr⟩ := pr
    have en : n = ((n.toNat : Nat) : Int) := by omega
    refine ⟨n, int_read rs, RgOk.of_le (by omega) (by omega) (by omega) (by omega), fun a na => ?_⟩
    refine q _ _ I1 _ pr (x.trans (x.ok.newH na)) ⟨a, _, rfl, x.free (fr_none na), x.ok.inone na, x.ok.nb na, upd_same, ?_⟩
    have z : rgV 0 n = ((List.range n.toNat).map fun (k : Nat) => (k : Int)).map V.int := by
      unfold rgV
      rw [List.map_map]
      simp
    rw [z]
    have z2 : bRange n.toNat = ((List.range n.toNat).map fun (k : Nat) => (k : Int)).map .int := by
      unfold bRange
      rw [List.map_map]
      rfl
    rw [z2]
    exact dpa_ofInts _
  · exact pr.elim
theorem ev_w {K : PySem.W.Frag} {bg : Bg} {I0 H0 : Hp} {c : Cn} {δ : En} {W : Wt} {P : DP} {ta : TA} (ok : Cok K S bg I0 H0 c) (ha : EvA K bg I0 H0 ta δ (fun rs => rs.all isPl = true ∧ W rs P c)) : EvD K bg I0 H0 (tCall (spW K S.cls S.fa W) [] S.E ta) δ P :=
  ev_callX ok.xw ha fun rs h => ⟨(rs, P, c), rfl, ⟨ok.fa, h⟩, isPl_own h.1, fun r o => o, fun C fs e => e⟩
section
variable {k : Nat} {f : Addr} {fd : FuncData} {ps : List Str} {W : Wt} {da : DA}
theorem je_call (F : FnOk X.prog X.w X.K X.mg X.base (L2.CX X.prog X.w) k f fd ps (spW X.K S.cls S.fa W)) (hr : Room k X.A) (hg : Gl X x) (hm : X.mg x = some (.ref f)) (hk : PySem.W.keepIn X.K (.ref f) = true) (hb : Binds X.K fd ps []) (hx : Passes (L2.CX X.prog X.w) X S.E)
    (ha : JA X S (e :: es) da) (hdb : (x == ("__debug__" : Str)) = false := by decide) (he : starEach (e :: es) X.env = (false, eval e X.env) :: starEach es X.env := by rfl) (hpl : (backTo pos (starEach es X.env)).any (·.1) = false := by rfl) :
    JE X S (.Call (.Name x p) (e :: es) [] pos) (dCall W da) := by
  obtain ⟨t, a1, a2⟩ := ha
  exact ⟨_, pe_call F hr hg hm hk hb .nil hx a1 hdb he hpl, fun b I0 H0 c δ P nb ok p => ev_w ok ((a2 b I0 H0 c δ _ nb ok p).mono fun rs h => h.2)⟩
theorem vals_app {vs zs : List V} {us ws : List Value} (h : Vals vs us) (h' : Vals zs ws) : Vals (vs ++ zs) (us ++ ws) := Vals.append h h'
theorem pk_rel (is : List Nat) {vs : List V} {us : List Value} {zs : List V} {ws : List Value} (h : Vals vs us) (h' : Vals zs ws) : Vals (pk is vs zs) (pk is us ws) := by
  have g := vals_app h h'
  unfold pk
  induction is with
  | nil => exact .nil
  | cons i is ih =>
    rw [List.filterMap_cons, List.filterMap_cons]
    cases q : (vs ++ zs)[i]? with
    | none =>
      have l := g.length
      rw [List.getElem?_eq_none (by have := List.getElem?_eq_none_iff.mp q; omega)]
      exact ih
    | some v =>
      obtain ⟨u, e1, e2⟩ := g.get q
      rw [e1]
      exact .cons e2 ih
theorem kb_mk {K : PySem.W.Frag} {x qual : Str} {st : Stmt} {f : Addr} {fd : FuncData} {ps ks : List Str} {n : Nat} (is : List Nat) (F : Fun K x qual st f fd)
    (h : ∀ (kV doc pm : Value) (an : Option Addr) (cdv ct : Value) (us ws : List Value), us.length = n → ws.length = ks.length → bindArgs (PySem.W.fnOf x qual (defArgs st) (defBody st) (defScope st) .none kV doc pm an cdv ct) ⟨us, ks.zip ws⟩ = pure (ps.zip (pk is us ws))) : KBn K fd ps n ks (pk is) (pk is) :=
  kbn_mk F (fun {α} vs ws => pk is vs ws) h fun r1 r2 => pk_rel is r1 r2
end
end
def iSeq (K : PySem.W.Frag) (te : TE) : TI := fun σ H R => te σ H fun x H1 => (∃ a xs, x = .ref a ∧ SqL K H1 a xs ∧ R (Itl K a) H1) ∨ (∃ a xs, x = .ref a ∧ SqT K H1 a xs ∧ R (Itt K a) H1) ∨ ∃ z, x = .str z ∧ R (Its z) H1
def iEnumS (K : PySem.W.Frag) (ta : TA) : TI := fun σ H R => ta σ H fun vs H1 => ∃ a xs, vs = [.ref a] ∧ ((SqL K H1 a xs ∧ R (Ite K a) H1) ∨ (SqT K H1 a xs ∧ R (TF.IteT K a) H1))
section
variable {X : Cx} {tg e : Expr} {te : TE}
theorem pi_seqS (he : PE X e te) : PI X tg e (iSeq X.K te) := by
  refine ⟨fun pins s σ H R I h => thn (he.run pins s σ H _ I h) ?_⟩
  rintro v s1 ⟨x, H1, I1, r1, ⟨a, xs, ex, hs, q⟩ | ⟨a, xs, ex, hs, q⟩ | ⟨z, ex, q⟩⟩
  · subst ex
    obtain rfl : v = Value.ref a := r1
    obtain ⟨us, rel, pl, _⟩ := I1.list hs
    exact wpAny_pyIter_list pl.isList (pi_one (tk := s1.toks) I1 _ (turn_list a _) ⟨_, Heap.get?_push_size _ rfl, rfl, rfl⟩ q)
  · subst ex
    obtain rfl : v = Value.ref a := r1
    obtain ⟨us, rel, pt, _⟩ := I1.tuple hs
    exact wpAny_pyIter_tuple (show s1.heap.IsTuple a us.toArray from pt) (pi_one (tk := s1.toks) I1 _ (turn_tuple a _) ⟨_, Heap.get?_push_size _ rfl, rfl, rfl⟩ q)
  · subst ex
    obtain ⟨tk, rfl⟩ := r1
    by_cases hz : z.cps.all (· < 128) = true
    · exact wpAny_pyIter_ascii hz (pi_one (tk := s1.toks) I1 _ (turn_str _ z tk "str_ascii_iterator" (.inl rfl)) ⟨_, Heap.get?_push_size _ rfl, rfl, rfl⟩ q)
    · exact wpAny_pyIter_wide (by simpa using hz) (pi_one (tk := s1.toks) I1 _ (turn_str _ z tk "str_iterator" (.inr rfl)) ⟨_, Heap.get?_push_size _ rfl, rfl, rfl⟩ q)
theorem pi_enumS {ta : TA} {p pos tpos : Pos} {elts : List Expr} {kk : Nat} (hg : Gl X "enumerate") (hm : X.mg "enumerate" = none) (ha : PA X [e] ta) (one : starEach [e] X.env = [(false, eval e X.env)] := by rfl) :
    PI X (.Tuple elts kk tpos) (.Call (.Name "enumerate" p) [e] [] pos) (iEnumS X.K ta) := by
  refine ⟨fun pins s σ H R I h => Call_ (ld_blt I hg hm boot_enumerate (PyProof.Rows.callWith_type1 (thn (ha.run pos pins s σ H _ I h) ?_) one rfl))⟩
  rintro us s1 ⟨vs, H1, I1, r1, a, xs, rfl, z⟩
  obtain ⟨u, rfl, ru⟩ := vals1 r1
  obtain rfl : u = Value.ref a := ru
  have off : ∀ b ∈ [s1.heap.objs.size + 1, s1.heap.objs.size], FpOk X pins H1 b → True := fun _ _ _ => trivial
  have big : ∀ b, b ∈ [s1.heap.objs.size + 1, s1.heap.objs.size] → s1.heap.objs.size ≤ b := fun b hb => by
    rcases List.mem_cons.mp hb with z | z
    · rw [z]
      exact Nat.le_succ _
    · rw [List.mem_singleton.mp z]
      exact Nat.le_refl _
  rcases z with ⟨hs, q⟩ | ⟨hs, q⟩
  · obtain ⟨ws, rel, pl, _⟩ := I1.list hs
    refine call_enumerate_list pl.isList fun g isE itr _ kept => wpAny_pyIter_enum isE ?_
    have J : Inv X pins σ H1 { s1 with heap := g } := I1.kept (t' := s1.toks) kept
    exact ⟨s1.heap.objs.size + 1, [s1.heap.objs.size + 1, s1.heap.objs.size], _, _, H1, rfl, J, turn_enum a (s1.heap.objs.size + 1) s1.heap.objs.size, ⟨⟨.none, isE⟩, itr, Nat.succ_ne_self _⟩, fun b hb => I1.fpOk (big b hb) (I1.hok.fresh (big b hb)), q⟩
  · obtain ⟨ws, rel, pt, _⟩ := I1.tuple hs
    refine TF.call_enum1 (begins_tuple a ws.toArray) pt fun g isE itr kept => wpAny_pyIter_enum isE ?_
    have J : Inv X pins σ H1 { s1 with heap := g } := I1.kept (t' := s1.toks) kept
    exact ⟨s1.heap.objs.size + 1, [s1.heap.objs.size + 1, s1.heap.objs.size], _, _, H1, rfl, J, TF.turn_enumT a (s1.heap.objs.size + 1) s1.heap.objs.size, ⟨⟨.none, isE⟩, ⟨_, itr, rfl, rfl⟩, Nat.succ_ne_self _⟩, fun b hb => I1.fpOk (big b hb) (I1.hok.fresh (big b hb)), q⟩
end
section
variable {K : PySem.W.Frag} {b : Bg}
theorem io_list {I : Hp} {a : Addr} {xs : List V} {ds : List PyData} (hs : SqL K I a xs) (hd : DpAll K I xs ds) : IterOk K b (DpR K) (Itl K a) I ds := by
  refine ⟨fun H => SqL K H a xs, YAt xs, ?_, fun H e => sl_mono e hs, fun i I2 H x H' d e k2 y hd' => ?_⟩
  · rw [← dpa_len hd]
    exact walk_list
  · obtain ⟨rfl, y⟩ := y
    obtain ⟨u, e1, e2⟩ := dpa_get hd hd'
    rw [y] at e1
    cases e1
    exact ⟨I2, k2.re, dp_mono e e2⟩
theorem io_tup {I : Hp} {a : Addr} {xs : List V} {ds : List PyData} (hs : SqT K I a xs) (hd : DpAll K I xs ds) : IterOk K b (DpR K) (Itt K a) I ds := by
  refine ⟨fun H => SqT K H a xs, YAt xs, ?_, fun H e => st_mono e hs, fun i I2 H x H' d e k2 y hd' => ?_⟩
  · rw [← dpa_len hd]
    exact walk_tup
  · obtain ⟨rfl, y⟩ := y
    obtain ⟨u, e1, e2⟩ := dpa_get hd hd'
    rw [y] at e1
    cases e1
    exact ⟨I2, k2.re, dp_mono e e2⟩
theorem io_str {I : Hp} {z : Str} : IterOk K b (DpR K) (Its z) I (chars z) := by
  refine ⟨fun _ => True, fun i H x H' => H' = H ∧ ∃ c, z.cps[i]? = some c ∧ x = .str ⟨#[c]⟩, ⟨fun i _ hi _ => ?_, fun _ _ => ?_, fun i H v H' _ _ y => y⟩, fun _ _ => trivial, fun i I2 H x H' d e k2 y hd => ?_⟩
  · unfold chars at hi
    rw [List.length_map, Array.length_toList] at hi
    exact hi
  · show z.cps.size ≤ (chars z).length
    unfold chars
    rw [List.length_map, Array.length_toList]
    exact Nat.le_refl _
  · obtain ⟨rfl, c, hc, rfl⟩ := y
    unfold chars at hd
    rw [List.getElem?_map, Array.getElem?_toList, hc] at hd
    cases hd
    exact ⟨I2, k2.re, Dp.str _⟩
theorem io_enum {I : Hp} {J : It} {G : Hp → Prop} {xs : List V} {ds : List PyData} (w : Walk J xs.length G (YPair (fun i => some (.int (i : Nat))) (fun i => xs[i]?))) (hG : ∀ H, Same I H → G H) (hd : DpAll K I xs ds) : IterOk K b (PairR K) J I (enumD ds) := by
  refine ⟨G, YPair (fun i => some (.int (i : Nat))) (fun i => xs[i]?), ?_, hG, fun i I2 H x H' d e k2 y hz => ?_⟩
  · unfold enumD
    rw [List.length_map, List.length_zipIdx, ← dpa_len hd]
    exact w
  · obtain ⟨T, x1, x2, rfl, nT, rfl, g1, g2⟩ := y
    have g1 : some (V.int (i : Nat)) = some x1 := g1
    have g2 : xs[i]? = some x2 := g2
    cases g1
    unfold enumD at hz
    rw [List.getElem?_map, List.getElem?_zipIdx] at hz
    cases q1 : ds[i]? with
    | none => rw [q1] at hz; cases hz
    | some d1 =>
      rw [q1] at hz
      have hz := (Option.some.inj hz).symm
      subst hz
      obtain ⟨u1, e1, f1⟩ := dpa_get hd q1
      rw [g2] at e1
      cases e1
      refine ⟨I2, k2.newH nT, T, _, x2, .int (i : Int), d1, rfl, upd_same, ?_, .int _, dp_mono e f1⟩
      simp
end
section
variable {X : Cx} {S : Sg} {tg e : Expr} {de : DE} {pos p : Pos}
theorem ji_seq (h : JE X S e de) : JI X S (DpR X.K) tg e (dISeq de) := by
  obtain ⟨t, h1, h2⟩ := h
  refine ⟨_, pi_seqS h1, fun b I0 H0 c δ A nb ok p σ I H k n R q => ?_⟩
  refine ev_fz (Q := fun r => match r with
    | .dat (.list ds) => A ds
    | .dat (.tuple ds) => A ds
    | .dat (.str z) => A (chars z)
    | _ => False) (h2 b I0 H0 c δ _ nb ok p) σ I H k n _ fun r v I1 H1 pr x rs => ?_
  dsimp only at pr
  split at pr
  · rename_i ds
    have rs : Dp X.K I1 v (.list ds) := rs
    cases rs with
    | @lst a xs _ hs hd => exact .inl ⟨a, xs, rfl, sl_mono x.s hs, q _ _ I1 H1 pr x (io_list hs hd)⟩
  · rename_i ds
    have rs : Dp X.K I1 v (.tuple ds) := rs
    cases rs with
    | @tup a xs _ hs hd => exact .inr (.inl ⟨a, xs, rfl, st_mono x.s hs, q _ _ I1 H1 pr x (io_tup hs hd)⟩)
  · exact .inr (.inr ⟨_, str_read rs, q _ _ I1 H1 pr x io_str⟩)
  · exact pr.elim
theorem ji_rg1 {a : Expr} {da : DA} (hg : Gl X "range") (hm : X.mg "range" = none) (ha : JA X S [a] da) (hs : starEach [a] X.env = [(false, eval a X.env)] := by rfl) : JI X S (DpR X.K) tg (.Call (.Name "range" p) [a] [] pos) (dIRg1 da) := by
  obtain ⟨t, a1, a2⟩ := ha
  refine ⟨_, pi_range1 hg hm a1 hs, fun b I0 H0 c δ A nb ok p => ?_⟩
  refine (itd_rng1 (A := fun n => A (rangeD 0 n.toNat)) ((a2 b I0 H0 c δ _ nb ok p).mono fun rs h => ?_)).mono fun ds ⟨n, e, h⟩ => e ▸ h
  obtain ⟨_, h⟩ := h
  split at h
  · exact ⟨_, rfl, h.1.2, h.1.1, h.2⟩
  · exact h.elim
theorem ji_rg2 {a a' : Expr} {da : DA} (hg : Gl X "range") (hm : X.mg "range" = none) (ha : JA X S [a, a'] da) (hs : starEach [a, a'] X.env = [(false, eval a X.env), (false, eval a' X.env)] := by rfl) (hs2 : starEach [a'] X.env = [(false, eval a' X.env)] := by rfl) : JI X S (DpR X.K) tg (.Call (.Name "range" p) [a, a'] [] pos) (dIRg2 da) := by
  obtain ⟨t, a1, a2⟩ := ha
  refine ⟨_, pi_range2 hg hm a1 hs hs2, fun b I0 H0 c δ A nb ok p => ?_⟩
  refine (itd_rng2 (A := fun m n => A (rangeD m (n - m).toNat)) ((a2 b I0 H0 c δ _ nb ok p).mono fun rs h => ?_)).mono fun ds ⟨m, n, e, h⟩ => e ▸ h
  obtain ⟨_, h⟩ := h
  split at h
  · exact ⟨_, _, rfl, h.1, h.2⟩
  · exact h.elim
theorem ji_enum {a : Expr} {da : DA} {tpos : Pos} {elts : List Expr} {kk : Nat} (hg : Gl X "enumerate") (hm : X.mg "enumerate" = none) (ha : JA X S [a] da) (hs : starEach [a] X.env = [(false, eval a X.env)] := by rfl) :
    JI X S (PairR X.K) (.Tuple elts kk tpos) (.Call (.Name "enumerate" p) [a] [] pos) (dIEnum da) := by
  obtain ⟨t, a1, a2⟩ := ha
  refine ⟨_, pi_enumS hg hm a1 hs, fun b I0 H0 c δ A nb ok p σ I H k n R q => ?_⟩
  refine a2 b I0 H0 c δ _ nb ok p σ I H k n _ fun rs vs I1 H1 pr x r => ?_
  obtain ⟨_, pr⟩ := pr
  split at pr
  · rename_i ds _
    cases r with
    | cons r1 rr =>
      cases rr
      have r1 : Dp X.K I1 _ (.tuple ds) := r1
      cases r1 with
      | @tup a xs _ hs hd => exact ⟨a, xs, rfl, .inr ⟨st_mono x.s hs, q _ _ I1 H1 pr x (io_enum walk_enumT (fun H e => st_mono e hs) hd)⟩⟩
  · rename_i ds _
    cases r with
    | cons r1 rr =>
      cases rr
      have r1 : Dp X.K I1 _ (.list ds) := r1
      cases r1 with
      | @lst a xs _ hs hd => exact ⟨a, xs, rfl, .inl ⟨sl_mono x.s hs, q _ _ I1 H1 pr x (io_enum walk_enum (fun H e => sl_mono e hs) hd)⟩⟩
  · exact pr.elim
end
end DW
namespace DW
open PySem PySem.Spec PyProof.Rows L2 RZ DL
theorem nb_set {n i : Nat} {δ : En} {r : DV} (h : NB n δ) (hr : ∀ ds, r ≠ .bor ds) (hk : ∀ kvs, r ≠ .dct false kvs := by intro _ z; cases z) : NB n (δ.set i (some r)) := by
  refine ⟨by rw [List.length_set]; exact h.len, ?_⟩
  have h2 := h.nb
  unfold noBor at h2 ⊢
  rw [List.all_eq_true] at h2 ⊢
  intro x hx
  rcases List.mem_or_eq_of_mem_set hx with z | z
  · exact h2 x z
  · subst z
    cases r with
    | bor ds => exact absurd rfl (hr ds)
    | dct o kvs =>
      cases o with
      | true => rfl
      | false => exact absurd rfl (hk kvs)
    | _ => rfl
theorem nb_dat {n i : Nat} {δ : En} {d : PyData} (h : NB n δ) : NB n (δ.set i (some (.dat d))) := nb_set h fun _ z => by cases z
theorem nb_own {n i : Nat} {δ : En} {d : List PyData} (h : NB n δ) : NB n (δ.set i (some (.own d))) := nb_set h fun _ z => by cases z
section
variable (X : Cx) (S : Sg)
def JG (Rl : Rel) (is : List Nat) (tg : Expr) (tf : Tf) : Prop := ∃ g, PG X tg g ∧ ∀ b d δ δ', NB S.n δ → tf d δ = some δ' → TgD X.K b Rl g is d δ δ'
def TfOk (n : Nat) (tf : Tf) : Prop := ∀ d δ δ', NB n δ → tf d δ = some δ' → NB n δ'
end
section
variable {X : Cx} {S : Sg} {pos : Pos}
theorem jg_name {i : Nat} {tg : Expr} (h : PG X tg (gName i)) (hi : i < S.n) : JG X S (DpR X.K) [i] tg (tfName i) := ⟨_, h, fun b d δ δ' nb e => by
  cases e
  exact tg_name (by rw [nb.len]; exact hi)⟩
theorem jg_pair {i j : Nat} {tg : Expr} (h : PG X tg (gTup X.K 2 (gCons (gName i) (gCons (gName j) gNil)))) (hi : i < S.n) (hj : j < S.n) : JG X S (PairR X.K) [i, j] tg (tfPair i j) := ⟨_, h, fun b d δ δ' nb e => by
  unfold tfPair at e
  split at e
  · cases e
    exact tg_pair (by rw [nb.len]; exact hi) (by rw [nb.len]; exact hj)
  · cases e⟩
end
theorem to_name {n i : Nat} : TfOk n (tfName i) := fun d δ δ' nb e => by
  cases e
  exact nb_dat nb
theorem to_pair {n i j : Nat} : TfOk n (tfPair i j) := fun d δ δ' nb e => by
  unfold tfPair at e
  split at e
  · cases e
    exact nb_dat (nb_dat nb)
  · cases e
theorem ce_lc {K : PySem.W.Frag} {S : Sg} {Rl : Rel} {wi : TI} {g : TG} {tt : TT} {te : TE} {vs is : List Nat} {di : DI} {tf : Tf} {dt : DT} {de : DE} (hi : CI K S Rl wi di) (ho : TfOk S.n tf) (hg : ∀ b d δ δ', NB S.n δ → tf d δ = some δ' → TgD K b Rl g is d δ δ') (his : ∀ v ∈ is, v ∈ vs) (ht : CT K S.no tt dt) (he : DW.CE K S.no te de) :
    DW.CE K S (tLc wi g tt te vs) (dLc di tf dt de vs) := fun b I0 H0 c δ P nb ok p σ I H k n Q q => by
  obtain ⟨hv, p⟩ := p
  refine hi b I0 H0 c δ _ nb ok p σ I H k n _ fun items J I1 H1 pg x okI => fun D hD => ?_
  obtain ⟨hlen, go⟩ := pg
  obtain ⟨G, Y, w, hG, hY⟩ := okI
  have nDb : D ≠ b.a := x.ok.nb hD
  refine lc_it w (fun i Hk => ∃ Ik acc ys, Ext K b I1 H1 Ik Hk ∧ Ik D = none ∧ Hk D = some (.lst acc) ∧ DpAll K Ik acc ys ∧ acc.length ≤ i ∧ lcGo (lcStep tf dt de c δ) (items.drop i) fun zs => P (.own (ys ++ zs))) ?_ (fun i Hk _ ⟨Ik, acc, ys, e, _⟩ => hG Hk (e.i.trans e.s)) ?_ ?_
  · exact ⟨I1, [], [], x.ok.newH hD, x.ok.inone hD, upd_same, .nil, Nat.le_refl _, go⟩
  · rintro i v Hk Hk' hi' ⟨Ik, acc, ys, e, iD, aD, hd, al, go'⟩ hy
    have hd1 : items[i]? = some items[i] := List.getElem?_eq_getElem hi'
    rw [List.drop_eq_getElem_cons hi'] at go'
    generalize items[i] = d at hd1 go'
    obtain ⟨I3, e3, d3⟩ := hY i Ik Hk v Hk' d e.i e.ok hy hd1
    have e13 := e.trans e3
    have n3 : EnvR K b H0 I3 Hk' (wipe σ vs) δ := ((n.ext x).ext e13).wipe hv
    unfold lcGo lcStep at go'
    split at go'
    · rename_i δ' et
      have nb' := ho d δ δ' nb et
      have tg := hg b d δ δ' nb et
      refine tg H0 I3 Hk' _ v e3.ok n3 d3 _ fun σ2 n2 out hl => ⟨?_, ?_⟩
      · rw [wipe_eq (σ := wipe σ vs) (τ := σ2) hl (fun j hj => out j (fun z => hj (his j z)))]
        exact wipe_eq (wipe_length _ _) fun j hj => wipe_out hj
      · refine ht b I0 H0 c.no δ' _ nb' ok.no go' σ2 I3 Hk' (k.trans (x.trans e13)) n2 _ fun t I4 H4 pc e4 => ?_
        have e14 := e13.trans e4
        have aD3 : Hk' D = some (.lst acc) := e3.h D _ nDb lst_tbl aD
        have iD4 : I4 D = none := e4.n D _ (e3.n D _ iD aD lst_tbl) aD3 lst_tbl
        have aD4 : H4 D = some (.lst acc) := e4.h D _ nDb lst_tbl aD3
        have hd4 := dpa_mono (e3.i.trans e4.i) hd
        cases t with
        | false =>
          rw [if_neg (by decide)] at pc
          rw [if_neg (by decide)]
          exact ⟨I4, acc, ys, e14, iD4, aD4, hd4, by omega, pc⟩
        | true =>
          rw [if_pos rfl] at pc
          rw [if_pos rfl]
          refine ev_fz (Q := fun r => match some r with
            | none => lcGo (lcStep tf dt de c δ) (items.drop (i + 1)) fun zs => P (.own (ys ++ zs))
            | some (.dat y) => lcGo (lcStep tf dt de c δ) (items.drop (i + 1)) fun zs => P (.own (ys ++ y :: zs))
            | _ => False) (he b I0 H0 c.no δ' _ nb' ok.no pc) σ2 I4 H4 (k.trans (x.trans e14)) (n2.ext e4) _ fun r y I5 H5 pr e5 rs => ?_
          have iD5 : I5 D = none := e5.n D _ iD4 aD4 lst_tbl
          have aD5 : H5 D = some (.lst acc) := e5.h D _ nDb lst_tbl aD4
          cases r with
          | dat yd =>
            refine ⟨acc, aD5, Nat.lt_of_lt_of_le (by omega : acc.length < 100000) (by decide : 100000 ≤ sizeLine), I5, acc ++ [y], ys ++ [yd], (e14.trans e5).mut (fr_none hD) iD5 nDb aD5, iD5, upd_same, dpa_app (dpa_mono e5.i hd4) (.cons rs .nil), by rw [List.length_append]; simp; omega, ?_⟩
            have ez : (fun zs => P (.own (ys ++ [yd] ++ zs))) = fun zs => P (.own (ys ++ yd :: zs)) := by
              funext zs
              rw [List.append_assoc]
              rfl
            rw [ez]
            exact pr
          | own _ => exact (pr : False).elim
          | bor _ => exact (pr : False).elim
          | raw _ => exact (pr : False).elim
          | bag => exact (pr : False).elim
          | dct _ _ => exact (pr : False).elim
    · exact go'.elim
  · rintro Hk ⟨Ik, acc, ys, e, iD, aD, hd, al, go'⟩
    rw [List.drop_length] at go'
    unfold lcGo at go'
    rw [List.append_nil] at go'
    exact q _ _ Ik Hk go' (x.trans e) ⟨D, acc, rfl, x.free (fr_none hD), iD, nDb, aD, hd⟩
theorem all_e {ι : Type} {Xi : ι → Cx} {K : PySem.W.Frag} {S : Sg} {e : Expr} {de : DE} (hK : ∀ i, (Xi i).K = K) (h : ∀ i, JE (Xi i) S e de) : ∃ te, (∀ i, PE (Xi i) e te) ∧ DW.CE K S te de := by
  have h' : ∀ i, ∃ te, PE (Xi i) e te ∧ DW.CE K S te de := fun i => by
    obtain ⟨te, h1, h2⟩ := h i
    exact ⟨te, h1, hK i ▸ h2⟩
  refine ⟨fun σ H Q => ∀ i, Classical.choose (h' i) σ H Q, fun i => ⟨fun pins s σ H Q I q => (Classical.choose_spec (h' i)).1.run pins s σ H Q I (q i)⟩, fun b I0 H0 c δ P nb ok p σ I H k n Q q i => (Classical.choose_spec (h' i)).2 b I0 H0 c δ P nb ok p σ I H k n Q q⟩
theorem all_t {ι : Type} {Xi : ι → Cx} {K : PySem.W.Frag} {S : Sg} {es : List Expr} {de : DT} (hK : ∀ i, (Xi i).K = K) (h : ∀ i, ∃ t, PTs (Xi i) es t ∧ CT (Xi i).K S t de) : ∃ te, (∀ i, PTs (Xi i) es te) ∧ CT K S te de := by
  have h' : ∀ i, ∃ te, PTs (Xi i) es te ∧ CT K S te de := fun i => by
    obtain ⟨te, h1, h2⟩ := h i
    exact ⟨te, h1, hK i ▸ h2⟩
  refine ⟨fun σ H Q => ∀ i, Classical.choose (h' i) σ H Q, fun i => ⟨fun pins s σ H Q I q => (Classical.choose_spec (h' i)).1.run pins s σ H Q I (q i)⟩, fun b I0 H0 c δ P nb ok p σ I H k n Q q i => (Classical.choose_spec (h' i)).2 b I0 H0 c δ P nb ok p σ I H k n Q q⟩
theorem all_g {ι : Type} {Xi : ι → Cx} {K : PySem.W.Frag} {S : Sg} {Rl : Rel} {is : List Nat} {tg : Expr} {tf : Tf} (hK : ∀ i, (Xi i).K = K) (h : ∀ i, JG (Xi i) S Rl is tg tf) : ∃ g, (∀ i, PG (Xi i) tg g) ∧ ∀ b d δ δ', NB S.n δ → tf d δ = some δ' → TgD K b Rl g is d δ δ' := by
  have h' : ∀ i, ∃ g, PG (Xi i) tg g ∧ ∀ b d δ δ', NB S.n δ → tf d δ = some δ' → TgD K b Rl g is d δ δ' := fun i => by
    obtain ⟨te, h1, h2⟩ := h i
    exact ⟨te, h1, hK i ▸ h2⟩
  exact ⟨fun v σ H Q => ∀ i, Classical.choose (h' i) v σ H Q, fun i => ⟨fun pins s σ H v u Q I r q => (Classical.choose_spec (h' i)).1.run pins s σ H v u Q I r (q i)⟩, fun b d δ δ' nb e H0 I H σ v k n hd Q q i => (Classical.choose_spec (h' i)).2 b d δ δ' nb e H0 I H σ v k n hd Q q⟩
def JTs (X : Cx) (S : Sg) (es : List Expr) (dt : DT) : Prop := ∃ t, PTs X es t ∧ CT X.K S t dt
theorem jts_nil {X : Cx} {S : Sg} : JTs X S [] dYes := ⟨_, pts_nil, fun b I0 H0 c δ P nb ok p σ I H k n Q q => q true I H p k.re⟩
theorem jts_one {X : Cx} {S : Sg} {e : Expr} {dt : DT} (h : JT X S e dt) : JTs X S [e] dt := by
  obtain ⟨t, h1, h2⟩ := h
  exact ⟨_, pts_one h1, h2⟩
section
variable {X : Cx} {S : Sg} {elt tg iter : Expr} {ifs : List Expr} {scope : Scope} {own : List (Str × Nat)} {pos spos : Pos} {Rl : Rel} {is : List Nat} {di : DI} {tf : Tf} {dt : DT} {de : DE}
abbrev Blk := Shared × Hp × Addr × List (Str × Addr) × List Addr
abbrev Xb (X : Cx) (scope : Scope) (q : Blk) : Cx := X.blk q.1 q.2.1 scope (compEnvC scope q.2.2.2.1 q.2.2.1 X.env) q.2.2.2.2
theorem je_lc (hc : X.calm = true) (hN : X.N.Nodup) (hi : JI X S Rl tg iter di) (ok : BlkOk X.N X.env.scope scope own) (ho : TfOk S.n tf) (hg : ∀ q : Blk, JG (Xb X scope q) S Rl is tg tf) (his : ∀ v ∈ is, v ∈ own.map (·.2))
    (ht : ∀ q : Blk, JTs (Xb X scope q) S.no ifs dt) (he : ∀ q : Blk, JE (Xb X scope q) S.no elt de) (hs : ∀ x, foldedSetIterable iter X.env x = pure x := by intro _; rfl) : JE X S (.ListComp elt [⟨tg, iter, ifs, 0⟩] scope pos) (dLc di tf dt de (own.map (·.2))) := by
  obtain ⟨wi, i1, i2⟩ := hi
  obtain ⟨g, g1, g2⟩ := all_g (Xi := Xb X scope) (K := X.K) (fun _ => rfl) hg
  obtain ⟨tt, t1, t2⟩ := all_t (Xi := Xb X scope) (K := X.K) (fun _ => rfl) ht
  obtain ⟨te, e1, e2⟩ := all_e (Xi := Xb X scope) (K := X.K) (fun _ => rfl) he
  exact ⟨_, pe_lc hc hN i1 ok (fun s H C cl fp => g1 (s, H, C, cl, fp)) (fun s H C cl fp => t1 (s, H, C, cl, fp)) (fun s H C cl fp => e1 (s, H, C, cl, fp)) hs, ce_lc i2 ho g2 his t2 e2⟩
end
end DW
namespace DW
open PySem PySem.Spec PyProof.Rows L2 RZ DL
section
variable {K : PySem.W.Frag} {S : Sg}
theorem cs_next : CS K S tNext dNext := fun b I0 H0 c δ D nb ok p => sv_nil ⟨nb, p⟩
theorem cs_seq {t u : TS} {a d : DS} (h : CS K S t a) (h' : CS K S u d) : CS K S (tSeq t u) (dSeq a d) := fun b I0 H0 c δ D nb ok p =>
  sv_seq (N' := fun δ' => NB S.n δ' ∧ d c δ' D) (h b I0 H0 c δ _ nb ok p) fun δ' ⟨nb', p'⟩ => h' b I0 H0 c δ' D nb' ok p'
theorem cs_if {t : TT} {u w : TS} {dt : DT} {a d : DS} (ht : CT K S t dt) (h : CS K S u a) (h' : CS K S w d) : CS K S (tIfS t u w) (dIfS dt a d) := fun b I0 H0 c δ D nb ok p =>
  sv_if (A := fun v => if v = true then a c δ D else d c δ D) (ht b I0 H0 c δ _ nb ok p) (fun hA => h b I0 H0 c δ D nb ok hA) fun hA => h' b I0 H0 c δ D nb ok hA
theorem cs_asg {i : Nat} {te : TE} {de : DE} (hi : i < S.n) (h : DW.CE K S te de) : CS K S (tAsg te (gName i)) (dAsg i de) := fun b I0 H0 c δ D nb ok p =>
  sv_asg (h b I0 H0 c δ _ nb ok p) (by rw [nb.len]; exact hi) fun r hr => by
    cases r with
    | bor ds => exact hr.elim
    | dat d => exact ⟨(fun _ z => by cases z), nb_dat nb, hr⟩
    | own d => exact ⟨(fun _ z => by cases z), nb_own nb, hr⟩
    | raw d => exact ⟨(fun _ z => by cases z), nb_set nb (fun _ z => by cases z), hr⟩
    | bag => exact ⟨(fun _ z => by cases z), nb_set nb (fun _ z => by cases z), hr⟩
    | dct o kvs =>
      cases o with
      | true => exact ⟨(fun _ z => by cases z), nb_set nb (fun _ z => by cases z) (fun _ z => by cases z), hr⟩
      | false => exact hr.elim
theorem cs_ret {te : TE} {de : DE} (h : DW.CE K S te de) : CS K S (tRet te) (dRet de) := fun b I0 H0 c δ D nb ok p => sv_ret (h b I0 H0 c δ _ nb ok p) fun r hr => hr
theorem cs_retV {i : Nat} : CS K S (tRet (tVar i)) (dRetV i) := fun b I0 H0 c δ D nb ok p => by
  unfold dRetV at p
  split at p
  · exact p.elim
  · rename_i r nd er
    cases r with
    | dct o kvs => exact absurd rfl (nd o kvs)
    | own ds => exact sv_retO er p
    | bor ds => exact absurd er (noBor_at nb.nb i ds)
    | dat d => exact sv_ret (ev_var er) fun _ e => e ▸ p
    | raw d => exact sv_ret (ev_var er) fun _ e => e ▸ p
    | bag => exact sv_ret (ev_var er) fun _ e => e ▸ p
  · exact p.elim
theorem cs_for {Rl : Rel} {wi : TI} {g : TG} {tb : TS} {is : List Nat} {di : DI} {tf : Tf} {db : DS} (hi : CI K S Rl wi di) (ho : TfOk S.n tf) (hg : ∀ b d δ δ', NB S.n δ → tf d δ = some δ' → TgD K b Rl g is d δ δ') (hb : CS K S tb db) : CS K S (tFor wi g tb) (dFor di tf db) := fun b I0 H0 c δ D nb ok p =>
  sv_for (A := fun items => forGo c tf db D items δ) (hi b I0 H0 c δ _ nb ok p) fun items go => by
    refine ⟨fun k δk => NB S.n δk ∧ forGo c tf db D (items.drop k) δk, ⟨nb, go⟩, fun k d δk hd h => ?_, fun δn h => ?_⟩
    · obtain ⟨nbk, h⟩ := h
      have hk : k < items.length := (List.getElem?_eq_some_iff.mp hd).1
      rw [List.drop_eq_getElem_cons hk] at h
      have e : items[k] = d := (List.getElem?_eq_some_iff.mp hd).2
      rw [e] at h
      unfold forGo at h
      split at h
      · rename_i δ' et
        have nb' := ho d δk δ' nbk et
        exact ⟨δ', is, hg b d δk δ' nbk et, hb b I0 H0 c δ' _ nb' ok h⟩
      · exact h.elim
    · obtain ⟨nbn, h⟩ := h
      rw [List.drop_length] at h
      exact ⟨nbn, h⟩
theorem cs_frz {t : TS} {ds : DS} (i : Nat) (h : CS K S t ds) : CS K S t (dFrz i ds) := fun b I0 H0 c δ D nb ok p => by
  unfold dFrz frzAt at p
  split at p
  · rename_i es e
    exact sv_frz e (noBor_at nb.nb) (h b I0 H0 c _ D (nb_dat nb) ok p)
  · exact h b I0 H0 c δ D nb ok p
end
section
variable {K : PySem.W.Frag} {S : Sg}
theorem cs_ext {i : Nat} {te : TE} {de : DE} (kl : KL K) (he : DW.CE K S te de) : CS K S (tDrop (tBM K "list" rExtend (tVar i) (tCons te tNil))) (dExt i de) := fun b I0 H0 c δ D nb ok p σ I H e n Dd a1 a2 a3 a4 => by
  unfold dExt at p
  split at p
  · rename_i ds hs
    obtain ⟨w, e1, e2⟩ := n.at_ i _ hs
    obtain ⟨a, xs, rfl, h0, hn, hb, ha, hds⟩ := e2
    refine ⟨.ref a, e1, .inl ⟨rfl, _, .inl (.inl ha)⟩, ev_fz (Q := fun r => match r with
      | .dat (.list es) => ds.length + es.length ≤ 100000 ∧ D.nx (δ.set i (some (.own (ds ++ es))))
      | _ => False) (he b I0 H0 c δ _ nb ok p) σ I H e n _ fun r v I' H' hr x rs => ?_⟩
    dsimp only at hr
    split at hr
    · have hn' : I' a = none := x.n a _ hn ha lst_tbl
      have ha' : H' a = some (.lst xs) := x.h a _ hb lst_tbl ha
      obtain ⟨a2', ys, rfl, hy, hyd⟩ := lst_of kl x.ok (.inr rfl) rs
      refine ⟨a, a2', xs, ys, rfl, rfl, ha', hy, Nat.le_trans (by rw [dpa_len hds, dpa_len hyd]; exact hr.1) (by decide : 100000 ≤ sizeLine), ?_⟩
      exact a1 _ σ I' _ ⟨nb_own nb, hr.2⟩ ((e.trans x).mut h0 hn' hb ha') x.i ((n.ext x).own nb.nb hs e1 h0 hn' hb (dpa_app (dpa_mono x.i hds) hyd))
    · exact hr.elim
  · exact p.elim
end
theorem scV_ok {K : PySem.W.Frag} {b : Bg} {H0 I H : Hp} {v w : V} {r : DV} (e : scV r = some w) (h : Res K b H0 I H v r) : v = w := by
  unfold scV at e
  split at e
  · cases e; exact non_read h
  · cases e; exact bl_read h
  · cases e; exact int_read h
  · cases e; exact str_read h
  · cases e
theorem scVs_ok {K : PySem.W.Frag} {b : Bg} {H0 I H : Hp} : ∀ {vs ws : List V} {rs : List DV}, scVs rs = some ws → ResA K b H0 I H vs rs → vs = ws
  | _, _, [], e, .nil => by cases e; rfl
  | _, _, r :: rs, e, .cons q t => by
    unfold scVs at e
    cases e1 : scV r with
    | none => rw [e1] at e; cases e
    | some v =>
      cases e2 : scVs rs with
      | none => rw [e1, e2] at e; cases e
      | some vs =>
        rw [e1, e2] at e
        cases e
        rw [scV_ok e1 q, scVs_ok e2 t]
theorem cs_raise {K : PySem.W.Frag} {S : Sg} {x : Nat} {m : Nat} {mk : List V → List (Str × V)} {ta : TA} {da : DA} (hm : m ≤ 1000) (ha : CA K S m ta da) : CS K S (fun _ σ H => tMkO (S.cls x) (spInit (S.cls x) m mk) [] ta σ H fun cls d H' => S.E cls d H') (dRaise x mk da) := fun b I0 H0 c δ D nb ok p σ I H e n Dd _ _ _ _ =>
  ha b I0 H0 c δ _ nb ok p σ I H e n _ fun rs ws I1 H1 pr x' r => by
    obtain ⟨hl, pr⟩ := pr
    split at pr
    · rename_i vs evs
      have ew := scVs_ok evs r
      subst ew
      have hlv : ws.length = m := by rw [resA_len r]; exact hl
      refine ⟨by omega, fun a na => ?_⟩
      rw [List.append_nil]
      refine ⟨a, ws, rfl, hlv, upd_same, fun dx H' nd ne h1 h2 h3 => ⟨rfl, dx, mk ws, h1, h2, ?_, ?_⟩⟩
      · rw [upd_ne ne] at nd
        exact nd
      · have nd' : H1 dx = none := by rw [upd_ne ne] at nd; exact nd
        have eG : upd (del H' a) dx (.xd (mk ws)) = upd H1 dx (.xd (mk ws)) := by
          funext c
          by_cases z : c = dx
          · rw [z, upd_same, upd_same]
          · rw [upd_ne z, upd_ne z]
            by_cases z2 : c = a
            · rw [z2, del_same, na]
            · rw [del_ne z2, h3 c z2 z, upd_ne z2]
        rw [eG]
        exact ok.xw _ (mk ws) dx I1 _ ⟨x, rfl, pr⟩ ((e.trans x').trans (x'.ok.newH nd')) (x'.ok.inone nd') upd_same
    · exact pr.elim
section
variable {X : Cx} {S : Sg} {e a b tg iter : Expr} {de : DE} {pos : Pos} {st : Stmt} {sts : List Stmt} {d d' : DS}
theorem jss_nil : JSs X S [] dNext := ⟨_, pss_nil, cs_next⟩
theorem jss_one (h : JS X S st d) : JSs X S [st] d := by
  obtain ⟨t, h1, h2⟩ := h
  exact ⟨_, pss_one h1, h2⟩
theorem jss_cons (h : JS X S st d) (h' : JSs X S sts d') : JSs X S (st :: sts) (dSeq d d') := by
  obtain ⟨t, h1, h2⟩ := h
  obtain ⟨u, h3, h4⟩ := h'
  exact ⟨_, pss_cons h1 h3, cs_seq h2 h4⟩
theorem js_frz (i : Nat) (h : JS X S st d) : JS X S st (dFrz i d) := by
  obtain ⟨t, h1, h2⟩ := h
  exact ⟨_, h1, cs_frz i h2⟩
theorem js_if {c : Expr} {u v : List Stmt} {dt : DT} (hc : JT X S c dt) (h : JSs X S u d) (h' : JSs X S v d') : JS X S (.If c u v pos) (dIfS dt d d') := by
  obtain ⟨t, t1, t2⟩ := hc
  obtain ⟨t', h1, h2⟩ := h
  obtain ⟨u', h3, h4⟩ := h'
  exact ⟨_, ps_if t1 h1 h3, cs_if t2 h2 h4⟩
theorem js_ret (h : JE X S e de) : JS X S (.Return (some e) pos) (dRet de) := by
  obtain ⟨t, h1, h2⟩ := h
  exact ⟨_, ps_ret h1, cs_ret h2⟩
theorem js_retV {i : Nat} (h : PE X e (tVar i)) : JS X S (.Return (some e) pos) (dRetV i) := ⟨_, ps_ret h, cs_retV⟩
theorem js_set {i : Nat} {x : Str} {pos' : Pos} (hN : X.N.Nodup) (hx : X.N[i]? = some x) (hi : i < S.n) (h : JE X S e de) (hp : ∀ te, PE X e te → PS X (.Assign [.Name x pos'] e pos) (tAsg te (gName i))) : JS X S (.Assign [.Name x pos'] e pos) (dAsg i de) := by
  obtain ⟨t, h1, h2⟩ := h
  exact ⟨_, hp t h1, cs_asg hi h2⟩
theorem js_setLc {i : Nat} {y : Str} {py : Pos} {elt tg iter : Expr} {ifs : List Expr} {scope : Scope} {own : List (Str × Nat)} {spos : Pos} {Rl : Rel} {is : List Nat} {di : DI} {tf : Tf} {dt : DT} (hc : X.calm = true) (hN : X.N.Nodup) (hy : X.N[i]? = some y) (hyl : X.env.scope.names.lookup y = some .local)
    (hsw : swapsWith (.ListComp elt [⟨tg, iter, ifs, 0⟩] scope pos) (some (.Name y py)) spos.line X.env = pure true) (hin : i < S.n) (hi : JI X S Rl tg iter di) (ok : BlkOk X.N X.env.scope scope own) (ho : TfOk S.n tf) (hg : ∀ q : Blk, JG (Xb X scope q) S Rl is tg tf) (his : ∀ v ∈ is, v ∈ own.map (·.2))
    (ht : ∀ q : Blk, JTs (Xb X scope q) S.no ifs dt) (he : ∀ q : Blk, JE (Xb X scope q) S.no elt de) (hs : ∀ x, foldedSetIterable iter X.env x = pure x := by intro _; rfl) :
    JS X S (.Assign [.Name y py] (.ListComp elt [⟨tg, iter, ifs, 0⟩] scope pos) spos) (dAsg i (dLc di tf dt de (own.map (·.2)))) := by
  obtain ⟨wi, i1, i2⟩ := hi
  obtain ⟨g, g1, g2⟩ := all_g (Xi := Xb X scope) (K := X.K) (fun _ => rfl) hg
  obtain ⟨tt, t1, t2⟩ := all_t (Xi := Xb X scope) (K := X.K) (fun _ => rfl) ht
  obtain ⟨te, e1, e2⟩ := all_e (Xi := Xb X scope) (K := X.K) (fun _ => rfl) he
  exact ⟨_, ps_setLc hc hN hy hyl hsw i1 ok (fun s H C cl fp => g1 (s, H, C, cl, fp)) (fun s H C cl fp => t1 (s, H, C, cl, fp)) (fun s H C cl fp => e1 (s, H, C, cl, fp)) hs, cs_asg hin (ce_lc i2 ho g2 his t2 e2)⟩
theorem js_for {Rl : Rel} {is : List Nat} {di : DI} {tf : Tf} {body : List Stmt} {db : DS} (hp : PassesOwn (model X.prog X.w) X.A X.env X.xe) (hc : X.calm = true) (hi : JI X S Rl tg iter di) (ho : TfOk S.n tf) (hg : JG X S Rl is tg tf) (hb : JSs X S body db)
    (hps : ∀ wi g tb, PI X tg iter wi → PG X tg g → PSs X body tb → PS X (.For tg iter body [] pos) (tFor wi g tb)) : JS X S (.For tg iter body [] pos) (dFor di tf db) := by
  obtain ⟨wi, i1, i2⟩ := hi
  obtain ⟨g, g1, g2⟩ := hg
  obtain ⟨tb, b1, b2⟩ := hb
  exact ⟨_, hps wi g tb i1 g1 b1, cs_for i2 ho g2 b2⟩
theorem js_ext {i : Nat} (kl : KL X.K) (h : JE X S e de) (hp : ∀ te, PE X e te → PS X st (tDrop (tBM X.K "list" rExtend (tVar i) (tCons te tNil)))) : JS X S st (dExt i de) := by
  obtain ⟨t, h1, h2⟩ := h
  exact ⟨_, hp t h1, cs_ext kl h2⟩
theorem js_raise {x : Nat} {es : List Expr} {mk : List V → List (Str × V)} {da : DA} (ha : JA X S es da) (hm : es.length ≤ 1000) (hp : ∀ ta, PA X es ta → PS X st (fun _ σ H => tMkO (S.cls x) (spInit (S.cls x) es.length mk) [] ta σ H fun cls d H' => S.E cls d H')) : JS X S st (dRaise x mk da) := by
  obtain ⟨t, h1, h2⟩ := ha
  exact ⟨_, hp t h1, cs_raise hm h2⟩
end
theorem nb_args {n : Nat} {N : List Str} {rs : List DV} (h : rs.all isPl = true) (hl : rs.length = n) (hn : n ≤ N.length) : NB N.length (envOf N rs) := by
  refine ⟨?_, ?_⟩
  · unfold DL.envOf
    rw [List.length_append, List.length_map, List.length_replicate]
    omega
  · unfold DL.envOf noBor
    rw [List.all_append, Bool.and_eq_true_iff]
    constructor
    · rw [List.all_map, List.all_eq_true]
      intro r hr
      have := List.all_eq_true.mp h r hr
      cases r with
      | bor _ => cases this
      | dct _ _ => cases this
      | _ => rfl
    · rw [List.all_eq_true]
      intro x hx
      rw [(List.mem_replicate.mp hx).2]
theorem fn_w {P : Program} {w : World} {K : PySem.W.Frag} {mg : Str → Option Value} {base : Heap} {cls fa : Nat → Addr} {x qual : Str} {st : Stmt} {f : Addr} {fd : FuncData} {N ps : List Str} {k : Nat} {D : DS} (n m : Nat) (F : Fun K x qual st f fd) (Sc : FnScope N ps (defScope st)) (hn : ps.length = n) (hm : N.length = m) (hnm : n ≤ m)
    (hbody : ∀ (cdv : Value) (A : Around) (outer : List PySem.Env) (s : Shared) (H : Hp) (E : XK), Room k (A.deeper (envOfC qual (defScope st) s.heap.objs.size f cdv)) →
      JSs (cxOf (L2.CX P w) P w K mg base N qual (defScope st) f cdv A outer s H E) ⟨m, E, cls, fa, fun _ => True⟩ (defBody st) D) :
    FnOk P w K mg base (L2.CX P w) (k + 1) f fd ps (spW K cls fa (wFn n m D)) := by
  subst hm
  refine fn_okX F Sc (fun a ha => ?_) fun cdv A outer s H E hr => ?_
  · rw [hn]
    exact ha.2.2.1
  · obtain ⟨t, h1, h2⟩ := hbody cdv A outer s H E hr
    refine ⟨t, h1, fun b I a ha xw => ?_⟩
    obtain ⟨hfa, hpl, hl, hD⟩ := ha
    have e : envOf N a.1 = a.1.map some ++ List.replicate (N.length - n) none := by
      unfold DL.envOf
      rw [hl]
    have := h2 b I H a.2.2 (envOf N a.1) ⟨fun _ => a.2.1 (.dat .none), a.2.1, fun _ => False, fun _ => False⟩ (nb_args hpl hl hnm) ⟨hfa, xw, True.intro⟩ (by rw [e]; exact hD)
    exact this.mono (fun d hd => hd.2) (fun r hr => hr) (fun d hd => hd.2) fun d hd => hd.2
end DW
namespace DW
open PySem PySem.Spec PyProof.Rows L2 RZ DL
theorem units65 {k : Nat} {A : Around} (r : Room k A) : A.units + 65 < cLine := by
  have := r.un
  omega
theorem passE0 {X : Cx} : Passes (L2.CX X.prog X.w) X (fun _ _ _ => False) := fun _ _ _ _ _ _ _ c => by
  obtain ⟨_, _, _, _, _, _, _, _, _, _, _, _, h⟩ := c
  exact h.elim
theorem fn_to {P : Program} {w : World} {K : PySem.W.Frag} {mg : Str → Option Value} {base : Heap} {cls fa : Nat → Addr} {k : Nat} {f : Addr} {fd : FuncData} {ps : List Str} {α : Type} {args : α → List DV} {ok : α → Prop} {out : α → DV → Prop} {W : Wt} (F : FnOk P w K mg base CX0 k f fd ps (spD K args ok out noX))
    (h : ∀ rs Q c, W rs Q c → ∃ a, rs = args a ∧ ok a ∧ ∀ r, out a r → Q r) : FnOk P w K mg base (L2.CX P w) k f fd ps (spW K cls fa W) := by
  have to : ∀ vs H Q E, spW K cls fa W vs H Q E → spD K args ok out noX vs H Q E := fun vs H Q E hs => by
    obtain ⟨⟨rs, R, c⟩, b, I, k, r, ⟨_, _, hw⟩, q, _⟩ := hs
    obtain ⟨a, e, ho, hout⟩ := h rs R c hw
    have e : rs = args a := e
    subst e
    exact ⟨a, b, I, k, r, ho, fun z v I' H' o => q z v I' H' (hout z o), fun _ _ _ _ _ z => z.elim⟩
  refine ⟨fun vs H Q E hs => F.len vs H Q E (to vs H Q E hs), fun A outer s H ar us vs Q E hr h0 hb hv hs => ?_⟩
  refine codeAny_mono (F.run A outer s H ar us vs Q E hr h0 hb hv (to vs H Q E hs)) fun r s' hr => ?_
  unfold CR at hr ⊢
  split at hr
  · exact hr
  · exact hr.elim
  · exact (hr : False).elim
def W_take : Wt := fun rs P _ => match rs with
  | [.bag, .dat (.int n)] => okTake n ∧ ∀ i, 0 ≤ i → i < n → P (dint i)
  | _ => False
theorem take_to : ∀ rs Q c, W_take rs Q c → ∃ a, rs = aTake a ∧ okTake a ∧ ∀ r, outTake a r → Q r := fun rs Q c h => by
  unfold W_take at h
  split at h
  · exact ⟨_, rfl, h.1, fun r ⟨i, e, h0, h1⟩ => e ▸ h.2 i h0 h1⟩
  · exact h.elim
def W_shuffled : Wt := fun rs P _ => match rs with
  | [.bag, .dat (.list ds)] => match intsD ds with
    | some ns => ns.length ≤ 1000 ∧ ∀ ms : List Int, ms.Perm ns → P (.own (ms.map .int))
    | none => False
  | _ => False
theorem shuffled_to : ∀ rs Q c, W_shuffled rs Q c → ∃ ns : List Int, rs = [.bag, .dat (.list (ns.map .int))] ∧ ns.length ≤ 1000 ∧ ∀ r, (∃ ms : List Int, r = .own (ms.map .int) ∧ ms.Perm ns) → Q r := fun rs Q c h => by
  unfold W_shuffled at h
  split at h
  · split at h
    · rename_i ns en
      exact ⟨ns, by rw [ints_ok en], h.1, fun r ⟨ms, e, hp⟩ => e ▸ h.2 ms hp⟩
    · exact h.elim
  · exact h.elim
end DW
namespace DW
open PySem PySem.Spec PyProof.Rows L2 RZ DL
theorem fn_none {P : Program} {w : World} {K : PySem.W.Frag} {mg : Str → Option Value} {base : Heap} {cls fa : Nat → Addr} {k : Nat} {f : Addr} {fd : FuncData} {ps : List Str} : FnOk P w K mg base (L2.CX P w) k f fd ps (spW K cls fa (fun _ _ _ => False)) :=
  ⟨fun vs H Q E ⟨_, _, _, _, _, h, _⟩ => h.2.2.elim, fun A outer s H ar us vs Q E hr h0 hb hv ⟨_, _, _, _, _, h, _⟩ => h.2.2.elim⟩
end DW
namespace DW
open PySem PySem.Spec PyProof.Rows L2 RZ DL
end DW
namespace DW
open PySem PySem.Spec PyProof.Rows L2 RZ DL
def lend : DV → DV
  | .bor ds => .dat (.list ds)
  | r => r
theorem resA_mono {K : PySem.W.Frag} {b : Bg} {H I I' H1 : Hp} (s : Same I I') : ∀ {vs : List V} {rs : List DV}, ResA K b H I H1 vs rs → (rs.all isPl = true) → ResA K b H I' H1 vs rs
  | _, _, .nil, _ => .nil
  | _, r :: rs, .cons q t, h => by
    rw [List.all_cons] at h
    obtain ⟨h1, h2⟩ := Bool.and_eq_true_iff.mp h
    refine .cons ?_ (resA_mono s t h2)
    cases r with
    | dat d => exact dp_mono s q
    | raw u => exact q
    | bag => exact q
    | own _ => cases h1
    | bor _ => cases h1
    | dct _ _ => cases h1
theorem lend_res {K : PySem.W.Frag} {b : Bg} {H I1 H1 : Hp} (k : Ok K b I1 H1) : ∀ {vs : List V} {rs : List DV}, ResA K b H I1 H1 vs rs → ((rs.map lend).all isPl = true) →
    ∃ I2, Ok K b I2 H1 ∧ Same I1 I2 ∧ ResA K b H1 I2 H1 vs (rs.map lend)
  | _, _, .nil, _ => ⟨I1, k, Same.refl _, .nil⟩
  | _, r :: rs, .cons (v := v) q t, h => by
    rw [List.map_cons, List.all_cons] at h
    obtain ⟨h1, h2⟩ := Bool.and_eq_true_iff.mp h
    obtain ⟨I2, k2, s2, r2⟩ := lend_res k t h2
    cases r with
    | dat d => exact ⟨I2, k2, s2, .cons (dp_mono s2 q) r2⟩
    | raw u => exact ⟨I2, k2, s2, .cons q r2⟩
    | bag => exact ⟨I2, k2, s2, .cons q r2⟩
    | own _ => cases h1
    | dct _ _ => cases h1
    | bor ds =>
      obtain ⟨a, xs, rfl, ha, hb, hi, hd⟩ := q
      cases z : I2 a with
      | some o =>
        have := k2.s a o z
        rw [ha] at this
        cases this
        exact ⟨I2, k2, s2, .cons (.lst (.inl (.inl z)) (dpa_mono s2 hd)) r2⟩
      | none =>
        have sm : Same I2 (upd I2 a (.lst xs)) := fun c o h => by rw [upd_ne (ne_of_none h z)]; exact h
        refine ⟨upd I2 a (.lst xs), ⟨fun c o h => ?_, ?_⟩, s2.trans sm, .cons (.lst (.inl (.inl upd_same)) (dpa_mono (s2.trans sm) hd)) (resA_mono sm r2 h2)⟩
        · by_cases zz : c = a
          · subst zz; rw [upd_same] at h; cases h; exact ha
          · rw [upd_ne zz] at h; exact k2.s c o h
        · obtain ⟨n, pl, tb, l, ns, x, q, m, cc, e, sl, rr⟩ := k2.b
          refine ⟨by rw [upd_ne (fun z => hb z.symm)]; exact n, fun c o h => ?_, tb, l, ns, x, q, m, cc, e, sl_mono sm sl, rr⟩
          by_cases zz : c = a
          · subst zz; rw [upd_same] at h; cases h; exact True.intro
          · rw [upd_ne zz] at h; exact pl c o h
end DW
namespace DW
open PySem PySem.Spec PyProof.Rows L2 RZ DL
def AftOk (K : PySem.W.Frag) (cls : Nat → Addr) (After : Addr → List (Str × V) → Hp → VK → Prop) (aft : Nat → List (Str × V) → Option PyData) : Prop :=
  ∀ s fs d, aft s fs = some d → ∀ (b : Bg) (I' H' : Hp) (Q : VK), Ok K b I' H' → (∀ v I'' H'', Ext K b I' H' I'' H'' → Dp K I'' v d → Q v H'') → After (cls s) fs H' Q
theorem passLamJ {X : Cx} {A : Around} {outer : List PySem.Env} {s : Shared} {H : Hp} {E : XK} {scope : Scope} {f c' : Addr} : Passes (L2.CX (LamX.lamCx X A outer s H E scope f c').prog (LamX.lamCx X A outer s H E scope f c').w) (LamX.lamCx X A outer s H E scope f c') E := passLam (X := X) (A := A) (outer := outer) (s := s) (H := H) (E := E) (scope := scope) (f := f) (c' := c')
def vD : V → Option PyData
  | .int i => some (.int i)
  | .str s => some (.str s)
  | .bl c => some (.bool c)
  | .non => some .none
  | _ => none
theorem vD_dp {K : PySem.W.Frag} {I : Hp} {v : V} {d : PyData} (h : vD v = some d) : Dp K I v d := by
  cases v with
  | int i => cases h; exact .int i
  | str s => cases h; exact .str s
  | bl c => cases h; exact .bl c
  | non => cases h; exact .non
  | _ => cases h
end DW
namespace DZ
open PySem PySem.Spec PyProof.Rows L2 RZ DL
end DZ
set_option maxHeartbeats 1000000
namespace DZ
open PySem PySem.Spec PyProof.Rows L2 RZ DL
end DZ
namespace DW
open PySem PySem.Spec PyProof.Rows L2 RZ DL DZ
end DW
namespace DW
open PySem PySem.Spec PyProof.Rows L2 RZ DL
end DW
namespace DW
open PySem PySem.Spec PyProof.Rows L2 RZ DL DZ
end DW
set_option maxHeartbeats 4000000
namespace DW
open PySem PySem.Spec PyProof.Rows L2 RZ DL
end DW
namespace DW
open PySem PySem.Spec PyProof.Rows L2 RZ DL
end DW
namespace OEL
open PySem PySem.Spec PySem.W PySem.Calls PyProof.Rows L2
structure Base (B nid iid : String) (tl : List Value) : Prop where
  fb : ExcBaseFacts B nid iid tl
  sf : StoreFacts B tl "object.__setattr__" "object"
theorem base_L : Base "LookupError" "LookupError.__new__" "LookupError.__init__" tlL := ⟨PySem.F.excBase_LookupError, PySem.F.store_LookupError⟩
section
variable {K : Frag} {C : Addr} {B nid iid : String} {tl : List Value}
theorem Of.told (T : Of K C nid tl) : ∃ nm q N bs bm sn sub ab col dd k0 k1 k2 k3 k5, K.lookup C = some (excClassObj nm q C N bs bm true sn sub ab col dd k0 k1 k2 k3 k5 nid) ∧
    clsIn K C = some { name := nm, bases := bs, mro := .ref C :: bm, ns := N, qualname := q, hasDict := true, slotNames := sn, subclasses := sub, abstract := ab, collection := col, hasDel := false } ∧ excTail tl bm = true := by
  obtain ⟨nm, q, N, bs, bm, sn, sub, ab, col, dd, k0, k1, k2, k3, k5, hC⟩ := T.cls
  have hd : clsIn K C = some { name := nm, bases := bs, mro := .ref C :: bm, ns := N, qualname := q, hasDict := true, slotNames := sn, subclasses := sub, abstract := ab, collection := col, hasDel := false } := by
    unfold clsIn
    rw [hC] <;> rfl
  refine ⟨nm, q, N, bs, bm, sn, sub, ab, col, dd, k0, k1, k2, k3, k5, hC, hd, ?_⟩
  have ov := T.over
  unfold excOver at ov
  rw [hd] at ov
  exact (Bool.and_eq_true_iff.mp ov).2
end
section
variable {P : Program} {w : World} {A : Around} {E : Value → Shared → Prop} {R : Result → Shared → Prop} {K : Frag} {C x : Addr} {B nid iid : String} {tl : List Value} {f : Str} {tk : Tok} {v : Value} {fv : Array Value}
theorem at_own {s : Shared} {od : Option Obj} {dx : Option Addr} (b : Base B nid iid tl) (T : Of K C nid tl) (X : K.In s.heap) (I : InstAt s.heap x { cls := .ref C, dict := dx, data := .fields fv } C od) (hf : findIn K (.ref C) f = some none)
    (h : ∀ z, wpAny (model P w) A.in1 (Builtin.ObjectAttr.storeInOwnDict (.ref x) (.ref C) (.str f tk) f v z) (fun fin s' => match fin with | .done r => R (.ok r) s' | .again c' => c'.quiet = true ∧ codeAny (model P w) A c' R s') (fun e s' => R (.error e) s') s) :
    codeAny (model P w) A (.call (.builtin "object.__setattr__") ⟨[.ref x, .str f tk, v], []⟩) R s :=
  osa_openX (r := none) b.sf X I T.over (by unfold takerIn; rw [hf] <;> rfl) h
open Builtin Builtin.ObjectAttr in
theorem put_first {hp : Heap} {g : Array GenState} {d : Drawn} {t : Nat} {os : OsState} (b : Base B nid iid tl) (T : Of K C nid tl) (X : K.In hp) (hx : hp.get? x = some { cls := .ref C, dict := none, data := .fields fv }) (hf : findIn K (.ref C) f = some none)
    (q : ∀ h' tk' dx, (∀ a o, a ≠ x → hp.get? a = some o → h'.get? a = some o) → hp.objs.size ≤ dx → dx ≠ x → h'.get? x = some { cls := .ref C, dict := some dx, data := .fields fv } → h'.Ns1 dx (fun y => if y = f then some v else none) → R (.ok (.ret .none)) ⟨h', g, d, tk', os⟩) :
    codeAny (model P w) A (.call (.builtin "object.__setattr__") ⟨[.ref x, .str f tk, v], []⟩) R ⟨hp, g, d, t, os⟩ := by
  obtain ⟨nm, qn, N, bs, bm, sn, sub, ab, col, dd, k0, k1, k2, k3, k5, hC, hd, _⟩ := T.told
  have lx := Heap.lt_size hx
  refine at_own (od := none) b T X ⟨hx, rfl, rfl, trivial⟩ hf fun z => ?_
  have L : Looks (model P w) hp (classData C) _ := looks_clsIn X hd
  unfold storeInOwnDict ownDictForStores
  repeat (first | with_reducible refine PySem.HandSPX.store_in_new ?_ ?_ | with_reducible refine wpAny_loadPart_at hx ?_ | with_reducible refine L.at ?_ | wp_step)
  · exact ⟨_, #[], _, (Heap.get?_update_ne _ _ _ _ (Nat.ne_of_gt lx)).trans (Heap.get?_push_at rfl rfl), rfl, (fun e he => absurd he (by simp)), fun _ => rfl⟩
  · intro h' tk' hn hs
    have hx1 : (hp.push { cls := .type "dict", data := .dict #[] }).get? x = some { cls := .ref C, dict := none, data := .fields fv } := Heap.get?_push_of_some _ hx
    refine q h' tk' hp.objs.size (fun a o ha ho => ?_) (Nat.le_refl _) (Nat.ne_of_gt lx) ((hs.2 x (Nat.ne_of_lt lx)).trans (Heap.get?_update_self _ hx1 rfl)) hn
    exact (hs.2 a (Nat.ne_of_lt (Heap.lt_size ho))).trans ((Heap.get?_update_ne _ _ _ _ ha).trans (Heap.get?_push_of_some _ ho))
open Builtin Builtin.ObjectAttr in
theorem put_more {hp : Heap} {g : Array GenState} {d : Drawn} {t : Nat} {os : OsState} {dx : Addr} {m0 : Str → Option Value} {ns : List Str} (b : Base B nid iid tl) (T : Of K C nid tl) (X : K.In hp) (hx : hp.get? x = some { cls := .ref C, dict := some dx, data := .fields fv }) (hn : hp.Ns1 dx m0) (hw : Within m0 ns) (hz : ns.length ≤ 1000) (hf : findIn K (.ref C) f = some none)
    (q : ∀ h' tk', (∀ a o, a ≠ dx → hp.get? a = some o → h'.get? a = some o) → h'.Ns1 dx (fun y => if y = f then some v else m0 y) → R (.ok (.ret .none)) ⟨h', g, d, tk', os⟩) :
    codeAny (model P w) A (.call (.builtin "object.__setattr__") ⟨[.ref x, .str f tk, v], []⟩) R ⟨hp, g, d, t, os⟩ := by
  obtain ⟨nm, qn, N, bs, bm, sn, sub, ab, col, dd, k0, k1, k2, k3, k5, hC, hd, _⟩ := T.told
  obtain ⟨oD, _, _, hoD, _, _⟩ := hn.count hw
  refine at_own (od := some oD) b T X ⟨hx, rfl, rfl, hoD⟩ hf fun z => ?_
  have L : Looks (model P w) hp (classData C) _ := looks_clsIn X hd
  unfold storeInOwnDict ownDictForStores
  repeat (first | with_reducible refine PySem.OEX.store_in_old hn hw hz ?_ | with_reducible refine wpAny_loadPart_at hx ?_ | with_reducible refine L.at ?_ | wp_step)
  intro h' tk' hn' hs
  exact q h' tk' (fun a o ha ho => (hs.2 a ha).trans ho) hn'
end
section
variable {X : Cx} {pins : List (Addr × Obj)} {σ : L2.St} {H : Hp} {s : Shared} {a C dx : Addr} {f : Str} {y : V} {u : Value} {fs : List (Str × V)} {Q : Unit → Shared → Prop} {E : Value → Shared → Prop} {A : Around} {B nid iid : String} {tl : List Value}
theorem at_first (b : Base B nid iid tl) (T : Of X.K C nid tl) (I : Inv X pins σ H s) (e : H a = some (exo a C none)) (hno : findIn X.K (.ref C) f = some none) (ry : RelV y u)
    (h : ∀ dx s', H dx = none → dx ≠ a → Inv X pins σ (upd (upd H dx (exd dx [(f, y)])) a (exo a C (some dx))) s' → Q () s') : wpAny (model X.prog X.w) A (setAttr (.ref a) f u) Q E s := by
  obtain ⟨t1, ho⟩ := exo_at I.hok e
  obtain ⟨hp, g, d, t, os⟩ := s
  refine PySem.W.set_plain I.kIn (od := none) ⟨ho, rfl, rfl, trivial⟩ T.sa (put_first b T I.kIn ho hno fun h' tk' dx k dn dne hx hn => ?_)
  have hnd : H dx = none := I.hok.fresh dn
  have far : ∀ {c : Addr} {o : Obj}, hp.get? c = some o → c ≠ dx := fun {c o} z => Nat.ne_of_lt (Nat.lt_of_lt_of_le (Heap.lt_size z) dn)
  have off : ∀ {c : Addr}, H c = none → c ≠ a := fun {c} n z => by rw [z, e] at n; cases n
  have two : ∀ {c : Addr}, c ≠ a → c ≠ dx → upd (upd H dx (exd dx [(f, y)])) a (exo a C (some dx)) c = H c := fun {c} h1 h2 => by rw [upd_ne h1, upd_ne h2]
  have U : Un X.fs [] H (upd (upd H dx (exd dx [(f, y)])) a (exo a C (some dx))) hp h' :=
    ⟨fun c o z n _ _ => k c o (off n) z, fun c o z n _ _ => ⟨o.slots, k c o (off n) z⟩, fun c o z n _ => (two (off n) (far z)).trans n,
      fun c o z _ => by
        by_cases hc : c = a
        · exact ⟨_, by rw [hc]; exact hx⟩
        · exact ⟨o, k c o hc z⟩,
      fun c xs z => (two (at_ne e z exo_tup) (ne_of_none z hnd)).trans z, fun c o v z => (two (at_ne e z exo_frz) (ne_of_none z hnd)).trans z,
      fun c ps z => ⟨#[], (two (at_ne e z exo_tbl) (ne_of_none z hnd)).trans (by rw [z]; simp)⟩⟩
  refine h dx _ hnd dne (I.un (t' := tk') U fun c o z => ?_)
  by_cases hc : c = a
  · subst hc
    rw [upd_same] at z
    cases z
    exact exo_ok hx
  · by_cases hd : c = dx
    · subst hd
      rw [upd_ne hc, upd_same] at z
      cases z
      exact exd_ok hn (relO_put (fs := []) ry fun g => True.intro)
    · rw [two hc hd] at z
      refine (I.hok c o z).stay (fun c2 v hc2 z2 => k c2 v ?_ z2) (fun c2 hc2 => (two (at_ne e hc2 exo_own) (ne_of_none hc2 hnd)).trans hc2) fun c2 xs hc2 => (two (at_ne e hc2 exo_tup) (ne_of_none hc2 hnd)).trans hc2
      rcases hc2 with hc2 | hc2
      · rw [hc2]; exact hc
      · exact at_ne e hc2 exo_own
theorem at_more (b : Base B nid iid tl) (T : Of X.K C nid tl) (I : Inv X pins σ H s) (e : H a = some (exo a C (some dx))) (ed : H dx = some (exd dx fs)) (hl : fs.length ≤ 900) (hno : findIn X.K (.ref C) f = some none) (ry : RelV y u)
    (h : ∀ s', Inv X pins σ (upd H dx (exd dx ((f, y) :: fs))) s' → Q () s') : wpAny (model X.prog X.w) A (setAttr (.ref a) f u) Q E s := by
  obtain ⟨t1, ho⟩ := exo_at I.hok e
  obtain ⟨mA, hns, rel⟩ := exd_at I.hok ed
  have hw := within_of rel
  obtain ⟨hp, g, d, t, os⟩ := s
  obtain ⟨oD, _, _, hoD, _, _⟩ := hns.count hw
  refine PySem.W.set_plain I.kIn (od := some oD) ⟨ho, rfl, rfl, hoD⟩ T.sa (put_more b T I.kIn ho hns hw (by rw [List.length_map]; omega) hno fun h' tk' k hn => ?_)
  have there : ∃ o, h'.get? dx = some o := by
    obtain ⟨o, _, _, z, _⟩ := hn
    exact ⟨o, z⟩
  exact h _ (I.write (t' := tk') (x := dx) (e := dx) (o := exd dx ((f, y) :: fs)) (by rw [ed]; exact True.intro) (.inl rfl) k there (exd_ok hn (relO_put ry rel)))
end
section
variable {X : Cx} {o e : Expr} {es : List Expr} {to te : TE} {ta : TA} {f : Str} {p p' pos : Pos} {B nid iid : String} {tl : List Value}
def tPut (K : Frag) (nid : String) (tl : List Value) (f : Str) (to te : TE) : TS := fun D σ H => te σ H fun y H1 => to σ H1 fun x H2 => ∃ a C : Addr, x = .ref a ∧ Of K C nid tl ∧ findIn K (.ref C) f = some none ∧
  ((H2 a = some (exo a C none) ∧ ∀ dx, H2 dx = none → dx ≠ a → D.nx σ (upd (upd H2 dx (exd dx [(f, y)])) a (exo a C (some dx)))) ∨
    ∃ (dx : Addr) (fs : List (Str × V)), H2 a = some (exo a C (some dx)) ∧ H2 dx = some (exd dx fs) ∧ fs.length ≤ 900 ∧ D.nx σ (upd H2 dx (exd dx ((f, y) :: fs))))
theorem ps_put (b : Base B nid iid tl) (ho : PE X o to) (he : PE X e te) (hs : swapsWith e (some (.Attribute o f p')) pos.line X.env = pure false := by rfl) : PS X (.Assign [.Attribute o f p'] e pos) (tPut X.K nid tl f to te) := by
  refine ⟨fun pins s σ H D I h => plainObj_wpAny_Assign_Attribute (thn (he.run pins s σ H _ I h) fun v s1 ⟨y, H1, I1, r1, q1⟩ => thn (ho.run pins s1 σ H1 _ I1 q1) fun u s2 ⟨x, H2, I2, r2, a, C, ex, T, hno, q⟩ => ?_) hs⟩
  subst ex
  obtain rfl : u = Value.ref a := r2
  rcases q with ⟨ea, q⟩ | ⟨dx, fs, ea, ed, hl, q⟩
  · exact at_first b T I2 ea hno r1 fun dx s' n ne J => ⟨σ, _, J, q dx n ne⟩
  · exact at_more b T I2 ea ed hl hno r1 fun s' J => ⟨σ, _, J, q⟩
end
section
variable {X : Cx} {e : Expr} {es : List Expr} {ta : TA} {p pos : Pos} {B nid iid : String} {tl : List Value}
theorem pmk_of {CX : CXT} {x : Str} {C fI : Addr} {k : Nat} {fd : FuncData} {ps : List Str} {sp : Sp} {zs : List Value} {ys : List V} (b : Base B nid iid tl) (T : Of X.K C nid tl) (iC : findIn X.K (.ref C) "__init__" = some (some (.ref fI))) (tI : typeIn X.K (.ref fI) = some (.type "function"))
    (F1 : FnOk X.prog X.w X.K X.mg X.base CX k fI fd ps sp) (hr : Room (k + 1) X.A) (hb : Binds X.K fd ps zs) (hd : Vals ys zs) (hx : Passes CX X (fun _ _ _ => False)) (hg : Gl X x) (hm : X.mg x = some (.ref C)) (ha : PA X (e :: es) ta)
    (hdb : (x == ("__debug__" : Str)) = false := by decide) (he : starEach (e :: es) X.env = (false, eval e X.env) :: starEach es X.env := by rfl) (hpl : (backTo pos (starEach es X.env)).any (·.1) = false := by rfl) :
    PMk X (.Call (.Name x p) (e :: es) [] pos) (tMkO C sp ys ta) := by
  obtain ⟨nm, q, N, bs, bm, sn, sub, ab, col, dd, k0, k1, k2, k3, k5, hC, _, hbm⟩ := T.told
  intro pins s σ H Q I h
  refine wpAny_Call_Name_kw (ld_glob I hg hm ?_ hdb)
  refine callWith_K (h₀ := X.base) I.ok.mod.kin T.kC (thn (ha.run pos pins s σ H _ I h) ?_) he hpl
  rintro us ⟨hp, g, dr, tk, os⟩ ⟨vs, H1, I1, r1, hz, q1⟩
  refine ⟨I1.kIn, ?_⟩
  show wpAny _ _ (call (.ref C) us) _ _ _
  -- the exception lies one place behind its arguments
  have fresh : hp.objs.size ≤ hp.objs.size + 1 := Nat.le_succ _
  have free := I1.hok.fresh fresh
  have wish := q1 (hp.objs.size + 1) free
  have kept : ∀ c o, hp.get? c = some o → ((hp.push (kdv_tup us)).push (PySem.HandSPX.excO C hp.objs.size)).get? c = some o := fun c o z => Heap.get?_push_of_some _ (Heap.get?_push_of_some _ z)
  have lies : ((hp.push (kdv_tup us)).push (PySem.HandSPX.excO C hp.objs.size)).get? (hp.objs.size + 1) = some (PySem.HandSPX.excO C hp.objs.size) := by heap_get
  have J : Inv X pins σ (upd H1 (hp.objs.size + 1) (exo (hp.objs.size + 1) C none)) ⟨(hp.push (kdv_tup us)).push (PySem.HandSPX.excO C hp.objs.size), g, dr, tk, os⟩ := I1.laid (t' := tk) kept fresh (exo_ok lies)
  have args : Vals (V.ref (hp.objs.size + 1) :: (vs ++ ys)) (Value.ref (hp.objs.size + 1) :: (us ++ zs)) := .cons rfl (r1.append hd)
  have count : (Value.ref (hp.objs.size + 1) :: us ++ zs).length = ps.length := (args.length.symm.trans (F1.len _ _ _ _ wish))
  have short : us.length ≤ sizeLine := by
    rw [← Paired.length r1, sizeLine_eq]
    omega
  have went := F1.run _ X.stack _ _ ⟨Value.ref (hp.objs.size + 1) :: us, []⟩ (Value.ref (hp.objs.size + 1) :: (us ++ zs)) _ _ (fun _ _ _ => False) (hr.make C us []) (J.env0.make C us []) (hb _ (Value.ref (hp.objs.size + 1) :: us) J.kIn count) args wish
  refine wpAny_call (PySem.HandSPX.call_own b.fb (fun Y => excTail_contains Y bm hbm) (I1.kIn _ _ hC) (looks_findIn I1.kIn iC) (fun self => bind_fn I1.kIn self tI) short (codeAny_mono went ?_))
  intro r s' z
  cases r with
  | error er => exact hx pins σ _ _ er s' J z
  | ok fl =>
    cases fl with
    | next => exact False.elim z
    | brk => exact False.elim z
    | cont => exact False.elim z
    | ret u =>
      obtain ⟨v, H2, os2, bare, un, hok, rv, ev, d, fs, ea, ed, hd1, q2⟩ := z
      subst ev
      obtain ⟨h2, g2, d2, t2, os'⟩ := s'
      exact ⟨rv, mk_end (raises_own T.exC T.tyC) I1 fresh kept un hok os2 bare ea ed hd1 q2⟩
end
end OEL
namespace DL
open PySem PySem.Spec PyProof.Rows L2
section
variable {P : Program} {w : World} {K : PySem.W.Frag} {mg : Str → Option Value} {base : Heap}
theorem ok_initB {B nid iid : String} {tl : List Value} {qual x : Str} {st : Stmt} {f C : Addr} {fd : FuncData} {wd : Str} {j : Nat} {p1 p2 p3 p4 p5 p6 p7 p8 : Pos} (b : OEL.Base B nid iid tl) (F : Fun K "__init__" qual st f fd) (sc : FnScope ["self", x] ["self", x] (defScope st)) (T : OEL.Of K C nid tl) (n1 : PySem.W.findIn K (.ref C) "word" = some none) (n2 : PySem.W.findIn K (.ref C) x = some none)
    (hb : defBody st = [.Assign [.Attribute (.Name "self" p1) "word" p2] (.Constant (.str wd) j p3) p4, .Assign [.Attribute (.Name "self" p5) x p6] (.Name x p7) p8]) (v0 : Vis (defScope st) "self") (v1 : Vis (defScope st) x)
    (d1 : (x == ("__debug__" : Str)) = false) (d2 : (x == ("__classdict__" : Str)) = false) : FnOk P w K mg base CX0 1 f fd ["self", x] (spInit C 1 fun vs => [(x, vs.getD 0 .non), ("word", .str wd)]) := by
  refine F.ok sc (fun vs H Q E h => ?_) (fun cdv A outer s H vs Q E hr h => ?_)
  · obtain ⟨a, ws, rfl, hl, _⟩ := h
    show ws.length + 1 = 2
    omega
  · obtain ⟨a, ws, rfl, hl, ha, q⟩ := h
    obtain ⟨v, rfl⟩ : ∃ v, ws = [v] := by
      match ws, hl with
      | [v], _ => exact ⟨v, rfl⟩
    rw [hb]
    refine ⟨_, pss_cons (OEL.ps_put b (pv 0 (hv := v0)) pe_str) (pss_one (OEL.ps_put b (pv 0 (hv := v0)) (pv 1 (hv := v1) (hd := d1) (hcd := d2)))), ?_⟩
    refine ⟨.ref a, rfl, a, C, rfl, T, n1, .inl ⟨ha, fun dx nd ne => ?_⟩⟩
    refine ⟨v, rfl, .ref a, rfl, a, C, rfl, T, n2, .inr ⟨dx, [("word", .str wd)], upd_same, ?_, (by simp), ?_⟩⟩
    · rw [upd_ne ne, upd_same]
    · refine q dx _ nd ne ?_ upd_same fun c h1 h2 => ?_
      · rw [upd_ne ne.symm, upd_same]
      · rw [upd_ne h2, upd_ne h1, upd_ne h2]
theorem ok_initB0 {B nid iid : String} {tl : List Value} {qual : Str} {st : Stmt} {f C : Addr} {fd : FuncData} {wd : Str} {j : Nat} {p1 p2 p3 p4 : Pos} (b : OEL.Base B nid iid tl) (F : Fun K "__init__" qual st f fd) (sc : FnScope ["self"] ["self"] (defScope st)) (T : OEL.Of K C nid tl) (n1 : PySem.W.findIn K (.ref C) "word" = some none)
    (hb : defBody st = [.Assign [.Attribute (.Name "self" p1) "word" p2] (.Constant (.str wd) j p3) p4]) (v0 : Vis (defScope st) "self") : FnOk P w K mg base CX0 1 f fd ["self"] (spInit C 0 fun _ => [("word", .str wd)]) := by
  refine F.ok sc (fun vs H Q E h => ?_) (fun cdv A outer s H vs Q E hr h => ?_)
  · obtain ⟨a, ws, rfl, hl, _⟩ := h
    show ws.length + 1 = 1
    omega
  · obtain ⟨a, ws, rfl, hl, ha, q⟩ := h
    obtain rfl : ws = [] := List.length_eq_zero_iff.mp hl
    rw [hb]
    refine ⟨_, pss_one (OEL.ps_put b (pv 0 (hv := v0)) pe_str), ?_⟩
    refine ⟨.ref a, rfl, a, C, rfl, T, n1, .inl ⟨ha, fun dx nd ne => ?_⟩⟩
    refine q dx _ nd ne upd_same ?_ fun c h1 h2 => ?_
    · rw [upd_ne ne, upd_same]
    · rw [upd_ne h1, upd_ne h2]
end
end DL
namespace DW
open PySem PySem.Spec PyProof.Rows L2 RZ DL
end DW
namespace DL
open PySem PySem.Spec PyProof.Rows L2 RZ
end DL
namespace DW
open PySem PySem.Spec PyProof.Rows L2 RZ DL
end DW
namespace DW
open PySem PySem.Spec PyProof.Rows L2 RZ DL
end DW
namespace DW
open PySem PySem.Spec PyProof.Rows L2 RZ DL
end DW
namespace DW
open PySem PySem.Spec PyProof.Rows L2 RZ DL
def bStr : List DV → DP → Prop
  | [.dat (.int i)], P => i.natAbs.log2 < 1920 ∧ P (dstr (Str.ofString (toString i)))
  | [.dat (.str z)], P => P (dstr z)
  | _, _ => False
theorem jb_str {X : Cx} : JCb X (.type "str") bStr := ⟨_, cbr_or call_str_int SkE.call_str_str, fun b rs P p => by
  unfold bStr at p
  split at p
  · rename_i i
    intro H0 I H vs k r Q q
    cases r with
    | cons r1 rr =>
      cases rr
      have e := int_read r1
      subst e
      exact .inl ⟨i, rfl, p.1, q _ _ _ _ p.2 k.re (Dp.str _)⟩
  · rename_i z
    intro H0 I H vs k r Q q
    cases r with
    | cons r1 rr =>
      cases rr
      have e := str_read r1
      subst e
      exact .inr ⟨z, rfl, q _ _ _ _ p k.re (Dp.str _)⟩
  · exact p.elim⟩
end DW
namespace DW
open PySem PySem.Spec PyProof.Rows L2 RZ DL
end DW
namespace DW
open PySem PySem.Spec PyProof.Rows L2 RZ DL
end DW
namespace DW
open PySem PySem.Spec PyProof.Rows L2 RZ DL
end DW
namespace DL
open PySem PySem.Spec PyProof.Rows L2
theorem gc_str {mg : Str → Option Value} {x z : Str} (h : ∃ tk, mg x = some (.str z tk)) : ∃ u, mg x = some u ∧ RelV (.str z) u := by
  obtain ⟨tk, e⟩ := h
  exact ⟨_, e, tk, rfl⟩
end DL
set_option maxHeartbeats 1000000
namespace DW
open PySem PySem.Spec PyProof.Rows L2 RZ DL
end DW
namespace HX
open PySem PySem.Spec PyProof.Rows L2 DL DW
theorem fun_of {K : PySem.W.Frag} {x q : Str} {st : Stmt} {kws : List (Str × V)} {f : Addr} {fd : FuncData} (F : FunD K x q (defArgs st) (defBody st) (defScope st) [] kws f fd) : Fun K x q st f fd := by
  obtain ⟨oc, od, dV, kV, doc, pm, an, cdv, ct, osl, e, lk, cd, d, _⟩ := F.ex
  have e2 : dV = .none := by
    rcases d with ⟨_, h⟩ | ⟨h, _⟩
    · exact h
    · exact absurd rfl h
  subst e2
  exact ⟨⟨oc, od, kV, doc, pm, an, cdv, ct, osl, e, lk, cd⟩, F.kp⟩
theorem exB_ok {K : PySem.W.Frag} {C : Addr} (h : exB K C = true) : ∃ nm q N bs bm sn sub ab col dd k0 k1 k2 k3 k5, K.lookup C = some (excClassObj nm q C N bs bm true sn sub ab col dd k0 k1 k2 k3 k5 "ValueError.__new__") ∧ PySem.HandSPX.refsVE bm = true := by
  unfold exB at h
  split at h
  · rename_i c dd cd sl ho
    split at h
    · rename_i C' bm k0 k1 k2 k3 n k5 hm hs
      obtain ⟨h1, h⟩ := He.ba h
      obtain ⟨h2, h⟩ := He.ba h
      obtain ⟨h3, h⟩ := He.ba h
      obtain ⟨h4, h⟩ := He.ba h
      obtain ⟨h5, h6⟩ := He.ba h
      have e1 := of_decide_eq_true h1
      have e2 := of_decide_eq_true h2
      have e3 := of_decide_eq_true h3
      subst e1 e2 e3
      obtain ⟨nm, bs, mro, ns, qn, hd, sn, sub, ab, col, del⟩ := cd
      dsimp only at hm h4 h5
      have h4' : del = false := by simpa using h4
      subst hm h4' h5
      have hsl : sl = #[k0, k1, k2, k3, some (.builtin "ValueError.__new__"), k5] := by
        obtain ⟨l⟩ := sl
        simp only at hs
        rw [hs]
      subst hsl
      exact ⟨_, _, _, _, bm, _, _, _, _, _, _, _, _, _, _, ho, h6⟩
    · cases h
  · cases h
structure ClsG (K : PySem.W.Frag) (C fI : Addr) (fs : List Str) : Prop where
  o : OexC K C
  f : XfC K C
  ti : PySem.W.typeIn K (.ref fI) = some (.type "function")
  ii : PySem.W.findIn K (.ref C) "__init__" = some (some (.ref fI))
  nf : ∀ f ∈ fs, PySem.W.findIn K (.ref C) f = some none
theorem clsX_ok {K : PySem.W.Frag} {x : Str} {fs : List Str} (h : clsX K x fs = true) : ClsG K (He.ga K x) (He.ma K (He.ga K x) "__init__") fs := by
  obtain ⟨h1, h⟩ := He.ba h
  obtain ⟨h2, h⟩ := He.ba h
  obtain ⟨h3, h⟩ := He.ba h
  obtain ⟨h4, h⟩ := He.ba h
  obtain ⟨h5, h⟩ := He.ba h
  obtain ⟨h6, h⟩ := He.ba h
  obtain ⟨h7, h⟩ := He.ba h
  obtain ⟨h8, h⟩ := He.ba h
  exact ⟨⟨exB_ok h1, He.eqO_ok h2, of_decide_eq_true h3, of_decide_eq_true h4, h5⟩, xfB_ok h6, of_decide_eq_true h7, He.eqO_ok h8, fun f hf => He.eqO_ok (List.all_eq_true.mp h f hf)⟩
end HX
namespace HX
open PySem PySem.Spec PyProof.Rows L2 DL DW
theorem exN_ok {nid : String} {K : PySem.W.Frag} {C : Addr} (h : exN nid K C = true) : ∃ nm q N bs bm sn sub ab col dd k0 k1 k2 k3 k5, K.lookup C = some (excClassObj nm q C N bs bm true sn sub ab col dd k0 k1 k2 k3 k5 nid) := by
  unfold exN at h
  split at h
  · rename_i c dd cd sl ho
    split at h
    · rename_i C' bm k0 k1 k2 k3 n k5 hm hs
      obtain ⟨h1, h⟩ := He.ba h
      obtain ⟨h2, h⟩ := He.ba h
      obtain ⟨h3, h⟩ := He.ba h
      obtain ⟨h4, h5⟩ := He.ba h
      have e1 := of_decide_eq_true h1
      have e2 := of_decide_eq_true h2
      have e3 := of_decide_eq_true h3
      subst e1 e2 e3
      obtain ⟨nm, bs, mro, ns, qn, hd, sn, sub, ab, col, del⟩ := cd
      dsimp only at hm h4 h5
      have h4' : del = false := by simpa using h4
      subst hm h4' h5
      have hsl : sl = #[k0, k1, k2, k3, some (.builtin n), k5] := by
        obtain ⟨l⟩ := sl
        simp only at hs
        rw [hs]
      subst hsl
      exact ⟨_, _, _, _, bm, _, _, _, _, _, _, _, _, _, _, ho⟩
    · cases h
  · cases h
structure ClsN (K : PySem.W.Frag) (nid : String) (tl : List Value) (C fI : Addr) (fs : List Str) : Prop where
  o : OEL.Of K C nid tl
  f : XfC K C
  ti : PySem.W.typeIn K (.ref fI) = some (.type "function")
  ii : PySem.W.findIn K (.ref C) "__init__" = some (some (.ref fI))
  nf : ∀ f ∈ fs, PySem.W.findIn K (.ref C) f = some none
theorem clsN_ok {nid : String} {tl : List Value} {K : PySem.W.Frag} {x : Str} {fs : List Str} (h : clsN nid tl K x fs = true) : ClsN K nid tl (He.ga K x) (He.ma K (He.ga K x) "__init__") fs := by
  obtain ⟨h1, h⟩ := He.ba h
  obtain ⟨h0, h⟩ := He.ba h
  obtain ⟨h2, h⟩ := He.ba h
  obtain ⟨h3, h⟩ := He.ba h
  obtain ⟨h4, h⟩ := He.ba h
  obtain ⟨h5, h⟩ := He.ba h
  obtain ⟨h6, h⟩ := He.ba h
  obtain ⟨h7, h⟩ := He.ba h
  obtain ⟨h8, h⟩ := He.ba h
  exact ⟨⟨exN_ok h1, h0, He.eqO_ok h2, of_decide_eq_true h3, of_decide_eq_true h4, h5⟩, xfB_ok h6, of_decide_eq_true h7, He.eqO_ok h8, fun f hf => He.eqO_ok (List.all_eq_true.mp h f hf)⟩
end HX
set_option maxHeartbeats 4000000
namespace Lw
open PySem PySem.Spec PyProof.Rows L2 DL DW
abbrev N_look_sizes : List Str := ["sizes", "cask", "size"]
theorem sc_look_sizes : FnScope N_look_sizes ["sizes"] (defScope s_look_sizes) := ⟨rfl, rfl, rfl, by decide +kernel, rfl, by decide +kernel, by decide +kernel⟩
abbrev N_fault_place : List Str := ["sizes", "deed"]
theorem sc_fault_place : FnScope N_fault_place ["sizes", "deed"] (defScope s_fault_place) := ⟨rfl, rfl, rfl, by decide +kernel, rfl, by decide +kernel, by decide +kernel⟩
abbrev N_length_fits : List Str := ["sizes", "deed"]
theorem sc_length_fits : FnScope N_length_fits ["sizes", "deed"] (defScope s_length_fits) := ⟨rfl, rfl, rfl, by decide +kernel, rfl, by decide +kernel, by decide +kernel⟩
abbrev N_swap_fault : List Str := ["sizes", "deed", "place"]
theorem sc_swap_fault : FnScope N_swap_fault ["sizes", "deed"] (defScope s_swap_fault) := ⟨rfl, rfl, rfl, by decide +kernel, rfl, by decide +kernel, by decide +kernel⟩
abbrev N_cask_fault : List Str := ["sizes", "deed", "start", "place", "cask"]
theorem sc_cask_fault : FnScope N_cask_fault ["sizes", "deed", "start"] (defScope s_cask_fault) := ⟨rfl, rfl, rfl, by decide +kernel, rfl, by decide +kernel, by decide +kernel⟩
abbrev N_Book_init : List Str := ["self", "sizes"]
theorem sc_Book_init : FnScope N_Book_init ["self", "sizes"] (defScope s_Book_init) := ⟨rfl, rfl, rfl, by decide +kernel, rfl, by decide +kernel, by decide +kernel⟩
abbrev N_is_name : List Str := ["name", "sign"]
theorem sc_is_name : FnScope N_is_name ["name"] (defScope s_is_name) := ⟨rfl, rfl, rfl, by decide +kernel, rfl, by decide +kernel, by decide +kernel⟩
abbrev N_step_fault : List Str := ["sizes", "step"]
theorem sc_step_fault : FnScope N_step_fault ["sizes", "step"] (defScope s_step_fault) := ⟨rfl, rfl, rfl, by decide +kernel, rfl, by decide +kernel, by decide +kernel⟩
abbrev N_calls : List Str := ["steps", "name", "step"]
theorem sc_calls : FnScope N_calls ["steps", "name"] (defScope s_calls) := ⟨rfl, rfl, rfl, by decide +kernel, rfl, by decide +kernel, by decide +kernel⟩
abbrev N_law_open : List Str := ["_law_script"]
theorem sc_law_open : FnScope N_law_open ["_law_script"] (defScope s_law_open) := ⟨rfl, rfl, rfl, by decide +kernel, rfl, by decide +kernel, by decide +kernel⟩
abbrev N_law_take : List Str := ["_law_bag", "_law_sides", "_law_cell", "_law_side", "_law_mix"]
theorem sc_law_take : FnScope N_law_take ["_law_bag", "_law_sides"] (defScope s_law_take) := ⟨rfl, rfl, rfl, by decide +kernel, rfl, by decide +kernel, by decide +kernel⟩
abbrev N_law_pick : List Str := ["_law_bag", "_law_row"]
theorem sc_law_pick : FnScope N_law_pick ["_law_bag", "_law_row"] (defScope s_law_pick) := ⟨rfl, rfl, rfl, by decide +kernel, rfl, by decide +kernel, by decide +kernel⟩
abbrev N_law_same : List Str := ["_law_found", "_law_due_here", "_law_at"]
theorem sc_law_same : FnScope N_law_same ["_law_found", "_law_due_here"] (defScope s_law_same) := ⟨rfl, rfl, rfl, by decide +kernel, rfl, by decide +kernel, by decide +kernel⟩
abbrev N_law_word : List Str := ["_law_ask", "_law_told", "_law_word_here", "e"]
theorem sc_law_word : FnScope N_law_word ["_law_ask"] (defScope s_law_word) := ⟨rfl, rfl, rfl, by decide +kernel, rfl, by decide +kernel, by decide +kernel⟩
abbrev N_law_sizes : List Str := ["_law_bag", "_law_mcasks", "_law_most", "_law_mcask"]
theorem sc_law_sizes : FnScope N_law_sizes ["_law_bag", "_law_mcasks", "_law_most"] (defScope s_law_sizes) := ⟨rfl, rfl, rfl, by decide +kernel, rfl, by decide +kernel, by decide +kernel⟩
abbrev N_law_any_sizes : List Str := ["_law_bag"]
theorem sc_law_any_sizes : FnScope N_law_any_sizes ["_law_bag"] (defScope s_law_any_sizes) := ⟨rfl, rfl, rfl, by decide +kernel, rfl, by decide +kernel, by decide +kernel⟩
abbrev N_law_number : List Str := ["_law_bag", "_law_some"]
theorem sc_law_number : FnScope N_law_number ["_law_bag"] (defScope s_law_number) := ⟨rfl, rfl, rfl, by decide +kernel, rfl, by decide +kernel, by decide +kernel⟩
abbrev N_law_shuffled : List Str := ["_law_bag", "_law_row", "_law_left", "_law_thing"]
theorem sc_law_shuffled : FnScope N_law_shuffled ["_law_bag", "_law_row"] (defScope s_law_shuffled) := ⟨rfl, rfl, rfl, by decide +kernel, rfl, by decide +kernel, by decide +kernel⟩
abbrev N_law_some_casks : List Str := ["_law_bag", "_law_mcasks", "_law_mmany"]
theorem sc_law_some_casks : FnScope N_law_some_casks ["_law_bag", "_law_mcasks", "_law_mmany"] (defScope s_law_some_casks) := ⟨rfl, rfl, rfl, by decide +kernel, rfl, by decide +kernel, by decide +kernel⟩
abbrev N_law_alike : List Str := ["_law_msizes", "_law_found", "_law_mone", "_law_near", "_law_at"]
theorem sc_law_alike : FnScope N_law_alike ["_law_msizes"] (defScope s_law_alike) := ⟨rfl, rfl, rfl, by decide +kernel, rfl, by decide +kernel, by decide +kernel⟩
abbrev N_law_deed : List Str := ["_law_bag", "_law_msizes", "_law_number_here", "_law_taps", "_law_how", "_law_pairs", "_law_mmany", "_law_word_here"]
theorem sc_law_deed : FnScope N_law_deed ["_law_bag", "_law_msizes", "_law_number_here", "_law_taps"] (defScope s_law_deed) := ⟨rfl, rfl, rfl, by decide +kernel, rfl, by decide +kernel, by decide +kernel⟩
abbrev N_law_names : List Str := ["_law_bag", "_law_count", "_law_letters", "_law_stem", "_law_spot", "_law_start", "_law_k"]
theorem sc_law_names : FnScope N_law_names ["_law_bag", "_law_count"] (defScope s_law_names) := ⟨rfl, rfl, rfl, by decide +kernel, rfl, by decide +kernel, by decide +kernel⟩
abbrev N_law_step : List Str := ["_law_bag", "_law_msizes", "_law_names_here", "_law_how", "_law_some"]
theorem sc_law_step : FnScope N_law_step ["_law_bag", "_law_msizes", "_law_names_here"] (defScope s_law_step) := ⟨rfl, rfl, rfl, by decide +kernel, rfl, by decide +kernel, by decide +kernel⟩
abbrev N_law_step_word : List Str := ["_law_msizes", "_law_flats", "_law_mstep"]
theorem sc_law_step_word : FnScope N_law_step_word ["_law_msizes", "_law_flats", "_law_mstep"] (defScope s_law_step_word) := ⟨rfl, rfl, rfl, by decide +kernel, rfl, by decide +kernel, by decide +kernel⟩
abbrev N_law_laid : List Str := ["_law_flats", "_law_mstep"]
theorem sc_law_laid : FnScope N_law_laid ["_law_flats", "_law_mstep"] (defScope s_law_laid) := ⟨rfl, rfl, rfl, by decide +kernel, rfl, by decide +kernel, by decide +kernel⟩
abbrev N_law_due : List Str := ["_law_msizes", "_law_flats", "_law_mname", "_law_msteps", "_law_words", "_law_some", "_law_mmany", "_law_mstep", "_law_word_here"]
theorem sc_law_due : FnScope N_law_due ["_law_msizes", "_law_flats", "_law_mname", "_law_msteps"] (defScope s_law_due) := ⟨rfl, rfl, rfl, by decide +kernel, rfl, by decide +kernel, by decide +kernel⟩
abbrev N_law : List Str := ["_law_script", "_law_bag", "_law_msizes", "_law_names_here", "_law_mbook", "_law_flats", "_law_written", "_law_order", "_law_turn", "_law_mname", "_law_msteps", "_law_handed", "_law_due_here", "_law_laid_here", "_law_mstep", "_law_count", "_law_here", "_law_near", "_law_found", "_law_k", "_law_there"]
theorem sc_law : FnScope N_law ["_law_script"] (defScope s_law) := ⟨rfl, rfl, rfl, by decide +kernel, rfl, by decide +kernel, by decide +kernel⟩
abbrev N_Book_write : List Str := ["self", "name", "steps", "step"]
theorem sc_Book_write : FnScope N_Book_write ["self", "name", "steps"] (defScope s_Book_write) := ⟨rfl, rfl, rfl, by decide +kernel, rfl, by decide +kernel, by decide +kernel⟩
abbrev N_Book_steps : List Str := ["self", "name"]
theorem sc_Book_steps : FnScope N_Book_steps ["self", "name"] (defScope s_Book_steps) := ⟨rfl, rfl, rfl, by decide +kernel, rfl, by decide +kernel, by decide +kernel⟩
abbrev N_Book_flat : List Str := ["self", "name"]
theorem sc_Book_flat : FnScope N_Book_flat ["self", "name"] (defScope s_Book_flat) := ⟨rfl, rfl, rfl, by decide +kernel, rfl, by decide +kernel, by decide +kernel⟩
abbrev N_Book_callers : List Str := ["self", "name", "user"]
theorem sc_Book_callers : FnScope N_Book_callers ["self", "name"] (defScope s_Book_callers) := ⟨rfl, rfl, rfl, by decide +kernel, rfl, by decide +kernel, by decide +kernel⟩
abbrev N_Book_names : List Str := ["self"]
theorem sc_Book_names : FnScope N_Book_names ["self"] (defScope s_Book_names) := ⟨rfl, rfl, rfl, by decide +kernel, rfl, by decide +kernel, by decide +kernel⟩
abbrev N_Book_sizes : List Str := ["self"]
theorem sc_Book_sizes : FnScope N_Book_sizes ["self"] (defScope s_Book_sizes) := ⟨rfl, rfl, rfl, by decide +kernel, rfl, by decide +kernel, by decide +kernel⟩
abbrev N_Book_look_fresh : List Str := ["self", "name"]
theorem sc_Book_look_fresh : FnScope N_Book_look_fresh ["self", "name"] (defScope s_Book_look_fresh) := ⟨rfl, rfl, rfl, by decide +kernel, rfl, by decide +kernel, by decide +kernel⟩
abbrev N_Book_look_written : List Str := ["self", "name"]
theorem sc_Book_look_written : FnScope N_Book_look_written ["self", "name"] (defScope s_Book_look_written) := ⟨rfl, rfl, rfl, by decide +kernel, rfl, by decide +kernel, by decide +kernel⟩
abbrev N_Book_look_steps : List Str := ["self", "steps", "number", "step", "place"]
theorem sc_Book_look_steps : FnScope N_Book_look_steps ["self", "steps"] (defScope s_Book_look_steps) := ⟨rfl, rfl, rfl, by decide +kernel, rfl, by decide +kernel, by decide +kernel⟩
abbrev N_Book_count_deeds : List Str := ["self", "step"]
theorem sc_Book_count_deeds : FnScope N_Book_count_deeds ["self", "step"] (defScope s_Book_count_deeds) := ⟨rfl, rfl, rfl, by decide +kernel, rfl, by decide +kernel, by decide +kernel⟩
abbrev N_Book_lay_out : List Str := ["self", "steps", "deeds", "step"]
theorem sc_Book_lay_out : FnScope N_Book_lay_out ["self", "steps"] (defScope s_Book_lay_out) := ⟨rfl, rfl, rfl, by decide +kernel, rfl, by decide +kernel, by decide +kernel⟩
abbrev N_Book_len : List Str := ["self"]
theorem sc_Book_len : FnScope N_Book_len ["self"] (defScope s_Book_len) := ⟨rfl, rfl, rfl, by decide +kernel, rfl, by decide +kernel, by decide +kernel⟩
abbrev N_Book_repr : List Str := ["self"]
theorem sc_Book_repr : FnScope N_Book_repr ["self"] (defScope s_Book_repr) := ⟨rfl, rfl, rfl, by decide +kernel, rfl, by decide +kernel, by decide +kernel⟩
theorem sc_BadSizes : FnScope ["self", "cask"] ["self", "cask"] (defScope si_BadSizes) := ⟨rfl, rfl, rfl, by decide +kernel, rfl, by decide +kernel, by decide +kernel⟩
theorem sc_BadRow : FnScope ["self", "step", "place"] ["self", "step", "place"] (defScope si_BadRow) := ⟨rfl, rfl, rfl, by decide +kernel, rfl, by decide +kernel, by decide +kernel⟩
theorem sc_BadName : FnScope ["self"] ["self"] (defScope si_BadName) := ⟨rfl, rfl, rfl, by decide +kernel, rfl, by decide +kernel, by decide +kernel⟩
theorem sc_Taken : FnScope ["self", "name"] ["self", "name"] (defScope si_Taken) := ⟨rfl, rfl, rfl, by decide +kernel, rfl, by decide +kernel, by decide +kernel⟩
theorem sc_TooLong : FnScope ["self", "most"] ["self", "most"] (defScope si_TooLong) := ⟨rfl, rfl, rfl, by decide +kernel, rfl, by decide +kernel, by decide +kernel⟩
theorem sc_TooMany : FnScope ["self", "most"] ["self", "most"] (defScope si_TooMany) := ⟨rfl, rfl, rfl, by decide +kernel, rfl, by decide +kernel, by decide +kernel⟩
theorem sc_NoRound : FnScope ["self", "name"] ["self", "name"] (defScope si_NoRound) := ⟨rfl, rfl, rfl, by decide +kernel, rfl, by decide +kernel, by decide +kernel⟩
end Lw
set_option maxHeartbeats 1000000
namespace DL
open PySem PySem.Spec PyProof.Rows L2 RZ
end DL
namespace DW
open PySem PySem.Spec PyProof.Rows L2 RZ DL
def isI : PyData → Bool
  | .int _ => true
  | _ => false
theorem dpa_ints {K : PySem.W.Frag} {I I' : Hp} : ∀ {xs : List V} {ds : List PyData}, ds.all isI = true → DpAll K I xs ds → DpAll K I' xs ds
  | _, _, _, .nil => .nil
  | _, d :: ds, h, .cons q t => by
    rw [List.all_cons] at h
    obtain ⟨h1, h2⟩ := Bool.and_eq_true_iff.mp h
    refine .cons ?_ (dpa_ints h2 t)
    cases d with
    | int i =>
      cases q
      exact .int i
    | _ => cases h1
end DW
set_option maxHeartbeats 4000000
namespace DW
open PySem PySem.Spec PyProof.Rows L2 RZ DL
theorem forGo_inv {c : Cn} {tf : Tf} {db : DS} {D : Ed} {δ : En} {items : List PyData} (J : Nat → En → Prop) (h0 : J 0 δ)
    (hs : ∀ (k : Nat) d δk, items[k]? = some d → J k δk → ∀ N : En → Prop, (∀ δ', J (k + 1) δ' → N δ') → ∃ δ', tf d δk = some δ' ∧ db c δ' ⟨N, D.rt, D.nx, N⟩) (hn : ∀ δn, J items.length δn → D.nx δn) : forGo c tf db D items δ := by
  have go : ∀ (l : List PyData) (k : Nat) (δk : En), items.drop k = l → J k δk → k + l.length = items.length → forGo c tf db D l δk := by
    intro l
    induction l with
    | nil =>
      intro k δk _ hj hl
      have e : k = items.length := by simpa using hl
      subst e
      exact hn δk hj
    | cons d l ih =>
      intro k δk hd hj hl
      have hk : k < items.length := by
        rw [List.length_cons] at hl
        omega
      have e := List.drop_eq_getElem_cons hk
      rw [e] at hd
      injection hd with h1 h2
      have hg : items[k]? = some d := by rw [List.getElem?_eq_getElem hk, h1]
      obtain ⟨δ', e1, e2⟩ := hs k d δk hg hj (forGo c tf db D l) fun δ'' hj' => ih (k + 1) δ'' h2 hj' (by
        rw [List.length_cons] at hl
        omega)
      unfold forGo
      rw [e1]
      exact e2
  exact go items 0 δ rfl h0 (by simp)
theorem lc_ints {β : Type} {step : PyData → (Option DV → Prop) → Prop} {P : List PyData → Prop} {l : List β} {gI : β → PyData} {R : β → Int → Prop}
    (h : ∀ x ∈ l, ∀ k : Option DV → Prop, (∀ i, R x i → k (some (dint i))) → step (gI x) k) (hP : ∀ ns : List Int, Paired R l ns → P (ns.map .int)) : lcGo step (l.map gI) P :=
  lc_all (R := fun x y => ∃ i : Int, y = .int i ∧ R x i) (fun x hx k h1 => h x hx k fun i hi => h1 _ ⟨i, rfl, hi⟩) fun ys hp => by
    obtain ⟨ns, e, hq⟩ := paired_ints hp
    rw [e]
    exact hP ns hq
theorem lc_filt {β : Type} {step : PyData → (Option DV → Prop) → Prop} {P : List PyData → Prop} {l : List β} {gI : β → PyData} (f : β → Bool) (g : β → PyData)
    (h : ∀ x ∈ l, ∀ k : Option DV → Prop, (f x = true → k (some (.dat (g x)))) → (f x = false → k none) → step (gI x) k) (hP : P ((l.filter f).map g)) : lcGo step (l.map gI) P :=
  lc_rel (f := f) (R := fun x y => y = g x) (fun x hx k h1 h2 => h x hx k (fun hf => h1 hf _ rfl) h2) fun ys hp => by
    rw [paired_fun hp]
    exact hP
theorem paired_mem {α β : Type} {F : α → β → Prop} : ∀ {l : List α} {m : List β}, Paired F l m → ∀ y ∈ m, ∃ x ∈ l, F x y
  | _, _, .nil, _, h => by cases h
  | _, _, .cons r t, y, h => by
    rcases List.mem_cons.mp h with e | e
    · exact ⟨_, List.mem_cons_self .., e ▸ r⟩
    · obtain ⟨x, hx, hf⟩ := paired_mem t y e
      exact ⟨x, List.mem_cons_of_mem _ hx, hf⟩
theorem atD_at {ns : List Int} {i : Int} (h0 : 0 ≤ i) (h1 : i < ns.length) : atD (ns.map .int) i = some (.int (at_ ns i)) := by
  rw [atD_nat h0, List.getElem?_map]
  have h : i.toNat < ns.length := by omega
  rw [List.getElem?_eq_getElem h]
  unfold at_
  rw [List.getD_eq_getElem?_getD, List.getElem?_eq_getElem h]
  rfl
theorem ix_at {ns : List Int} {i : Int} (h0 : 0 ≤ i) (h1 : i < ns.length) : (ns.map PyData.int)[i.toNat]? = some (.int (at_ ns i)) := by
  rw [← atD_nat h0]
  exact atD_at h0 h1
theorem ixN_at {n : Nat} {i : Int} (h0 : 0 ≤ i) (h1 : i < n) : ixN n i = some i.toNat := by
  unfold ixN
  rw [if_pos h0, if_pos (by omega)]
end DW
namespace DW
open PySem PySem.Spec PyProof.Rows L2 RZ DL
theorem enumD_get {ds : List PyData} {k : Nat} {d : PyData} (h : (enumD ds)[k]? = some d) : ∃ x, ds[k]? = some x ∧ d = .tuple [.int (k : Int), x] := by
  unfold enumD at h
  rw [List.getElem?_map, List.getElem?_zipIdx] at h
  cases q1 : ds[k]? with
  | none => rw [q1] at h; cases h
  | some x =>
    rw [q1] at h
    refine ⟨x, rfl, ?_⟩
    have := (Option.some.inj h).symm
    simpa using this
theorem enumD_ints {ns : List Int} {k : Nat} {d : PyData} (h : (enumD (ns.map .int))[k]? = some d) : k < ns.length ∧ d = .tuple [.int (k : Int), .int (at_ ns k)] := by
  obtain ⟨x, h1, h2⟩ := enumD_get h
  rw [List.getElem?_map] at h1
  cases q : ns[k]? with
  | none => rw [q] at h1; cases h1
  | some n =>
    rw [q] at h1
    have hk := (List.getElem?_eq_some_iff.mp q).1
    refine ⟨hk, ?_⟩
    rw [h2, ← Option.some.inj h1]
    have : at_ ns (k : Int) = n := by
      unfold at_
      rw [List.getD_eq_getElem?_getD]
      simp [q]
    rw [this]
theorem at_mem {ns : List Int} {i : Int} (h0 : 0 ≤ i) (h1 : i < ns.length) : at_ ns i ∈ ns := by
  unfold at_
  have h : i.toNat < ns.length := by omega
  rw [List.getD_eq_getElem?_getD, List.getElem?_eq_getElem h]
  exact List.getElem_mem h
end DW
namespace DW
open PySem PySem.Spec PyProof.Rows L2 RZ DL
theorem sh_int {i : Int} : SeqAt.shaped (.int i) = true := rfl
abbrev OkS (i : Str) : Prop := PyData.canLay0 (.str i) = true
theorem sh_str {i : Str} (h : OkS i) : SeqAt.shaped (.str i) = true := by
  unfold SeqAt.shaped
  rw [h]
  rfl
theorem sh_bl {i : Bool} : SeqAt.shaped (.bool i) = true := rfl
theorem sh_non : SeqAt.shaped .none = true := rfl
theorem eqv_ii {i j : Int} : PyData.eqv (.int i) (.int j) = decide (i = j) := by
  rw [PyData.eqv]
  by_cases h : i = j
  · subst h; simp
  · simp [h]
theorem anyI (k : Int) (ns : List Int) : ((ns.map PyData.int).any fun z => PyData.eqv z (.int k)) = decide (k ∈ ns) := by
  induction ns with
  | nil => simp
  | cons s ss ih =>
    rw [List.map_cons, List.any_cons, ih, eqv_ii]
    by_cases h : s = k
    · subst h; simp
    · have h' : ¬ k = s := fun z => h z.symm
      simp [h, h']
theorem fl_ints (ss : List Int) : (ss.map PyData.int).all flD = true := by
  induction ss with
  | nil => rfl
  | cons s ss ih => rw [List.map_cons, List.all_cons, ih]; rfl
theorem cut_mid {ds : List PyData} {a b : Nat} (h : a ≤ ds.length) (hb : b ≤ ds.length) : cutD ds (some (a : Int)) (some (b : Int)) = (ds.drop a).take (b - a) := by
  unfold DL.cutD
  rw [HT.sIx_nat, HT.sIx_nat, Nat.min_eq_left h, Nat.min_eq_left hb]
theorem cut_to {ds : List PyData} {b : Nat} : cutD ds none (some (b : Int)) = ds.take b := by
  unfold DL.cutD
  rw [HT.sIx_none, HT.sIx_nat, List.drop_zero, Nat.sub_zero, Nat.min_def]
  split
  · rfl
  · rw [List.take_length, List.take_of_length_le (by omega)]
end DW
namespace DW
open PySem PySem.Spec PyProof.Rows L2 RZ DL
theorem atD_0 {d : PyData} {ds : List PyData} : atD (d :: ds) 0 = some d := by rw [atD_nat (by omega)]; rfl
theorem atD_1 {d e : PyData} {ds : List PyData} : atD (d :: e :: ds) 1 = some e := by rw [atD_nat (by omega)]; rfl
theorem atD_2 {d e f : PyData} {ds : List PyData} : atD (d :: e :: f :: ds) 2 = some f := by rw [atD_nat (by omega)]; rfl
end DW
namespace DW
open PySem PySem.Spec PyProof.Rows L2 RZ DL
def Lay (n : Nat) (d : PyData) : Prop := PyData.canLay0 d = true ∧ PyData.depth d ≤ n
theorem lay_all {n : Nat} {ds : List PyData} (h : ∀ d ∈ ds, Lay n d) : PyData.canLayAll0 ds = true ∧ PyData.depthAll ds ≤ n := by
  induction ds with
  | nil => exact ⟨rfl, Nat.zero_le _⟩
  | cons d ds ih =>
    obtain ⟨h1, h2⟩ := ih fun x hx => h x (List.mem_cons_of_mem _ hx)
    obtain ⟨h3, h4⟩ := h d (List.mem_cons_self ..)
    refine ⟨?_, ?_⟩
    · rw [PyData.canLayAll0, h1, h3]
      rfl
    · rw [PyData.depthAll]
      omega
theorem lay_list {n : Nat} {ds : List PyData} (h : ∀ d ∈ ds, Lay n d) : Lay (n + 1) (.list ds) := by
  obtain ⟨h1, h2⟩ := lay_all h
  refine ⟨by rw [PyData.canLay0]; exact h1, ?_⟩
  rw [PyData.depth]
  omega
theorem lay_tup {n : Nat} {ds : List PyData} (h : ∀ d ∈ ds, Lay n d) : Lay (n + 1) (.tuple ds) := by
  obtain ⟨h1, h2⟩ := lay_all h
  refine ⟨by rw [PyData.canLay0]; exact h1, ?_⟩
  rw [PyData.depth]
  omega
theorem lay_int {n : Nat} {i : Int} : Lay n (.int i) := ⟨rfl, Nat.zero_le _⟩
theorem lay_str {n : Nat} {i : Str} (h : PyData.canLay0 (.str i) = true) : Lay n (.str i) := ⟨h, Nat.zero_le _⟩
theorem lay_non {n : Nat} : Lay n .none := ⟨rfl, Nat.zero_le _⟩
theorem Lay.sh {n : Nat} {d : PyData} (h : Lay n d) (hn : n ≤ 64) : SeqAt.shaped d = true := by
  unfold SeqAt.shaped
  rw [h.1, decide_eq_true (by have := h.2; omega)]
  rfl
theorem cl_over : PyData.canLay0 (.str "over") = true := by decide +kernel
theorem cl_down : PyData.canLay0 (.str "down") = true := by decide +kernel
theorem cl_swap : PyData.canLay0 (.str "swap") = true := by decide +kernel
theorem cl_tap : PyData.canLay0 (.str "tap") = true := by decide +kernel
theorem cl_drain : PyData.canLay0 (.str "drain") = true := by decide +kernel
mutual
theorem eqv_self : ∀ {n : Nat} {d : PyData}, PyData.canLay0 d = true → PyData.eqv d d = true
  | _, .none, _ => rfl
  | _, .bool b, _ => by simp [PyData.eqv]
  | _, .int i, _ => by simp [PyData.eqv]
  | _, .str s, _ => by simp [PyData.eqv]
  | n, .list ds, h => by
    rw [PyData.eqv]
    exact eqvAll_self (n := n) (by rw [PyData.canLay0] at h; exact h)
  | n, .tuple ds, h => by
    rw [PyData.eqv]
    exact eqvAll_self (n := n) (by rw [PyData.canLay0] at h; exact h)
  | _, .dict _, h => by simp [PyData.canLay0] at h
theorem eqvAll_self : ∀ {n : Nat} {ds : List PyData}, PyData.canLayAll0 ds = true → PyData.eqvAll ds ds = true
  | _, [], _ => rfl
  | n, d :: ds, h => by
    rw [PyData.canLayAll0] at h
    obtain ⟨h1, h2⟩ := Bool.and_eq_true_iff.mp h
    rw [PyData.eqvAll, eqv_self (n := n) h1, eqvAll_self (n := n) h2]
    rfl
end
end DW
namespace DW
open PySem PySem.Spec PyProof.Rows L2 RZ DL
theorem sq_in {a b : DS} {c : Cn} {δ : En} {D : Ed} (h : a c δ ⟨later b c D, D.rt, D.bk, D.ct⟩) : dSeq a b c δ D := h
theorem lt_in {b : DS} {c : Cn} {δ : En} {D : Ed} (h : b c δ D) : later b c D δ := h
end DW
namespace DW
open PySem PySem.Spec PyProof.Rows L2 RZ DL
end DW
namespace DW
open PySem PySem.Spec PyProof.Rows L2 RZ DL
end DW
set_option maxHeartbeats 1000000
namespace DW
open PySem PySem.Spec PyProof.Rows L2 RZ DL
section
variable (K : PySem.W.Frag) (b : Bg) (I0 H0 : Hp)
def SvK (j : Nat) (ts : TS) (δ : En) (N : En → Prop) (R : DV → Prop) (Bk Ct : En → Prop) : Prop := ∀ (σ : L2.St) (I H : Hp), Ext K b I0 H0 I H → EnvR K b H0 I H σ δ → ∀ D : Ends,
  (∀ δ' σ' I' H', N δ' → Ext K b I0 H0 I' H' → Same I I' → EnvR K b H0 I' H' σ' δ' → σ'[j]? = σ[j]? → D.nx σ' H') →
  (∀ r v I' H', R r → Ext K b I0 H0 I' H' → Res K b H0 I' H' v r → D.rt v H') →
  (∀ δ' σ' I' H', Bk δ' → Ext K b I0 H0 I' H' → Same I I' → EnvR K b H0 I' H' σ' δ' → σ'[j]? = σ[j]? → D.bk σ' H') →
  (∀ δ' σ' I' H', Ct δ' → Ext K b I0 H0 I' H' → Same I I' → EnvR K b H0 I' H' σ' δ' → σ'[j]? = σ[j]? → D.ct σ' H') → ts D σ H
end
def CSk (K : PySem.W.Frag) (S : Sg) (j : Nat) (ts : TS) (ds : DS) : Prop := ∀ b I0 H0 c δ D, NB S.n δ → Cok K S b I0 H0 c → ds c δ D → SvK K b I0 H0 j ts δ (fun d => NB S.n d ∧ D.nx d) D.rt (fun d => NB S.n d ∧ D.bk d) (fun d => NB S.n d ∧ D.ct d)
def JSsk (X : Cx) (S : Sg) (j : Nat) (sts : List Stmt) (ds : DS) : Prop := ∃ t, PSs X sts t ∧ CSk X.K S j t ds
def spM (K : PySem.W.Frag) (fa : Nat → Addr) (W : WtM) : Sp := fun vs H Q _ => ∃ (b : Bg) (I : Hp) (v0 v2 v3 : V) (a : Addr) (d0 d2 d3 : PyData) (xs : List V) (ds : List PyData) (P : List PyData → Prop),
  vs = [v0, .ref a, v2, v3] ∧ Ok K b I H ∧ I a = none ∧ a ≠ b.a ∧ H a = some (.lst xs) ∧ DpAll K I xs ds ∧ Dp K I v0 d0 ∧ Dp K I v2 d2 ∧ Dp K I v3 d3 ∧ W [.dat d0, .own ds, .dat d2, .dat d3] P ⟨fun _ _ => False, fa⟩ ∧
  ∀ I' H' ys es, P es → Ext K b I (del H a) I' H' → I' a = none → H' a = some (.lst ys) → DpAll K I' ys es → Q .non H'
theorem ext_del {K : PySem.W.Frag} {b : Bg} {I H : Hp} {a : Addr} {xs : List V} (k : Ok K b I H) (hb : a ≠ b.a) (ha : I a = none) : Ext K b I (del H a) I H := by
  refine ⟨Same.refl I, fun x o _ _ h => ?_, fun x o n _ _ => n, fun l xs h => ⟨xs, ?_⟩, k.s, k.b⟩
  · by_cases z : x = a
    · subst z
      rw [del_same] at h
      cases h
    · rw [del_ne z] at h
      exact h
  · rw [del_ne (fun z => hb z.symm)] at h
    exact h
theorem start4 {N : List Str} {v0 v1 v2 v3 : V} (hl : 4 ≤ N.length) : start N [v0, v1, v2, v3] = some v0 :: some v1 :: some v2 :: some v3 :: List.replicate (N.length - 4) none := by
  rfl
theorem env4 {K : PySem.W.Frag} {b : Bg} {I H : Hp} {a : Addr} {v0 v2 v3 : V} {d0 d2 d3 : PyData} {xs : List V} {ds : List PyData} {m : Nat} (hi : I a = none) (hb : a ≠ b.a) (ha : H a = some (.lst xs)) (hd : DpAll K I xs ds) (h0 : Dp K I v0 d0) (h2 : Dp K I v2 d2) (h3 : Dp K I v3 d3) :
    EnvR K b (del H a) I H (some v0 :: some (.ref a) :: some v2 :: some v3 :: List.replicate m none) (some (.dat d0) :: some (.own ds) :: some (.dat d2) :: some (.dat d3) :: List.replicate m none) := by
  have rep : ∀ {α : Type} (i : Nat) (r : α), (List.replicate m (none : Option α))[i]? = some (some r) → False := fun i r h => by
    have := List.mem_of_getElem? h
    have := (List.mem_replicate.mp this).2
    cases this
  refine ⟨by simp, fun i r h => ?_, fun i j c es fs h1 _ h3' _ => ?_⟩
  · match i, h with
    | 0, h => cases h; exact ⟨v0, rfl, h0⟩
    | 1, h => cases h; exact ⟨.ref a, rfl, a, xs, rfl, fr_none del_same, hi, hb, ha, hd⟩
    | 2, h => cases h; exact ⟨v2, rfl, h2⟩
    | 3, h => cases h; exact ⟨v3, rfl, h3⟩
    | i + 4, h => exact (rep i r h).elim
  · have only : ∀ (i : Nat) (es : List PyData), (some (DV.dat d0) :: some (.own ds) :: some (.dat d2) :: some (.dat d3) :: List.replicate m none)[i]? = some (some (.own es)) → i = 1 := fun i es h => by
      match i, h with
      | 0, h => cases h
      | 1, _ => rfl
      | 2, h => cases h
      | 3, h => cases h
      | i + 4, h => exact (rep i _ h).elim
    rw [only i es h1, only j fs h3']
theorem nb4 {m : Nat} {d0 d2 d3 : PyData} {ds : List PyData} (hm : 4 ≤ m) : NB m (some (.dat d0) :: some (.own ds) :: some (.dat d2) :: some (.dat d3) :: List.replicate (m - 4) none) := by
  refine ⟨by simp; omega, ?_⟩
  unfold noBor
  simp
theorem fn_m {P : Program} {w : World} {K : PySem.W.Frag} {mg : Str → Option Value} {base : Heap} {cls fa : Nat → Addr} {x qual : Str} {st : Stmt} {f : Addr} {fd : FuncData} {N ps : List Str} {k : Nat} {D : DS} (m : Nat) (F : Fun K x qual st f fd) (Sc : FnScope N ps (defScope st)) (hn : ps.length = 4) (hm : N.length = m) (hnm : 4 ≤ m)
    (hbody : ∀ (cdv : Value) (A : Around) (outer : List PySem.Env) (s : Shared) (H : Hp) (E : XK), Room k (A.deeper (envOfC qual (defScope st) s.heap.objs.size f cdv)) →
      JSsk (cxOf CX0 P w K mg base N qual (defScope st) f cdv A outer s H E).nox ⟨m, fun _ _ _ => False, cls, fa, fun _ => True⟩ 1 (defBody st) D) :
    FnOk P w K mg base CX0 (k + 1) f fd ps (spM K fa (wM m D)) := by
  subst hm
  refine F.ok Sc (fun vs H Q E h => ?_) (fun cdv A outer s H vs Q E hr h => ?_)
  · obtain ⟨b, I, v0, v2, v3, a, d0, d2, d3, xs, ds, R, rfl, _⟩ := h
    rw [hn]
    rfl
  · obtain ⟨b, I, v0, v2, v3, a, d0, d2, d3, xs, ds, R, rfl, k, hi, hb, ha, hd, h0, h2, h3, hw, q⟩ := h
    obtain ⟨t, h1, hc⟩ := hbody cdv A outer s H E hr
    refine ⟨t, h1, ?_⟩
    have sv := hc b I (del H a) ⟨fun _ _ => False, fa⟩ _ _ (nb4 hnm) ⟨rfl, (fun C fs d I' H' hx => by
      obtain ⟨_, _, z⟩ := hx
      exact z.elim), True.intro⟩ hw
    rw [start4 hnm]
    refine sv _ I H (ext_del (xs := xs) k hb hi) (env4 hi hb ha hd h0 h2 h3) _ (fun δ' σ' I' H' p e s n z => ?_) (fun _ _ _ _ z => z.elim) (fun _ _ _ _ z => z.2.elim) (fun _ _ _ _ z => z.2.elim)
    obtain ⟨_, es, e1, hp⟩ := p
    obtain ⟨v, e2, e3⟩ := n.at_ 1 _ e1
    rw [z] at e2
    cases e2
    obtain ⟨a', ys, e4, _, hi', _, ha', hd'⟩ := e3
    cases e4
    exact q I' H' ys es hp e hi' ha' hd'
end DW
namespace DW
open PySem PySem.Spec PyProof.Rows L2 RZ DL
end DW
namespace DL
open PySem PySem.Spec PyProof.Rows L2 RZ
end DL
namespace DW
open PySem PySem.Spec PyProof.Rows L2 RZ DL
end DW
set_option maxHeartbeats 4000000
namespace DW
open PySem PySem.Spec PyProof.Rows L2 RZ DL LamX
section
variable {X : Cx} {pins : List (Addr × Obj)} {σ : L2.St} {H : Hp} {s : Shared}
abbrev cloO (X : Cx) (ps : Arguments) (e : Expr) (sc : Scope) (pm : Value) (c : Addr) (ct : Value) : Obj :=
  PySem.W.kla_obj "<lambda>" (X.env.qual ++ "<lambda>") ps e sc
    (cloFrom X.env.cells sc.names []) pm c ct
abbrev askZ (X : Cx) (CXg : CXT) (Eg : XK) (Ng : List Str) (qg : Str) (sg : Scope) (g : Addr) (cdg : Value) (s : Shared) (H : Hp) (pn : List (Addr × Obj)) (xe : Value → Shared → Prop) : Cx :=
  (cxOf CXg X.prog X.w X.K X.mg X.base Ng qg sg g cdg X.A X.stack s H Eg).tr pn xe
theorem ask_pe {CXg : CXT} {Eg : XK} {Ng : List Str} {qg : Str} {sg : Scope} {g f c' : Addr} {cdg pm ct : Value} {ps : Arguments} {e : Expr} {sc : Scope} {k i : Nat} {a : Str}
    {pn : List (Addr × Obj)} {xe : Value → Shared → Prop} {W : WX} {t : XK → TE} {p1 p2 : Pos}
    (I : Inv X pins σ H s) (L : LamS X.env.scope sc) (hf : s.heap.get? f = some (cloO X ps e sc pm c' ct)) (free : H f = none) (apart : f ∉ frs X.stack)
    (noargs : bindArgs (PySem.W.kla_fn "<lambda>" (X.env.qual ++ "<lambda>") ps e sc (cloFrom X.env.cells sc.names []) pm (.ref c') ct) ⟨[], []⟩ = pure [])
    (tk : Takes (askZ X CXg Eg Ng qg sg g cdg s H pn xe) W) (room : Room (k + 1) (X.A.deeper (envOfC qg sg s.heap.objs.size g cdg)))
    (inner : ∀ (A : Around) (outer : List PySem.Env) (s : Shared) (H : Hp) (E : XK), Room k (A.deeper (lamEnv X sc s.heap.objs.size f c')) → PE (lamCx X A outer s H E sc f c') e (t E))
    (at_ : Ng[i]? = some a) (vis : Vis sg a) (d1 : (a == ("__debug__" : Str)) = false := by decide) (d2 : (a == ("__classdict__" : Str)) = false := by decide) :
    PE (askZ X CXg Eg Ng qg sg g cdg s H pn xe) (.Call (.Name a p1) [] [] p2)
      (fun σZ HZ Q => σZ[i]? = some (some (.ref f)) ∧ HZ c' = some (CodeO c' (X.env.qual ++ "<lambda>")) ∧ ∃ E : XK, (∀ cls d H', E cls d H' → W cls d σZ H') ∧ t E σ HZ Q) := by
  constructor
  intro pinsZ sZ σZ HZ Q IZ ⟨slot, code, E, hE, body⟩
  have named := (pe_var (pos := p1) at_ vis d1 d2).run pinsZ sZ σZ HZ (fun v G => v = .ref f ∧ G = HZ) IZ ⟨.ref f, slot, rfl, rfl⟩
  refine wpAny_Call_Name_kw (thn named fun u s1 h1 => ?_)
  obtain ⟨v1, G1, J, rel, ev, eG⟩ := h1
  subst ev
  rw [eG] at J
  obtain rfl : u = Value.ref f := rel
  have stays : s1.heap.get? f = some (cloO X ps e sc pm c' ct) := J.base.keep f _ hf free apart (fun z => by cases z)
  refine PySem.W.callWith_F0 ⟨_, _, _, _, stays⟩ (wpAny_call ?_)
  have since : Un (frs X.stack) [] H HZ s.heap s1.heap := J.base
  obtain ⟨⟨oc, vs, tk', hoc, hdc, hvc⟩, _⟩ := J.hok c' _ code
  have ran : codeAny (model X.prog X.w) (X.A.deeper (envOfC qg sg s.heap.objs.size g cdg)) (.call (.ref f) ⟨[], []⟩)
      (CR (L2.CX X.prog X.w) (envOfC qg sg s.heap.objs.size g cdg :: X.stack) X.prog X.w HZ s1 Q E) s1 := by
    refine PySem.W.kla_callFunE room.depth stays rfl L.co L.gen rfl ⟨c', oc, vs, tk', rfl, hoc, hdc, hvc⟩ ?_
    rw [noargs]
    refine wpAny_pure (wpAny_newFunctionEnv (fun y hy => (L.own y hy).2) (fun y hy => absurd hy (by simp)) (fun h₁ n1 n2 => ⟨J.nolimit.fresh _ n2, ?_⟩) L.kind)
    have more : ∀ b o, s1.heap.get? b = some o → h₁.get? b = some o := fun b o z =>
      n2.extBut b o (Nat.ne_of_lt (Heap.lt_size z)) (Heap.get?_push_of_some _ z)
    have start : Inv (lamCx X (X.A.deeper (envOfC qg sg s.heap.objs.size g cdg)) (envOfC qg sg s.heap.objs.size g cdg :: X.stack) s1 HZ E sc f c')
        [] σ HZ { s1 with heap := h₁, toks := s1.toks + ([] : List (Str × Value)).length } := lam_start2 I L J.env0 room.hd since n1 more
    have go := (inner _ _ s1 HZ E (room.deeper _)).run [] _ _ HZ Q start body
    refine PySem.W.kla_codeExpr (wpAny_mono go (fun v s' ⟨w', H', J', rv, q⟩ => ?_) fun _ _ z => z)
    exact ⟨w', H', J'.os, J'.bare, J'.base, J'.hok, rv, q⟩
  refine codeAny_mono ran fun r s' hq => ?_
  match r, hq with
  | .error e, hq => exact tk e s' (XE.of_call J (fun _ _ _ z => hE _ _ _ z) hq)
  | .ok (.ret u), hq => exact J.after hq
  | .ok .next, hq => exact hq.elim
  | .ok .brk, hq => exact hq.elim
  | .ok .cont, hq => exact hq.elim
def AskTo (X : Cx) (Ng : List Str) (x : Str) (sg : Scope) (g : Addr) (cdg : Value) (bg : List Stmt) (a : Str) (q : Str) (TT : (XK → Hp → VK → Prop) → Hp → VK → Prop) : Prop :=
  ∀ (f c' : Addr) (s : Shared) (H : Hp) (Q : VK) (tl : XK → Hp → VK → Prop),
    (∀ (W : WX) (pn : List (Addr × Obj)) (xe : Value → Shared → Prop) (p1 p2 : Pos), Takes (askZ X C8.CX0 C8.E0 Ng x sg g cdg s H pn xe) W →
      PE (askZ X C8.CX0 C8.E0 Ng x sg g cdg s H pn xe) (.Call (.Name a p1) [] [] p2) (fun σZ HZ Q => σZ[0]? = some (some (.ref f)) ∧ HZ c' = some (CodeO c' q) ∧ ∃ E : XK, (∀ cls d H', E cls d H' → W cls d σZ H') ∧ tl E HZ Q)) →
    H c' = some (CodeO c' q) → TT tl H Q →
    ∃ t, PSs (cxOf C8.CX0 X.prog X.w X.K X.mg X.base Ng x sg g cdg X.A X.stack s H C8.E0).nox bg t ∧ t { nx := fun _ H' => Q .non H', rt := Q } (L2.start Ng [.ref f]) H
theorem ask_call {T : List (Addr × Str)} {TT : (XK → Hp → VK → Prop) → Hp → VK → Prop} {x a : Str} {g c P : Addr} {k : Nat} {pg ps : Arguments} {bg : List Stmt} {sg sc : Scope} {dV kV doc pm cdv ct oc : Value} {an od : Option Addr} {osl : Array (Option Value)}
    {Ng : List Str} {e : Expr} {t : XK → TE} {p lpos pos : Pos} (gl : Gl X x) (hm : X.mg x = some (.ref g)) (kept : PySem.W.keepIn X.K (.ref g) = true)
    (lk : X.K.lookup g = some ⟨oc, od, .func (PySem.W.fnOf x x pg bg sg dV kV doc pm an cdv ct), osl⟩) (cg : PySem.W.codeIn X.K cdv x = true) (bind : L2.Binds X.K (PySem.W.fnOf x x pg bg sg dV kV doc pm an cdv ct) [a] [])
    (scg : FnScope Ng [a] sg) (at_ : Ng[0]? = some a) (vis : Vis sg a) (asks : AskTo X Ng x sg g cdv bg a (X.env.qual ++ "<lambda>") TT)
    (TB : TabB X.base X.mg c P) (own : X.env.code = .ref c) (mem : (P, X.env.qual ++ "<lambda>") ∈ T) (one : ∀ p ∈ T, p.1 = P → p.2 = X.env.qual ++ "<lambda>") (room : Room (k + 2) X.A) (L : LamS X.env.scope sc) (nodef : defaultsOf ps X.env = ([], []))
    (noargs : ∀ (q : Str) (cl : List (Str × Addr)) (pm cv ctv : Value), bindArgs (PySem.W.kla_fn "<lambda>" q ps e sc cl pm cv ctv) ⟨[], []⟩ = pure [])
    (inner : ∀ (A : Around) (outer : List PySem.Env) (s : Shared) (H : Hp) (E : XK) (f c' : Addr), Room k (A.deeper (lamEnv X sc s.heap.objs.size f c')) → PE (lamCx X A outer s H E sc f c') e (t E))
    (d0 : (x == ("__debug__" : Str)) = false := by decide) (d1 : (a == ("__debug__" : Str)) = false := by decide) (d2 : (a == ("__classdict__" : Str)) = false := by decide) :
    PE X (.Call (.Name x p) [.Lambda ps e sc lpos] [] pos) (tLam T TT t) := by
  constructor
  intro pins s σ H Q I ⟨hT, told⟩
  refine wpAny_Call_Name_kw (ld_glob I gl hm (PySem.W.callWith_K (h₀ := X.base) I.ok.mod.kin kept ?_ (by rfl) (by rfl)) d0)
  show wpAny _ _ (spliced ((false, eval (.Lambda ps e sc lpos) X.env) :: backTo pos (starEach [] X.env))) _ _ s
  refine Calls.spliced_cons (lam_make2 I TB own mem one hT nodef (L.has I.ok) fun f c' pm' ctv H1 s' J grown T1 hf free apart code => ?_)
  refine Calls.spliced_nil ⟨J.kIn, wpAny_call ?_⟩
  have ran : codeAny (model X.prog X.w) X.A (.call (.ref g) ⟨[.ref f], []⟩) (CR C8.CX0 X.stack X.prog X.w H1 s' Q C8.E0) s' :=
    run_ofS (us := [.ref f]) (vs := [.ref f]) lk cg scg room J.env0 (bind s' [.ref f] J.kIn rfl) (.cons rfl .nil) rfl fun room' => by
      obtain ⟨t', h1, h2⟩ := asks f c' s' H1 Q (fun E H' Q' => t E σ H' Q')
        (fun W pn xe p1 p2 tk => ask_pe (i := 0) J L hf free apart (noargs _ _ _ _ _) tk room' (fun A outer s H E r2 => inner A outer s H E f c' r2) at_ vis d1 d2) code (told H1 grown T1)
      exact ⟨t', h1.nox, h2⟩
  refine codeAny_mono ran fun r s2 hq => ?_
  match r, hq with
  | .error e, hq => exact (show False from hq).elim
  | .ok (.ret u), hq => exact J.after hq
  | .ok .next, hq => exact hq.elim
  | .ok .brk, hq => exact hq.elim
  | .ok .cont, hq => exact hq.elim
end
def tXfS (a : Addr) (k : Value) (d : Option Addr) (Cs : List Addr) (f : Str) (te : TE) : TE := fun σ H Q => ∃ C ∈ Cs, tXf a k d C f te σ H Q
theorem pe_xfS {X : Cx} {a : Addr} {oe : Obj} {k : Value} {d : Option Addr} {pn : List (Addr × Obj)} {e : Expr} {te : TE} {pos : Pos} {f : Str} {Cs : List Addr}
    (h : ∀ C ∈ Cs, PE (X.suite a ((a, oe) :: pn)) (.Attribute e f pos) (tXf a k d C f te)) : PE (X.suite a ((a, oe) :: pn)) (.Attribute e f pos) (tXfS a k d Cs f te) := by
  constructor
  intro pins s σ H Q I ⟨C, mem, q⟩
  exact (h C mem).run pins s σ H Q I q
theorem all_nilC {p : Addr → Prop} : ∀ C ∈ ([] : List Addr), p C := fun _ h => by cases h
theorem all_consC {p : Addr → Prop} {a : Addr} {l : List Addr} (h : p a) (t : ∀ C ∈ l, p C) : ∀ C ∈ a :: l, p C := fun C m => by
  rcases List.mem_cons.mp m with rfl | m
  · exact h
  · exact t C m
abbrev XKof (After : Addr → List (Str × V) → Hp → VK → Prop) (Q : VK) : XK := fun cls d H' => ∃ C dd fs, cls = .ref C ∧ d = some dd ∧ H' dd = some (.xd fs) ∧ After C fs H' Q
def TTp (After : Addr → List (Str × V) → Hp → VK → Prop) : (XK → Hp → VK → Prop) → Hp → VK → Prop := fun tl H Q => tl (XKof After Q) H fun v H' => TF.NewT [v, .str ""] H' Q
end DW
namespace DM
open PySem PySem.Spec PyProof.Rows L2 RZ DL DW
theorem um_same {M : Mem} {a : Addr} {o : SO} : um M a o a = some o := by unfold um; rw [if_pos rfl]
theorem um_ne {M : Mem} {a b : Addr} {o : SO} (h : b ≠ a) : um M a o b = M b := by unfold um; rw [if_neg h]
section
variable {K : PySem.W.Frag} {b : Bg} {I H I' H' I2 H2 : Hp} {M M' M2 : Mem}
theorem SR.code {o : SO} {ho : HO} (h : SR K b I o ho) : ∀ a q, ho ≠ LamX.CodeO a q := fun a q z => by
  unfold LamX.CodeO at z
  cases o with
  | lst xs => obtain ⟨vs, e, r⟩ := h; rw [e] at z; cases z
  | dic kvs => obtain ⟨l, e, r⟩ := h; rw [e] at z; cases z
  | dicL kvs => obtain ⟨od, l, e, r⟩ := h; rw [e] at z; cases z
  | ins C fs => obtain ⟨dx, l, e, r⟩ := h; rw [e] at z; cases z
  | tup xs => obtain ⟨od, l, e, r⟩ := h; rw [e] at z; cases z
theorem tabs_updG {T : List (Addr × Str)} {a : Addr} {ho o : HO} (t : LamX.Tabs T H) (h : H a = some ho) (n1 : ∀ ps, ho ≠ .tbl ps) (n2 : ∀ a q, ho ≠ LamX.CodeO a q) : LamX.Tabs T (upd H a o) := fun p hp => by
  obtain ⟨ps, h1, h2, h3⟩ := t p hp
  refine ⟨ps, by rw [upd_ne (ne_of h1 h (fun z => n1 _ z.symm))]; exact h1, h2, fun pos cv hc => ?_⟩
  obtain ⟨c, e1, e2⟩ := h3 pos cv hc
  exact ⟨c, e1, by rw [upd_ne (ne_of e2 h (fun z => n2 _ _ z.symm))]; exact e2⟩
end
section
variable {K : PySem.W.Frag} {b : Bg} {I H I' H' I2 H2 : Hp} {M M' M2 : Mem}
theorem MR.lkE (r : MR K b I H M) (e : Ext K b I H I' H') {a : Addr} {kvs : List (Key × DV)} (h : M a = some (.dicL kvs)) : H' a = H a := by
  obtain ⟨_, h2, ho, h3, h4⟩ := r a _ h
  rw [h3]
  exact e.h a ho h2 h4.tbl h3
theorem XM.re (e : XM K b I H M I' H' M') : XM K b I' H' M' I' H' M' := XM.refl e.ok e.r
theorem XM.of (r : MR K b I H M) (e : Ext K b I H I' H') : XM K b I H M I' H' M := ⟨e.i, fun a o n t _ h => e.h a o n t h, fun a o n _ h t => e.n a o n h t, fun _ _ n _ _ => n, e.k, e.ok, r.ext e, fun a kvs h => ⟨h, r.lkE e h⟩⟩
theorem XM.new {p : Addr} {ho : HO} {so : SO} (o : Ok K b I H) (r : MR K b I H M) (hp : H p = none) (s : SR K b I so ho) : XM K b I H M I (upd H p ho) (um M p so) := by
  have e := o.newH (o := ho) hp
  have r' := r.ext e
  refine ⟨e.i, fun a u n t _ h => e.h a u n t h, fun a u n _ h t => e.n a u n h t, fun a u n h t => ?_, e.k, e.ok, fun a so' h => ?_, fun a kvs h => ?_⟩
  · rw [um_ne (ne_of_none h hp)]; exact n
  · by_cases z : a = p
    · subst z
      rw [um_same] at h
      cases h
      exact ⟨o.inone hp, o.nb hp, ho, upd_same, s⟩
    · rw [um_ne z] at h
      exact r' a so' h
  · have z : a ≠ p := fun z => by
      subst z
      rw [r.none hp] at h
      cases h
    rw [um_ne z]
    exact ⟨h, r.lkE e h⟩
theorem XM.mut {p : Addr} {so0 so : SO} {ho : HO} (o : Ok K b I H) (r : MR K b I H M) (hp : M p = some so0) (s : SR K b I so ho) (nl : ∀ kvs, so0 ≠ .dicL kvs := by intro _ h; cases h) : XM K b I H M I (upd H p ho) (um M p so) := by
  obtain ⟨hi, hb, ho0, h0, s0⟩ := r p so0 hp
  obtain ⟨n, pl, tb, l, ns, x, q, m, c, e1, sl, rr⟩ := o.b
  have ok' : Ok K b I (upd H p ho) := ⟨fun a u h => by rw [upd_ne (ne_of_none h hi)]; exact o.s a u h, n, pl, tabs_updG tb h0 s0.tbl s0.code, l, ns, x, q, m, c, by rw [upd_ne (fun z => hb z.symm)]; exact e1, sl, rr⟩
  refine ⟨Same.refl I, fun a u _ _ hm h => ?_, fun a u n _ _ _ => n, fun a u hm h _ => ?_, fun l xs h => ⟨xs, by rw [upd_ne (fun z => hb z.symm)]; exact h⟩, ok', fun a so' h => ?_, fun a kvs h => ?_⟩
  · rw [upd_ne (fun z => by rw [z, hp] at hm; cases hm)]; exact h
  · rw [um_ne (fun z => by rw [z, hp] at hm; cases hm)]; exact hm
  · by_cases z : a = p
    · subst z
      rw [um_same] at h
      cases h
      exact ⟨hi, hb, ho, upd_same, s⟩
    · rw [um_ne z] at h
      obtain ⟨g1, g2, ho', g3, g4⟩ := r a so' h
      exact ⟨g1, g2, ho', by rw [upd_ne z]; exact g3, g4⟩
  · have z : a ≠ p := fun z => by
      subst z
      rw [hp] at h
      cases h
      exact nl _ rfl
    rw [um_ne z, upd_ne z]
    exact ⟨h, rfl⟩
theorem XM.alloc {ds : List PyData} {v : V} (r : MR K b I H M) (e : Ext K b I H I' H') (rs : Res K b H I' H' v (.own ds)) : ∃ p, v = .ref p ∧ M p = none ∧ XM K b I H M I' H' (um M p (.lst (ds.map .dat))) := by
  obtain ⟨a, xs, rfl, h0, hi, hb, ha, hd⟩ := rs
  have mn : M a = none := by
    cases q : M a with
    | none => rfl
    | some o =>
      obtain ⟨_, _, ho, e1, e2⟩ := r a o q
      exact (fr_not h0 e1 e2.tbl).elim
  have r' := r.ext e
  have pd : ∀ {xs : List V} {ds : List PyData}, DpAll K I' xs ds → Paired (VB K b I') xs (ds.map .dat) := fun h => by
    rename_i xs ds
    clear hd ha
    induction ds generalizing xs with
    | nil => cases h; exact .nil
    | cons d ds ih =>
      cases h with
      | cons h1 h2 => exact .cons h1 (ih h2)
  refine ⟨a, rfl, mn, e.i, fun c o n t _ h => e.h c o n t h, fun c o n _ h t => e.n c o n h t, fun c o n h t => ?_, e.k, e.ok, fun c so h => ?_, fun c kvs h => ?_⟩
  · rw [um_ne (fun z => by subst z; exact fr_not h0 h t)]; exact n
  · by_cases z : c = a
    · subst z
      rw [um_same] at h
      cases h
      exact ⟨hi, hb, _, ha, xs, rfl, pd hd⟩
    · rw [um_ne z] at h
      exact r' c so h
  · have z : c ≠ a := fun z => by
      subst z
      rw [mn] at h
      cases h
    rw [um_ne z]
    exact ⟨h, r.lkE e h⟩
end
theorem VB.res {K : PySem.W.Frag} {b : Bg} {H0 I H : Hp} {v : V} {r : DV} (h : VB K b I v r) : Res K b H0 I H v r := by
  cases r with
  | dat d => exact h
  | raw u => exact h
  | bag => exact h
  | own _ => exact h.elim
  | bor _ => exact h.elim
  | dct _ _ => exact h.elim
theorem EnvM.env {K : PySem.W.Frag} {b : Bg} {H0 I H : Hp} {σ : L2.St} {δ : En} (h : EnvM K b I σ δ) : EnvR K b H0 I H σ δ := ⟨h.len, fun i r q => (h.at_ i r q).imp fun v z => ⟨z.1, z.2.res⟩, fun i j a ds es h1 _ _ _ => by
  obtain ⟨v, _, z⟩ := h.at_ i _ h1
  exact z.elim⟩
section
variable (K : PySem.W.Frag) (b : Bg) (I0 H0 : Hp) (M0 : Mem)
def EtM (tt : TT) (δ : En) (M : Mem) (P : Bool → Mem → Prop) : Prop := ∀ (σ : L2.St) (I H : Hp), XM K b I0 H0 M0 I H M → EnvM K b I σ δ → ∀ Q : Bool → Hp → Prop,
  (∀ c I' H' M', P c M' → XM K b I H M I' H' M' → Q c H') → tt σ H Q
def EaM (ta : TA) (δ : En) (M : Mem) (P : MPA) : Prop := ∀ (σ : L2.St) (I H : Hp), XM K b I0 H0 M0 I H M → EnvM K b I σ δ → ∀ Q : List V → Hp → Prop,
  (∀ rs vs I' H' M', P rs M' → XM K b I H M I' H' M' → Paired (VB K b I') vs rs → Q vs H') → ta σ H Q
def SvM (ts : TS) (δ : En) (M : Mem) (N : En → Mem → Prop) (R : MP) (Bk Ct : En → Mem → Prop) : Prop := ∀ (σ : L2.St) (I H : Hp), XM K b I0 H0 M0 I H M → EnvM K b I σ δ → ∀ D : Ends,
  (∀ δ' σ' I' H' M', N δ' M' → XM K b I H M I' H' M' → EnvM K b I' σ' δ' → D.nx σ' H') →
  (∀ r v I' H' M', R r M' → XM K b I H M I' H' M' → VB K b I' v r → D.rt v H') →
  (∀ δ' σ' I' H' M', Bk δ' M' → XM K b I H M I' H' M' → EnvM K b I' σ' δ' → D.bk σ' H') →
  (∀ δ' σ' I' H' M', Ct δ' M' → XM K b I H M I' H' M' → EnvM K b I' σ' δ' → D.ct σ' H') → ts D σ H
end
section
variable (K : PySem.W.Frag) (S : Sg)
def CmT (tt : TT) (dt : MT) : Prop := ∀ b I0 H0 M0 c δ M P, δ.length = S.n → Cmk K S b I0 H0 M0 c → dt c δ M P → EtM K b I0 H0 M0 tt δ M P
def CmA (m : Nat) (ta : TA) (da : MA) : Prop := ∀ b I0 H0 M0 c δ M P, δ.length = S.n → Cmk K S b I0 H0 M0 c → da c δ M P → EaM K b I0 H0 M0 ta δ M (fun rs M' => rs.length = m ∧ P rs M')
def CmS (ts : TS) (ds : MS) : Prop := ∀ b I0 H0 M0 c δ M D, δ.length = S.n → Cmk K S b I0 H0 M0 c → ds c δ M D → SvM K b I0 H0 M0 ts δ M (fun d M' => d.length = S.n ∧ D.nx d M') D.rt (fun d M' => d.length = S.n ∧ D.bk d M') (fun d M' => d.length = S.n ∧ D.ct d M')
end
section
variable (X : Cx) (S : Sg)
def XE (e : Expr) (de : ME) : Prop := ∃ te, PE X e te ∧ CmE X.K S te de
def XT (e : Expr) (dt : MT) : Prop := ∃ t, PT X e t ∧ CmT X.K S t dt
def XWt (e : Expr) (dt : MT) : Prop := ∃ t, PW X e t ∧ CmT X.K S t dt
def XA (es : List Expr) (da : MA) : Prop := ∃ t, PA X es t ∧ CmA X.K S es.length t da
def XKw (ks : List Keyword) (da : MA) : Prop := ∃ t, PK X ks t ∧ CmA X.K S ks.length t da
def XS (st : Stmt) (ds : MS) : Prop := ∃ t, PS X st t ∧ CmS X.K S t ds
def XSs (sts : List Stmt) (ds : MS) : Prop := ∃ t, PSs X sts t ∧ CmS X.K S t ds
end
end DM
namespace DM
open PySem PySem.Spec PyProof.Rows L2 RZ DL DW
def alcP (P : MP) (M : Mem) : DP := fun r => match r with
  | .own ds => ∀ p, M p = none → P (.raw (.ref p)) (um M p (.lst (ds.map .dat)))
  | _ => False
def FinOk (f : Fin) : Prop := ∀ {K : PySem.W.Frag} {b : Bg} {I H I' H' : Hp} {M : Mem} {P : MP} {r : DV} {v : V} {Q : VK}, MR K b I H M → Ext K b I H I' H' → Res K b H I' H' v r → f P M r →
  (∀ r v I' H' M', P r M' → XM K b I H M I' H' M' → VB K b I' v r → Q v H') → Q v H'
theorem fin_lft : FinOk lftP := fun {K b I H I' H' M P r v Q} mr e rs p q => by
  cases r with
  | dat d => exact q (.dat d) v I' H' M p (.of mr e) rs
  | own ds =>
    obtain ⟨I'', e', rs'⟩ := frz_res e rs
    exact q (.dat (.list ds)) v I'' H' M p (.of mr e') rs'
  | raw u => exact q (.raw u) v I' H' M p (.of mr e) rs
  | bag => exact q .bag v I' H' M p (.of mr e) rs
  | bor _ => exact (p : False).elim
  | dct _ _ => exact (p : False).elim
theorem fin_alc : FinOk alcP := fun {K b I H I' H' M P r v Q} mr e rs p q => by
  cases r with
  | own ds =>
    obtain ⟨a, rfl, hm, x⟩ := XM.alloc mr e rs
    exact q _ _ I' H' _ (p a hm) x rfl
  | dat _ => exact (p : False).elim
  | raw _ => exact (p : False).elim
  | bag => exact (p : False).elim
  | bor _ => exact (p : False).elim
  | dct _ _ => exact (p : False).elim
section
variable {K : PySem.W.Frag} {S : Sg} {b : Bg} {I0 H0 I H : Hp} {M0 M : Mem} {c : Cm}
theorem Cmk.cok (ok : Cmk K S b I0 H0 M0 c) (x : XM K b I0 H0 M0 I H M) : Cok K S b I H ⟨fun s fs => c.x s fs M, c.fa⟩ := ⟨ok.fa, fun C fs d I' H' hx e h1 h2 => by
  obtain ⟨s, rfl, hx⟩ := hx
  have x2 := x.trans (.of x.r e)
  refine ok.xw s fs d I' H' M hx x2 h1 h2 ?_
  cases q : M d with
  | none => rfl
  | some o =>
    obtain ⟨_, _, ho, e1, e2⟩ := x2.r d o q
    rw [h2] at e1
    cases e1
    exact (e2.xd).elim, ok.tb⟩
theorem cm_lft {f : Fin} (hf : FinOk f) {te : TE} {de : DE} (h : DW.CE K S te de) : CmE K S te (mLft f de) := fun b I0 H0 M0 c δ M P nb ok p σ I H x en Q q =>
  h b I H _ δ _ (en.nb nb) (ok.cok x) p σ I H x.ok.re en.env Q fun r v I' H' pr e rs => hf x.r e rs pr q
theorem cm_lftT {tt : TT} {dt : DT} (h : CT K S tt dt) : CmT K S tt (mLftT dt) := fun b I0 H0 M0 c δ M P nb ok p σ I H x en Q q =>
  h b I H _ δ _ (en.nb nb) (ok.cok x) p σ I H x.ok.re en.env Q fun v I' H' pr e => q v I' H' M pr (.of x.r e)
end
section
variable {X : Cx} {S : Sg} {a b e : Expr} {pos : Pos}
theorem xe_lft {de : DE} (h : JE X S e de) : XE X S e (mLft lftP de) := by
  obtain ⟨t, h1, h2⟩ := h
  exact ⟨t, h1, cm_lft fin_lft h2⟩
theorem xe_alc {de : DE} (h : JE X S e de) : XE X S e (mLft alcP de) := by
  obtain ⟨t, h1, h2⟩ := h
  exact ⟨t, h1, cm_lft fin_alc h2⟩
theorem xt_lft {dt : DT} (h : JT X S e dt) : XT X S e (mLftT dt) := by
  obtain ⟨t, h1, h2⟩ := h
  exact ⟨t, h1, cm_lftT h2⟩
theorem xe_var {i : Nat} (h : PE X e (tVar i)) : XE X S e (mVar i) := ⟨_, h, fun b I0 H0 M0 c δ M P nb ok p σ I H x en Q q => by
  unfold mVar at p
  split at p
  · rename_i r e1
    obtain ⟨v, e2, e3⟩ := en.at_ i r e1
    exact ⟨v, e2, q r v I H M p x.re e3⟩
  · exact p.elim⟩
theorem lookup_kvb {K : PySem.W.Frag} {b : Bg} {I : Hp} (f : Str) : ∀ {l : List (Str × V)} {fs : List (Str × DV)}, Paired (KVB K b I) l fs → (l.lookup f = none ∧ fs.lookup f = none) ∨ ∃ v r, l.lookup f = some v ∧ fs.lookup f = some r ∧ VB K b I v r
  | _, _, .nil => .inl ⟨rfl, rfl⟩
  | _, _, .cons (a := p) (b := q) h t => by
    obtain ⟨k, v⟩ := p
    obtain ⟨k', r⟩ := q
    have hk : k = k' := h.1
    subst hk
    by_cases z : f = k
    · subst z
      refine .inr ⟨v, r, ?_, ?_, h.2⟩ <;> simp [List.lookup]
    · have z' : (f == k) = false := by simpa using z
      rcases lookup_kvb f t with ⟨h1, h2⟩ | ⟨v', r', h1, h2, h3⟩
      · exact .inl ⟨by simp [List.lookup, z', h1], by simp [List.lookup, z', h2]⟩
      · exact .inr ⟨v', r', by simp [List.lookup, z', h1], by simp [List.lookup, z', h2], h3⟩
theorem insAt_ok {M : Mem} {C a : Addr} {r : DV} {fs : List (Str × DV)} (h : insAt M C r = some (a, fs)) : r = .raw (.ref a) ∧ M a = some (.ins C fs) := by
  unfold insAt at h
  split at h
  · split at h
    · split at h
      · rename_i e1 e2
        cases h
        subst e2
        exact ⟨rfl, e1⟩
      · cases h
    · cases h
  · cases h
theorem xe_fld {j : Nat} {f : Str} {me : ME} (hC : Cls X.K (S.fa j)) (hn : NoAttr X.K (S.fa j) f) (h : XE X S e me) (hb : attributeBase e f X.env (eval e X.env) = eval e X.env := by rfl) : XE X S (.Attribute e f pos) (mFld j f me) := by
  obtain ⟨t, h1, h2⟩ := h
  refine ⟨_, pe_fld h1 hb, fun b I0 H0 M0 c δ M P nb ok p σ I H x en Q q => ?_⟩
  refine h2 b I0 H0 M0 c δ M _ nb ok p σ I H x en _ fun r v I1 H1 M1 pr x1 rs => ?_
  split at pr
  · rename_i a fs ei
    rw [ok.fa] at ei
    obtain ⟨rfl, em⟩ := insAt_ok ei
    have rs : v = .ref a := rs
    subst rs
    obtain ⟨_, _, ho, hh, dx, l, rfl, pl⟩ := x1.r a _ em
    split at pr
    · rename_i y ey
      rcases lookup_kvb f pl with ⟨_, h4⟩ | ⟨w, r', h3, h4, h5⟩
      · rw [ey] at h4; cases h4
      · rw [ey] at h4
        cases h4
        exact ⟨a, _, dx, l, w, rfl, hh, hC, hn, h3, q _ _ I1 H1 M1 pr x1 h5⟩
    · exact pr.elim
  · exact pr.elim
section
variable (K : PySem.W.Frag) (b : Bg)
def OpM (r : R2) (x y : DV) (M : Mem) (P : MP) : Prop := ∀ (I H : Hp) (v w : V), Ok K b I H → MR K b I H M → VB K b I v x → VB K b I w y → ∀ Q : VK,
  (∀ z u I' H' M', P z M' → XM K b I H M I' H' M' → VB K b I' u z → Q u H') → r v w H Q
def CbM (r : List V → Hp → VK → Prop) (rs : List DV) (M : Mem) (P : MP) : Prop := ∀ (I H : Hp) (vs : List V), Ok K b I H → MR K b I H M → Paired (VB K b I) vs rs → ∀ Q : VK,
  (∀ z u I' H' M', P z M' → XM K b I H M I' H' M' → VB K b I' u z → Q u H') → r vs H Q
end
def XOp (X : Cx) (f : Value → Value → Sem Value) (o : MO) : Prop := ∃ r, OpR X f r ∧ ∀ b x y M P, o x y M P → OpM X.K b r x y M P
def XCb (X : Cx) (f : Value) (o : MC) : Prop := ∃ r, CallR X f r ∧ ∀ b rs M P, o rs M P → CbM X.K b r rs M P
theorem vw_res {K : PySem.W.Frag} {b : Bg} {H0 I H : Hp} {M : Mem} {v : V} {r : DV} (mr : MR K b I H M) (h : VB K b I v r) : Res K b H0 I H v (vw M r) := by
  unfold vw
  split
  · rename_i a
    have h : v = .ref a := h
    subst h
    split
    · rename_i xs e1
      split
      · rename_i ds e2
        have := dats_ok e2
        subst this
        obtain ⟨h1, h2, ho, h3, vs, rfl, pl⟩ := mr a _ e1
        exact ⟨a, vs, rfl, h3, h2, h1, vbs_dats pl⟩
      · rfl
    · rfl
  · exact h.res
theorem opm_of {K : PySem.W.Frag} {b : Bg} {r : R2} {x y : DV} {M : Mem} {P : MP} {f : Fin} (hf : FinOk f) (h : OpD K b r (vw M x) (vw M y) (f P M)) : OpM K b r x y M P := fun I H v w k mr hv hw Q q =>
  h H I H v w k (vw_res mr hv) (vw_res mr hw) Q fun z u I' H' pz e rs => hf mr e rs pz q
theorem vws_res {K : PySem.W.Frag} {b : Bg} {H0 I H : Hp} {M : Mem} (mr : MR K b I H M) : ∀ {vs : List V} {rs : List DV}, Paired (VB K b I) vs rs → ResA K b H0 I H vs (rs.map (vw M))
  | _, _, .nil => .nil
  | _, _, .cons h t => .cons (vw_res mr h) (vws_res mr t)
theorem xop_of {f : Fin} {g : Value → Value → Sem Value} {o : DV → DV → DP → Prop} (hf : FinOk f) (h : JOp X g o) : XOp X g (mo f o) := by
  obtain ⟨r, h1, h2⟩ := h
  exact ⟨r, h1, fun b x y M P p => opm_of hf (h2 b _ _ _ p)⟩
theorem xcb_of {f : Fin} {g : Value} {o : List DV → DP → Prop} (hf : FinOk f) (h : JCb X g o) : XCb X g (mc f o) := by
  obtain ⟨r, h1, h2⟩ := h
  exact ⟨r, h1, fun b rs M P p I H vs k mr hv Q q => h2 b _ _ p H I H vs k (vws_res mr hv) Q fun z u I' H' pz e rs => hf mr e rs pz q⟩
theorem cm_bin {K : PySem.W.Frag} {r : R2} {o : MO} {ta tb : TE} {ma mb : ME} (ho : ∀ b x y M P, o x y M P → OpM K b r x y M P) (ha : CmE K S ta ma) (hb : CmE K S tb mb) : CmE K S (tOp r ta tb) (mBin o ma mb) := fun b I0 H0 M0 c δ M P nb ok p σ I H x en Q q =>
  ha b I0 H0 M0 c δ M _ nb ok p σ I H x en _ fun y v I1 H1 M1 p1 x1 r1 => hb b I0 H0 M0 c δ M1 _ nb ok p1 σ I1 H1 (x.trans x1) (en.mono x1.i) _ fun z w I2 H2 M2 p2 x2 r2 =>
    ho b y z M2 P p2 I2 H2 v w x2.ok x2.r (r1.mono x2.i) r2 Q fun u w' I3 H3 M3 p3 x3 r3 => q u w' I3 H3 M3 p3 ((x1.trans x2).trans x3) r3
theorem xe_op {op : Operator} {o : MO} {ma mb : ME} (ho : XOp X (binaryOp op) o) (ha : XE X S a ma) (hb : XE X S b mb) : XE X S (.BinOp a op b pos) (mBin o ma mb) := by
  obtain ⟨r, h1, h2⟩ := ho
  obtain ⟨ta, ha1, ha2⟩ := ha
  obtain ⟨tb, hb1, hb2⟩ := hb
  exact ⟨_, pe_op h1 ha1 hb1, cm_bin h2 ha2 hb2⟩
theorem xe_cmp {op : CmpOp} {o : MO} {ma mb : ME} (ho : XOp X (compareOp op) o) (ha : XE X S a ma) (hb : XE X S b mb) (hm : behindInMarks op b = false) : XE X S (.Compare a [op] [b] pos) (mBin o ma mb) := by
  obtain ⟨r, h1, h2⟩ := ho
  obtain ⟨ta, ha1, ha2⟩ := ha
  obtain ⟨tb, hb1, hb2⟩ := hb
  exact ⟨_, pe_cmpR h1 ha1 hb1 hm, cm_bin h2 ha2 hb2⟩
theorem cm_tst {K : PySem.W.Frag} {te : TE} {me : ME} (h : CmE K S te me) : CmT K S (tB te) (mTst me) ∧ CmT K S (tTest te) (mTst me) := by
  constructor <;> exact fun b I0 H0 M0 c δ M P nb ok p σ I H x en Q q => h b I0 H0 M0 c δ M _ nb ok p σ I H x en _ fun r v I1 H1 M1 pr x1 rs => by
    split at pr
    · rename_i k
      have rs : Dp K I1 v (.bool k) := rs
      cases rs
      exact ⟨k, rfl, q k I1 H1 M1 pr x1⟩
    · exact pr.elim
theorem xt_val {me : ME} (h : XE X S e me) (he : ∀ whole, isTrue e X.env whole = (do let v ← whole; standAt e.pos; holding [v] (truthy v)) := by intro _; rfl) : XT X S e (mTst me) := by
  obtain ⟨te, h1, h2⟩ := h
  exact ⟨_, pt_val h1 he, (cm_tst h2).1⟩
theorem xt_cmp {op : CmpOp} {o : MO} {ma mb : ME} (ho : XOp X (compareOp op) o) (ha : XE X S a ma) (hb : XE X S b mb) (hm : behindInMarks op b = false) : XT X S (.Compare a [op] [b] pos) (mTst (mBin o ma mb)) := by
  obtain ⟨r, h1, h2⟩ := ho
  obtain ⟨ta, ha1, ha2⟩ := ha
  obtain ⟨tb, hb1, hb2⟩ := hb
  exact ⟨_, pt_cmpR h1 ha1 hb1 hm, (cm_tst (cm_bin h2 ha2 hb2)).2⟩
theorem xt_not {dt : MT} (h : XT X S a dt) : XT X S (.UnaryOp .Not a pos) (mNot dt) := by
  obtain ⟨t, h1, h2⟩ := h
  exact ⟨_, pt_not h1, fun b I0 H0 M0 c δ M P nb ok p σ I H x en Q q => h2 b I0 H0 M0 c δ M _ nb ok p σ I H x en _ fun v I1 H1 M1 pv x1 => q (!v) I1 H1 M1 pv x1⟩
theorem xt_w {dt : MT} (h : XWt X S a dt) : XT X S a dt := by
  obtain ⟨t, h1, h2⟩ := h
  exact ⟨_, h1.pt, h2⟩
theorem xw_or1 {dt : MT} (h : XT X S a dt) : XWt X S (.BoolOp .Or [a] pos) dt := by
  obtain ⟨t, h1, h2⟩ := h
  exact ⟨_, pw_or1 h1, h2⟩
theorem xw_or {rest : List Expr} {dt du : MT} (h : XT X S a dt) (h' : XWt X S (.BoolOp .Or (b :: rest) pos) du) : XWt X S (.BoolOp .Or (a :: b :: rest) pos) (mOr dt du) := by
  obtain ⟨t, h1, h2⟩ := h
  obtain ⟨u, h3, h4⟩ := h'
  exact ⟨_, pw_or h1 h3, fun b I0 H0 M0 c δ M P nb ok p σ I H x en Q q => h2 b I0 H0 M0 c δ M _ nb ok p σ I H x en _ fun v I1 H1 M1 pv x1 => by
    cases v with
    | false => exact h4 b I0 H0 M0 c δ M1 P nb ok pv σ I1 H1 (x.trans x1) (en.mono x1.i) Q fun v I2 H2 M2 p2 x2 => q v I2 H2 M2 p2 (x1.trans x2)
    | true => exact q true I1 H1 M1 pv x1⟩
theorem xe_ifE {t : Expr} {dt : MT} {ma mb : ME} (ht : XT X S t dt) (ha : XE X S a ma) (hb : XE X S b mb) : XE X S (.IfExp t a b pos) (mIfE dt ma mb) := by
  obtain ⟨tt, h1, h2⟩ := ht
  obtain ⟨ta, ha1, ha2⟩ := ha
  obtain ⟨tb, hb1, hb2⟩ := hb
  exact ⟨_, pe_ifExp h1 ha1 hb1, fun b I0 H0 M0 c δ M P nb ok p σ I H x en Q q => h2 b I0 H0 M0 c δ M _ nb ok p σ I H x en _ fun v I1 H1 M1 pv x1 => by
    cases v with
    | true => exact ha2 b I0 H0 M0 c δ M1 P nb ok pv σ I1 H1 (x.trans x1) (en.mono x1.i) Q fun r v I2 H2 M2 p2 x2 r2 => q r v I2 H2 M2 p2 (x1.trans x2) r2
    | false => exact hb2 b I0 H0 M0 c δ M1 P nb ok pv σ I1 H1 (x.trans x1) (en.mono x1.i) Q fun r v I2 H2 M2 p2 x2 r2 => q r v I2 H2 M2 p2 (x1.trans x2) r2⟩
theorem cma_nil {K : PySem.W.Frag} : CmA K S 0 tNil mNil := fun b I0 H0 M0 c δ M P nb ok p σ I H x en Q q => q [] [] I H M ⟨rfl, p⟩ x.re .nil
theorem cma_cons {K : PySem.W.Frag} {m : Nat} {te : TE} {ta : TA} {me : ME} {ma : MA} (h : CmE K S te me) (h' : CmA K S m ta ma) : CmA K S (m + 1) (tCons te ta) (mCons me ma) := fun b I0 H0 M0 c δ M P nb ok p σ I H x en Q q =>
  h b I0 H0 M0 c δ M _ nb ok p σ I H x en _ fun r v I1 H1 M1 pr x1 rs => h' b I0 H0 M0 c δ M1 _ nb ok pr σ I1 H1 (x.trans x1) (en.mono x1.i) _ fun zs vs I2 H2 M2 ⟨l, p2⟩ x2 r2 =>
    q (r :: zs) (v :: vs) I2 H2 M2 ⟨congrArg Nat.succ l, p2⟩ (x1.trans x2) (.cons (rs.mono x2.i) r2)
theorem xa_nil : XA X S [] mNil := ⟨_, pa_nil, cma_nil⟩
theorem xa_cons {es : List Expr} {me : ME} {ma : MA} (h : XE X S e me) (h' : XA X S es ma) (hs : starEach (e :: es) X.env = (false, eval e X.env) :: starEach es X.env := by rfl) : XA X S (e :: es) (mCons me ma) := by
  obtain ⟨t, h1, h2⟩ := h
  obtain ⟨u, h3, h4⟩ := h'
  exact ⟨_, pa_cons h1 h3 hs, cma_cons h2 h4⟩
theorem xk_nil : XKw X S [] mNil := ⟨_, pk_nil, cma_nil⟩
theorem xk_cons {nm : Option Str} {kpos : Pos} {ks : List Keyword} {me : ME} {ma : MA} (h : XE X S e me) (h' : XKw X S ks ma) : XKw X S (⟨nm, e, kpos⟩ :: ks) (mCons me ma) := by
  obtain ⟨t, h1, h2⟩ := h
  obtain ⟨u, h3, h4⟩ := h'
  exact ⟨_, pk_cons h1 h3, cma_cons h2 h4⟩
theorem xe_lstD {es : List Expr} {ma : MA} (h : XA X S es ma) (hl : es.length ≤ 100000 := by decide) : XE X S (.List es pos) (mLstD ma) := by
  obtain ⟨t, h1, h2⟩ := h
  refine ⟨_, pe_lst h1, fun b I0 H0 M0 c δ M P nb ok p σ I H x en Q q => ?_⟩
  refine h2 b I0 H0 M0 c δ M _ nb ok p σ I H x en _ fun rs vs I1 H1 M1 ⟨l, pr⟩ x1 r => ?_
  split at pr
  · rename_i ds ed
    have := dats_ok ed
    subst this
    have hd := vbs_dats r
    refine ⟨Nat.le_trans (by rw [dpa_len hd]; rw [List.length_map] at l; omega) (by decide : 100000 ≤ sizeLine), fun a ha => ?_⟩
    have e := x1.ok.new (o := .lst vs) ha True.intro
    exact q (.dat (.list ds)) _ _ _ M1 pr (x1.trans (.of x1.r e)) (.lst (.inl (.inl upd_same)) (dpa_mono e.i hd))
  · exact pr.elim
theorem Paired.len' {α β : Type} {F : α → β → Prop} {xs : List α} {ys : List β} (h : Paired F xs ys) : xs.length = ys.length := Paired.length h
theorem xe_lstM {es : List Expr} {ma : MA} (h : XA X S es ma) (hl : es.length ≤ 100000 := by decide) : XE X S (.List es pos) (mLstM ma) := by
  obtain ⟨t, h1, h2⟩ := h
  refine ⟨_, pe_lst h1, fun b I0 H0 M0 c δ M P nb ok p σ I H x en Q q => ?_⟩
  refine h2 b I0 H0 M0 c δ M _ nb ok p σ I H x en _ fun rs vs I1 H1 M1 ⟨l, pr⟩ x1 r => ?_
  refine ⟨Nat.le_trans (by rw [Paired.len' r, l]; exact hl) (by decide : 100000 ≤ sizeLine), fun a ha => ?_⟩
  exact q _ _ I1 _ _ (pr a (x1.r.none ha)) (x1.trans (XM.new x1.ok x1.r ha ⟨vs, rfl, r⟩)) rfl
end
end DM
namespace DM
open PySem PySem.Spec PyProof.Rows L2 RZ DL DW
section
variable {X : Cx} {S : Sg} {a b e : Expr} {es : List Expr} {ma : MA} {me : ME} {pos p : Pos} {x : Str}
theorem cm_cb {K : PySem.W.Frag} {m : Nat} {r : List V → Hp → VK → Prop} {o : MC} {ta : TA} (ho : ∀ b rs M P, o rs M P → CbM K b r rs M P) (ha : CmA K S m ta ma) : CmE K S (tCB r ta) (mCb o ma) := fun b I0 H0 M0 c δ M P nb ok p σ I H x en Q q =>
  ha b I0 H0 M0 c δ M _ nb ok p σ I H x en _ fun rs vs I1 H1 M1 ⟨_, p1⟩ x1 r1 => ho b rs M1 P p1 I1 H1 vs x1.ok x1.r r1 Q fun z u I2 H2 M2 p2 x2 r2 => q z u I2 H2 M2 p2 (x1.trans x2) r2
theorem xe_callB {id : String} {o : MC} (hc : XCb X (.builtin id) o) (hg : Gl X x) (hm : X.mg x = none) (hv : bootBuiltins x = some (.builtin id)) (ha : XA X S (e :: es) ma) (hn : x ≠ "__name__" := by decide) (hdb : (x == ("__debug__" : Str)) = false := by decide)
    (he : starEach (e :: es) X.env = (false, eval e X.env) :: starEach es X.env := by rfl) (hpl : (backTo pos (starEach es X.env)).any (·.1) = false := by rfl) : XE X S (.Call (.Name x p) (e :: es) [] pos) (mCb o ma) := by
  obtain ⟨r, h1, h2⟩ := hc
  obtain ⟨t, a1, a2⟩ := ha
  exact ⟨_, pe_callB h1 hg hm hv a1 hn hdb he hpl, cm_cb h2 a2⟩
theorem xe_callT {T : String} {o : MC} (hc : XCb X (.type T) o) (hg : Gl X x) (hm : X.mg x = none) (hv : bootBuiltins x = some (.type T)) (ha : XA X S (e :: es) ma) (hn : x ≠ "__name__" := by decide) (hdb : (x == ("__debug__" : Str)) = false := by decide)
    (he : starEach (e :: es) X.env = (false, eval e X.env) :: starEach es X.env := by rfl) (hpl : (backTo pos (starEach es X.env)).any (·.1) = false := by rfl) : XE X S (.Call (.Name x p) (e :: es) [] pos) (mCb o ma) := by
  obtain ⟨r, h1, h2⟩ := hc
  obtain ⟨t, a1, a2⟩ := ha
  exact ⟨_, pe_callTy h1 hg hm hv a1 hn hdb he hpl, cm_cb h2 a2⟩
theorem Paired.toRes {K : PySem.W.Frag} {b : Bg} {H0 I H : Hp} : ∀ {vs : List V} {rs : List DV}, Paired (VB K b I) vs rs → ResA K b H0 I H vs rs
  | _, _, .nil => .nil
  | _, _, .cons h t => .cons h.res (Paired.toRes t)
section
variable {k : Nat} {f : Addr} {fd : FuncData} {ps : List Str} {W : Wt}
theorem xe_callW {fin : Fin} (hf : FinOk fin) (F : FnOk X.prog X.w X.K X.mg X.base (L2.CX X.prog X.w) k f fd ps (spW X.K S.cls S.fa W)) (hr : Room k X.A) (hg : Gl X x) (hm : X.mg x = some (.ref f)) (hk : PySem.W.keepIn X.K (.ref f) = true) (hb : Binds X.K fd ps []) (hx : Passes (L2.CX X.prog X.w) X S.E)
    (ha : XA X S (e :: es) ma) (hdb : (x == ("__debug__" : Str)) = false := by decide) (he : starEach (e :: es) X.env = (false, eval e X.env) :: starEach es X.env := by rfl) (hpl : (backTo pos (starEach es X.env)).any (·.1) = false := by rfl) :
    XE X S (.Call (.Name x p) (e :: es) [] pos) (mCallW fin W ma) := by
  obtain ⟨t, a1, a2⟩ := ha
  refine ⟨_, pe_call F hr hg hm hk hb .nil hx a1 hdb he hpl, fun b I0 H0 M0 c δ M P nb ok p σ I H x en Q q => ?_⟩
  refine a2 b I0 H0 M0 c δ M _ nb ok p σ I H x en _ fun rs vs I1 H1 M1 ⟨_, pl, hw⟩ x1 r1 => ?_
  rw [List.append_nil]
  have ck := ok.cok (x.trans x1)
  exact ⟨(rs, fin P M1, ⟨fun s fs => c.x s fs M1, c.fa⟩), b, I1, x1.ok, Paired.toRes r1, ⟨ok.fa, pl, hw⟩, fun r v I' H' o x2 rs' => hf x1.r x2 rs' o fun r v I2 H2 M2 p2 x3 r3 => q r v I2 H2 M2 p2 (x1.trans x3) r3, fun C fs d I' H' he x2 h1 h2 => ck.xw C fs d I' H' he x2 h1 h2⟩
end
theorem dats_map : ∀ ds : List PyData, dats (ds.map .dat) = some ds
  | [] => rfl
  | d :: ds => by
    rw [List.map_cons]
    unfold dats
    rw [dats_map ds]
def lendM (M : Mem) : DV → DV
  | .raw (.ref a) => match M a with
    | some (.lst xs) => match dats xs with
      | some ds => .dat (.list ds)
      | none => .raw (.ref a)
    | _ => .raw (.ref a)
  | r => r
def isLent (M : Mem) (a : Addr) : Prop := ∃ xs ds, M a = some (.lst xs) ∧ dats xs = some ds
open Classical in
noncomputable def IL (M : Mem) (I H : Hp) : Hp := fun a => if isLent M a then H a else I a
open Classical in
noncomputable def unL (M : Mem) (I' : Hp) : Hp := fun a => if isLent M a then none else I' a
section
variable {K : PySem.W.Frag} {b : Bg} {I H I' H' : Hp} {M : Mem}
theorem lent_of (r : MR K b I H M) {a : Addr} (h : isLent M a) : I a = none ∧ a ≠ b.a ∧ ∃ vs ds, H a = some (.lst vs) ∧ DpAll K I vs ds ∧ M a = some (.lst (ds.map .dat)) := by
  obtain ⟨xs, ds, e1, e2⟩ := h
  have := dats_ok e2
  subst this
  obtain ⟨h1, h2, ho, h3, vs, rfl, pl⟩ := r a _ e1
  exact ⟨h1, h2, vs, ds, h3, vbs_dats pl, e1⟩
theorem IL_same (o : Ok K b I H) (r : MR K b I H M) : Same I (IL M I H) := fun a u h => by
  unfold IL
  split
  · rename_i z
    rw [(lent_of r z).1] at h
    cases h
  · exact h
theorem IL_ok (o : Ok K b I H) (r : MR K b I H M) : Ok K b (IL M I H) H := by
  obtain ⟨n, pl, tb, l, ns, x, q, m, c, e1, sl, rr⟩ := o.b
  refine ⟨fun a u h => ?_, ?_, fun a u h => ?_, tb, l, ns, x, q, m, c, e1, sl_mono (IL_same o r) sl, rr⟩
  · unfold IL at h
    split at h
    · exact h
    · exact o.s a u h
  · unfold IL
    split
    · rename_i z
      exact absurd rfl (lent_of r z).2.1
    · exact n
  · unfold IL at h
    split at h
    · rename_i z
      obtain ⟨_, _, vs, _, e, _⟩ := lent_of r z
      rw [e] at h
      cases h
      exact True.intro
    · exact pl a u h
theorem unL_xm (o : Ok K b I H) (r : MR K b I H M) (e : Ext K b (IL M I H) H I' H') : XM K b I H M (unL M I') H' M := by
  have s1 : Same I (unL M I') := fun a u h => by
    unfold unL
    split
    · rename_i z
      rw [(lent_of r z).1] at h
      cases h
    · exact e.i a u (IL_same o r a u h)
  obtain ⟨n, pl, tb, l', ns', x', q', m', c', e1', sl', rr'⟩ := e.b
  obtain ⟨_, _, _, l, ns, x, q, m, c, e1, sl, rr⟩ := o.b
  have ell : l' = l := by
    obtain ⟨ys, h⟩ := e.k l _ e1
    rw [e1'] at h
    cases h
    rfl
  subst ell
  have hlt : ∀ a u, unL M I' a = some u → I' a = some u ∧ ¬ isLent M a := fun a u h => by
    unfold unL at h
    split at h
    · cases h
    · exact ⟨h, by assumption⟩
  have ok' : Ok K b (unL M I') H' := by
    refine ⟨fun a u h => e.s a u (hlt a u h).1, ?_, fun a u h => pl a u (hlt a u h).1, tb, l', ns, x', q', m', c', e1', sl_mono s1 sl, rr'⟩
    unfold unL
    split
    · rfl
    · exact n
  refine ⟨s1, fun a u n t _ h => e.h a u n t h, fun a u hi hm h t => ?_, fun _ _ n _ _ => n, e.k, ok', fun a so h => ?_, fun a kvs h => ⟨h, ?_⟩⟩
  · unfold unL
    split
    · rfl
    · rename_i z
      exact e.n a u (by unfold IL; rw [if_neg z]; exact hi) h t
  · obtain ⟨h1, h2, ho, h3, h4⟩ := r a so h
    refine ⟨?_, h2, ho, e.h a ho h2 h4.tbl h3, h4.mono s1⟩
    unfold unL
    split
    · rfl
    · rename_i z
      exact e.n a ho (by unfold IL; rw [if_neg z]; exact h1) h3 h4.tbl
  · obtain ⟨_, h2, ho, h3, h4⟩ := r a _ h
    rw [h3]
    exact e.h a ho h2 h4.tbl h3
theorem lend_res {H0 : Hp} (o : Ok K b I H) (r : MR K b I H M) : ∀ {vs : List V} {rs : List DV}, Paired (VB K b I) vs rs → ResA K b H0 (IL M I H) H vs (rs.map (lendM M))
  | _, _, .nil => .nil
  | _, _, .cons (a := v) (b := y) h t => by
    refine .cons ?_ (lend_res o r t)
    unfold lendM
    split
    · rename_i a
      have h : v = .ref a := h
      subst h
      split
      · rename_i xs e1
        split
        · rename_i ds e2
          obtain ⟨h1, h2, vs', ds', h3, h4, h5⟩ := lent_of r ⟨xs, ds, e1, e2⟩
          rw [e1] at h5
          cases h5
          rw [dats_map] at e2
          cases e2
          exact Dp.lst (.inl (.inl (by unfold IL; rw [if_pos ⟨_, _, e1, dats_map _⟩]; exact h3))) (dpa_mono (IL_same o r) h4)
        · rfl
      · rfl
    · exact (h.mono (IL_same o r)).res
end
theorem flat_unL {K : PySem.W.Frag} {I I' : Hp} {v : V} {d : PyData} (h : Dp K I v d) (f : flD d = true) : Dp K I' v d := by
  cases h with
  | non => exact .non
  | bl c => exact .bl c
  | int i => exact .int i
  | str x => exact .str x
  | lst _ _ => cases f
  | tup _ _ => cases f
end
end DM
namespace DM
open PySem PySem.Spec PyProof.Rows L2 RZ DL DW
def spM (K : PySem.W.Frag) (cls fa : Nat → Addr) (tb : List (Addr × Str) → Prop) (W : MW) : Sp := fun vs H Q E => ∃ (rs : List DV) (M : Mem) (R : MP) (c : Cm) (b : Bg) (I : Hp),
  Ok K b I H ∧ MR K b I H M ∧ Paired (VB K b I) vs rs ∧ tb b.T ∧ c.fa = fa ∧ W rs M R c ∧
  (∀ r v I' H' M', R r M' → XM K b I H M I' H' M' → VB K b I' v r → Q v H') ∧
  (∀ s fs d I' H' M', c.x s fs M' → XM K b I H M I' H' M' → I' d = none → H' d = some (.xd fs) → M' d = none → E (.ref (cls s)) (some d) H')
theorem paired_get {α β : Type} {F : α → β → Prop} : ∀ {xs : List α} {ys : List β} {i : Nat} {y : β}, Paired F xs ys → ys[i]? = some y → ∃ x, xs[i]? = some x ∧ F x y
  | _, _, _, _, .nil, h => by simp at h
  | _, _, 0, _, .cons q _, h => by
    cases Option.some.inj h
    exact ⟨_, rfl, q⟩
  | _, _, i + 1, _, .cons _ t, h => paired_get (i := i) t h
theorem envm_start {K : PySem.W.Frag} {b : Bg} {I : Hp} {N : List Str} {vs : List V} {rs : List DV} (h : Paired (VB K b I) vs rs) : EnvM K b I (L2.start N vs) (rs.map some ++ List.replicate (N.length - rs.length) none) := by
  have hl : vs.length = rs.length := Paired.length h
  refine ⟨?_, fun i r hi => ?_⟩
  · unfold L2.start
    simp only [List.length_append, List.length_map, List.length_replicate]
    omega
  · unfold L2.start
    by_cases z : i < rs.length
    · rw [List.getElem?_append_left (by rw [List.length_map]; exact z), List.getElem?_map] at hi
      cases q : rs[i]? with
      | none => rw [q] at hi; cases hi
      | some r' =>
        rw [q] at hi
        cases hi
        obtain ⟨v, e1, e2⟩ := paired_get h q
        refine ⟨v, ?_, e2⟩
        rw [List.getElem?_append_left (by rw [List.length_map]; omega), List.getElem?_map, e1]
        rfl
    · rw [List.getElem?_append_right (by rw [List.length_map]; omega), List.getElem?_replicate] at hi
      split at hi <;> cases hi
theorem fn_m {P : Program} {w : World} {K : PySem.W.Frag} {mg : Str → Option Value} {base : Heap} {cls fa : Nat → Addr} {x qual : Str} {st : Stmt} {f : Addr} {fd : FuncData} {N ps : List Str} {k : Nat} {D : MS} (n m : Nat) (F : Fun K x qual st f fd) (Sc : FnScope N ps (defScope st)) (hn : ps.length = n) (hm : N.length = m) (hnm : n ≤ m)
    (hbody : ∀ (cdv : Value) (A : Around) (outer : List PySem.Env) (s : Shared) (H : Hp) (E : XK), Room k (A.deeper (envOfC qual (defScope st) s.heap.objs.size f cdv)) →
      XSs (cxOf (L2.CX P w) P w K mg base N qual (defScope st) f cdv A outer s H E) ⟨m, E, cls, fa, fun _ => True⟩ (defBody st) D) :
    FnOk P w K mg base (L2.CX P w) (k + 1) f fd ps (spM K cls fa (fun _ => True) (wM n m D)) := by
  subst hm
  obtain ⟨oc, od, kV, doc, pm, an, cdv, ct, osl, rfl, lk, hcd⟩ := F.ex
  refine fn_of lk hcd Sc (fun vs H Q E h => ?_) (fun A outer s H vs Q E hr h => ?_)
  · obtain ⟨rs, M, R, c, b, I, ok, mr, r, _, _, ⟨hl, _⟩, _⟩ := h
    rw [Paired.length r, hl, hn]
  · obtain ⟨rs, M, R, c, b, I, ok, mr, r, bt, hfa, ⟨hl, hD⟩, q, xw⟩ := h
    obtain ⟨t, h1, h2⟩ := hbody cdv A outer s H E hr
    have go := h2 b I H M c _ M ⟨fun _ M' => R (.dat .none) M', R, fun _ _ => False, fun _ _ => False⟩ (by
      rw [List.length_append, List.length_map, List.length_replicate]
      show rs.length + (N.length - n) = N.length
      omega) ⟨hfa, fun s fs d I' H' M' hx e h1 h2 h3 => xw s fs d I' H' M' hx e h1 h2 h3, True.intro⟩ hD
    rw [← hl] at go
    exact ⟨t, h1, go _ I H (.refl ok mr) (envm_start r) _ (fun δ' σ' I' H' M' o e _ => q _ _ I' H' M' o.2 e Dp.non) (fun r v I' H' M' o e rs => q r v I' H' M' o e rs) (fun _ _ _ _ _ z => z.2.elim) (fun _ _ _ _ _ z => z.2.elim)⟩
section
variable {X : Cx} {S : Sg} {a b e o : Expr} {es : List Expr} {ma : MA} {me : ME} {pos p apos : Pos} {x : Str}
theorem call_spM {K : PySem.W.Frag} {bg : Bg} {I0 H0 I H : Hp} {M0 M : Mem} {c : Cm} {W : MW} {P : MP} {Q : VK} {vs : List V} {rs : List DV} {tb : List (Addr × Str) → Prop} (ok : Cmk K S bg I0 H0 M0 c) (htb : tb bg.T) (x : XM K bg I0 H0 M0 I H M) (r : Paired (VB K bg I) vs rs) (hw : W rs M P c)
    (q : ∀ r v I' H' M', P r M' → XM K bg I H M I' H' M' → VB K bg I' v r → Q v H') : spM K S.cls S.fa tb W vs H Q S.E :=
  ⟨rs, M, P, c, bg, I, x.ok, x.r, r, htb, ok.fa, hw, q, fun s fs d I' H' M' hx e h1 h2 h3 => ok.xw s fs d I' H' M' hx (x.trans e) h1 h2 h3⟩
section
variable {k : Nat} {f : Addr} {fd : FuncData} {ps : List Str} {W : MW} {tb : List (Addr × Str) → Prop}
theorem xe_call (F : FnOk X.prog X.w X.K X.mg X.base (L2.CX X.prog X.w) k f fd ps (spM X.K S.cls S.fa tb W)) (hr : Room k X.A) (hg : Gl X x) (hm : X.mg x = some (.ref f)) (hk : PySem.W.keepIn X.K (.ref f) = true) (hb : Binds X.K fd ps []) (hx : Passes (L2.CX X.prog X.w) X S.E) (htb : ∀ t, S.tb t → tb t)
    (ha : XA X S (e :: es) ma) (hdb : (x == ("__debug__" : Str)) = false := by decide) (he : starEach (e :: es) X.env = (false, eval e X.env) :: starEach es X.env := by rfl) (hpl : (backTo pos (starEach es X.env)).any (·.1) = false := by rfl) :
    XE X S (.Call (.Name x p) (e :: es) [] pos) (mCall W ma) := by
  obtain ⟨t, a1, a2⟩ := ha
  refine ⟨_, pe_call F hr hg hm hk hb .nil hx a1 hdb he hpl, fun b I0 H0 M0 c δ M P nb ok p σ I H x en Q q => ?_⟩
  refine a2 b I0 H0 M0 c δ M _ nb ok p σ I H x en _ fun rs vs I1 H1 M1 ⟨_, hw⟩ x1 r1 => ?_
  rw [List.append_nil]
  exact call_spM ok (htb _ ok.tb) (x.trans x1) r1 hw fun r v I' H' M' o x2 rs' => q r v I' H' M' o (x1.trans x2) rs'
theorem pk_paired {α β : Type} {F : α → β → Prop} (is : List Nat) {vs ws : List α} {rs zs : List β} (h : Paired F vs rs) (h' : Paired F ws zs) : Paired F (pk is vs ws) (pk is rs zs) := by
  have app : ∀ {vs ws : List α} {rs zs : List β}, Paired F vs rs → Paired F ws zs → Paired F (vs ++ ws) (rs ++ zs) := fun h h' => by
    induction h with
    | nil => exact h'
    | cons q t ih => exact .cons q ih
  have g := app h h'
  unfold pk
  induction is with
  | nil => exact .nil
  | cons i is ih =>
    rw [List.filterMap_cons, List.filterMap_cons]
    cases q : (rs ++ zs)[i]? with
    | none =>
      have l := Paired.length g
      rw [List.getElem?_eq_none (by have := List.getElem?_eq_none_iff.mp q; omega)]
      exact ih
    | some r =>
      obtain ⟨v, e1, e2⟩ := paired_get g q
      rw [e1]
      exact .cons e2 ih
theorem meth_at {K : PySem.W.Frag} {bg : Bg} {I H : Hp} {M : Mem} {C : Addr} {r : DV} {v : V} {a : Addr} {fs : List (Str × DV)} {m : Str} (mr : MR K bg I H M) (h : insAt M C r = some (a, fs)) (rs : VB K bg I v r) (hl : fs.lookup m = none) : ∃ dx l, v = .ref a ∧ H a = some (.ins C dx l) ∧ l.lookup m = none := by
  obtain ⟨rfl, em⟩ := insAt_ok h
  have rs : v = .ref a := rs
  obtain ⟨_, _, ho, hh, dx, l, rfl, pl⟩ := mr a _ em
  refine ⟨dx, l, rs, hh, ?_⟩
  rcases lookup_kvb m pl with ⟨h1, _⟩ | ⟨_, _, _, h2, _⟩
  · exact h1
  · rw [hl] at h2; cases h2
theorem xe_meth {j : Nat} {m : Str} {pl : Sem Bool} (hC : Cls X.K (S.fa j)) (hm : Meth X.K (S.fa j) m f) (F : FnOk X.prog X.w X.K X.mg X.base (L2.CX X.prog X.w) k f fd ps (spM X.K S.cls S.fa tb W)) (hr : Room k X.A) (hb : Binds X.K fd ps []) (hx : Passes (L2.CX X.prog X.w) X S.E) (htb : ∀ t, S.tb t → tb t) (h : XE X S o me) (ha : XA X S (e :: es) ma)
    (hst : starEach (e :: es) X.env = (false, eval e X.env) :: starEach es X.env := by rfl) (hpl : (backTo pos (starEach es X.env)).any (·.1) = false := by rfl)
    (ht : eval (.Call (.Attribute o m apos) (e :: es) [] pos) X.env = (do
      let ov ← eval o X.env
      standAt apos.atName
      let (f, first) ← holding [ov] (getMethod ov m pl)
      callWith pos f first (backTo pos (starEach (e :: es) X.env)) (backToKw pos (keywordEach [] X.env))) := by rfl) :
    XE X S (.Call (.Attribute o m apos) (e :: es) [] pos) (mMeth j m W me ma) := by
  obtain ⟨t, h1, h2⟩ := h
  obtain ⟨u, a1, a2⟩ := ha
  refine ⟨_, pe_meth h1 hC hm F hr hb .nil hx a1 hst hpl ht, fun b I0 H0 M0 c δ M P nb ok p σ I H x en Q q => ?_⟩
  refine h2 b I0 H0 M0 c δ M _ nb ok p σ I H x en _ fun r v I1 H1 M1 pr x1 rs => ?_
  split at pr
  · rename_i aa fs ei
    rw [ok.fa] at ei
    obtain ⟨hl, pr⟩ := pr
    obtain ⟨dx, l, ev, hh, hln⟩ := meth_at x1.r ei rs hl
    refine ⟨aa, dx, l, ev, hh, hln, a2 b I0 H0 M0 c δ M1 _ nb ok pr σ I1 H1 (x.trans x1) (en.mono x1.i) _ fun zs ws I2 H2 M2 ⟨_, hw⟩ x2 r2 => ?_⟩
    rw [List.append_nil]
    exact call_spM ok (htb _ ok.tb) ((x.trans x1).trans x2) (.cons (rs.mono x2.i) r2) hw fun r v I' H' M' o x3 rs' => q r v I' H' M' o ((x1.trans x2).trans x3) rs'
  · exact pr.elim
theorem xe_meth0 {j : Nat} {m : Str} {pl : Sem Bool} (hC : Cls X.K (S.fa j)) (hm : Meth X.K (S.fa j) m f) (F : FnOk X.prog X.w X.K X.mg X.base (L2.CX X.prog X.w) k f fd ps (spM X.K S.cls S.fa tb W)) (hr : Room k X.A) (hb : Binds X.K fd ps []) (hx : Passes (L2.CX X.prog X.w) X S.E) (htb : ∀ t, S.tb t → tb t) (h : XE X S o me)
    (ht : eval (.Call (.Attribute o m apos) [] [] pos) X.env = (do
      let ov ← eval o X.env
      standAt apos.atName
      let (f, first) ← holding [ov] (getMethod ov m pl)
      callWith pos f first (backTo pos (starEach [] X.env)) (backToKw pos (keywordEach [] X.env))) := by rfl) :
    XE X S (.Call (.Attribute o m apos) [] [] pos) (mMeth j m W me mNil) := by
  obtain ⟨t, h1, h2⟩ := h
  refine ⟨_, pe_meth0 h1 hC hm F hr hb .nil hx ht, fun b I0 H0 M0 c δ M P nb ok p σ I H x en Q q => ?_⟩
  refine h2 b I0 H0 M0 c δ M _ nb ok p σ I H x en _ fun r v I1 H1 M1 pr x1 rs => ?_
  split at pr
  · rename_i aa fs ei
    rw [ok.fa] at ei
    obtain ⟨hl, pr⟩ := pr
    obtain ⟨dx, l, ev, hh, hln⟩ := meth_at x1.r ei rs hl
    exact ⟨aa, dx, l, ev, hh, hln, call_spM ok (htb _ ok.tb) (x.trans x1) (.cons rs .nil) pr fun r v I' H' M' o x3 rs' => q r v I' H' M' o (x1.trans x3) rs'⟩
  · exact pr.elim
theorem new_spM {K : PySem.W.Frag} {bg : Bg} {I0 H0 I H : Hp} {M0 M : Mem} {c : Cm} {P : MP} {Q : VK} {vs : List V} {rs : List DV} {j : Nat} (ok : Cmk K S bg I0 H0 M0 c) (htb : tb bg.T) (x : XM K bg I0 H0 M0 I H M) (r : Paired (VB K bg I) vs rs) (hw : mNew j W rs M P c)
    (q : ∀ r v I' H' M', P r M' → XM K bg I H M I' H' M' → VB K bg I' v r → Q v H') (y dy : Addr) (hy : H y = none) (hdy : H dy = none) (ne : dy ≠ y) : spM K S.cls S.fa tb W (.ref y :: vs) (upd (upd H dy (.own y)) y (.ins (S.fa j) dy [])) (fun v H2 => v = .non ∧ Q (.ref y) H2) S.E := by
  have x1 := XM.of x.r (x.ok.newH (o := .own y) hdy)
  have hy2 : upd H dy (.own y) y = none := by
    rw [upd_ne (fun z => ne z.symm)]
    exact hy
  have x2 := XM.new (so := .ins (S.fa j) []) (ho := .ins (S.fa j) dy []) x1.ok x1.r hy2 ⟨dy, [], rfl, .nil⟩
  have hw := hw y (x.r.none hy)
  rw [ok.fa] at hw
  refine call_spM ok htb ((x.trans x1).trans x2) (.cons (show VB K bg _ (V.ref y) (.raw (.ref y)) from rfl) (Paired.mapP r fun _ _ z => z.mono (x1.i.trans x2.i))) hw fun r v I' H' M' o x3 rs' => ?_
  obtain ⟨rfl, o⟩ := o
  have rs' : Dp K I' v .none := rs'
  cases rs'
  exact ⟨rfl, q _ _ I' H' M' o ((x1.trans x2).trans x3) rfl⟩
theorem xe_make {j : Nat} (Mk' : Mk X.K (S.fa j) f) (F : FnOk X.prog X.w X.K X.mg X.base (L2.CX X.prog X.w) k f fd ps (spM X.K S.cls S.fa tb W)) (hr : Room (k + 1) X.A) (hg : Gl X x) (hm : X.mg x = some (.ref (S.fa j))) (hb : Binds X.K fd ps []) (hx : Passes (L2.CX X.prog X.w) X S.E) (htb : ∀ t, S.tb t → tb t)
    (ha : XA X S (e :: es) ma) (hdb : (x == ("__debug__" : Str)) = false := by decide) (he : starEach (e :: es) X.env = (false, eval e X.env) :: starEach es X.env := by rfl) (hpl : (backTo pos (starEach es X.env)).any (·.1) = false := by rfl) :
    XE X S (.Call (.Name x p) (e :: es) [] pos) (mMake j W ma) := by
  obtain ⟨t, a1, a2⟩ := ha
  refine ⟨_, pe_make Mk' F hr hg hm hb .nil hx a1 hdb he hpl, fun b I0 H0 M0 c δ M P nb ok p σ I H x en Q q => ?_⟩
  refine a2 b I0 H0 M0 c δ M _ nb ok p σ I H x en _ fun rs vs I1 H1 M1 ⟨_, hw⟩ x1 r1 y dy hy hdy ne => ?_
  rw [List.append_nil]
  exact new_spM ok (htb _ ok.tb) (x.trans x1) r1 hw (fun r v I' H' M' o x2 rs' => q r v I' H' M' o (x1.trans x2) rs') y dy hy hdy ne
end
section
variable {K : PySem.W.Frag} {bg : Bg} {I H : Hp} {M : Mem}
theorem keyD_ok {v : V} {r : DV} {k : Key} (h : keyD r = some k) (hv : VB K bg I v r) : v = kV k := by
  unfold keyD at h
  split at h
  · cases h
    have hv : Dp K I v (.int _) := hv
    cases hv
    rfl
  · cases h
    have hv : Dp K I v (.str _) := hv
    cases hv
    rfl
  · cases h
theorem dicAt_ok {r : DV} {a : Addr} {kvs : List (Key × DV)} (h : dicAt M r = some (a, kvs)) : r = .raw (.ref a) ∧ (M a = some (.dic kvs) ∨ M a = some (.dicL kvs)) := by
  cases r with
  | raw u =>
    cases u with
    | ref a' =>
      have h' : (match M a' with
        | some (.dic kvs) => some (a', kvs)
        | some (.dicL kvs) => some (a', kvs)
        | _ => none) = some (a, kvs) := h
      cases e : M a' with
      | none => rw [e] at h'; cases h'
      | some o =>
        rw [e] at h'
        cases o with
        | dic l => cases h'; exact ⟨rfl, .inl e⟩
        | dicL l => cases h'; exact ⟨rfl, .inr e⟩
        | lst l => cases h'
        | ins C l => cases h'
        | tup l => cases h'
    | _ => cases h
  | _ => cases h
theorem dic_rd {r : DV} {a : Addr} {kvs : List (Key × DV)} {v : V} (mr : MR K bg I H M) (h : dicAt M r = some (a, kvs)) (hv : VB K bg I v r) : v = .ref a ∧ ∃ l, Rd H a (.dK l) ∧ Paired (KVB K bg I) l kvs := by
  obtain ⟨er, h2⟩ := dicAt_ok h
  subst er
  refine ⟨hv, ?_⟩
  rcases h2 with h | h
  · obtain ⟨_, _, ho, hh, l, rfl, pl⟩ := mr a _ h
    exact ⟨l, .inl hh, pl⟩
  · obtain ⟨_, _, ho, hh, od, l, rfl, pl⟩ := mr a _ h
    exact ⟨l, .inr ⟨od, hh⟩, pl⟩
theorem gV_rel (k : Key) : ∀ {l : List (Key × V)} {kvs : List (Key × DV)}, Paired (KVB K bg I) l kvs → (valV l k = none ∧ gV kvs k = none) ∨ ∃ v r, valV l k = some v ∧ gV kvs k = some r ∧ VB K bg I v r
  | _, _, .nil => .inl ⟨rfl, rfl⟩
  | _, _, .cons (a := p) (b := q) (l₂ := qs) h t => by
    by_cases z : p.1 = k
    · refine .inr ⟨p.2, q.2, valV_pos z, ?_, h.2⟩
      unfold gV
      rw [List.find?_cons_of_pos (by rw [← h.1, z]; simp)]
      rfl
    · have z' : ¬ q.1 = k := fun y => z (h.1.trans y)
      have e : gV (q :: qs) k = gV qs k := by
        unfold gV
        rw [List.find?_cons_of_neg (by simpa using z')]
      rw [e, valV_neg z]
      exact gV_rel k t
theorem gPut_rel {l : List (Key × V)} {kvs : List (Key × DV)} {k : Key} {v : V} {r : DV} (h : Paired (KVB K bg I) l kvs) (hv : VB K bg I v r) : Paired (KVB K bg I) (putK l k v) (gPut kvs k r) := by
  have e : (l.any fun kv => decide (kv.1 = k)) = (gV kvs k).isSome := by
    rw [valV_any]
    rcases gV_rel k h with ⟨h1, h2⟩ | ⟨x, y, h1, h2, _⟩ <;> rw [h1, h2] <;> rfl
  unfold putK gPut
  rw [e]
  split
  · clear e
    rename_i zz
    clear zz
    induction h with
    | nil => exact .nil
    | @cons p q ps qs h t ih =>
      rw [List.map_cons, List.map_cons]
      refine .cons ?_ ih
      by_cases z : p.1 = k
      · rw [if_pos z, if_pos (h.1.symm.trans z)]
        exact ⟨h.1, hv⟩
      · rw [if_neg z, if_neg (fun y => z (h.1.trans y))]
        exact h
  · have app : ∀ {l : List (Key × V)} {kvs : List (Key × DV)}, Paired (KVB K bg I) l kvs → Paired (KVB K bg I) (l ++ [(k, v)]) (kvs ++ [(k, r)]) := fun h => by
      induction h with
      | nil => exact .cons ⟨rfl, hv⟩ .nil
      | cons q t ih => exact .cons q ih
    exact app h
end
def rDG : R2 := fun x y H Q => ∃ a v, x = .ref a ∧ DGet H a y (some v) ∧ Q v H
def rDI (neg : Bool) : R2 := fun y x H Q => ∃ a o, x = .ref a ∧ DGet H a y o ∧ Q (.bl (if neg then !o.isSome else o.isSome)) H
theorem opm_dget {K : PySem.W.Frag} {bg : Bg} {x y : DV} {M : Mem} {P : MP} (h : oDGet x y M P) : OpM K bg rDG x y M P := fun I H v w k mr hv hw Q q => by
  unfold oDGet at h
  split at h
  · rename_i a kvs kk e1 e2
    obtain ⟨rfl, l, hr, pl⟩ := dic_rd mr e1 hv
    split at h
    · rename_i r er
      rcases gV_rel kk pl with ⟨_, h2⟩ | ⟨u, r', h1, h2, h3⟩
      · rw [er] at h2; cases h2
      · rw [er] at h2
        cases h2
        exact ⟨a, u, rfl, .inl ⟨l, kk, hr, keyD_ok e2 hw, h1.symm⟩, q _ _ I H M h (.refl k mr) h3⟩
    · exact h.elim
  · exact h.elim
theorem opm_din {K : PySem.W.Frag} {bg : Bg} {neg : Bool} {x y : DV} {M : Mem} {P : MP} (h : oDIn neg x y M P) : OpM K bg (rDI neg) x y M P := fun I H v w k mr hv hw Q q => by
  unfold oDIn at h
  split at h
  · rename_i a kvs kk e1 e2
    obtain ⟨rfl, l, hr, pl⟩ := dic_rd mr e1 hw
    have e : (valV l kk).isSome = (gV kvs kk).isSome := by
      rcases gV_rel kk pl with ⟨h1, h2⟩ | ⟨x, y, h1, h2, _⟩ <;> rw [h1, h2] <;> rfl
    refine ⟨a, valV l kk, rfl, .inl ⟨l, kk, hr, keyD_ok e2 hv, rfl⟩, q _ _ I H M h (.refl k mr) ?_⟩
    rw [e]
    exact Dp.bl _
  · exact h.elim
theorem xe_dget {ma mb : ME} (hu : X.A.units + 1 < cLine) (ha : XE X S a ma) (hb : XE X S b mb) (hs : NoSl b) : XE X S (.Subscript a b pos) (mBin oDGet ma mb) := by
  obtain ⟨ta, ha1, ha2⟩ := ha
  obtain ⟨tb, hb1, hb2⟩ := hb
  exact ⟨_, pe_dget hu ha1 hb1 hs, cm_bin (r := rDG) (fun _ _ _ _ _ h => opm_dget h) ha2 hb2⟩
theorem xt_din {ma mb : ME} (hu : X.A.units + 1 < cLine) (ha : XE X S a ma) (hb : XE X S b mb) (h1 : behindInMarks .In b = false := by rfl) : XT X S (.Compare a [.In] [b] pos) (mTst (mBin (oDIn false) ma mb)) := by
  obtain ⟨ta, ha1, ha2⟩ := ha
  obtain ⟨tb, hb1, hb2⟩ := hb
  exact ⟨_, pt_cmp (pc_din hu ha1 hb1) h1, (cm_tst (cm_bin (r := rDI false) (fun _ _ _ _ _ h => opm_din h) ha2 hb2)).2⟩
theorem xt_dnotin {ma mb : ME} (hu : X.A.units + 1 < cLine) (ha : XE X S a ma) (hb : XE X S b mb) (h1 : behindInMarks .NotIn b = false := by rfl) : XT X S (.Compare a [.NotIn] [b] pos) (mTst (mBin (oDIn true) ma mb)) := by
  obtain ⟨ta, ha1, ha2⟩ := ha
  obtain ⟨tb, hb1, hb2⟩ := hb
  exact ⟨_, pt_cmp (pc_dnotin hu ha1 hb1) h1, (cm_tst (cm_bin (r := rDI true) (fun _ _ _ _ _ h => opm_din h) ha2 hb2)).2⟩
theorem xc_len : XCb X (.builtin "len") cLenD := ⟨_, cbr_or call_lenD call_len_seq, fun bg rs M P h I H vs k mr hv Q q => by
  unfold cLenD at h
  split at h
  · rename_i x
    cases hv with
    | cons h1 t =>
      cases t
      split at h
      · rename_i a
        have h1 : _ = V.ref a := h1
        subst h1
        split at h
        · rename_i kvs em
          obtain ⟨_, _, ho, hh, l, rfl, pl⟩ := mr a _ em
          refine .inl ⟨a, l, rfl, hh, q _ _ I H M h (.refl k mr) ?_⟩
          rw [Paired.length pl]
          exact Dp.int _
        · rename_i xs em
          obtain ⟨_, _, ho, hh, l, rfl, pl⟩ := mr a _ em
          refine .inr ⟨a, l, rfl, .inl (.inl (.inl hh)), q _ _ I H M h (.refl k mr) ?_⟩
          rw [Paired.length pl]
          exact Dp.int _
        · exact h.elim
      · exact h.elim
  · exact h.elim⟩
theorem xe_dnew : XE X S (.Dict [] [] pos) mDNew := ⟨_, pe_dnewK, fun b I0 H0 M0 c δ M P nb ok p σ I H x en Q q a ha => q _ _ I _ _ (p a (x.r.none ha)) (XM.new x.ok x.r ha ⟨[], rfl, .nil⟩) rfl⟩
theorem keyPD_ok {K : PySem.W.Frag} {I : Hp} (k : Key) : Dp K I (kV k) (keyPD k) := by
  cases k with
  | inl i => exact .int i
  | inr s => exact .str s
theorem dpa_keys {K : PySem.W.Frag} {bg : Bg} {I : Hp} : ∀ {l : List (Key × V)} {kvs : List (Key × DV)}, Paired (KVB K bg I) l kvs → DpAll K I (l.map fun kv => kV kv.1) (kvs.map fun kv => keyPD kv.1)
  | _, _, .nil => .nil
  | _, _, .cons h t => by
    refine .cons ?_ (dpa_keys t)
    show Dp K I (kV _) (keyPD _)
    rw [h.1]
    exact keyPD_ok _
theorem xc_listD {f : Fin} (hf : FinOk f) (hc : X.calm = true) : XCb X (.type "list") (cListD f) := ⟨_, call_listD hc, fun bg rs M P h I H vs k mr hv Q q => by
  unfold cListD at h
  split at h
  · rename_i x
    cases hv with
    | cons h1 t =>
      cases t
      split at h
      · rename_i a kvs ed
        obtain ⟨rfl, l, hr, pl⟩ := dic_rd mr ed h1
        exact ⟨a, l, rfl, hr, fun p hp => hf (r := .own (kvs.map fun kv => keyPD kv.1)) mr (k.newH (o := .lst (l.map fun kv => kV kv.1)) hp) ⟨p, _, rfl, fr_none hp, k.inone hp, k.nb hp, upd_same, dpa_keys pl⟩ h q⟩
      · exact h.elim
  · exact h.elim⟩
end
end DM
namespace DM
open PySem PySem.Spec PyProof.Rows L2 RZ DL DW
section
variable {K : PySem.W.Frag} {S : Sg} {b : Bg}
theorem EnvM.ofR {H0 I H : Hp} {σ : L2.St} {δ : En} (h : EnvR K b H0 I H σ δ) (o : δ.all okS = true) : EnvM K b I σ δ := ⟨h.len, fun i r q => by
  obtain ⟨v, e1, e2⟩ := h.at_ i r q
  refine ⟨v, e1, ?_⟩
  have := List.all_eq_true.mp o _ (List.mem_of_getElem? q)
  cases r with
  | dat _ => exact e2
  | raw _ => exact e2
  | bag => exact e2
  | own _ => cases this
  | bor _ => cases this
  | dct _ _ => cases this⟩
theorem EnvM.okS {I : Hp} {σ : L2.St} {δ : En} (h : EnvM K b I σ δ) : δ.all DM.okS = true := by
  rw [List.all_eq_true]
  intro x hx
  obtain ⟨i, hi⟩ := List.mem_iff_getElem?.mp hx
  cases x with
  | none => rfl
  | some r =>
    obtain ⟨v, _, z⟩ := h.at_ i r hi
    cases r with
    | dat _ => rfl
    | raw _ => rfl
    | bag => rfl
    | own _ => exact z.elim
    | bor _ => exact z.elim
    | dct _ _ => exact z.elim
theorem cms_next : CmS K S tNext mNext := fun b I0 H0 M0 c δ M D nb ok p σ I H x en Dd a1 a2 a3 a4 => a1 δ σ I H M ⟨nb, p⟩ x.re en
theorem cms_seq {t u : TS} {a d : MS} (h : CmS K S t a) (h' : CmS K S u d) : CmS K S (tSeq t u) (mSeq a d) := fun b I0 H0 M0 c δ M D nb ok p σ I H x en Dd a1 a2 a3 a4 =>
  h b I0 H0 M0 c δ M _ nb ok p σ I H x en _ (fun δ' σ' I' H' M' ⟨nb', p'⟩ x' en' => h' b I0 H0 M0 c δ' M' D nb' ok p' σ' I' H' (x.trans x') en' Dd
    (fun d σ2 I2 H2 M2 p2 x2 n2 => a1 d σ2 I2 H2 M2 p2 (x'.trans x2) n2) (fun r v I2 H2 M2 p2 x2 n2 => a2 r v I2 H2 M2 p2 (x'.trans x2) n2) (fun d σ2 I2 H2 M2 p2 x2 n2 => a3 d σ2 I2 H2 M2 p2 (x'.trans x2) n2) (fun d σ2 I2 H2 M2 p2 x2 n2 => a4 d σ2 I2 H2 M2 p2 (x'.trans x2) n2)) a2 a3 a4
theorem cms_if {t : TT} {u w : TS} {dt : MT} {a d : MS} (ht : CmT K S t dt) (h : CmS K S u a) (h' : CmS K S w d) : CmS K S (tIfS t u w) (mIfS dt a d) := fun b I0 H0 M0 c δ M D nb ok p σ I H x en Dd a1 a2 a3 a4 =>
  ht b I0 H0 M0 c δ M _ nb ok p σ I H x en _ fun v I1 H1 M1 pv x1 => by
    cases v with
    | true => exact h b I0 H0 M0 c δ M1 D nb ok pv σ I1 H1 (x.trans x1) (en.mono x1.i) Dd (fun d σ2 I2 H2 M2 p2 x2 n2 => a1 d σ2 I2 H2 M2 p2 (x1.trans x2) n2) (fun r v I2 H2 M2 p2 x2 n2 => a2 r v I2 H2 M2 p2 (x1.trans x2) n2) (fun d σ2 I2 H2 M2 p2 x2 n2 => a3 d σ2 I2 H2 M2 p2 (x1.trans x2) n2) (fun d σ2 I2 H2 M2 p2 x2 n2 => a4 d σ2 I2 H2 M2 p2 (x1.trans x2) n2)
    | false => exact h' b I0 H0 M0 c δ M1 D nb ok pv σ I1 H1 (x.trans x1) (en.mono x1.i) Dd (fun d σ2 I2 H2 M2 p2 x2 n2 => a1 d σ2 I2 H2 M2 p2 (x1.trans x2) n2) (fun r v I2 H2 M2 p2 x2 n2 => a2 r v I2 H2 M2 p2 (x1.trans x2) n2) (fun d σ2 I2 H2 M2 p2 x2 n2 => a3 d σ2 I2 H2 M2 p2 (x1.trans x2) n2) (fun d σ2 I2 H2 M2 p2 x2 n2 => a4 d σ2 I2 H2 M2 p2 (x1.trans x2) n2)
theorem cms_asg {i : Nat} {te : TE} {me : ME} (hi : i < S.n) (h : CmE K S te me) : CmS K S (tAsg te (gName i)) (mAsg i me) := fun b I0 H0 M0 c δ M D nb ok p σ I H x en Dd a1 a2 a3 a4 =>
  h b I0 H0 M0 c δ M _ nb ok p σ I H x en _ fun r v I1 H1 M1 pr x1 rs => a1 _ _ I1 H1 M1 ⟨by rw [List.length_set]; exact nb, pr⟩ x1 ((en.mono x1.i).set (by rw [nb]; exact hi) rs)
theorem cms_ret {te : TE} {me : ME} (h : CmE K S te me) : CmS K S (tRet te) (mRet me) := fun b I0 H0 M0 c δ M D nb ok p σ I H x en Dd a1 a2 a3 a4 =>
  h b I0 H0 M0 c δ M _ nb ok p σ I H x en _ fun r v I1 H1 M1 pr x1 rs => a2 r v I1 H1 M1 pr x1 rs
theorem cms_expr {te : TE} {me : ME} (h : CmE K S te me) : CmS K S (tDrop te) (mExpr me) := fun b I0 H0 M0 c δ M D nb ok p σ I H x en Dd a1 a2 a3 a4 =>
  h b I0 H0 M0 c δ M _ nb ok p σ I H x en _ fun r v I1 H1 M1 pr x1 rs => a1 _ _ I1 H1 M1 ⟨nb, pr⟩ x1 (en.mono x1.i)
theorem cms_lft {ts : TS} {ds : DS} (h : CS K S ts ds) : CmS K S ts (mLftS ds) := fun b I0 H0 M0 c δ M D nb ok p σ I H x en Dd a1 a2 a3 a4 =>
  h b I H _ δ _ (en.nb nb) (ok.cok x) p σ I H x.ok.re en.env Dd
    (fun δ' σ' I' H' ⟨nb', o, p'⟩ e _ n' => a1 δ' σ' I' H' M ⟨nb'.len, p'⟩ (.of x.r e) (.ofR n' o))
    (fun r v I' H' pr e rs => fin_lft x.r e rs pr fun r v I2 H2 M2 p2 x2 r2 => a2 r v I2 H2 M2 p2 x2 r2)
    (fun δ' σ' I' H' ⟨nb', o, p'⟩ e _ n' => a3 δ' σ' I' H' M ⟨nb'.len, p'⟩ (.of x.r e) (.ofR n' o))
    (fun δ' σ' I' H' ⟨nb', o, p'⟩ e _ n' => a4 δ' σ' I' H' M ⟨nb'.len, p'⟩ (.of x.r e) (.ofR n' o))
theorem fPut_rel {I : Hp} {f : Str} {v : V} {r : DV} (hv : VB K b I v r) : ∀ {l : List (Str × V)} {fs : List (Str × DV)}, Paired (KVB K b I) l fs → Paired (KVB K b I) (putF f v l) (fPut f r fs)
  | _, _, .nil => .cons ⟨rfl, hv⟩ .nil
  | _, _, .cons (a := p) (b := q) h t => by
    obtain ⟨k, u⟩ := p
    obtain ⟨k', s⟩ := q
    have hk : k = k' := h.1
    subst hk
    unfold putF fPut
    by_cases z : k = f
    · rw [if_pos z, if_pos z]
      first
      | exact .cons ⟨rfl, hv⟩ t
      | exact .cons ⟨z, hv⟩ t
    · rw [if_neg z, if_neg z]
      exact .cons h (fPut_rel hv t)
theorem cms_fld {j : Nat} {f : Str} {to tv : TE} {mo mv : ME} (hC : Cls K (S.fa j)) (hn : NoAttr K (S.fa j) f) (ho : CmE K S to mo) (hv : CmE K S tv mv) : CmS K S (sFld K to tv f) (mFldS j f mo mv) := fun b I0 H0 M0 c δ M D nb ok p σ I H x en Dd a1 a2 a3 a4 =>
  hv b I0 H0 M0 c δ M _ nb ok p σ I H x en _ fun y u I1 H1 M1 p1 x1 r1 => ho b I0 H0 M0 c δ M1 _ nb ok p1 σ I1 H1 (x.trans x1) (en.mono x1.i) _ fun r v I2 H2 M2 p2 x2 r2 => by
    split at p2
    · rename_i a fs ei
      obtain ⟨rfl, em⟩ := insAt_ok ei
      have r2 : v = .ref a := r2
      subst r2
      obtain ⟨_, _, ho, hh, dx, l, rfl, pl⟩ := x2.r a _ em
      rw [ok.fa] at hh p2
      have x12 := x1.trans x2
      have s := fPut_rel (f := f) (r1.mono x2.i) pl
      refine ⟨a, _, dx, l, rfl, hh, hC, hn, by rw [Paired.length pl]; exact p2.1, ?_⟩
      exact a1 δ σ I2 _ _ ⟨nb, p2.2⟩ (x12.trans (XM.mut x2.ok x2.r em ⟨dx, _, rfl, s⟩)) (en.mono x12.i)
    · exact p2.elim
theorem cms_dput {td tk tv : TE} {md mk mv : ME} (hd : CmE K S td md) (hk : CmE K S tk mk) (hv : CmE K S tv mv) : CmS K S (sDPut td tk tv) (mDPut md mk mv) := fun b I0 H0 M0 c δ M D nb ok p σ I H x en Dd a1 a2 a3 a4 =>
  hv b I0 H0 M0 c δ M _ nb ok p σ I H x en _ fun y u I1 H1 M1 p1 x1 r1 => hd b I0 H0 M0 c δ M1 _ nb ok p1 σ I1 H1 (x.trans x1) (en.mono x1.i) _ fun r v I2 H2 M2 p2 x2 r2 => hk b I0 H0 M0 c δ M2 _ nb ok p2 σ I2 H2 ((x.trans x1).trans x2) ((en.mono x1.i).mono x2.i) _ fun kd w I3 H3 M3 p3 x3 r3 => by
    split at p3
    · rename_i a kk ek
      have r2 : v = .ref a := r2
      subst r2
      split at p3
      · rename_i kvs em
        obtain ⟨_, _, ho, hh, l, rfl, pl⟩ := x3.r a _ em
        have x13 := (x1.trans x2).trans x3
        refine ⟨a, _, rfl, keyD_ok ek r3 ▸ DPut.k hh (Nat.lt_of_lt_of_le (by rw [Paired.length pl]; exact p3.1) (by decide : 100000 ≤ sizeLine)), ?_⟩
        exact a1 δ σ I3 _ _ ⟨nb, p3.2⟩ (x13.trans (XM.mut x3.ok x3.r em ⟨_, rfl, gPut_rel pl ((r1.mono x2.i).mono x3.i)⟩)) (en.mono x13.i)
      · exact p3.elim
    · exact p3.elim
theorem paired_snoc {α β : Type} {F : α → β → Prop} {x : α} {y : β} (h : F x y) : ∀ {xs : List α} {ys : List β}, Paired F xs ys → Paired F (xs ++ [x]) (ys ++ [y])
  | _, _, .nil => .cons h .nil
  | _, _, .cons q t => .cons q (paired_snoc h t)
theorem paired_app {α β : Type} {F : α → β → Prop} {xs' : List α} {ys' : List β} (h : Paired F xs' ys') : ∀ {xs : List α} {ys : List β}, Paired F xs ys → Paired F (xs ++ xs') (ys ++ ys')
  | _, _, .nil => h
  | _, _, .cons q t => .cons q (paired_app h t)
theorem cm_app {to tv : TE} {mo mv : ME} (ho : CmE K S to mo) (hv : CmE K S tv mv) : CmE K S (tBM K "list" rAppend to (tCons tv tNil)) (mApp mo mv) := fun b I0 H0 M0 c δ M P nb ok p σ I H x en Q q =>
  ho b I0 H0 M0 c δ M _ nb ok p σ I H x en _ fun r v I1 H1 M1 p1 x1 r1 => by
    split at p1
    · rename_i a
      have r1 : v = .ref a := r1
      subst r1
      obtain ⟨⟨xs, em⟩, p1⟩ := p1
      obtain ⟨_, _, ho, hh, vs, rfl, pl⟩ := x1.r a _ em
      refine ⟨.inl ⟨rfl, vs, .inl (.inl hh)⟩, hv b I0 H0 M0 c δ M1 _ nb ok p1 σ I1 H1 (x.trans x1) (en.mono x1.i) _ fun y w I2 H2 M2 p2 x2 r2 => ?_⟩
      split at p2
      · rename_i ys em2
        obtain ⟨_, _, ho2, hh2, ws, rfl, pl2⟩ := x2.r a _ em2
        refine ⟨a, ws, w, rfl, rfl, hh2, Nat.lt_of_lt_of_le (by rw [Paired.length pl2]; exact p2.1) (by decide : 100000 ≤ sizeLine), ?_⟩
        exact q (.dat .none) .non I2 _ _ p2.2 ((x1.trans x2).trans (XM.mut x2.ok x2.r em2 ⟨_, rfl, paired_snoc r2 pl2⟩)) Dp.non
      · exact p2.elim
    · exact p1.elim
end
end DM
namespace DM
open PySem PySem.Spec PyProof.Rows L2 RZ DL DW
def TfM (tf : Tf) : Prop := ∀ d δ δ', δ.all okS = true → tf d δ = some δ' → δ'.all okS = true
theorem okS_set {δ : En} {i : Nat} {r : DV} (h : δ.all okS = true) (hr : okS (some r) = true) : (δ.set i (some r)).all okS = true := by
  rw [List.all_eq_true] at h ⊢
  intro x hx
  rcases List.mem_or_eq_of_mem_set hx with z | z
  · exact h x z
  · rw [z]; exact hr
theorem tm_name {i : Nat} : TfM (tfName i) := fun d δ δ' h e => by
  cases e
  exact okS_set h rfl
def IterM (K : PySem.W.Frag) (b : Bg) (Rl : Rel) (J : It) (I H : Hp) (M : Mem) (ds : List PyData) : Prop := ∃ G Y, Walk J ds.length G Y ∧ (∀ I' H' M', XM K b I H M I' H' M' → G H') ∧
  ∀ (i : Nat) (I2 H : Hp) (x : V) (H' : Hp) (d : PyData), Same I I2 → Ok K b I2 H → Y i H x H' → ds[i]? = some d → ∃ I3, Ext K b I2 H I3 H' ∧ Rl I3 H' x d
theorem IterM.of {K : PySem.W.Frag} {b : Bg} {Rl : Rel} {J : It} {I H : Hp} {M : Mem} {ds : List PyData} (h : IterOk K b Rl J I ds) : IterM K b Rl J I H M ds := by
  obtain ⟨G, Y, w, hG, hY⟩ := h
  exact ⟨G, Y, w, fun I' H' M' x => hG H' (x.i.trans x.ok.s), hY⟩
def CmI (K : PySem.W.Frag) (S : Sg) (Rl : Rel) (wi : TI) (di : MI) : Prop := ∀ b I0 H0 M0 c δ M A, δ.length = S.n → Cmk K S b I0 H0 M0 c → di c δ M A → ∀ (σ : L2.St) (I H : Hp), XM K b I0 H0 M0 I H M → EnvM K b I σ δ → ∀ R : It → Hp → Prop,
  (∀ ds J I' H' M', A ds M' → XM K b I H M I' H' M' → IterM K b Rl J I' H' M' ds → R J H') → wi σ H R
def XI (X : Cx) (S : Sg) (Rl : Rel) (tg e : Expr) (di : MI) : Prop := ∃ t, PI X tg e t ∧ CmI X.K S Rl t di
section
variable {K : PySem.W.Frag} {S : Sg} {b : Bg}
theorem cmi_lft {Rl : Rel} {wi : TI} {di : DI} (h : CI K S Rl wi di) : CmI K S Rl wi (mLftI di) := fun b I0 H0 M0 c δ M A nb ok p σ I H x en R q =>
  h b I H _ δ _ (en.nb nb) (ok.cok x) p σ I H x.ok.re en.env R fun ds J I' H' pa e it => q ds J I' H' M pa (.of x.r e) (IterM.of it)
theorem cms_for {Rl : Rel} {wi : TI} {g : TG} {tb : TS} {is : List Nat} {di : MI} {tf : Tf} {db : MS} (hi : CmI K S Rl wi di) (ho : TfOk S.n tf) (hM : TfM tf) (hg : ∀ b d δ δ', NB S.n δ → tf d δ = some δ' → TgD K b Rl g is d δ δ') (hb : CmS K S tb db) : CmS K S (tFor wi g tb) (mFor di tf db) := fun b I0 H0 M0 c δ M D nb ok p σ I H x en Dd a1 a2 a3 a4 =>
  hi b I0 H0 M0 c δ M _ nb ok p σ I H x en _ fun ds Jt I1 H1 M1 p1 x1 okI => by
    obtain ⟨G, Y, w, hG, hY⟩ := okI
    refine for_it w (fun k σ' H' => ∃ I' M' δk, δk.length = S.n ∧ forGoM c tf db D (ds.drop k) δk M' ∧ XM K b I1 H1 M1 I' H' M' ∧ EnvM K b I' σ' δk) ⟨I1, M1, δ, nb, p1, x1.re, en.mono x1.i⟩ (fun k σ' H' _ ⟨I', M', δk, _, _, x', _⟩ => hG I' H' M' x') ?_ ?_
    · rintro k v σ' H' H'' hk ⟨I', M', δk, nbk, pk, x', n'⟩ y
      have hd1 : ds[k]? = some ds[k] := List.getElem?_eq_getElem hk
      rw [List.drop_eq_getElem_cons hk] at pk
      generalize ds[k] = d at hd1 pk
      obtain ⟨I3, e3, d3⟩ := hY k I' H' v H'' d x'.i x'.ok y hd1
      unfold forGoM at pk
      split at pk
      · rename_i δ' et
        have x3 := x'.trans (.of x'.r e3)
        have n3 := n'.mono e3.i
        refine hg b d δk δ' (n3.nb nbk) et H1 I3 H'' σ' v e3.ok n3.env d3 _ fun σ2 n2 _ _ => ?_
        have n4 : EnvM K b I3 σ2 δ' := .ofR n2 (hM d δk δ' n3.okS et)
        have nb' : δ'.length = S.n := (ho d δk δ' (n3.nb nbk) et).len
        have x13 := x1.trans x3
        exact hb b I0 H0 M0 c δ' M' _ nb' ok pk σ2 I3 H'' (x.trans x13) n4 _ (fun d σ4 I4 H4 M4 p4 x4 n4 => ⟨I4, M4, d, p4.1, p4.2, x3.trans x4, n4⟩) (fun r v I4 H4 M4 p4 x4 n4 => a2 r v I4 H4 M4 p4 (x13.trans x4) n4) (fun d σ4 I4 H4 M4 p4 x4 n4 => a1 d σ4 I4 H4 M4 p4 (x13.trans x4) n4) (fun d σ4 I4 H4 M4 p4 x4 n4 => ⟨I4, M4, d, p4.1, p4.2, x3.trans x4, n4⟩)
      · exact pk.elim
    · rintro σ' H' ⟨I', M', δn, nbn, pk, x', n'⟩
      rw [List.drop_length] at pk
      exact a1 δn σ' I' H' M' ⟨nbn, pk⟩ (x1.trans x') n'
def forGoL (c : Cm) (a : Addr) (xs : List DV) (i : Nat) (db : MS) (D : MEd) : List DV → En → Mem → Prop
  | [], δ, M => M a = some (.lst xs) ∧ D.nx δ M
  | r :: rs, δ, M => M a = some (.lst xs) ∧ db c (δ.set i (some r)) M ⟨forGoL c a xs i db D rs, D.rt, D.nx, forGoL c a xs i db D rs⟩
def mForL (me : ME) (i : Nat) (db : MS) : MS := fun c δ M D => me c δ M fun x M1 => match x with
  | .raw (.ref a) => match M1 a with
    | some (.lst xs) => forGoL c a xs i db D xs δ M1
    | _ => False
  | _ => False
theorem forGoL_at {c : Cm} {a : Addr} {xs : List DV} {i : Nat} {db : MS} {D : MEd} {l : List DV} {δ : En} {M : Mem} (h : forGoL c a xs i db D l δ M) : M a = some (.lst xs) := by
  cases l with
  | nil => exact h.1
  | cons _ _ => exact h.1
theorem paired_len_at {α β : Type} {F : α → β → Prop} {vs : List α} {xs : List β} {i : Nat} {v : α} (h : Paired F vs xs) (e : vs[i]? = some v) : ∃ x, xs[i]? = some x ∧ F v x := by
  induction h generalizing i with
  | nil => simp at e
  | @cons p q ps qs h t ih =>
    cases i with
    | zero => cases Option.some.inj e; exact ⟨_, rfl, h⟩
    | succ i => exact ih (i := i) (by simpa using e)
theorem walk_listD {a : Addr} {n : Nat} : Walk (Itl K a) n (fun H => ∃ xs, SqL K H a xs ∧ xs.length = n) (fun i H x H' => H' = H ∧ ∀ xs, SqL K H a xs → xs[i]? = some x) :=
  ⟨fun i _ hi ⟨xs, q, l⟩ => ⟨xs, xs[i]'(by omega), q, by simp⟩, fun _ ⟨xs, q, l⟩ => ⟨xs, q, by omega⟩, fun _ _ _ _ _ _ y => y⟩
theorem cms_forL {te : TE} {me : ME} {i : Nat} {tb : TS} {db : MS} (hi : i < S.n) (he : CmE K S te me) (hb : CmS K S tb db) : CmS K S (tFor (iList K te) (gName i) tb) (mForL me i db) := fun b I0 H0 M0 c δ M D nb ok p σ I H x en Dd a1 a2 a3 a4 =>
  he b I0 H0 M0 c δ M _ nb ok p σ I H x en _ fun r v I1 H1 M1 p1 x1 rs => by
    split at p1
    · rename_i a
      have rs : v = .ref a := rs
      subst rs
      split at p1
      · rename_i xs em
        obtain ⟨_, _, ho, hh, vs, rfl, pl⟩ := x1.r a _ em
        refine ⟨a, rfl, ⟨vs, .inl (.inl hh)⟩, ?_⟩
        have at_ : ∀ {I' H' : Hp} {M' : Mem}, XM K b I1 H1 M1 I' H' M' → M' a = some (.lst xs) → ∃ ws, H' a = some (.lst ws) ∧ Paired (VB K b I') ws xs := fun x' e => by
          obtain ⟨_, _, ho, hh, ws, rfl, pl⟩ := x'.r a _ e
          exact ⟨ws, hh, pl⟩
        refine for_it (walk_listD (K := K) (a := a) (n := xs.length)) (fun k σ' H' => ∃ I' M' δk, δk.length = S.n ∧ forGoL c a xs i db D (xs.drop k) δk M' ∧ XM K b I1 H1 M1 I' H' M' ∧ EnvM K b I' σ' δk) ⟨I1, M1, δ, nb, p1, x1.re, en.mono x1.i⟩ (fun k σ' H' _ ⟨_, _, _, _, pk, x', _⟩ => ?_) ?_ ?_
        · obtain ⟨ws, h1, h2⟩ := at_ x' (forGoL_at pk)
          exact ⟨ws, .inl (.inl h1), Paired.length h2⟩
        · rintro k u σ' H' H'' hk ⟨I', M', δk, nbk, pk, x', n'⟩ ⟨rfl, y⟩
          obtain ⟨ws, h1, h2⟩ := at_ x' (forGoL_at pk)
          obtain ⟨z, hz, ruz⟩ := paired_len_at h2 (y ws (.inl (.inl h1)))
          have hz2 : xs[k] = z := (List.getElem?_eq_some_iff.mp hz).2
          rw [List.drop_eq_getElem_cons hk, hz2] at pk
          obtain ⟨ea, pk⟩ := pk
          have x13 := x1.trans x'
          have n2 : EnvM K b I' (σ'.set i (some u)) (δk.set i (some z)) := n'.set (by rw [nbk]; exact hi) ruz
          have fin : ∀ (d : En) (σ4 : L2.St) (I4 H4 : Hp) (M4 : Mem), d.length = S.n ∧ forGoL c a xs i db D (xs.drop (k + 1)) d M4 → XM K b I' H'' M' I4 H4 M4 → EnvM K b I4 σ4 d → ∃ I' M' δk, δk.length = S.n ∧ forGoL c a xs i db D (xs.drop (k + 1)) δk M' ∧ XM K b I1 H1 M1 I' H4 M' ∧ EnvM K b I' σ4 δk := fun d σ4 I4 H4 M4 p4 x4 n4 => ⟨I4, M4, d, p4.1, p4.2, x'.trans x4, n4⟩
          exact hb b I0 H0 M0 c _ M' _ (by rw [List.length_set]; exact nbk) ok pk _ I' H'' (x.trans x13) n2 _ fin (fun r v I4 H4 M4 p4 x4 n4 => a2 r v I4 H4 M4 p4 (x13.trans x4) n4) (fun d σ4 I4 H4 M4 p4 x4 n4 => a1 d σ4 I4 H4 M4 p4 (x13.trans x4) n4) fin
        · rintro σ' H' ⟨I', M', δn, nbn, pk, x', n'⟩
          rw [List.drop_length] at pk
          exact a1 δn σ' I' H' M' ⟨nbn, pk.2⟩ (x1.trans x') n'
      · exact p1.elim
    · exact p1.elim
theorem XM.mutH {I H I' H' : Hp} {M M' : Mem} {D : Addr} {xs : List V} {o : HO} (e : XM K b I H M I' H' M') (h0 : H D = none) (hi : I' D = none) (hm : M' D = none) (hb : D ≠ b.a) (hD : H' D = some (.lst xs)) : XM K b I H M I' (upd H' D o) M' := by
  obtain ⟨n, pl, tb, l, ns, x, q, m, c, e1, sl, r⟩ := e.ok.b
  have nD : ∀ {a : Addr} {u : HO}, H a = some u → a ≠ D := fun h z => by rw [z, h0] at h; cases h
  refine ⟨e.i, fun a u n t hm h => by rw [upd_ne (nD h)]; exact e.h a u n t hm h, e.n, e.m, fun l xs h => (let ⟨ys, h1⟩ := e.k l xs h; ⟨ys, by rw [upd_ne (fun z => hb z.symm)]; exact h1⟩), ⟨fun a u h => by rw [upd_ne (ne_of_none h hi)]; exact e.ok.s a u h, n, pl, tabs_upd tb hD, l, ns, x, q, m, c, by rw [upd_ne (fun z => hb z.symm)]; exact e1, sl, r⟩, fun a so h => ?_, fun a kvs h => ?_⟩
  · obtain ⟨g1, g2, ho, g3, g4⟩ := e.r a so h
    exact ⟨g1, g2, ho, by rw [upd_ne (fun z => by rw [z, hm] at h; cases h)]; exact g3, g4⟩
  · have z := e.lk a kvs h
    exact ⟨z.1, by rw [upd_ne (fun y => by rw [y, hm] at z; cases z.1)]; exact z.2⟩
theorem EnvM.wipe {I : Hp} {σ : L2.St} {δ : En} (n : EnvM K b I σ δ) {vs : List Nat} (hv : ∀ v ∈ vs, δ[v]? = some none) : EnvM K b I (L2.wipe σ vs) δ := by
  refine ⟨by rw [wipe_length]; exact n.len, fun i r h => ?_⟩
  rw [wipe_out (fun z => by rw [hv i z] at h; cases h)]
  exact n.at_ i r h
theorem lcFin_ok {I1 H1 Ik Hk : Hp} {M1 Mk : Mem} {D : Addr} {acc : List V} {ys : List DV} {k : LcK} {P : MP} {Q : VK} (x : XM K b I1 H1 M1 Ik Hk Mk) (hD : H1 D = none) (iD : Ik D = none) (mD : Mk D = none) (nb : D ≠ b.a) (aD : Hk D = some (.lst acc)) (pl : Paired (VB K b Ik) acc ys) (p : lcFin k P ys Mk)
    (q : ∀ r v I' H' M', P r M' → XM K b I1 H1 M1 I' H' M' → VB K b I' v r → Q v H') : Q (.ref D) Hk := by
  cases k with
  | dat =>
    unfold lcFin at p
    dsimp only at p
    split at p
    · rename_i ds ed
      have := dats_ok ed
      subst this
      have hd := vbs_dats pl
      have s1 : Same Ik (upd Ik D (.lst acc)) := fun c o h => by rw [upd_ne (ne_of_none h iD)]; exact h
      obtain ⟨n, pln, tb, l, ns, x0, q0, m0, c0, e1, sl, r0⟩ := x.ok.b
      refine q (.dat (.list ds)) (.ref D) (upd Ik D (.lst acc)) Hk Mk p ⟨x.i.trans s1, x.h, fun a o hi hm h t => ?_, x.m, x.k, ⟨fun a u h => ?_, by rw [upd_ne (fun z => nb z.symm)]; exact n, fun a u h => ?_, tb, l, ns, x0, q0, m0, c0, e1, sl_mono s1 sl, r0⟩, fun a so h => ?_, x.lk⟩ (Dp.lst (.inl (.inl upd_same)) (dpa_mono s1 hd))
      · rw [upd_ne (fun z => by rw [z, hD] at h; cases h)]
        exact x.n a o hi hm h t
      · by_cases z : a = D
        · subst z; rw [upd_same] at h; cases h; exact aD
        · rw [upd_ne z] at h; exact x.ok.s a u h
      · by_cases z : a = D
        · subst z; rw [upd_same] at h; cases h; exact True.intro
        · rw [upd_ne z] at h; exact pln a u h
      · obtain ⟨g1, g2, ho, g3, g4⟩ := x.r a so h
        exact ⟨by rw [upd_ne (fun z => by rw [z, mD] at h; cases h)]; exact g1, g2, ho, g3, g4.mono s1⟩
    · exact p.elim
  | sto =>
    refine q _ _ Ik Hk _ (p D mD) ⟨x.i, x.h, x.n, fun a o hm h t => ?_, x.k, x.ok, fun a so h => ?_, fun a kvs h => ?_⟩ rfl
    · rw [um_ne (fun z => by rw [z, hD] at h; cases h)]
      exact x.m a o hm h t
    · by_cases z : a = D
      · subst z
        rw [um_same] at h
        cases h
        exact ⟨iD, nb, _, aD, acc, rfl, pl⟩
      · rw [um_ne z] at h
        exact x.r a so h
    · have z := x.lk a kvs h
      exact ⟨by rw [um_ne (fun y => by rw [y, mD] at z; cases z.1)]; exact z.1, z.2⟩
theorem cm_lc {Rl : Rel} {wi : TI} {g : TG} {tt : TT} {te : TE} {vs is : List Nat} {kd : LcK} {di : MI} {tf : Tf} {dt : MT} {de : ME} (hi : CmI K S Rl wi di) (ho : TfOk S.n tf) (hM : TfM tf) (hg : ∀ b d δ δ', NB S.n δ → tf d δ = some δ' → TgD K b Rl g is d δ δ') (his : ∀ v ∈ is, v ∈ vs) (ht : CmT K S.no tt dt) (he : CmE K S.no te de) :
    CmE K S (tLc wi g tt te vs) (mLc kd di tf dt de vs) := fun b I0 H0 M0 c δ M P nb ok p σ I H x n Q q => by
  obtain ⟨hv, p⟩ := p
  refine hi b I0 H0 M0 c δ M _ nb ok p σ I H x n _ fun items J I1 H1 M1 pg x1 okI => fun D hD => ?_
  obtain ⟨hlen, go⟩ := pg
  obtain ⟨G, Y, w, hG, hY⟩ := okI
  have nDb : D ≠ b.a := x1.ok.nb hD
  have mD1 := x1.r.none hD
  have xD := XM.of x1.r (x1.ok.newH (o := .lst []) hD)
  refine lc_it w (fun i Hk => ∃ Ik Mk acc ys, XM K b I1 H1 M1 Ik Hk Mk ∧ Ik D = none ∧ Mk D = none ∧ Hk D = some (.lst acc) ∧ Paired (VB K b Ik) acc ys ∧ acc.length ≤ i ∧ lcGoM (lcStepM tf dt de c δ) (items.drop i) Mk fun zs M' => lcFin kd P (ys ++ zs) M') ?_ (fun i Hk _ ⟨Ik, Mk, acc, ys, e, _⟩ => hG Ik Hk Mk e) ?_ ?_
  · exact ⟨I1, M1, [], [], xD, x1.ok.inone hD, mD1, upd_same, .nil, Nat.le_refl _, go⟩
  · rintro i v Hk Hk' hi' ⟨Ik, Mk, acc, ys, e, iD, mD, aD, hd, al, go'⟩ hy
    have hd1 : items[i]? = some items[i] := List.getElem?_eq_getElem hi'
    rw [List.drop_eq_getElem_cons hi'] at go'
    generalize items[i] = d at hd1 go'
    obtain ⟨I3, e3, d3⟩ := hY i Ik Hk v Hk' d e.i e.ok hy hd1
    have x3 := XM.of e.r e3
    have e13 := e.trans x3
    have n3 : EnvM K b I3 (wipe σ vs) δ := (n.mono (x1.i.trans e13.i)).wipe hv
    unfold lcGoM lcStepM at go'
    split at go'
    · rename_i δ' et
      have nb' := (ho d δ δ' (n3.nb nb) et).len
      have tg := hg b d δ δ' (n3.nb nb) et
      refine tg H1 I3 Hk' _ v e3.ok n3.env d3 _ fun σ2 n2r out hl => ⟨?_, ?_⟩
      · rw [wipe_eq (σ := wipe σ vs) (τ := σ2) hl (fun j hj => out j (fun z => hj (his j z)))]
        exact wipe_eq (wipe_length _ _) fun j hj => wipe_out hj
      · have n2 : EnvM K b I3 σ2 δ' := .ofR n2r (hM d δ δ' n3.okS et)
        refine ht b I0 H0 M0 c.no δ' Mk _ nb' ok.no go' σ2 I3 Hk' (x.trans (x1.trans e13)) n2 _ fun t I4 H4 M4 pc e4 => ?_
        have e14 := e13.trans e4
        have aD3 : Hk' D = some (.lst acc) := e3.h D _ nDb lst_tbl aD
        have iD3 : I3 D = none := e3.n D _ iD aD lst_tbl
        have iD4 : I4 D = none := e4.n D _ iD3 mD aD3 lst_tbl
        have mD4 : M4 D = none := e4.m D _ mD aD3 lst_tbl
        have aD4 : H4 D = some (.lst acc) := e4.h D _ nDb lst_tbl mD aD3
        have hd4 := Paired.mapP hd fun _ _ z => VB.mono (e3.i.trans e4.i) z
        cases t with
        | false =>
          rw [if_neg (by decide)] at pc
          rw [if_neg (by decide)]
          exact ⟨I4, M4, acc, ys, e14, iD4, mD4, aD4, hd4, by omega, pc⟩
        | true =>
          rw [if_pos rfl] at pc
          rw [if_pos rfl]
          refine he b I0 H0 M0 c.no δ' M4 _ nb' ok.no pc σ2 I4 H4 (x.trans (x1.trans e14)) (n2.mono e4.i) _ fun r y I5 H5 M5 pr e5 rs => ?_
          have iD5 : I5 D = none := e5.n D _ iD4 mD4 aD4 lst_tbl
          have mD5 : M5 D = none := e5.m D _ mD4 aD4 lst_tbl
          have aD5 : H5 D = some (.lst acc) := e5.h D _ nDb lst_tbl mD4 aD4
          refine ⟨acc, aD5, Nat.lt_of_lt_of_le (by omega : acc.length < 100000) (by decide : 100000 ≤ sizeLine), I5, M5, acc ++ [y], ys ++ [r], XM.mutH (e14.trans e5) hD iD5 mD5 nDb aD5, iD5, mD5, upd_same, DM.paired_snoc rs (Paired.mapP hd4 fun _ _ z => VB.mono e5.i z), by rw [List.length_append]; simp; omega, ?_⟩
          have ez : (fun zs M' => lcFin kd P (ys ++ [r] ++ zs) M') = fun zs M' => lcFin kd P (ys ++ r :: zs) M' := by
            funext zs M'
            rw [List.append_assoc]
            rfl
          rw [ez]
          exact pr
    · exact go'.elim
  · rintro Hk ⟨Ik, Mk, acc, ys, e, iD, mD, aD, hd, al, go'⟩
    rw [List.drop_length] at go'
    unfold lcGoM at go'
    rw [List.append_nil] at go'
    exact lcFin_ok e hD iD mD nDb aD hd go' fun r v I' H' M' pr x2 rs => q r v I' H' M' pr (x1.trans x2) rs
end
end DM
namespace TF
open PySem PySem.Spec PyProof.Rows L2
def rRepE (K : PySem.W.Frag) : R2 := fun x y H Q => ∃ l k, x = .ref l ∧ y = .int k ∧ SqT K H l [] ∧ -1000 ≤ k ∧ k ≤ 1000 ∧ Q (.ref l) H
theorem op_repE {X : Cx} : OpR X (binaryOp .Mult) (rRepE X.K) := fun pins s σ H x y v u Q I rx ry ⟨l, k, ex, ey, isT, k0, k1, q1⟩ => by
  subst ex ey
  obtain rfl : v = Value.ref l := rx
  obtain ⟨tk, rfl⟩ := ry
  obtain ⟨us, rel, ⟨⟨c, dd, dt, sl⟩, got, cls, n, dat⟩, _⟩ := I.tuple isT
  simp only at cls dat
  subst cls dat
  have e : us = [] := List.eq_nil_of_length_eq_zero rel.length.symm
  subst e
  have inside : (decide (k < -(2 ^ 63)) || decide (k ≥ 2 ^ 63)) = false := by
    rw [decide_eq_false (by omega), decide_eq_false (by omega), Bool.or_false]
  exact wpAny_binaryOp_repeat_ref (T := "tuple") (U := "int") (by decide) ⟨_, got, rfl⟩ (fun s' => typeIs_int s' k tk) noFill_tuple_mul F.fills_int_mul F.slot_int_rmul repeat_tuple F.slot_int_index.lookup
    (call_meets F.slot_int_rmul (typeIs_int s k tk) F.entry_int_rmul (F.args_int_rmul_2 _ _) (int_rmul_tuple k tk l (#[] : Array Value) n dd sl) ⟨got, rfl, ⟨_, got, rfl⟩, call_meets F.slot_tuple_mul ⟨_, got, rfl⟩ F.entry_tuple_mul (F.args_tuple_mul_2 _ _) (mul_1 l (#[] : Array Value) n dd sl k tk inside (by rfl)) ⟨got, ⟨.ref l, H, I, rfl, q1⟩⟩⟩)
theorem ext_tup (l : Addr) (items : Array Value) (n : Nat) (b : Addr) (items2 : Array Value) (n2 : Nat) (dd : Option Addr) (sl : Array (Option Value)) (hs0 : ¬(!items.isEmpty && Builtin.List.listTooLong (items.size + items2.size)) = true) (hs1 : items.size ≤ sizeLine) (hs2 : items.size + items2.size ≤ sizeLine + 1) :
    Meets (Builtin.«list.extend» ⟨[.ref l, .ref b], []⟩) (fun _ R s => s.heap.get? l = some { cls := .type "list", dict := none, data := .seq items n, slots := #[] } ∧ s.heap.get? b = some { cls := .type "tuple", dict := dd, data := .seq items2 n2, slots := sl } ∧ R (.ok (.ret Value.none)) { s with heap := s.heap.update l (Obj.mapSeq fun x => x ++ items2), toks := s.toks }) :=
  .of_wp fun prog w A R s h => by
    obtain ⟨hp, g, d, tk, os⟩ := s; obtain ⟨hl, hb, h⟩ := h; have f1 := AutoSeq1.idx_int; have f2 := AutoSeq1.sub_tuple_tuple; have f3 := AutoSeq1.sub_list_list; have f4 := AutoSeq1.sub_tuple_list; have f5 := AutoSeq1.sub_list_tuple;
    have hz' : (items ++ items2).size ≤ sizeLine + 1 := by rw [Array.size_append]; exact hs2
    wp_walk using (wpAny_updateSeq hl rfl (hz := hs1) (_hz' := hz')), wpAny_loadPart' hl, wpAny_loadPart' hb; exact ⟨_, rfl, h⟩
def rExtendT (K : PySem.W.Frag) : V → List V → Hp → VK → Prop := fun x vs H Q => ∃ l b xs zs, x = .ref l ∧ vs = [.ref b] ∧ H l = some (.lst xs) ∧ SqT K H b zs ∧ xs.length + zs.length ≤ sizeLine ∧ Q .non (upd H l (.lst (xs ++ zs)))
theorem mt_extendT {X : Cx} : MtR X "list.extend" (rExtendT X.K) := by
  intro pins s σ H x vs v us Q I rx rv h
  obtain ⟨l, b, xs, zs, rfl, rfl, hH, hB, hz, q⟩ := h
  cases rx
  obtain ⟨u, rfl, ru⟩ := rv.one
  cases ru
  obtain ⟨z, its, n, r, hl, e⟩ := I.lstM hH
  obtain ⟨its2, r2, ⟨⟨c2, dd, dt, sl⟩, e2, c2e, n2, dat⟩, _⟩ := I.tuple hB
  simp only at c2e dat
  subst c2e dat
  have hl2 : zs.length = its2.length := r2.length
  have hsz : its.toArray.size + its2.toArray.size ≤ sizeLine := by rw [List.size_toArray, List.size_toArray]; omega
  have hlong : ¬ (!its.toArray.isEmpty && Builtin.List.listTooLong (its.toArray.size + its2.toArray.size)) = true := by
    rw [notLongL hsz, Bool.and_false]
    exact Bool.false_ne_true
  refine call_meets F.slot_list_extend ⟨_, e, rfl⟩ F.entry_list_extend (F.args_list_extend_2 _ _)
    (ext_tup l its.toArray n b its2.toArray n2 dd sl hlong (by rw [List.size_toArray]; omega) (by omega)) ⟨e, e2, ?_⟩
  refine ⟨.non, _, I.lset (its' := its ++ its2) hH e (by simp) (r.append r2) ?_, rfl, q⟩
  rw [List.length_append]
  omega
end TF
namespace DM
open PySem PySem.Spec PyProof.Rows L2 RZ DL DW
section
variable {K : PySem.W.Frag} {S : Sg} {b : Bg} {I H : Hp} {M : Mem}
theorem cms_frz {t : TS} {ds : MS} (i : Nat) (h : CmS K S t ds) : CmS K S t (mFrz i ds) := fun b I0 H0 M0 c δ M D nb ok p σ I H x en Dd a1 a2 a3 a4 => by
  have old : ∀ (_ : ds c δ M D), t Dd σ H := fun p => h b I0 H0 M0 c δ M D nb ok p σ I H x en Dd a1 a2 a3 a4
  unfold mFrz at p
  split at p
  · rename_i a hi
    split at p
    · rename_i xs em
      split at p
      · rename_i es ed
        have := dats_ok ed
        subst this
        obtain ⟨v, e1, e2⟩ := en.at_ i _ hi
        have e2 : v = .ref a := e2
        subst e2
        obtain ⟨vs, xf, hd⟩ := XM.frz (vs := []) x.ok x.r em
        have hlt : i < δ.length := (List.getElem?_eq_some_iff.mp hi).1
        have n2 : EnvM K b (upd I a (.lst vs)) σ (δ.set i (some (.dat (.list es)))) := by
          have z := (en.mono xf.i).set (v := .ref a) hlt (r := .dat (.list es)) hd
          rw [show σ.set i (some (.ref a)) = σ from by
            apply List.ext_getElem?
            intro j
            by_cases z : i = j
            · subst z
              rw [List.getElem?_set_self (by rw [en.len]; exact hlt), e1]
            · rw [List.getElem?_set_ne z]] at z
          exact z
        exact h b I0 H0 M0 c _ _ D (by rw [List.length_set]; exact nb) ok p σ _ H (x.trans xf) n2 Dd (fun d σ2 I2 H2 M2 p2 x2 n2 => a1 d σ2 I2 H2 M2 p2 (xf.trans x2) n2) (fun r v I2 H2 M2 p2 x2 n2 => a2 r v I2 H2 M2 p2 (xf.trans x2) n2) (fun d σ2 I2 H2 M2 p2 x2 n2 => a3 d σ2 I2 H2 M2 p2 (xf.trans x2) n2) (fun d σ2 I2 H2 M2 p2 x2 n2 => a4 d σ2 I2 H2 M2 p2 (xf.trans x2) n2)
      · exact old p
    · exact old p
  · exact old p
theorem dats_vbs : ∀ {vs : List V} {ds : List PyData}, DpAll K I vs ds → Paired (VB K b I) vs (ds.map .dat)
  | _, [], .nil => .nil
  | _, _ :: _, .cons h t => .cons h (dats_vbs t)
theorem cm_ext {to tv : TE} {mo mv : ME} (ho : CmE K S to mo) (hv : CmE K S tv mv) : CmE K S (tBM K "list" (TF.rExtendT K) to (tCons tv tNil)) (mExt mo mv) := fun b I0 H0 M0 c δ M P nb ok p σ I H x en Q q =>
  ho b I0 H0 M0 c δ M _ nb ok p σ I H x en _ fun r v I1 H1 M1 p1 x1 r1 => by
    split at p1
    · rename_i a
      have r1 : v = .ref a := r1
      subst r1
      obtain ⟨⟨xs, em⟩, p1⟩ := p1
      obtain ⟨_, _, ho, hh, vs, rfl, pl⟩ := x1.r a _ em
      refine ⟨.inl ⟨rfl, vs, .inl (.inl hh)⟩, hv b I0 H0 M0 c δ M1 _ nb ok p1 σ I1 H1 (x.trans x1) (en.mono x1.i) _ fun y w I2 H2 M2 p2 x2 r2 => ?_⟩
      split at p2
      · rename_i ys ds em2
        obtain ⟨_, _, ho2, hh2, ws, rfl, pl2⟩ := x2.r a _ em2
        have r2 : Dp K I2 w (.tuple ds) := r2
        cases r2 with
        | @tup t ts _ hs hd =>
          refine ⟨a, t, ws, ts, rfl, rfl, hh2, st_mono x2.ok.s hs, Nat.le_trans (by rw [Paired.length pl2, dpa_len hd]; exact p2.1) (by decide : 100000 ≤ sizeLine), ?_⟩
          exact q (.dat .none) .non I2 _ _ p2.2 ((x1.trans x2).trans (XM.mut x2.ok x2.r em2 ⟨_, rfl, paired_app (dats_vbs hd) pl2⟩)) Dp.non
      · exact p2.elim
    · exact p1.elim
end
section
variable {X : Cx} {S : Sg} {e a b o tg iter : Expr} {me mo mv mk : ME} {pos : Pos} {st : Stmt} {sts : List Stmt} {d d' : MS}
theorem xss_nil : XSs X S [] mNext := ⟨_, pss_nil, cms_next⟩
theorem xss_one (h : XS X S st d) : XSs X S [st] d := by
  obtain ⟨t, h1, h2⟩ := h
  exact ⟨_, pss_one h1, h2⟩
theorem xss_cons (h : XS X S st d) (h' : XSs X S sts d') : XSs X S (st :: sts) (mSeq d d') := by
  obtain ⟨t, h1, h2⟩ := h
  obtain ⟨u, h3, h4⟩ := h'
  exact ⟨_, pss_cons h1 h3, cms_seq h2 h4⟩
theorem xs_frz (i : Nat) (h : XS X S st d) : XS X S st (mFrz i d) := by
  obtain ⟨t, h1, h2⟩ := h
  exact ⟨_, h1, cms_frz i h2⟩
theorem xs_lft {ds : DS} (h : JS X S st ds) : XS X S st (mLftS ds) := by
  obtain ⟨t, h1, h2⟩ := h
  exact ⟨_, h1, cms_lft h2⟩
theorem xs_if {c : Expr} {u v : List Stmt} {dt : MT} (hc : XT X S c dt) (h : XSs X S u d) (h' : XSs X S v d') : XS X S (.If c u v pos) (mIfS dt d d') := by
  obtain ⟨t, t1, t2⟩ := hc
  obtain ⟨t', h1, h2⟩ := h
  obtain ⟨u', h3, h4⟩ := h'
  exact ⟨_, ps_if t1 h1 h3, cms_if t2 h2 h4⟩
theorem xs_ret (h : XE X S e me) : XS X S (.Return (some e) pos) (mRet me) := by
  obtain ⟨t, h1, h2⟩ := h
  exact ⟨_, ps_ret h1, cms_ret h2⟩
theorem xs_expr (h : XE X S e me) (hs : swapsWith e none pos.line X.env = pure false := by rfl) : XS X S (.Expr e pos) (mExpr me) := by
  obtain ⟨t, h1, h2⟩ := h
  exact ⟨_, ps_expr h1 hs, cms_expr h2⟩
theorem xs_set {i : Nat} {x : Str} {pos' : Pos} (hN : X.N.Nodup) (hx : X.N[i]? = some x) (hi : i < S.n) (h : XE X S e me) (hp : ∀ te, PE X e te → PS X (.Assign [.Name x pos'] e pos) (tAsg te (gName i))) : XS X S (.Assign [.Name x pos'] e pos) (mAsg i me) := by
  obtain ⟨t, h1, h2⟩ := h
  exact ⟨_, hp t h1, cms_asg hi h2⟩
theorem xi_lft {Rl : Rel} {di : DI} (h : JI X S Rl tg e di) : XI X S Rl tg e (mLftI di) := by
  obtain ⟨t, h1, h2⟩ := h
  exact ⟨t, h1, cmi_lft h2⟩
theorem xs_for {Rl : Rel} {is : List Nat} {di : MI} {tf : Tf} {body : List Stmt} {db : MS} (hi : XI X S Rl tg iter di) (ho : TfOk S.n tf) (hM : TfM tf) (hg : JG X S Rl is tg tf) (hb : XSs X S body db)
    (hps : ∀ wi g tb, PI X tg iter wi → PG X tg g → PSs X body tb → PS X (.For tg iter body [] pos) (tFor wi g tb)) : XS X S (.For tg iter body [] pos) (mFor di tf db) := by
  obtain ⟨wi, i1, i2⟩ := hi
  obtain ⟨g, g1, g2⟩ := hg
  obtain ⟨tb, b1, b2⟩ := hb
  exact ⟨_, hps wi g tb i1 g1 b1, cms_for i2 ho hM g2 b2⟩
theorem xs_forL {i : Nat} {body : List Stmt} {db : MS} (hi : i < S.n) (he : XE X S iter me) (hg : PG X tg (gName i)) (hb : XSs X S body db)
    (hps : ∀ wi g tb, PI X tg iter wi → PG X tg g → PSs X body tb → PS X (.For tg iter body [] pos) (tFor wi g tb)) : XS X S (.For tg iter body [] pos) (mForL me i db) := by
  obtain ⟨te, e1, e2⟩ := he
  obtain ⟨tb, b1, b2⟩ := hb
  exact ⟨_, hps _ _ tb (pi_list e1) hg b1, cms_forL hi e2 b2⟩
theorem xs_fld {j : Nat} {f : Str} {pos' : Pos} (hC : Cls X.K (S.fa j)) (hn : NoAttr X.K (S.fa j) f) (ho : XE X S o mo) (hv : XE X S e mv) (hs : swapsWith e (some (.Attribute o f pos')) pos.line X.env = pure false := by rfl) : XS X S (.Assign [.Attribute o f pos'] e pos) (mFldS j f mo mv) := by
  obtain ⟨t, h1, h2⟩ := ho
  obtain ⟨u, h3, h4⟩ := hv
  exact ⟨_, ps_fld h1 h3 hs, cms_fld hC hn h2 h4⟩
theorem xs_dput {i : Expr} {pos' : Pos} (hu : X.A.units + 1 < cLine) (ho : XE X S o mo) (hk : XE X S i mk) (hv : XE X S e mv) (hs : swapsWith e (some (.Subscript o i pos')) pos.line X.env = pure false := by rfl) : XS X S (.Assign [.Subscript o i pos'] e pos) (mDPut mo mk mv) := by
  obtain ⟨t, h1, h2⟩ := ho
  obtain ⟨u, h3, h4⟩ := hv
  obtain ⟨w, h5, h6⟩ := hk
  exact ⟨_, ps_dput hu h1 h5 h3 hs, cms_dput h2 h6 h4⟩
theorem xe_app {call : Expr} (ho : XE X S o mo) (hv : XE X S e mv) (hp : ∀ to tv, PE X o to → PE X e tv → PE X call (tBM X.K "list" rAppend to (tCons tv tNil))) : XE X S call (mApp mo mv) := by
  obtain ⟨t, h1, h2⟩ := ho
  obtain ⟨u, h3, h4⟩ := hv
  exact ⟨_, hp t u h1 h3, cm_app h2 h4⟩
theorem xe_ext {call : Expr} (ho : XE X S o mo) (hv : XE X S e mv) (hp : ∀ to tv, PE X o to → PE X e tv → PE X call (tBM X.K "list" (TF.rExtendT X.K) to (tCons tv tNil))) : XE X S call (mExt mo mv) := by
  obtain ⟨t, h1, h2⟩ := ho
  obtain ⟨u, h3, h4⟩ := hv
  exact ⟨_, hp t u h1 h3, cm_ext h2 h4⟩
theorem all_x {ι : Type} {Xi : ι → Cx} {K : PySem.W.Frag} {S : Sg} {e : Expr} {de : ME} (hK : ∀ i, (Xi i).K = K) (h : ∀ i, XE (Xi i) S e de) : ∃ te, (∀ i, PE (Xi i) e te) ∧ CmE K S te de := by
  have h' : ∀ i, ∃ te, PE (Xi i) e te ∧ CmE K S te de := fun i => by
    obtain ⟨te, h1, h2⟩ := h i
    exact ⟨te, h1, hK i ▸ h2⟩
  refine ⟨fun σ H Q => ∀ i, Classical.choose (h' i) σ H Q, fun i => ⟨fun pins s σ H Q I q => (Classical.choose_spec (h' i)).1.run pins s σ H Q I (q i)⟩, fun b I0 H0 M0 c δ M P nb ok p σ I H k n Q q i => (Classical.choose_spec (h' i)).2 b I0 H0 M0 c δ M P nb ok p σ I H k n Q q⟩
def XTs (X : Cx) (S : Sg) (es : List Expr) (dt : MT) : Prop := ∃ t, PTs X es t ∧ CmT X.K S t dt
theorem xts_nil : XTs X S [] mYes := ⟨_, pts_nil, fun b I0 H0 M0 c δ M P nb ok p σ I H k n Q q => q true I H M p k.re⟩
theorem xts_one {dt : MT} (h : XT X S e dt) : XTs X S [e] dt := by
  obtain ⟨t, h1, h2⟩ := h
  exact ⟨_, pts_one h1, h2⟩
theorem all_xt {ι : Type} {Xi : ι → Cx} {K : PySem.W.Frag} {S : Sg} {es : List Expr} {de : MT} (hK : ∀ i, (Xi i).K = K) (h : ∀ i, XTs (Xi i) S es de) : ∃ te, (∀ i, PTs (Xi i) es te) ∧ CmT K S te de := by
  have h' : ∀ i, ∃ te, PTs (Xi i) es te ∧ CmT K S te de := fun i => by
    obtain ⟨te, h1, h2⟩ := h i
    exact ⟨te, h1, hK i ▸ h2⟩
  refine ⟨fun σ H Q => ∀ i, Classical.choose (h' i) σ H Q, fun i => ⟨fun pins s σ H Q I q => (Classical.choose_spec (h' i)).1.run pins s σ H Q I (q i)⟩, fun b I0 H0 M0 c δ M P nb ok p σ I H k n Q q i => (Classical.choose_spec (h' i)).2 b I0 H0 M0 c δ M P nb ok p σ I H k n Q q⟩
theorem xe_lc {elt : Expr} {ifs : List Expr} {scope : Scope} {own : List (Str × Nat)} {Rl : Rel} {is : List Nat} {kd : LcK} {di : MI} {tf : Tf} {dt : MT} {de : ME} (hc : X.calm = true) (hN : X.N.Nodup) (hi : XI X S Rl tg iter di) (ok : BlkOk X.N X.env.scope scope own) (ho : TfOk S.n tf) (hM : TfM tf) (hg : ∀ q : Blk, JG (Xb X scope q) S Rl is tg tf) (his : ∀ v ∈ is, v ∈ own.map (·.2))
    (ht : ∀ q : Blk, XTs (Xb X scope q) S.no ifs dt) (he : ∀ q : Blk, XE (Xb X scope q) S.no elt de) (hs : ∀ x, foldedSetIterable iter X.env x = pure x := by intro _; rfl) : XE X S (.ListComp elt [⟨tg, iter, ifs, 0⟩] scope pos) (mLc kd di tf dt de (own.map (·.2))) := by
  obtain ⟨wi, i1, i2⟩ := hi
  obtain ⟨g, g1, g2⟩ := all_g (Xi := Xb X scope) (K := X.K) (fun _ => rfl) hg
  obtain ⟨tt, t1, t2⟩ := all_xt (Xi := Xb X scope) (K := X.K) (fun _ => rfl) ht
  obtain ⟨te, e1, e2⟩ := all_x (Xi := Xb X scope) (K := X.K) (fun _ => rfl) he
  exact ⟨_, pe_lc hc hN i1 ok (fun s H C cl fp => g1 (s, H, C, cl, fp)) (fun s H C cl fp => t1 (s, H, C, cl, fp)) (fun s H C cl fp => e1 (s, H, C, cl, fp)) hs, cm_lc i2 ho hM g2 his t2 e2⟩
theorem xs_setLc {i : Nat} {y : Str} {py : Pos} {elt : Expr} {ifs : List Expr} {scope : Scope} {own : List (Str × Nat)} {spos : Pos} {Rl : Rel} {is : List Nat} {kd : LcK} {di : MI} {tf : Tf} {dt : MT} {de : ME} (hc : X.calm = true) (hN : X.N.Nodup) (hy : X.N[i]? = some y) (hyl : X.env.scope.names.lookup y = some .local)
    (hsw : swapsWith (.ListComp elt [⟨tg, iter, ifs, 0⟩] scope pos) (some (.Name y py)) spos.line X.env = pure true) (hin : i < S.n) (hi : XI X S Rl tg iter di) (ok : BlkOk X.N X.env.scope scope own) (ho : TfOk S.n tf) (hM : TfM tf) (hg : ∀ q : Blk, JG (Xb X scope q) S Rl is tg tf) (his : ∀ v ∈ is, v ∈ own.map (·.2))
    (ht : ∀ q : Blk, XTs (Xb X scope q) S.no ifs dt) (he : ∀ q : Blk, XE (Xb X scope q) S.no elt de) (hs : ∀ x, foldedSetIterable iter X.env x = pure x := by intro _; rfl) :
    XS X S (.Assign [.Name y py] (.ListComp elt [⟨tg, iter, ifs, 0⟩] scope pos) spos) (mAsg i (mLc kd di tf dt de (own.map (·.2)))) := by
  obtain ⟨wi, i1, i2⟩ := hi
  obtain ⟨g, g1, g2⟩ := all_g (Xi := Xb X scope) (K := X.K) (fun _ => rfl) hg
  obtain ⟨tt, t1, t2⟩ := all_xt (Xi := Xb X scope) (K := X.K) (fun _ => rfl) ht
  obtain ⟨te, e1, e2⟩ := all_x (Xi := Xb X scope) (K := X.K) (fun _ => rfl) he
  exact ⟨_, ps_setLc hc hN hy hyl hsw i1 ok (fun s H C cl fp => g1 (s, H, C, cl, fp)) (fun s H C cl fp => t1 (s, H, C, cl, fp)) (fun s H C cl fp => e1 (s, H, C, cl, fp)) hs, cms_asg hin (cm_lc i2 ho hM g2 his t2 e2)⟩
end
end DM
namespace DM
open PySem PySem.Spec PyProof.Rows L2 RZ DL DW
theorem jo_mulE {X : Cx} (kl : KL X.K) : JOp X (binaryOp .Mult) oMulE := by
  obtain ⟨r, h1, h2⟩ := jo_mul (X := X) kl
  refine ⟨_, opr_or TF.op_repE h1, fun b x y P p => ?_⟩
  unfold oMulE at p
  split at p
  · rename_i k
    intro H0 I H v w kk r1 r2 Q q
    obtain ⟨a, xs, rfl, hs, hd⟩ := tup_read kk.s r1
    cases hd
    exact .inl ⟨a, k, rfl, int_read r2, hs, p.1.1, p.1.2, q _ _ I H p.2 kk.re r1⟩
  · exact fun H0 I H v w kk r1 r2 Q q => .inr (h2 b _ _ P p H0 I H v w kk r1 r2 Q q)
def gNames : List Nat → TGs
  | [] => gNil
  | i :: is => gCons (gName i) (gNames is)
theorem gNames_ok {K : PySem.W.Frag} {b : Bg} {I : Hp} {H : Hp} {Q : L2.St → Hp → Prop} : ∀ {is : List Nat} {vs : List V} {rs : List DV} {σ : L2.St} {δ : En}, Paired (VB K b I) vs rs → rs.length = is.length → EnvM K b I σ δ → (∀ i ∈ is, i < δ.length) →
    (∀ σ', EnvM K b I σ' (setAll is rs δ) → Q σ' H) → gNames is vs σ H Q
  | [], _, _, σ, δ, h, hl, en, _, q => by
    cases h with
    | nil => exact ⟨rfl, q σ en⟩
    | cons _ _ => cases hl
  | i :: is, _, _, σ, δ, h, hl, en, hi, q => by
    cases h with
    | nil => cases hl
    | @cons v r vs rs h1 h2 =>
      exact ⟨v, vs, rfl, gNames_ok h2 (by simpa using hl) (en.set (hi i (List.mem_cons_self ..)) h1) (fun j hj => by rw [List.length_set]; exact hi j (List.mem_cons_of_mem _ hj)) q⟩
theorem setAll_len : ∀ (is : List Nat) (rs : List DV) (δ : En), (setAll is rs δ).length = δ.length
  | [], _, _ => rfl
  | _ :: _, [], _ => rfl
  | i :: is, r :: rs, δ => by
    show (setAll is rs _).length = _
    rw [setAll_len is rs, List.length_set]
theorem cms_parG {K : PySem.W.Frag} {S : Sg} {m : Nat} {is : List Nat} {ta : TA} {ma : MA} (hm : m ≤ 1000) (hi : ∀ i ∈ is, i < S.n) (h : CmA K S m ta ma) : CmS K S (tAsg (TF.tTupF ta) (gTup K is.length (gNames is))) (mParG is ma) := fun b I0 H0 M0 c δ M D nb ok p σ I H x en Dd a1 a2 a3 a4 =>
  h b I0 H0 M0 c δ M _ nb ok p σ I H x en _ fun rs vs I1 H1 M1 ⟨l, hl, pr⟩ x1 r1 => by
    refine ⟨Nat.le_trans (by rw [Paired.length r1, l]; exact hm) (by decide : 1000 ≤ sizeLine), fun t o ht ho => ?_⟩
    have x2 := XM.of x1.r (x1.ok.newH (o := .frz o (.tup vs)) ht)
    refine ⟨t, vs, rfl, .inl (.inr ⟨o, upd_same⟩), by rw [Paired.length r1]; exact hl, ?_⟩
    exact gNames_ok (Paired.mapP r1 fun _ _ z => z.mono x2.i) hl (en.mono (x1.i.trans x2.i)) (fun i hi' => by rw [nb]; exact hi i hi') fun σ' n' => a1 _ σ' I1 _ M1 ⟨by rw [setAll_len]; exact nb, pr⟩ (x1.trans x2) n'
theorem xs_parG {X : Cx} {S : Sg} {st : Stmt} {is : List Nat} {es : List Expr} {ma : MA} (hm : es.length ≤ 1000) (hi : ∀ i ∈ is, i < S.n) (h : XA X S es ma) (hp : ∀ ta, PA X es ta → PS X st (tAsg (TF.tTupF ta) (gTup X.K is.length (gNames is)))) : XS X S st (mParG is ma) := by
  obtain ⟨t, h1, h2⟩ := h
  exact ⟨_, hp t h1, cms_parG hm hi h2⟩
theorem law_m {K : PySem.W.Frag} {S : Sg} {b : Bg} {I H : Hp} {σ : L2.St} {c : Cm} {δ : En} {t : TS} {ds : MS} {D : Ends} (h : CmS K S t ds) (k : Ok K b I H) (n : EnvR K b H I H σ δ) (o : δ.all okS = true) (nb : δ.length = S.n) (fa : c.fa = S.fa) (hx : ∀ s fs M, ¬ c.x s fs M) (htb : S.tb b.T)
    (hd : ds c δ (fun _ => none) ⟨fun _ _ => False, fun r _ => r = dbl true, fun _ _ => False, fun _ _ => False⟩) (hq : ∀ H', D.rt (.bl true) H') : t D σ H :=
  h b I H (fun _ => none) c δ _ _ nb ⟨fa, fun s fs d I' H' M' hxx => (hx s fs M' hxx).elim, htb⟩ hd σ I H (.refl k (fun a o e => by cases e)) (.ofR n o) D
    (fun _ _ _ _ _ z _ _ => z.2.elim) (fun r v I' H' M' e _ rs => by
      subst e
      have rs : Dp K I' v (.bool true) := rs
      cases rs
      exact hq H') (fun _ _ _ _ _ z _ _ => z.2.elim) (fun _ _ _ _ _ z _ _ => z.2.elim)
end DM
namespace DM
open PySem PySem.Spec PyProof.Rows L2 RZ DL DW
theorem units1 {k : Nat} {A : Around} (h : Room k A) : A.units + 1 < cLine := by
  have := units65 h
  omega
theorem xs_fgt {X : Cx} {S : Sg} {st : Stmt} {d : MS} (i : Nat) (h : XS X S st d) : XS X S st (mFgt i d) := by
  obtain ⟨t, h1, h2⟩ := h
  refine ⟨t, h1, fun b I0 H0 M0 c δ M D nb ok p σ I H x en => ?_⟩
  refine h2 b I0 H0 M0 c _ M D (by rw [List.length_set]; exact nb) ok p σ I H x ⟨by rw [List.length_set]; exact en.len, fun j r e => ?_⟩
  by_cases z : i = j
  · subst z
    by_cases hl : i < δ.length
    · rw [List.getElem?_set_self hl] at e
      cases e
    · rw [List.getElem?_eq_none (by rw [List.length_set]; omega)] at e
      cases e
  · rw [List.getElem?_set_ne z] at e
    exact en.at_ j r e
end DM
namespace DM
open PySem PySem.Spec PyProof.Rows L2 RZ DL DW
theorem xi_seq {X : Cx} {S : Sg} {tg e : Expr} {me : ME} (h : XE X S e me) : XI X S (DpR X.K) tg e (mISeq me) := by
  obtain ⟨t, h1, h2⟩ := h
  refine ⟨_, pi_seqS h1, fun b I0 H0 M0 c δ M A nb ok p σ I H x en R q => ?_⟩
  refine h2 b I0 H0 M0 c δ M _ nb ok p σ I H x en _ fun r v I1 H1 M1 pr x1 rs => ?_
  split at pr
  · rename_i ds
    have rs : Dp X.K I1 v (.list ds) := rs
    cases rs with
    | @lst a xs _ hs hd => exact .inl ⟨a, xs, rfl, sl_mono x1.ok.s hs, q _ _ I1 H1 M1 pr x1 (.of (io_list hs hd))⟩
  · rename_i ds
    have rs : Dp X.K I1 v (.tuple ds) := rs
    cases rs with
    | @tup a xs _ hs hd => exact .inr (.inl ⟨a, xs, rfl, st_mono x1.ok.s hs, q _ _ I1 H1 M1 pr x1 (.of (io_tup hs hd))⟩)
  · rename_i z
    have rs : Dp X.K I1 v (.str z) := rs
    cases rs
    exact .inr (.inr ⟨z, rfl, q _ _ I1 H1 M1 pr x1 (.of io_str)⟩)
  · exact pr.elim
end DM
namespace DM
open PySem PySem.Spec PyProof.Rows L2 RZ DL DW
theorem forGoM_inv {c : Cm} {tf : Tf} {db : MS} {D : MEd} {δ : En} {M : Mem} {items : List PyData} (J : Nat → En → Mem → Prop) (h0 : J 0 δ M)
    (hs : ∀ (k : Nat) d δk Mk, items[k]? = some d → J k δk Mk → ∀ N : En → Mem → Prop, (∀ δ' M', J (k + 1) δ' M' → N δ' M') → ∃ δ', tf d δk = some δ' ∧ db c δ' Mk ⟨N, D.rt, D.nx, N⟩) (hn : ∀ δn Mn, J items.length δn Mn → D.nx δn Mn) : forGoM c tf db D items δ M := by
  have go : ∀ (l : List PyData) (k : Nat) (δk : En) (Mk : Mem), items.drop k = l → J k δk Mk → k + l.length = items.length → forGoM c tf db D l δk Mk := by
    intro l
    induction l with
    | nil =>
      intro k δk Mk _ hj hl
      have e : k = items.length := by simpa using hl
      subst e
      exact hn δk Mk hj
    | cons d l ih =>
      intro k δk Mk hd hj hl
      have hk : k < items.length := by
        rw [List.length_cons] at hl
        omega
      have e := List.drop_eq_getElem_cons hk
      rw [e] at hd
      injection hd with h1 h2
      have hg : items[k]? = some d := by rw [List.getElem?_eq_getElem hk, h1]
      obtain ⟨δ', e1, e2⟩ := hs k d δk Mk hg hj (forGoM c tf db D l) fun δ'' M'' hj' => ih (k + 1) δ'' M'' h2 hj' (by
        rw [List.length_cons] at hl
        omega)
      unfold forGoM
      rw [e1]
      exact e2
  exact go items 0 δ M rfl h0 (by simp)
theorem lcM_map {β : Type} {step : PyData → Mem → (Option DV → Mem → Prop) → Prop} {P : List DV → Mem → Prop} {M : Mem} {l : List β} {gI : β → PyData} (g : β → DV)
    (h : ∀ x ∈ l, ∀ k : Option DV → Mem → Prop, k (some (g x)) M → step (gI x) M k) (hP : P (l.map g) M) : lcGoM step (l.map gI) M P := by
  induction l generalizing P with
  | nil => exact hP
  | cons x l ih =>
    show step (gI x) M _
    exact h x (List.mem_cons_self ..) _ (ih (fun y hy => h y (List.mem_cons_of_mem _ hy)) hP)
theorem dats_of {β : Type} {l : List β} {g : β → PyData} : dats (l.map fun x => DV.dat (g x)) = some (l.map g) := by
  have := dats_map (l.map g)
  rw [List.map_map] at this
  exact this
theorem dicAt_mk {M : Mem} {a : Addr} {kvs : List (Key × DV)} (h : M a = some (.dic kvs)) : dicAt M (.raw (.ref a)) = some (a, kvs) := by
  unfold dicAt
  simp only [h]
theorem dicAt_mkL {M : Mem} {a : Addr} {kvs : List (Key × DV)} (h : M a = some (.dicL kvs)) : dicAt M (.raw (.ref a)) = some (a, kvs) := by
  unfold dicAt
  simp only [h]
theorem gV_map {β : Type} {l : List β} {f : β → Str} {g : β → DV} {x : Str} : gV (l.map fun r => ((Sum.inr (f r) : Key), g r)) (.inr x) = (l.find? fun r => decide (f r = x)).map g := by
  unfold gV
  induction l with
  | nil => rfl
  | cons r l ih =>
    rw [List.map_cons]
    by_cases z : f r = x
    · rw [List.find?_cons_of_pos (by simp [z]), List.find?_cons_of_pos (by simp [z])]
      rfl
    · rw [List.find?_cons_of_neg (by simpa using z), List.find?_cons_of_neg (by simpa using z)]
      exact ih
theorem gPut_map {β : Type} {l : List β} {f : β → Str} {g : β → DV} {x : Str} {v : DV} {r : β} (hn : ∀ y ∈ l, f y ≠ x) (e1 : f r = x) (e2 : g r = v) : gPut (l.map fun r => ((Sum.inr (f r) : Key), g r)) (.inr x) v = (l ++ [r]).map fun r => ((Sum.inr (f r) : Key), g r) := by
  have e : gV (l.map fun r => ((Sum.inr (f r) : Key), g r)) (.inr x) = none := by
    rw [gV_map]
    have : (l.find? fun r => decide (f r = x)) = none := List.find?_eq_none.mpr fun y hy => by simpa using hn y hy
    rw [this]
    rfl
  unfold gPut
  rw [e, if_neg (by simp), List.map_append, List.map_cons, List.map_nil, e1, e2]
end DM
namespace DW
open PySem PySem.Spec PyProof.Rows L2 RZ DL
def rMulS : R2 := fun x y H Q => ∃ z n, x = .str z ∧ y = .int n ∧ MulOk z n ∧ Q (.str (Txt.mul z n)) H
theorem op_mulS {X : Cx} : OpR X (binaryOp .Mult) rMulS := by
  intro pins s σ H x y v u Q I rx ry h
  obtain ⟨z, n, rfl, rfl, hm, q⟩ := h
  obtain ⟨t, rfl⟩ := rx
  obtain ⟨t', rfl⟩ := ry
  exact SB.mul hm fun t1 k => ⟨.str (Txt.mul z n), H, I.tok _, ⟨_, rfl⟩, q⟩
def oMulS : DV → DV → DP → Prop
  | .dat (.str z), .dat (.int n), P => MulOk z n ∧ P (dstr (Txt.mul z n))
  | _, _, _ => False
theorem jo_mulS {X : Cx} : JOp X (binaryOp .Mult) oMulS := ⟨_, op_mulS, fun b x y P p => by
  unfold oMulS at p
  split at p
  · intro H0 I H v w k r1 r2 Q q
    exact ⟨_, _, str_read r1, int_read r2, p.1, q _ _ I H p.2 k.re (Dp.str _)⟩
  · exact p.elim⟩
end DW
namespace DW
open PySem PySem.Spec PyProof.Rows L2 RZ DL
end DW
namespace DW
open PySem PySem.Spec PyProof.Rows L2 RZ DL
end DW
namespace DM
open PySem PySem.Spec PyProof.Rows L2 RZ DL DW
theorem lcGoL_at {a : Addr} {xs : List DV} {step : DV → Mem → (Option DV → Mem → Prop) → Prop} {l : List DV} {M : Mem} {P : List DV → Mem → Prop} (h : lcGoL a xs step l M P) : M a = some (.lst xs) := by
  cases l with
  | nil => exact h.1
  | cons _ _ => exact h.1
theorem cm_lcL {K : PySem.W.Frag} {S : Sg} {te te2 : TE} {tt : TT} {vs : List Nat} {kd : LcK} {i : Nat} {me : ME} {dt : MT} {de : ME} (hin : i < S.n) (hiv : i ∈ vs) (hi : CmE K S te me) (ht : CmT K S.no tt dt) (he : CmE K S.no te2 de) :
    CmE K S (tLc (iList K te) (gName i) tt te2 vs) (mLcL kd me i dt de vs) := fun b I0 H0 M0 c δ M P nb ok p σ I H x n Q q => by
  obtain ⟨hv, p⟩ := p
  refine hi b I0 H0 M0 c δ M _ nb ok p σ I H x n _ fun r v I1 H1 M1 p1 x1 rs => ?_
  split at p1
  · rename_i a
    have rs : v = .ref a := rs
    subst rs
    split at p1
    · rename_i xs em
      obtain ⟨hlen, go⟩ := p1
      obtain ⟨_, nab, ho, hh, vs0, rfl, pl⟩ := x1.r a _ em
      refine ⟨a, rfl, ⟨vs0, .inl (.inl hh)⟩, fun D hD => ?_⟩
      have at_ : ∀ {I' H' : Hp} {M' : Mem}, XM K b I1 H1 M1 I' H' M' → M' a = some (.lst xs) → ∃ ws, H' a = some (.lst ws) ∧ Paired (VB K b I') ws xs := fun x' e => by
        obtain ⟨_, _, ho, hh, ws, rfl, pl⟩ := x'.r a _ e
        exact ⟨ws, hh, pl⟩
      have nDb : D ≠ b.a := x1.ok.nb hD
      have mD1 := x1.r.none hD
      have xD := XM.of x1.r (x1.ok.newH (o := .lst []) hD)
      refine lc_it (walk_listD (K := K) (a := a) (n := xs.length)) (fun i' Hk => ∃ Ik Mk acc ys, XM K b I1 H1 M1 Ik Hk Mk ∧ Ik D = none ∧ Mk D = none ∧ Hk D = some (.lst acc) ∧ Paired (VB K b Ik) acc ys ∧ acc.length ≤ i' ∧ lcGoL a xs (lcStepL i dt de c δ) (xs.drop i') Mk fun zs M' => lcFin kd P (ys ++ zs) M') ?_ (fun i' Hk _ ⟨Ik, Mk, acc, ys, e, _, _, _, _, _, g⟩ => ?_) ?_ ?_
      · exact ⟨I1, M1, [], [], xD, x1.ok.inone hD, mD1, upd_same, .nil, Nat.le_refl _, go⟩
      · obtain ⟨ws, h1, h2⟩ := at_ e (lcGoL_at g)
        exact ⟨ws, .inl (.inl h1), Paired.length h2⟩
      · rintro k u Hk Hk' hk ⟨Ik, Mk, acc, ys, e, iD, mD, aD, hd, al, go'⟩ ⟨rfl, hy⟩
        obtain ⟨ws, h1, h2⟩ := at_ e (lcGoL_at go')
        obtain ⟨z, hz, ruz⟩ := paired_len_at h2 (hy ws (.inl (.inl h1)))
        have hz2 : xs[k] = z := (List.getElem?_eq_some_iff.mp hz).2
        rw [List.drop_eq_getElem_cons hk, hz2] at go'
        obtain ⟨ea, go'⟩ := go'
        have n3 : EnvM K b Ik (wipe σ vs) δ := (n.mono (x1.i.trans e.i)).wipe hv
        have n2 : EnvM K b Ik ((wipe σ vs).set i (some u)) (δ.set i (some z)) := n3.set (by rw [nb]; exact hin) ruz
        have nb' : (δ.set i (some z)).length = S.n := by rw [List.length_set]; exact nb
        unfold lcStepL at go'
        refine ⟨?_, ?_⟩
        · rw [wipe_eq (σ := wipe σ vs) (τ := (wipe σ vs).set i (some u)) (by rw [List.length_set]) (fun j hj => by rw [List.getElem?_set_ne (fun z => by subst z; exact hj hiv)])]
          exact wipe_eq (wipe_length _ _) fun j hj => wipe_out hj
        · refine ht b I0 H0 M0 c.no _ Mk _ nb' ok.no go' _ Ik Hk' (x.trans (x1.trans e)) n2 _ fun t I4 H4 M4 pc e4 => ?_
          have e14 := e.trans e4
          have iD4 : I4 D = none := e4.n D _ iD mD aD lst_tbl
          have mD4 : M4 D = none := e4.m D _ mD aD lst_tbl
          have aD4 : H4 D = some (.lst acc) := e4.h D _ nDb lst_tbl mD aD
          have hd4 := Paired.mapP hd fun _ _ z => VB.mono e4.i z
          cases t with
          | false =>
            rw [if_neg (by decide)] at pc
            rw [if_neg (by decide)]
            exact ⟨I4, M4, acc, ys, e14, iD4, mD4, aD4, hd4, by omega, pc⟩
          | true =>
            rw [if_pos rfl] at pc
            rw [if_pos rfl]
            refine he b I0 H0 M0 c.no _ M4 _ nb' ok.no pc _ I4 H4 (x.trans (x1.trans e14)) (n2.mono e4.i) _ fun r y I5 H5 M5 pr e5 rs => ?_
            have iD5 : I5 D = none := e5.n D _ iD4 mD4 aD4 lst_tbl
            have mD5 : M5 D = none := e5.m D _ mD4 aD4 lst_tbl
            have aD5 : H5 D = some (.lst acc) := e5.h D _ nDb lst_tbl mD4 aD4
            refine ⟨acc, aD5, Nat.lt_of_lt_of_le (by omega : acc.length < 100000) (by decide : 100000 ≤ sizeLine), I5, M5, acc ++ [y], ys ++ [r], XM.mutH (e14.trans e5) hD iD5 mD5 nDb aD5, iD5, mD5, upd_same, DM.paired_snoc rs (Paired.mapP hd4 fun _ _ z => VB.mono e5.i z), by rw [List.length_append]; simp; omega, ?_⟩
            have ez : (fun zs M' => lcFin kd P (ys ++ [r] ++ zs) M') = fun zs M' => lcFin kd P (ys ++ r :: zs) M' := by
              funext zs M'
              rw [List.append_assoc]
              rfl
            rw [ez]
            exact pr
      · rintro Hk ⟨Ik, Mk, acc, ys, e, iD, mD, aD, hd, al, go'⟩
        rw [List.drop_length] at go'
        obtain ⟨_, go'⟩ := go'
        rw [List.append_nil] at go'
        exact lcFin_ok e hD iD mD nDb aD hd go' fun r v I' H' M' pr x2 rs => q r v I' H' M' pr (x1.trans x2) rs
    · exact p1.elim
  · exact p1.elim
section
variable {X : Cx} {S : Sg} {tg iter : Expr} {me : ME} {pos : Pos}
theorem xe_lcL {elt : Expr} {ifs : List Expr} {scope : Scope} {own : List (Str × Nat)} {i : Nat} {kd : LcK} {dt : MT} {de : ME} (hc : X.calm = true) (hN : X.N.Nodup) (hi : XE X S iter me) (ok : BlkOk X.N X.env.scope scope own) (hin : i < S.n) (hiv : i ∈ own.map (·.2)) (hg : ∀ q : Blk, PG (Xb X scope q) tg (gName i))
    (ht : ∀ q : Blk, XTs (Xb X scope q) S.no ifs dt) (he : ∀ q : Blk, XE (Xb X scope q) S.no elt de) (hs : ∀ x, foldedSetIterable iter X.env x = pure x := by intro _; rfl) : XE X S (.ListComp elt [⟨tg, iter, ifs, 0⟩] scope pos) (mLcL kd me i dt de (own.map (·.2))) := by
  obtain ⟨wi, i1, i2⟩ := hi
  obtain ⟨tt, t1, t2⟩ := all_xt (Xi := Xb X scope) (K := X.K) (fun _ => rfl) ht
  obtain ⟨te, e1, e2⟩ := all_x (Xi := Xb X scope) (K := X.K) (fun _ => rfl) he
  exact ⟨_, pe_lc hc hN (pi_list i1) ok (fun s H C cl fp => hg (s, H, C, cl, fp)) (fun s H C cl fp => t1 (s, H, C, cl, fp)) (fun s H C cl fp => e1 (s, H, C, cl, fp)) hs, cm_lcL hin hiv i2 t2 e2⟩
theorem xs_setLcL {j : Nat} {y : Str} {py : Pos} {elt : Expr} {ifs : List Expr} {scope : Scope} {own : List (Str × Nat)} {spos : Pos} {i : Nat} {kd : LcK} {dt : MT} {de : ME} (hc : X.calm = true) (hN : X.N.Nodup) (hy : X.N[j]? = some y) (hyl : X.env.scope.names.lookup y = some .local)
    (hsw : swapsWith (.ListComp elt [⟨tg, iter, ifs, 0⟩] scope pos) (some (.Name y py)) spos.line X.env = pure true) (hjn : j < S.n) (hi : XE X S iter me) (ok : BlkOk X.N X.env.scope scope own) (hin : i < S.n) (hiv : i ∈ own.map (·.2)) (hg : ∀ q : Blk, PG (Xb X scope q) tg (gName i))
    (ht : ∀ q : Blk, XTs (Xb X scope q) S.no ifs dt) (he : ∀ q : Blk, XE (Xb X scope q) S.no elt de) (hs : ∀ x, foldedSetIterable iter X.env x = pure x := by intro _; rfl) :
    XS X S (.Assign [.Name y py] (.ListComp elt [⟨tg, iter, ifs, 0⟩] scope pos) spos) (mAsg j (mLcL kd me i dt de (own.map (·.2)))) := by
  obtain ⟨wi, i1, i2⟩ := hi
  obtain ⟨tt, t1, t2⟩ := all_xt (Xi := Xb X scope) (K := X.K) (fun _ => rfl) ht
  obtain ⟨te, e1, e2⟩ := all_x (Xi := Xb X scope) (K := X.K) (fun _ => rfl) he
  exact ⟨_, ps_setLc hc hN hy hyl hsw (pi_list i1) ok (fun s H C cl fp => hg (s, H, C, cl, fp)) (fun s H C cl fp => t1 (s, H, C, cl, fp)) (fun s H C cl fp => e1 (s, H, C, cl, fp)) hs, cms_asg hjn (cm_lcL hin hiv i2 t2 e2)⟩
end
end DM
namespace DW
open PySem PySem.Spec PyProof.Rows L2 RZ DL
end DW
namespace DM
open PySem PySem.Spec PyProof.Rows L2 RZ DL DW
end DM
namespace DM
open PySem PySem.Spec PyProof.Rows L2 RZ DL DW
def tMethKw (C : Addr) (m : Str) (n mm : Nat) (sp : Sp) (gV : List V → List V → List V) (E : XK) (ta : TE) (t tk : TA) : TE := fun σ H Q => ta σ H fun x H1 => ∃ a dx fs, x = .ref a ∧ H1 a = some (.ins C dx fs) ∧ fs.lookup m = none ∧ t σ H1 fun vs H2 => tk σ H2 fun zs H3 => vs.length = n ∧ zs.length = mm ∧ sp (gV (.ref a :: vs) zs) H3 Q E
section
variable {X : Cx} {CX : CXT} {k n : Nat} {f C : Addr} {fd : FuncData} {ps ks : List Str} {sp : Sp} {E : XK} {m : Str} {apos pos : Pos} {o e : Expr} {es : List Expr} {kws : List Keyword} {ta : TE} {t tk : TA} {g : List Value → List Value → List Value} {gV : List V → List V → List V}
theorem pe_methKw0 {pl : Sem Bool} (he : PE X o ta) (c : Cls X.K C) (hm : Meth X.K C m f) (F : FnOk X.prog X.w X.K X.mg X.base CX k f fd ps sp) (hr : Room k X.A) (hb : KBn X.K fd ps 1 ks g gV) (hx : Passes CX X E) (hkw : PK X kws tk)
    (hall : (backToKw pos (keywordEach kws X.env)).all (·.1.isSome) = true := by rfl) (hks : (backToKw pos (keywordEach kws X.env)).filterMap (·.1) = ks := by rfl)
    (hpl : ((backTo pos (starEach [] X.env)).any (·.1) || (backToKw pos (keywordEach kws X.env)).any (·.1.isNone)) = false := by rfl)
    (ht : eval (.Call (.Attribute o m apos) [] kws pos) X.env = (do
      let ov ← eval o X.env
      standAt apos.atName
      let (f, first) ← holding [ov] (getMethod ov m pl)
      callWith pos f first (backTo pos (starEach [] X.env)) (backToKw pos (keywordEach kws X.env))) := by rfl) :
    PE X (.Call (.Attribute o m apos) [] kws pos) (tMethKw C m 0 ks.length sp gV E ta tNil tk) := by
  refine ⟨fun pins s σ H Q I h => ?_⟩
  refine PySem.W.methodCall_KW (pl := pl) (thn (he.run pins s σ H _ I h) fun u s1 ⟨x, H1, I1, rx, a, dx, fs, ex, ea, l, q⟩ => ?_) ht
  subst ex
  obtain rfl : u = Value.ref a := rx
  refine getmeth_ok I1 ea c hm l ?_
  refine PySem.W.callWith_KW0 (first := [.ref a]) (h₀ := X.base) I.ok.mod.kin hm.kp hall ?_ hpl
  refine thn (hkw.run pos pins s1 σ H1 _ I1 q) fun ws s3 ⟨zs, H3, I3, rz, l1, l2, q3⟩ => ⟨I3.kIn, ?_⟩
  rw [hks]
  exact run_fnN (us := [.ref a]) (vs := [.ref a]) F hr hb hx I3 (.cons rfl .nil) rz rfl l2 q3
end
def mMethK (j : Nat) (m : Str) (W : MW) (is : List Nat) (me : ME) (ma mk : MA) : ME := fun c δ M P => me c δ M fun r M1 => match insAt M1 (c.fa j) r with
  | some (_, fs) => fs.lookup m = none ∧ ma c δ M1 fun rs M2 => mk c δ M2 fun zs M3 => W (DW.pk is (r :: rs) zs) M3 P c
  | none => False
section
variable {X : Cx} {S : Sg} {o e : Expr} {es : List Expr} {ma mk : MA} {me : ME} {pos apos : Pos} {k n : Nat} {f : Addr} {fd : FuncData} {ps ks : List Str} {kws : List Keyword} {W : MW} {tb : List (Addr × Str) → Prop} {is : List Nat}
theorem xe_methK0 {j : Nat} {m : Str} {pl : Sem Bool} (hC : Cls X.K (S.fa j)) (hm : Meth X.K (S.fa j) m f) (F : FnOk X.prog X.w X.K X.mg X.base (L2.CX X.prog X.w) k f fd ps (spM X.K S.cls S.fa tb W)) (hr : Room k X.A) (hb : KBn X.K fd ps 1 ks (DW.pk is) (DW.pk is)) (hx : Passes (L2.CX X.prog X.w) X S.E) (htb : ∀ t, S.tb t → tb t) (h : XE X S o me) (hkw : XKw X S kws mk)
    (hl : kws.length = ks.length := by rfl) (hall : (backToKw pos (keywordEach kws X.env)).all (·.1.isSome) = true := by rfl) (hks : (backToKw pos (keywordEach kws X.env)).filterMap (·.1) = ks := by rfl)
    (hpl : ((backTo pos (starEach [] X.env)).any (·.1) || (backToKw pos (keywordEach kws X.env)).any (·.1.isNone)) = false := by rfl)
    (ht : eval (.Call (.Attribute o m apos) [] kws pos) X.env = (do
      let ov ← eval o X.env
      standAt apos.atName
      let (f, first) ← holding [ov] (getMethod ov m pl)
      callWith pos f first (backTo pos (starEach [] X.env)) (backToKw pos (keywordEach kws X.env))) := by rfl) :
    XE X S (.Call (.Attribute o m apos) [] kws pos) (mMethK j m W is me mNil mk) := by
  obtain ⟨t, h1, h2⟩ := h
  obtain ⟨w, k1, k2⟩ := hkw
  refine ⟨_, pe_methKw0 h1 hC hm F hr hb hx k1 hall hks hpl ht, ?_⟩
  rw [hl] at k2
  refine fun b I0 H0 M0 c δ M P nb ok p σ I H x en Q q => ?_
  refine h2 b I0 H0 M0 c δ M _ nb ok p σ I H x en _ fun r v I1 H1 M1 pr x1 rs => ?_
  split at pr
  · rename_i aa fs ei
    rw [ok.fa] at ei
    obtain ⟨hl, pr⟩ := pr
    obtain ⟨dx, l, ev, hh, hln⟩ := meth_at x1.r ei rs hl
    refine ⟨aa, dx, l, ev, hh, hln, ?_⟩
    show w σ H1 _
    refine k2 b I0 H0 M0 c δ M1 _ nb ok pr σ I1 H1 (x.trans x1) (en.mono x1.i) _ fun ys us I3 H3 M3 ⟨l2, hw⟩ x3 r3 => ?_
    refine ⟨rfl, by rw [Paired.length r3]; exact l2, ?_⟩
    have rs3 : VB X.K b I3 v r := rs.mono x3.i
    rw [ev] at rs3
    exact call_spM ok (htb _ ok.tb) ((x.trans x1).trans x3) (pk_paired is (.cons rs3 .nil) r3) hw fun r v I' H' M' o x4 rs' => q r v I' H' M' o ((x1.trans x3).trans x4) rs'
  · exact pr.elim
end
def mToldP (aft : Nat → List (Str × V) → Option PyData) (me : ME) : ME := fun c δ M P =>
  me ⟨fun s fs M' => ∃ d, aft s fs = some d ∧ P (.dat d) M', c.fa⟩ δ M (fun r M' => match r with
    | .dat d => P (.dat (.tuple [d, .str ""])) M'
    | _ => False)
theorem xe_lamP {X : Cx} {S : Sg} {e body : Expr} {sc : Scope} {k : Nat} {Tb : List (Addr × Str)} {After : Addr → List (Str × V) → Hp → VK → Prop} {aft : Nat → List (Str × V) → Option PyData} {me : ME}
    (hpe : ∀ t : XK → TE, (∀ (A : Around) (outer : List PySem.Env) (s : Shared) (H : Hp) (E : XK) (f c' : Addr), Room k (A.deeper (LamX.lamEnv X sc s.heap.objs.size f c')) → PE (LamX.lamCx X A outer s H E sc f c') body (t E)) → PE X e (LamX.tLam Tb (TTp After) t))
    (htb : ∀ t, S.tb t → t = Tb) (haft : AftOk X.K S.cls After aft)
    (hbody : ∀ (A : Around) (outer : List PySem.Env) (s : Shared) (H : Hp) (E : XK) (f c' : Addr), Room k (A.deeper (LamX.lamEnv X sc s.heap.objs.size f c')) → XE (LamX.lamCx X A outer s H E sc f c') ⟨S.n, E, S.cls, S.fa, S.tb⟩ body me) :
    XE X S e (mToldP aft me) := by
  have h1 : ∀ E : XK, ∃ te : TE, (∀ (A : Around) (outer : List PySem.Env) (s : Shared) (H : Hp) (f c' : Addr), Room k (A.deeper (LamX.lamEnv X sc s.heap.objs.size f c')) → PE (LamX.lamCx X A outer s H E sc f c') body te) ∧ CmE X.K ⟨S.n, E, S.cls, S.fa, S.tb⟩ te me := fun E => by
    obtain ⟨te, a1, a2⟩ := all_x (ι := { q : Around × List PySem.Env × Shared × Hp × Addr × Addr // Room k (q.1.deeper (LamX.lamEnv X sc q.2.2.1.heap.objs.size q.2.2.2.2.1 q.2.2.2.2.2)) }) (Xi := fun q => LamX.lamCx X q.1.1 q.1.2.1 q.1.2.2.1 q.1.2.2.2.1 E sc q.1.2.2.2.2.1 q.1.2.2.2.2.2) (K := X.K) (S := ⟨S.n, E, S.cls, S.fa, S.tb⟩) (fun _ => rfl)
      (fun q => hbody q.1.1 q.1.2.1 q.1.2.2.1 q.1.2.2.2.1 E q.1.2.2.2.2.1 q.1.2.2.2.2.2 q.2)
    exact ⟨te, fun A outer s H f c' hr => a1 ⟨(A, outer, s, H, f, c'), hr⟩, a2⟩
  obtain ⟨t, ht⟩ := Classical.axiomOfChoice h1
  refine ⟨_, hpe t (fun A outer s H E f c' hr => (ht E).1 A outer s H f c' hr), fun b I0 H0 M0 c δ M P nb ok p σ I H x en Q q => ?_⟩
  have eT := htb _ ok.tb
  subst eT
  refine ⟨x.ok.b.2.2.1, fun H1 x1 tt => ?_⟩
  have e2 := ext_tab x.ok x1 tt
  have x2 := XM.of x.r e2
  refine (ht (XKof After Q)).2 b I H1 M ⟨fun s fs M' => ∃ d, aft s fs = some d ∧ P (.dat d) M', c.fa⟩ δ M _ nb ⟨ok.fa, fun s fs d I' H' M' hxx x3 h1 h2 h3 => ?_, ok.tb⟩ p σ I H1 x2.re (en.mono x2.i) _ fun r v I' H' M' pr x3 rs => ?_
  · obtain ⟨dd, ha, hp⟩ := hxx
    exact ⟨_, d, fs, rfl, rfl, h2, haft s fs dd ha b I' H' Q x3.ok fun v I'' H'' e4 dv => q (.dat dd) v I'' H'' M' hp ((x2.trans x3).trans (.of x3.r e4)) dv⟩
  · split at pr
    · rename_i d
      exact newT_res x3.ok (.cons rs (.cons (.str "") .nil)) fun u I4 H4 x4 du => q _ u I4 H4 M' pr ((x2.trans x3).trans (.of x3.r x4)) du
    · exact pr.elim
theorem methK_ok {j : Nat} {m : Str} {W : MW} {is : List Nat} {me : ME} {ma mk : MA} {c : Cm} {δ : En} {M M1 : Mem} {P : MP} {a : Addr} {fs : List (Str × DV)} (hme : ∀ K : MP, K (.raw (.ref a)) M1 → me c δ M K) (h : M1 a = some (.ins (c.fa j) fs)) (hl : fs.lookup m = none) (hargs : ma c δ M1 fun rs M2 => mk c δ M2 fun zs M3 => W (DW.pk is (.raw (.ref a) :: rs) zs) M3 P c) : mMethK j m W is me ma mk c δ M P := by
  unfold mMethK
  refine hme _ ?_
  rw [insAt_mk h]
  exact ⟨hl, hargs⟩
end DM
namespace DM
open PySem PySem.Spec PyProof.Rows L2 RZ DL DW
end DM
namespace L2
open PySem PySem.Spec PyProof.Rows
end L2
namespace DM
open PySem PySem.Spec PyProof.Rows L2 RZ DL DW
section
variable {X : Cx} {S : Sg} {o e : Expr} {es : List Expr} {ma : MA} {me mo mk mv : ME} {pos : Pos}
theorem XPs.run {ks : List (Option Expr)} {vs : List Expr} {ts : List (TE × TE)} {ps : List (Key × ME)} (h : XPs X S pos ks vs ts ps) : ∀ b I0 H0 M0 c δ M (P : List (Key × DV) → Mem → Prop), δ.length = S.n → Cmk X.K S b I0 H0 M0 c → mPairs ps c δ M P →
    ∀ (σ : L2.St) (I H : Hp), XM X.K b I0 H0 M0 I H M → EnvM X.K b I σ δ → ∀ Q : List (V × V) → Hp → Prop,
      (∀ kvs (l : List (Key × V)) I' H' M', kvs.length = ps.length → P kvs M' → XM X.K b I H M I' H' M' → Paired (KVB X.K b I') l kvs → Q (l.map fun kv => (kV kv.1, kv.2)) H') → tPairs ts σ H Q := by
  induction h with
  | nil =>
    intro b I0 H0 M0 c δ M P nb ok p σ I H x en Q q
    exact q [] [] I H M rfl p x.re .nil
  | @cons k v ks vs tk tv ts kk mv ps a hk cc hv t ih =>
    intro b I0 H0 M0 c δ M P nb ok p σ I H x en Q q
    refine hk σ H _ ?_
    refine hv b I0 H0 M0 c δ M _ nb ok p σ I H x en _ fun y w I1 H1 M1 p1 x1 r1 => ?_
    refine ih b I0 H0 M0 c δ M1 _ nb ok p1 σ I1 H1 (x.trans x1) (en.mono x1.i) _ fun kvs l I2 H2 M2 hl p2 x2 r2 => ?_
    exact q ((kk, y) :: kvs) ((kk, w) :: l) I2 H2 M2 (by simp [hl]) p2 (x1.trans x2) (.cons ⟨rfl, r1.mono x2.i⟩ r2)
def CmG (K : PySem.W.Frag) (S : Sg) (tg : TG) (mg : MG) : Prop := ∀ b I0 H0 M0 c δ M r P, δ.length = S.n → Cmk K S b I0 H0 M0 c → mg c δ M r P → ∀ (σ : L2.St) (I H : Hp) (v : V), XM K b I0 H0 M0 I H M → EnvM K b I σ δ → VB K b I v r → ∀ Q : L2.St → Hp → Prop,
  (∀ δ' σ' I' H' M', δ'.length = S.n → P δ' M' → XM K b I H M I' H' M' → EnvM K b I' σ' δ' → Q σ' H') → tg v σ H Q
def XG (X : Cx) (S : Sg) (e : Expr) (mg : MG) : Prop := ∃ tg, PG X e tg ∧ CmG X.K S tg mg
theorem xg_put {i : Expr} (hu : X.A.units + 1 < cLine) (ho : XE X S o me) (hk : XE X S i mk)
    (ha : ∀ v, assign (.Subscript o i pos) X.env v = (do
      let ov ← holding [v] (eval o X.env)
      let iv ← holding [v, ov] (eval i X.env)
      standAt pos
      holding [v, ov, iv] (setItem ov iv v)
      release [v, ov, iv] []) := by intro _; rfl) : XG X S (.Subscript o i pos) (mGPut me mk) := by
  obtain ⟨t, h1, h2⟩ := ho
  obtain ⟨u, h3, h4⟩ := hk
  refine ⟨_, pg_sub h1 h3 (set_dict hu) ha, fun b I0 H0 M0 c δ M y P nb ok p σ I H v x en rv Q q => ?_⟩
  refine h2 b I0 H0 M0 c δ M _ nb ok p σ I H x en _ fun r w I1 H1 M1 p1 x1 r1 => ?_
  refine h4 b I0 H0 M0 c δ M1 _ nb ok p1 σ I1 H1 (x.trans x1) (en.mono x1.i) _ fun kd z I2 H2 M2 p2 x2 r2 => ?_
  split at p2
  · rename_i a kk ek
    have r1 : w = .ref a := r1
    subst r1
    split at p2
    · rename_i kvs em
      obtain ⟨_, _, ho, hh, l, rfl, pl⟩ := x2.r a _ em
      have x12 := x1.trans x2
      refine ⟨a, _, rfl, keyD_ok ek r2 ▸ DPut.k hh (Nat.lt_of_lt_of_le (by rw [Paired.length pl]; exact p2.1) (by decide : 100000 ≤ sizeLine)), ?_⟩
      exact q δ σ I2 _ _ nb p2.2 (x12.trans (XM.mut x2.ok x2.r em ⟨_, rfl, gPut_rel pl ((rv.mono x1.i).mono x2.i)⟩)) (en.mono x12.i)
    · exact p2.elim
  · exact p2.elim
def XGs (X : Cx) (S : Sg) (es : List Expr) (gs : List MG) : Prop := ∃ tg, PGs X es tg ∧ ∀ b I0 H0 M0 c δ M rs P, δ.length = S.n → Cmk X.K S b I0 H0 M0 c → mGs gs c δ M rs P → ∀ (σ : L2.St) (I H : Hp) (vs : List V), XM X.K b I0 H0 M0 I H M → EnvM X.K b I σ δ → Paired (VB X.K b I) vs rs → ∀ Q : L2.St → Hp → Prop,
  (∀ δ' σ' I' H' M', δ'.length = S.n → P δ' M' → XM X.K b I H M I' H' M' → EnvM X.K b I' σ' δ' → Q σ' H') → tg vs σ H Q
theorem xgs_nil : XGs X S [] [] := ⟨_, pgs_nil, fun b I0 H0 M0 c δ M rs P nb ok p σ I H vs x en rv Q q => by
  cases rv with
  | nil => exact ⟨rfl, q δ σ I H M nb p x.re en⟩
  | cons _ _ => exact p.elim⟩
theorem xgs_cons {g : MG} {gs : List MG} (h : XG X S e g) (h' : XGs X S es gs) (hs : (assignEach (e :: es) X.env).map (·.2) = assign e X.env :: (assignEach es X.env).map (·.2) := by rfl) : XGs X S (e :: es) (g :: gs) := by
  obtain ⟨t, h1, h2⟩ := h
  obtain ⟨u, h3, h4⟩ := h'
  refine ⟨_, pgs_cons h1 h3 hs, fun b I0 H0 M0 c δ M rs P nb ok p σ I H vs x en rv Q q => ?_⟩
  cases rv with
  | nil => exact p.elim
  | @cons v r vs rs r1 rr =>
    refine ⟨v, vs, rfl, ?_⟩
    refine h2 b I0 H0 M0 c δ M r _ nb ok p σ I H v x en r1 _ fun δ1 σ1 I1 H1 M1 nb1 p1 x1 en1 => ?_
    exact h4 b I0 H0 M0 c δ1 M1 rs P nb1 ok p1 σ1 I1 H1 vs (x.trans x1) en1 (Paired.mapP rr fun _ _ z => z.mono x1.i) Q fun δ2 σ2 I2 H2 M2 nb2 p2 x2 en2 => q δ2 σ2 I2 H2 M2 nb2 p2 (x1.trans x2) en2
theorem xs_asgGs {st : Stmt} {ts : List Expr} {gs : List MG} {n : Nat} (hm : es.length ≤ 1000) (hg : XGs X S ts gs) (hn : gs.length = n) (h : XA X S es ma) (hp : ∀ ta tg, PA X es ta → PGs X ts tg → PS X st (tAsg (TF.tTupF ta) (gTup X.K n tg))) : XS X S st (mAsgGs gs ma) := by
  obtain ⟨t, h1, h2⟩ := h
  obtain ⟨u, h3, h4⟩ := hg
  refine ⟨_, hp t u h1 h3, fun b I0 H0 M0 c δ M D nb ok p σ I H x en Dd a1 a2 a3 a4 => ?_⟩
  refine h2 b I0 H0 M0 c δ M _ nb ok p σ I H x en _ fun rs vs I1 H1 M1 ⟨l, hl, pr⟩ x1 r1 => ?_
  refine ⟨Nat.le_trans (by rw [Paired.length r1, l]; exact hm) (by decide : 1000 ≤ sizeLine), fun t o ht ho => ?_⟩
  have x2 := XM.of x1.r (x1.ok.newH (o := .frz o (.tup vs)) ht)
  refine ⟨t, vs, rfl, .inl (.inr ⟨o, upd_same⟩), by rw [Paired.length r1, hl, hn], ?_⟩
  exact h4 b I0 H0 M0 c δ M1 rs _ nb ok pr σ I1 _ vs (x.trans (x1.trans x2)) (en.mono (x1.i.trans x2.i)) (Paired.mapP r1 fun _ _ z => z.mono x2.i) _ fun δ' σ' I' H' M' nb' p' x' en' => a1 δ' σ' I' H' M' ⟨nb', p'⟩ ((x1.trans x2).trans x') en'
end
end DM
namespace DM
open PySem PySem.Spec PyProof.Rows L2 RZ DL DW
end DM
namespace DM
open PySem PySem.Spec PyProof.Rows L2 RZ DL DW
section
variable {X : Cx} {S : Sg} {tg e : Expr} {me : ME} {st : Stmt} {ds : MS}
theorem XM.lock {K : PySem.W.Frag} {b : Bg} {I H : Hp} {M : Mem} {a : Addr} {kvs : List (Key × DV)} {l : List (Key × V)} {od : Obj} (o : Ok K b I H) (r : MR K b I H M) (h : M a = some (.dic kvs)) (pl : Paired (KVB K b I) l kvs) : XM K b I H M I (upd H a (.frz od (.dK l))) (um M a (.dicL kvs)) :=
  XM.mut o r h ⟨od, l, rfl, pl⟩
theorem XM.unlock {K : PySem.W.Frag} {b : Bg} {I H I' H' : Hp} {M M' : Mem} {a : Addr} {kvs kvs' : List (Key × DV)} {so : SO} {ho : HO} (x : XM K b I H M I' H' M') (h0 : M a = some (.dic kvs)) (h : M' a = some (.dicL kvs')) (s : SR K b I' so ho) : XM K b I H M I' (upd H' a ho) (um M' a so) := by
  obtain ⟨hi, hb, ho0, h1, s0⟩ := x.r a _ h
  obtain ⟨n, pl, tb, l, ns, x0, q, m, c, e1, sl, rr⟩ := x.ok.b
  have na : ∀ {c : Addr}, M c = none → c ≠ a := fun z y => by rw [y, h0] at z; cases z
  have ok' : Ok K b I' (upd H' a ho) := ⟨fun c u h => by rw [upd_ne (ne_of_none h hi)]; exact x.ok.s c u h, n, pl, tabs_updG tb h1 s0.tbl s0.code, l, ns, x0, q, m, c, by rw [upd_ne (fun z => hb z.symm)]; exact e1, sl, rr⟩
  refine ⟨x.i, fun c u nb t hm hh => ?_, x.n, fun c u hm hh t => ?_, fun l xs hh => ?_, ok', fun c so' hh => ?_, fun c kvs2 hh => ?_⟩
  · rw [upd_ne (na hm)]; exact x.h c u nb t hm hh
  · rw [um_ne (na hm)]; exact x.m c u hm hh t
  · obtain ⟨ys, e⟩ := x.k l xs hh
    exact ⟨ys, by rw [upd_ne (fun z => hb z.symm)]; exact e⟩
  · by_cases z : c = a
    · subst z
      rw [um_same] at hh
      cases hh
      exact ⟨hi, hb, ho, upd_same, s⟩
    · rw [um_ne z] at hh
      obtain ⟨g1, g2, ho', g3, g4⟩ := x.r c so' hh
      exact ⟨g1, g2, ho', by rw [upd_ne z]; exact g3, g4⟩
  · have z : c ≠ a := fun z => by rw [z, h0] at hh; cases hh
    rw [um_ne z, upd_ne z]
    exact x.lk c kvs2 hh
theorem xe_lock (h : XE X S e me) : XE X S e (mLockE me) := by
  obtain ⟨t, h1, h2⟩ := h
  refine ⟨_, pe_lock h1, fun b I0 H0 M0 c δ M P nb ok p σ I H x en Q q => ?_⟩
  obtain ⟨a, kvs, em, p⟩ := p
  obtain ⟨hi, hb, ho, hh, l, rfl, pl⟩ := x.r a _ em
  refine ⟨a, _, hh, True.intro, fun od => ?_⟩
  have xl := XM.lock (od := od) x.ok x.r em pl
  refine h2 b I0 H0 M0 c δ _ _ nb ok p σ I _ (x.trans xl) en _ fun r v I1 H1 M1 pr x1 rs => ?_
  obtain ⟨m1, e1⟩ := x1.lk a kvs um_same
  rw [upd_same] at e1
  exact ⟨e1, q r v I1 _ _ pr ((xl.trans x1).unlock em m1 ⟨_, rfl, Paired.mapP pl fun _ _ z => z.mono x1.i⟩) rs⟩
end
end DM
namespace DM
open PySem PySem.Spec PyProof.Rows L2 RZ DL DW
theorem xi_keys {X : Cx} {S : Sg} {tg e : Expr} {me : ME} (h : XE X S e me) : XI X S (DpR X.K) tg e (mIKeys me) := by
  obtain ⟨t, h1, h2⟩ := h
  refine ⟨_, pi_keys h1, fun b I0 H0 M0 c δ M A nb ok p σ I H x en R q => ?_⟩
  refine h2 b I0 H0 M0 c δ M _ nb ok p σ I H x en _ fun r v I1 H1 M1 pr x1 rs => ?_
  split at pr
  · rename_i a
    have rs : v = .ref a := rs
    subst rs
    split at pr
    · rename_i kvs em
      obtain ⟨_, _, ho, hh, od, l, rfl, pl⟩ := x1.r a _ em
      have hl : l.length = (kvs.map fun kv => keyPD kv.1).length := by rw [List.length_map]; exact Paired.length pl
      refine ⟨a, od, rfl, .inl ⟨l, hh, q _ (Itk a od l) _ _ _ pr x1 ⟨fun H => H a = some (.frz od (.dK l)), fun i H x H' => H' = H ∧ ∃ k v, l[i]? = some (k, v) ∧ x = kV k, ?_, ?_, ?_⟩⟩⟩
      · rw [← hl]
        exact ⟨fun i H hi g => ⟨g, hi⟩, fun H g => ⟨g, Nat.le_refl _⟩, fun i H x H' _ _ y => y⟩
      · intro I' H' M' x'
        rw [(x'.lk a kvs em).2]
        exact hh
      · rintro i I2 H2 y H' d _ ok2 ⟨rfl, k, v, e1, rfl⟩ e2
        refine ⟨I2, ok2.re, ?_⟩
        have hi : i < l.length := by
          rcases Nat.lt_or_ge i l.length with z | z
          · exact z
          · rw [List.getElem?_eq_none z] at e1; cases e1
        rw [List.getElem?_map] at e2
        cases ek : kvs[i]? with
        | none => rw [ek] at e2; cases e2
        | some kv =>
          rw [ek] at e2
          cases e2
          obtain ⟨u, g1, g2⟩ := paired_get pl ek
          rw [e1] at g1
          cases g1
          have g3 : k = kv.1 := g2.1
          rw [g3]
          exact keyPD_ok _
    · exact pr.elim
  · exact pr.elim
end DM
namespace DM
open PySem PySem.Spec PyProof.Rows L2 RZ DL DW
end DM
namespace DM
open PySem PySem.Spec PyProof.Rows L2 RZ DL DW
end DM
namespace DM
open PySem PySem.Spec PyProof.Rows L2 RZ DL DW
end DM
namespace PySem
open Sem (wp)
end PySem
namespace DW
open PySem PySem.Spec PyProof.Rows L2 RZ DL LamX
end DW
namespace DM
open PySem PySem.Spec PyProof.Rows L2 RZ DL DW
end DM
namespace OEL
open PySem PySem.Spec PySem.W PySem.Calls PyProof.Rows L2
theorem base_V : Base "ValueError" "ValueError.__new__" "ValueError.__init__" tlV := ⟨PySem.F.excBase_ValueError, PySem.F.store_ValueError⟩
section
variable {X : Cx} {B nid iid : String} {tl : List Value} {p pos : Pos}
theorem pmk_of0 {CX : CXT} {x : Str} {C fI : Addr} {k : Nat} {fd : FuncData} {ps : List Str} {sp : Sp} {zs : List Value} {ys : List V} (b : Base B nid iid tl) (T : Of X.K C nid tl) (iC : findIn X.K (.ref C) "__init__" = some (some (.ref fI))) (tI : typeIn X.K (.ref fI) = some (.type "function"))
    (F1 : FnOk X.prog X.w X.K X.mg X.base CX k fI fd ps sp) (hr : Room (k + 1) X.A) (hb : Binds X.K fd ps zs) (hd : Vals ys zs) (hx : Passes CX X (fun _ _ _ => False)) (hg : Gl X x) (hm : X.mg x = some (.ref C))
    (hdb : (x == ("__debug__" : Str)) = false := by decide) :
    PMk X (.Call (.Name x p) [] [] pos) (tMkO C sp ys tNil) := by
  obtain ⟨nm, q, N, bs, bm, sn, sub, ab, col, dd, k0, k1, k2, k3, k5, hC, _, hbm⟩ := T.told
  intro pins s σ H Q I h
  refine wpAny_Call_Name_kw (ld_glob I hg hm ?_ hdb)
  refine callWith_K0 I.kIn T.kC ?_
  obtain ⟨hp, g, dr, tk, os⟩ := s
  obtain ⟨hz, q1⟩ := h
  obtain ⟨us, r1, eu⟩ : ∃ us : List Value, Vals [] us ∧ us = [] := ⟨[], .nil, rfl⟩
  show wpAny _ _ (call (.ref C) []) _ _ _
  rw [← eu]
  have fresh : hp.objs.size ≤ hp.objs.size + 1 := Nat.le_succ _
  have free := I.hok.fresh fresh
  have wish := q1 (hp.objs.size + 1) free
  have kept : ∀ c o, hp.get? c = some o → ((hp.push (kdv_tup us)).push (PySem.HandSPX.excO C hp.objs.size)).get? c = some o := fun c o z => Heap.get?_push_of_some _ (Heap.get?_push_of_some _ z)
  have lies : ((hp.push (kdv_tup us)).push (PySem.HandSPX.excO C hp.objs.size)).get? (hp.objs.size + 1) = some (PySem.HandSPX.excO C hp.objs.size) := by heap_get
  have J : Inv X pins σ (upd H (hp.objs.size + 1) (exo (hp.objs.size + 1) C none)) ⟨(hp.push (kdv_tup us)).push (PySem.HandSPX.excO C hp.objs.size), g, dr, tk, os⟩ := I.laid (t' := tk) kept fresh (exo_ok lies)
  have args : Vals (V.ref (hp.objs.size + 1) :: (([] : List V) ++ ys)) (Value.ref (hp.objs.size + 1) :: (us ++ zs)) := .cons rfl (r1.append hd)
  have count : (Value.ref (hp.objs.size + 1) :: us ++ zs).length = ps.length := (args.length.symm.trans (F1.len _ _ _ _ wish))
  have short : us.length ≤ sizeLine := by rw [eu]; exact Nat.zero_le _
  have went := F1.run _ X.stack _ _ ⟨Value.ref (hp.objs.size + 1) :: us, []⟩ (Value.ref (hp.objs.size + 1) :: (us ++ zs)) _ _ (fun _ _ _ => False) (hr.make C us []) (J.env0.make C us []) (hb _ (Value.ref (hp.objs.size + 1) :: us) J.kIn count) args wish
  refine wpAny_call (PySem.HandSPX.call_own b.fb (fun Y => excTail_contains Y bm hbm) (I.kIn _ _ hC) (looks_findIn I.kIn iC) (fun self => bind_fn I.kIn self tI) short (codeAny_mono went ?_))
  intro r s' z
  cases r with
  | error er => exact hx pins σ _ _ er s' J z
  | ok fl =>
    cases fl with
    | next => exact False.elim z
    | brk => exact False.elim z
    | cont => exact False.elim z
    | ret u =>
      obtain ⟨v, H2, os2, bare, un, hok, rv, ev, d, fs, ea, ed, hd1, q2⟩ := z
      subst ev
      obtain ⟨h2, g2, d2, t2, os'⟩ := s'
      exact ⟨rv, mk_end (raises_own T.exC T.tyC) I fresh kept un hok os2 bare ea ed hd1 q2⟩
end
end OEL
namespace DW
open PySem PySem.Spec PyProof.Rows L2 RZ DL
theorem js_raise0 {X : Cx} {S : Sg} {st : Stmt} {x : Nat} {mk : List V → List (Str × V)} (hp : PS X st (fun _ σ H => tMkO (S.cls x) (spInit (S.cls x) 0 mk) [] tNil σ H fun cls d H' => S.E cls d H')) : JS X S st (dRaise x mk dNil) :=
  ⟨_, hp, cs_raise (by decide) ca_nil⟩
end DW
namespace DM
open PySem PySem.Spec PyProof.Rows L2 RZ DL DW
end DM
set_option maxHeartbeats 1000000
namespace DM
open PySem PySem.Spec PyProof.Rows L2 RZ DL DW
end DM
set_option maxHeartbeats 4000000
namespace SP
open PySem PySem.Spec PyProof.Rows L2 Builtin
section
variable {prog : Program} {w : World} {A : Around} {E : Value → Shared → Prop} {s : Shared} {K : PySem.W.Frag} {x C f : Addr} {ox : Obj} {od : Option Obj}
theorem len_fn {Q : Value → Shared → Prop} (X : K.In s.heap) (I : PySem.W.InstAt s.heap x ox C od) (hs : PySem.W.findIn K (.ref C) "__len__" = some (some (.ref f))) (hf : PySem.W.isFn K (.ref f) = true)
    (h : wpAny (model prog w) A.in1 (call (.ref f) [.ref x]) (fun r s' => ∃ n u, r = Value.int n u ∧ 0 ≤ n ∧ n < 2 ^ 63 ∧ Q (.int n s'.toks) { s' with toks := s'.toks + 1 }) E s) :
    wpAny (model prog w) A (call (.builtin "len") [.ref x]) Q E s := by
  refine Calls.call_function_entry kind_len plain_len entry_len (args_len1 _) ?_
  unfold Builtin.«len»
  refine wpAny_bind (m := oneArg "len" _) (wpAny_pure ?_)
  refine wpAny_bind (m := callSpecial? (.ref x) (Str.ofString "__len__")) (PySem.W.special_fn X I hs (beq_iff_eq.mp hf) (wpAny_mono h (fun r s' hr => ?_) fun _ _ y => y))
  obtain ⟨n, u, rfl, h0, h1, hq⟩ := hr
  refine wpAny_bind (wpAny_holding (wpAny_pure ?_))
  refine wpAny_bind (wpAny_letGo ?_)
  show wpAny _ _ (if n < 0 then _ else _) _ _ _
  rw [if_neg (by omega)]
  show wpAny _ _ (if n ≥ 2 ^ 63 then _ else _) _ _ _
  rw [if_neg (by omega)]
  exact wpAny_bind (wpAny_mkInt (wpAny_pure ⟨_, rfl, hq⟩))
theorem repr_fn {Q : Value → Shared → Prop} (X : K.In s.heap) (I : PySem.W.InstAt s.heap x ox C od) (hs : PySem.W.findIn K (.ref C) "__repr__" = some (some (.ref f))) (hf : PySem.W.isFn K (.ref f) = true) (hu : A.in1.units < cLine)
    (h : wpAny (model prog w) A.in1 (call (.ref f) [.ref x]) (fun r s' => ∃ m tk, r = Value.str m tk ∧ Q (.str m tk) s') E s) :
    wpAny (model prog w) A (call (.builtin "repr") [.ref x]) Q E s := by
  refine Calls.call_function_entry F.kind_repr F.plain_repr F.entry_repr (F.args_repr1 _) ?_
  unfold Builtin.«repr»
  refine wpAny_bind (m := oneArg "repr" _) (wpAny_pure ?_)
  refine wpAny_bind (wpAny_cRoomFor hu ?_)
  refine wpAny_bind (m := specialOf (.ref x) (Str.ofString "__repr__")) (wpAny_bind (I.type.here ((PySem.W.looks_findIn X hs).here ?_)))
  show wpAny _ _ (if (some (Value.ref f)).isNone = true then _ else _) _ _ _
  rw [if_neg (by simp)]
  refine wpAny_bind (m := callSpecialIfBound? (.ref x) (Str.ofString "__repr__") _) (PySem.W.ifBound_K X I hs hf (wpAny_mono h (fun r s' hr => ?_) fun _ _ y => y))
  obtain ⟨m, tk, rfl, hq⟩ := hr
  refine wpAny_bind (wpAny_isInstance (typeIs_str _ _ _) isSubtype_str_str ?_)
  first
    | exact wpAny_pure ⟨_, rfl, hq⟩
    | (rw [if_pos rfl]; exact wpAny_pure ⟨_, rfl, hq⟩)
    | (simp only [if_true]; exact wpAny_pure ⟨_, rfl, hq⟩)
end
end SP
namespace DM
open PySem PySem.Spec PyProof.Rows L2 RZ DL DW
section
variable {X : Cx} {CX : CXT} {C g : Addr} {n : Nat} {sp : Sp} {E : XK}
def rLenI (C : Addr) (sp : Sp) (E : XK) : List V → Hp → VK → Prop := fun xs H Q => ∃ a dx l, xs = [V.ref a] ∧ H a = some (.ins C dx l) ∧ sp [.ref a] H (fun z H' => ∃ i : Int, z = .int i ∧ 0 ≤ i ∧ i < 2 ^ 63 ∧ Q (.int i) H') E
theorem call_lenI (hs : PySem.W.findIn X.K (.ref C) "__len__" = some (some (.ref g))) (hf : PySem.W.isFn X.K (.ref g) = true) (F : FnR X.prog X.w X.K X.mg X.base CX n g sp) (hr : Room (n + 1) X.A) (hx : Passes CX X E) : CallR X (.builtin "len") (rLenI C sp E) := by
  intro pins s σ H xs us Q I r h
  obtain ⟨a, dx, l, rfl, hsl, q⟩ := h
  obtain ⟨u, rfl, ru⟩ := r.one
  cases (show u = Value.ref a from ru)
  obtain ⟨mA, J, _⟩ := ins_get I.hok hsl
  obtain ⟨od, J, _⟩ := J.look
  have hr2 : Room n X.A.in1 := Room.in1 hr
  refine SP.len_fn I.kIn J hs hf (wpAny_mono (wpAny_call (SlX.run_at (us := [.ref a]) (ws := [.ref a]) F hr2 I.env0.in1 hx I (.cons rfl .nil) q)) (fun w s' z => ?_) fun _ _ x => x)
  obtain ⟨z', H', I', rz, i, ei, h0, h1, qz⟩ := z
  subst ei
  obtain ⟨t, e⟩ := (show ∃ t, w = Value.int i t from rz)
  cases e
  exact ⟨i, t, rfl, h0, h1, .int i, H', I'.tok _, ⟨_, rfl⟩, qz⟩
def rTxtI (C : Addr) (sp : Sp) (E : XK) : List V → Hp → VK → Prop := fun xs H Q => ∃ a dx l, xs = [V.ref a] ∧ H a = some (.ins C dx l) ∧ sp [.ref a] H (fun z H' => ∃ y : Str, z = .str y ∧ Q (.str y) H') E
theorem call_reprI (hs : PySem.W.findIn X.K (.ref C) "__repr__" = some (some (.ref g))) (hf : PySem.W.isFn X.K (.ref g) = true) (F : FnR X.prog X.w X.K X.mg X.base CX n g sp) (hr : Room (n + 1) X.A) (hx : Passes CX X E) : CallR X (.builtin "repr") (rTxtI C sp E) := by
  intro pins s σ H xs us Q I r h
  obtain ⟨a, dx, l, rfl, hsl, q⟩ := h
  obtain ⟨u, rfl, ru⟩ := r.one
  cases (show u = Value.ref a from ru)
  obtain ⟨mA, J, _⟩ := ins_get I.hok hsl
  obtain ⟨od, J, _⟩ := J.look
  have hr2 : Room n X.A.in1 := Room.in1 hr
  refine SP.repr_fn I.kIn J hs hf hr2.units0 (wpAny_mono (wpAny_call (SlX.run_at (us := [.ref a]) (ws := [.ref a]) F hr2 I.env0.in1 hx I (.cons rfl .nil) q)) (fun w s' z => ?_) fun _ _ x => x)
  obtain ⟨z', H', I', rz, y, ei, qz⟩ := z
  subst ei
  obtain ⟨t, e⟩ := (show ∃ t, w = Value.str y t from rz)
  cases e
  exact ⟨y, t, rfl, .str y, H', I', ⟨_, rfl⟩, qz⟩
end
section
variable {X : Cx} {S : Sg} {a b e : Expr} {es : List Expr} {ma mb : ME} {ms : MA} {me : ME} {pos p : Pos} {x : Str} {k j : Nat} {f : Addr} {fd : FuncData} {ps : List Str} {W : MW} {tb : List (Addr × Str) → Prop}
def mLenO (j : Nat) (W : MW) (ma : MA) : ME := fun c δ M P => ma c δ M fun rs M1 => match rs with
  | [r] => (match insAt M1 (c.fa j) r with
    | some _ => W [r] M1 (fun z M2 => ∃ i : Int, z = .dat (.int i) ∧ 0 ≤ i ∧ i < 2 ^ 63 ∧ P (.dat (.int i)) M2) c
    | none => False)
  | _ => False
def mTxtO (j : Nat) (W : MW) (ma : MA) : ME := fun c δ M P => ma c δ M fun rs M1 => match rs with
  | [r] => (match insAt M1 (c.fa j) r with
    | some _ => W [r] M1 (fun z M2 => ∃ y : Str, z = .dat (.str y) ∧ P (.dat (.str y)) M2) c
    | none => False)
  | _ => False
theorem ins_at {K : PySem.W.Frag} {bg : Bg} {I H : Hp} {M : Mem} {C : Addr} {r : DV} {v : V} {q : Addr × List (Str × DV)} (mr : MR K bg I H M) (h : insAt M C r = some q) (rs : VB K bg I v r) : ∃ dx l, v = .ref q.1 ∧ H q.1 = some (.ins C dx l) := by
  obtain ⟨a, fs⟩ := q
  obtain ⟨rfl, em⟩ := insAt_ok h
  have rs : v = .ref a := rs
  obtain ⟨_, _, ho, hh, dx, l, rfl, pl⟩ := mr a _ em
  exact ⟨dx, l, rs, hh⟩
theorem dp_int {K : PySem.W.Frag} {I : Hp} {v : V} {i : Int} (h : Dp K I v (.int i)) : v = .int i := by cases h; rfl
theorem dp_str {K : PySem.W.Frag} {I : Hp} {v : V} {y : Str} (h : Dp K I v (.str y)) : v = .str y := by cases h; rfl
theorem xe_lenO (hm : Meth X.K (S.fa j) "__len__" f) (F : FnOk X.prog X.w X.K X.mg X.base (L2.CX X.prog X.w) k f fd ps (spM X.K S.cls S.fa tb W)) (hr : Room (k + 1) X.A) (hb : Binds X.K fd ps []) (hx : Passes (L2.CX X.prog X.w) X S.E) (htb : ∀ t, S.tb t → tb t)
    (hg : Gl X x) (hmg : X.mg x = none) (hv : bootBuiltins x = some (.builtin "len")) (ha : XA X S (e :: es) ms) (hn : x ≠ "__name__" := by decide) (hdb : (x == ("__debug__" : Str)) = false := by decide)
    (he : starEach (e :: es) X.env = (false, eval e X.env) :: starEach es X.env := by rfl) (hpl : (backTo pos (starEach es X.env)).any (·.1) = false := by rfl) : XE X S (.Call (.Name x p) (e :: es) [] pos) (mLenO j W ms) := by
  obtain ⟨t, a1, a2⟩ := ha
  refine ⟨_, pe_callB (call_lenI hm.at_ hm.fn (F.raw hb .nil) hr hx) hg hmg hv a1 hn hdb he hpl, fun b I0 H0 M0 c δ M P nb ok p σ I H x en Q q => ?_⟩
  refine a2 b I0 H0 M0 c δ M _ nb ok p σ I H x en _ fun rs vs I1 H1 M1 ⟨_, p1⟩ x1 r1 => ?_
  split at p1
  · rename_i r
    split at p1
    · rename_i qa ei
      rw [ok.fa] at ei
      cases r1 with
      | cons rs rn =>
        cases rn
        obtain ⟨dx, l, rfl, hh⟩ := ins_at x1.r ei rs
        refine ⟨_, dx, l, rfl, hh, ?_⟩
        show spM X.K S.cls S.fa tb W [V.ref _] _ _ _
        exact call_spM ok (htb _ ok.tb) (x.trans x1) (.cons rs .nil) p1 fun r v I' H' M' ⟨i, ez, h0, h1, hp⟩ x3 rs' => by
          subst ez
          cases dp_int rs'
          exact ⟨i, rfl, h0, h1, q _ _ I' H' M' hp (x1.trans x3) (Dp.int i)⟩
    · exact p1.elim
  · exact p1.elim
theorem xe_reprO (hm : Meth X.K (S.fa j) "__repr__" f) (F : FnOk X.prog X.w X.K X.mg X.base (L2.CX X.prog X.w) k f fd ps (spM X.K S.cls S.fa tb W)) (hr : Room (k + 1) X.A) (hb : Binds X.K fd ps []) (hx : Passes (L2.CX X.prog X.w) X S.E) (htb : ∀ t, S.tb t → tb t)
    (hg : Gl X x) (hmg : X.mg x = none) (hv : bootBuiltins x = some (.builtin "repr")) (ha : XA X S (e :: es) ms) (hn : x ≠ "__name__" := by decide) (hdb : (x == ("__debug__" : Str)) = false := by decide)
    (he : starEach (e :: es) X.env = (false, eval e X.env) :: starEach es X.env := by rfl) (hpl : (backTo pos (starEach es X.env)).any (·.1) = false := by rfl) : XE X S (.Call (.Name x p) (e :: es) [] pos) (mTxtO j W ms) := by
  obtain ⟨t, a1, a2⟩ := ha
  refine ⟨_, pe_callB (call_reprI hm.at_ hm.fn (F.raw hb .nil) hr hx) hg hmg hv a1 hn hdb he hpl, fun b I0 H0 M0 c δ M P nb ok p σ I H x en Q q => ?_⟩
  refine a2 b I0 H0 M0 c δ M _ nb ok p σ I H x en _ fun rs vs I1 H1 M1 ⟨_, p1⟩ x1 r1 => ?_
  split at p1
  · rename_i r
    split at p1
    · rename_i qa ei
      rw [ok.fa] at ei
      cases r1 with
      | cons rs rn =>
        cases rn
        obtain ⟨dx, l, rfl, hh⟩ := ins_at x1.r ei rs
        refine ⟨_, dx, l, rfl, hh, ?_⟩
        show spM X.K S.cls S.fa tb W [V.ref _] _ _ _
        exact call_spM ok (htb _ ok.tb) (x.trans x1) (.cons rs .nil) p1 fun r v I' H' M' ⟨i, ez, hp⟩ x3 rs' => by
          subst ez
          cases dp_str rs'
          exact ⟨i, rfl, q _ _ I' H' M' hp (x1.trans x3) (Dp.str i)⟩
    · exact p1.elim
  · exact p1.elim
def mFmt (me : ME) : ME := fun c δ M P => me c δ M fun r M1 => match r with
  | .dat (.str y) => y.length ≤ sizeLine ∧ P (.dat (.str y)) M1
  | .dat (.int i) => i.natAbs.log2 < 1920 ∧ P (.dat (.str (toString i))) M1
  | _ => False
theorem xe_fmt (h : XE X S e me) : XE X S (.FormattedValue e (-1) none pos) (mFmt me) := by
  obtain ⟨t, h1, h2⟩ := h
  refine ⟨_, pe_fmt h1, fun b I0 H0 M0 c δ M P nb ok p σ I H x en Q q => ?_⟩
  refine h2 b I0 H0 M0 c δ M _ nb ok p σ I H x en _ fun r v I1 H1 M1 p1 x1 r1 => ?_
  split at p1
  · rename_i y
    cases dp_str r1
    exact .inl ⟨y, rfl, p1.1, q _ _ I1 H1 M1 p1.2 x1 (Dp.str _)⟩
  · rename_i i
    cases dp_int r1
    exact .inr ⟨i, rfl, p1.1, q _ _ I1 H1 M1 p1.2 x1 (Dp.str _)⟩
  · exact p1.elim
def mJs : List ME → Str → Cm → En → Mem → (Str → Mem → Prop) → Prop
  | [], acc, _, _, M, P => P acc M
  | m :: ms, acc, c, δ, M, P => m c δ M fun r M1 => match r with
    | .dat (.str y) => (acc ++ y).length ≤ sizeLine ∧ mJs ms (acc ++ y) c δ M1 P
    | _ => False
def CmJ (K : PySem.W.Frag) (S : Sg) (ts : List TE) (ms : List ME) : Prop := ∀ b I0 H0 M0 c δ M acc P, δ.length = S.n → Cmk K S b I0 H0 M0 c → mJs ms acc c δ M P → ∀ (σ : L2.St) (I H : Hp), XM K b I0 H0 M0 I H M → EnvM K b I σ δ → ∀ Q : Str → Hp → Prop,
  (∀ r I' H' M', P r M' → XM K b I H M I' H' M' → Q r H') → tJs ts acc σ H Q
def XJ (X : Cx) (S : Sg) (es : List Expr) (ms : List ME) : Prop := ∃ ts, PJ X es ts ∧ CmJ X.K S ts ms
theorem xj_nil : XJ X S [] [] := ⟨[], .nil, fun b I0 H0 M0 c δ M acc P nb ok p σ I H x en Q q => q _ I H M p x.re⟩
theorem xj_cons {ms : List ME} (h : XE X S e me) (r : XJ X S es ms) : XJ X S (e :: es) (me :: ms) := by
  obtain ⟨t, h1, h2⟩ := h
  obtain ⟨ts, h3, h4⟩ := r
  refine ⟨t :: ts, .cons h1 h3, fun b I0 H0 M0 c δ M acc P nb ok p σ I H x en Q q => ?_⟩
  refine h2 b I0 H0 M0 c δ M _ nb ok p σ I H x en _ fun r v I1 H1 M1 p1 x1 r1 => ?_
  split at p1
  · rename_i y
    cases dp_str r1
    exact ⟨y, rfl, p1.1, h4 b I0 H0 M0 c δ M1 _ P nb ok p1.2 σ I1 H1 (x.trans x1) (en.mono x1.i) Q fun r I' H' M' pr x2 => q r I' H' M' pr (x1.trans x2)⟩
  · exact p1.elim
def mFS (ms : List ME) : ME := fun c δ M P => mJs ms Str.empty c δ M fun y M1 => P (.dat (.str y)) M1
theorem xe_joined {v1 v2 : Expr} {rest : List Expr} {ms : List ME} (h : XJ X S (v1 :: v2 :: rest) ms) : XE X S (.JoinedStr (v1 :: v2 :: rest) pos) (mFS ms) := by
  obtain ⟨ts, h1, h2⟩ := h
  exact ⟨_, pe_joined h1, fun b I0 H0 M0 c δ M P nb ok p σ I H x en Q q => h2 b I0 H0 M0 c δ M Str.empty _ nb ok p σ I H x en _ fun r I' H' M' pr x1 => q _ _ I' H' M' pr x1 (Dp.str r)⟩
end
end DM
namespace DM
open PySem PySem.Spec PyProof.Rows L2 RZ DL DW
theorem dp_key {K : PySem.W.Frag} {I : Hp} : ∀ k : Key, Dp K I (kV k) (keyPD k)
  | .inl i => Dp.int i
  | .inr s => Dp.str s
end DM
namespace DW
open PySem PySem.Spec PyProof.Rows L2 RZ DL
end DW
namespace DM
open PySem PySem.Spec PyProof.Rows L2 RZ DL DW
end DM
namespace DM
open PySem PySem.Spec PyProof.Rows L2 RZ DL DW
end DM
namespace DM
open PySem PySem.Spec PyProof.Rows L2 RZ DL DW
end DM
namespace DM
open PySem PySem.Spec PyProof.Rows L2 RZ DL DW
def lendD (M : Mem) : DV → DV
  | .raw (.ref a) => match M a with
    | some (.lst xs) => match dats (xs.map (lendM M)) with
      | some ds => .dat (.list ds)
      | none => .raw (.ref a)
    | _ => .raw (.ref a)
  | r => r
def isLentD (M : Mem) (a : Addr) : Prop := ∃ xs ds, M a = some (.lst xs) ∧ dats (xs.map (lendM M)) = some ds
open Classical in
noncomputable def ILD (M : Mem) (I H : Hp) : Hp := fun a => if isLentD M a then H a else I a
open Classical in
noncomputable def unLD (M : Mem) (I' : Hp) : Hp := fun a => if isLentD M a then none else I' a
def mLendD (W : Wt) (ma : MA) : ME := fun c δ M P => ma c δ M fun rs M1 => (rs.map (lendD M1)).all isPl = true ∧ W (rs.map (lendD M1)) (fun r => match r with
  | .dat d => flD d = true ∧ P (.dat d) M1
  | _ => False) ⟨fun s fs => c.x s fs M1, c.fa⟩
theorem lendM_dats (M : Mem) : ∀ ds : List PyData, (ds.map DV.dat).map (lendM M) = ds.map DV.dat
  | [] => rfl
  | d :: r => by
    rw [List.map_cons, List.map_cons, lendM_dats M r]
    rfl
section
variable {K : PySem.W.Frag} {b : Bg} {I H I' H' : Hp} {M : Mem}
theorem isLentD_of {a : Addr} (h : isLent M a) : isLentD M a := by
  obtain ⟨xs, ds, e1, e2⟩ := h
  have := dats_ok e2
  subst this
  exact ⟨_, ds, e1, by rw [lendM_dats]; exact e2⟩
theorem lentD_of (r : MR K b I H M) {a : Addr} (h : isLentD M a) : I a = none ∧ a ≠ b.a ∧ ∃ vs xs, H a = some (.lst vs) ∧ Paired (VB K b I) vs xs ∧ M a = some (.lst xs) := by
  obtain ⟨xs, ds, e1, e2⟩ := h
  obtain ⟨h1, h2, ho, h3, vs, rfl, pl⟩ := r a _ e1
  exact ⟨h1, h2, vs, xs, h3, pl, e1⟩
theorem ILD_same (o : Ok K b I H) (r : MR K b I H M) : Same I (ILD M I H) := fun a u h => by
  unfold ILD
  split
  · rename_i z
    rw [(lentD_of r z).1] at h
    cases h
  · exact h
theorem ILD_ok (o : Ok K b I H) (r : MR K b I H M) : Ok K b (ILD M I H) H := by
  obtain ⟨n, pl, tb, l, ns, x, q, m, c, e1, sl, rr⟩ := o.b
  refine ⟨fun a u h => ?_, ?_, fun a u h => ?_, tb, l, ns, x, q, m, c, e1, sl_mono (ILD_same o r) sl, rr⟩
  · unfold ILD at h
    split at h
    · exact h
    · exact o.s a u h
  · unfold ILD
    split
    · rename_i z
      exact absurd rfl (lentD_of r z).2.1
    · exact n
  · unfold ILD at h
    split at h
    · rename_i z
      obtain ⟨_, _, vs, _, e, _⟩ := lentD_of r z
      rw [e] at h
      cases h
      exact True.intro
    · exact pl a u h
theorem unLD_xm (o : Ok K b I H) (r : MR K b I H M) (e : Ext K b (ILD M I H) H I' H') : XM K b I H M (unLD M I') H' M := by
  have s1 : Same I (unLD M I') := fun a u h => by
    unfold unLD
    split
    · rename_i z
      rw [(lentD_of r z).1] at h
      cases h
    · exact e.i a u (ILD_same o r a u h)
  obtain ⟨n, pl, tb, l', ns', x', q', m', c', e1', sl', rr'⟩ := e.b
  obtain ⟨_, _, _, l, ns, x, q, m, c, e1, sl, rr⟩ := o.b
  have ell : l' = l := by
    obtain ⟨ys, h⟩ := e.k l _ e1
    rw [e1'] at h
    cases h
    rfl
  subst ell
  have hlt : ∀ a u, unLD M I' a = some u → I' a = some u ∧ ¬ isLentD M a := fun a u h => by
    unfold unLD at h
    split at h
    · cases h
    · exact ⟨h, by assumption⟩
  have ok' : Ok K b (unLD M I') H' := by
    refine ⟨fun a u h => e.s a u (hlt a u h).1, ?_, fun a u h => pl a u (hlt a u h).1, tb, l', ns, x', q', m', c', e1', sl_mono s1 sl, rr'⟩
    unfold unLD
    split
    · rfl
    · exact n
  refine ⟨s1, fun a u n t _ h => e.h a u n t h, fun a u hi hm h t => ?_, fun _ _ n _ _ => n, e.k, ok', fun a so h => ?_, fun a kvs h => ⟨h, ?_⟩⟩
  · unfold unLD
    split
    · rfl
    · rename_i z
      exact e.n a u (by unfold ILD; rw [if_neg z]; exact hi) h t
  · obtain ⟨h1, h2, ho, h3, h4⟩ := r a so h
    refine ⟨?_, h2, ho, e.h a ho h2 h4.tbl h3, h4.mono s1⟩
    unfold unLD
    split
    · rfl
    · rename_i z
      exact e.n a ho (by unfold ILD; rw [if_neg z]; exact h1) h3 h4.tbl
  · obtain ⟨_, h2, ho, h3, h4⟩ := r a _ h
    rw [h3]
    exact e.h a ho h2 h4.tbl h3
theorem lendM_dp (o : Ok K b I H) (r : MR K b I H M) {v : V} {y : DV} {d : PyData} (h : VB K b I v y) (e : lendM M y = .dat d) : Dp K (ILD M I H) v d := by
  unfold lendM at e
  split at e
  · rename_i a
    have h : v = .ref a := h
    subst h
    split at e
    · rename_i xs e1
      split at e
      · rename_i ds e2
        cases e
        obtain ⟨h1, h2, vs', ds', h3, h4, h5⟩ := lent_of r ⟨xs, ds, e1, e2⟩
        rw [e1] at h5
        cases h5
        rw [dats_map] at e2
        cases e2
        exact Dp.lst (.inl (.inl (by unfold ILD; rw [if_pos (isLentD_of ⟨_, _, e1, dats_map _⟩)]; exact h3))) (dpa_mono (ILD_same o r) h4)
      · cases e
    · cases e
  · subst e
    exact dp_mono (ILD_same o r) h
theorem lendM_dpa (o : Ok K b I H) (r : MR K b I H M) : ∀ {vs : List V} {xs : List DV} {ds : List PyData}, Paired (VB K b I) vs xs → xs.map (lendM M) = ds.map .dat → DpAll K (ILD M I H) vs ds
  | _, _, [], .nil, _ => .nil
  | _, _, d :: ds, .cons h t, e => by
    rw [List.map_cons, List.map_cons] at e
    injection e with e1 e2
    exact .cons (lendM_dp o r h e1) (lendM_dpa o r t e2)
theorem lendD_res {H0 : Hp} (o : Ok K b I H) (r : MR K b I H M) : ∀ {vs : List V} {rs : List DV}, Paired (VB K b I) vs rs → ResA K b H0 (ILD M I H) H vs (rs.map (lendD M))
  | _, _, .nil => .nil
  | _, _, .cons (a := v) (b := y) h t => by
    refine .cons ?_ (lendD_res o r t)
    unfold lendD
    split
    · rename_i a
      have h : v = .ref a := h
      subst h
      split
      · rename_i xs e1
        split
        · rename_i ds e2
          obtain ⟨h1, h2, vs', xs', h3, h4, h5⟩ := lentD_of r ⟨xs, ds, e1, e2⟩
          rw [e1] at h5
          cases h5
          exact Dp.lst (.inl (.inl (by unfold ILD; rw [if_pos ⟨_, _, e1, e2⟩]; exact h3))) (lendM_dpa o r h4 (dats_ok e2))
        · rfl
      · rfl
    · exact (h.mono (ILD_same o r)).res
end
section
variable {X : Cx} {S : Sg} {e : Expr} {es : List Expr} {ma : MA} {x : Str} {p pos : Pos}
section
variable {k : Nat} {f : Addr} {fd : FuncData} {ps : List Str} {W : Wt}
theorem xe_lendD (F : FnOk X.prog X.w X.K X.mg X.base (L2.CX X.prog X.w) k f fd ps (spW X.K S.cls S.fa W)) (hr : Room k X.A) (hg : Gl X x) (hm : X.mg x = some (.ref f)) (hk : PySem.W.keepIn X.K (.ref f) = true) (hb : Binds X.K fd ps []) (hx : Passes (L2.CX X.prog X.w) X S.E)
    (ha : XA X S (e :: es) ma) (hdb : (x == ("__debug__" : Str)) = false := by decide) (he : starEach (e :: es) X.env = (false, eval e X.env) :: starEach es X.env := by rfl) (hpl : (backTo pos (starEach es X.env)).any (·.1) = false := by rfl) :
    XE X S (.Call (.Name x p) (e :: es) [] pos) (mLendD W ma) := by
  obtain ⟨t, a1, a2⟩ := ha
  refine ⟨_, pe_call F hr hg hm hk hb .nil hx a1 hdb he hpl, fun b I0 H0 M0 c δ M P nb ok p σ I H x en Q q => ?_⟩
  refine a2 b I0 H0 M0 c δ M _ nb ok p σ I H x en _ fun rs vs I1 H1 M1 ⟨_, pl, hw⟩ x1 r1 => ?_
  rw [List.append_nil]
  refine ⟨(rs.map (lendD M1), (fun r => match r with
  | .dat d => flD d = true ∧ P (.dat d) M1
  | _ => False), ⟨fun s fs => c.x s fs M1, c.fa⟩), b, ILD M1 I1 H1, ILD_ok x1.ok x1.r, lendD_res x1.ok x1.r r1, ⟨ok.fa, pl, hw⟩, fun r v I' H' o x2 rs' => ?_, fun C fs d I' H' he x2 h1 h2 => ?_⟩
  · dsimp only at o
    split at o
    · rename_i d
      exact q (.dat d) v _ H' M1 o.2 (x1.trans (unLD_xm x1.ok x1.r x2)) (flat_unL (I := I') rs' o.1)
    · exact o.elim
  · obtain ⟨s, rfl, hx⟩ := he
    have x3 := (x.trans x1).trans (unLD_xm x1.ok x1.r x2)
    refine ok.xw s fs d _ H' M1 hx x3 ?_ h2 ?_
    · unfold unLD
      split
      · rfl
      · exact h1
    · cases q : M1 d with
      | none => rfl
      | some o =>
        obtain ⟨_, _, ho, e1, e2⟩ := x3.r d o q
        rw [h2] at e1
        cases e1
        exact (e2.xd).elim
end
end
end DM
namespace TF
open PySem PySem.Spec PyProof.Rows L2 RZ DL
theorem ext_lst (l : Addr) (items : Array Value) (n : Nat) (b : Addr) (items2 : Array Value) (n2 : Nat) (dd : Option Addr) (sl : Array (Option Value)) (hs0 : ¬(!items.isEmpty && Builtin.List.listTooLong (items.size + items2.size)) = true) (hs1 : items.size ≤ sizeLine) (hs2 : items.size + items2.size ≤ sizeLine + 1) :
    Meets (Builtin.«list.extend» ⟨[.ref l, .ref b], []⟩) (fun _ R s => s.heap.get? l = some { cls := .type "list", dict := none, data := .seq items n, slots := #[] } ∧ s.heap.get? b = some { cls := .type "list", dict := dd, data := .seq items2 n2, slots := sl } ∧ R (.ok (.ret Value.none)) { s with heap := s.heap.update l (Obj.mapSeq fun x => x ++ items2), toks := s.toks }) :=
  .of_wp fun prog w A R s h => by
    obtain ⟨hp, g, d, tk, os⟩ := s; obtain ⟨hl, hb, h⟩ := h; have f1 := AutoSeq1.idx_int; have f2 := AutoSeq1.sub_tuple_tuple; have f3 := AutoSeq1.sub_list_list; have f4 := AutoSeq1.sub_tuple_list; have f5 := AutoSeq1.sub_list_tuple;
    have hz' : (items ++ items2).size ≤ sizeLine + 1 := by rw [Array.size_append]; exact hs2
    wp_walk using (wpAny_updateSeq hl rfl (hz := hs1) (_hz' := hz')), wpAny_loadPart' hl, wpAny_loadPart' hb; exact ⟨_, rfl, h⟩
def rExtendL (K : PySem.W.Frag) : V → List V → Hp → VK → Prop := fun x vs H Q => ∃ l b xs zs, x = .ref l ∧ vs = [.ref b] ∧ H l = some (.lst xs) ∧ SqL K H b zs ∧ xs.length + zs.length ≤ sizeLine ∧ Q .non (upd H l (.lst (xs ++ zs)))
theorem mt_extendL {X : Cx} : MtR X "list.extend" (rExtendL X.K) := by
  intro pins s σ H x vs v us Q I rx rv h
  obtain ⟨l, b, xs, zs, rfl, rfl, hH, hB, hz, q⟩ := h
  cases rx
  obtain ⟨u, rfl, ru⟩ := rv.one
  cases ru
  obtain ⟨z, its, n, r, hl, e⟩ := I.lstM hH
  obtain ⟨its2, r2, pl, _⟩ := I.list hB
  obtain ⟨⟨c2, dd, dt, sl⟩, n2, e2, c2e, _, dat⟩ := pl
  simp only at c2e dat
  subst c2e dat
  have hl2 : zs.length = its2.length := r2.length
  have hsz : its.toArray.size + its2.toArray.size ≤ sizeLine := by rw [List.size_toArray, List.size_toArray]; omega
  have hlong : ¬ (!its.toArray.isEmpty && Builtin.List.listTooLong (its.toArray.size + its2.toArray.size)) = true := by
    rw [notLongL hsz, Bool.and_false]
    exact Bool.false_ne_true
  refine call_meets F.slot_list_extend ⟨_, e, rfl⟩ F.entry_list_extend (F.args_list_extend_2 _ _)
    (ext_lst l its.toArray n b its2.toArray n2 dd sl hlong (by rw [List.size_toArray]; omega) (by omega)) ⟨e, e2, ?_⟩
  refine ⟨.non, _, I.lset (its' := its ++ its2) hH e (by simp) (r.append r2) ?_, rfl, q⟩
  rw [List.length_append]
  omega
end TF
namespace DM
open PySem PySem.Spec PyProof.Rows L2 RZ DL DW
def mExtL (mo mv : ME) : ME := fun c δ M P => mo c δ M fun x M1 => match x with
  | .raw (.ref a) => (∃ xs, M1 a = some (.lst xs)) ∧ mv c δ M1 fun y M2 => match M2 a, y with
    | some (.lst xs), .dat (.list ds) => xs.length + ds.length ≤ 100000 ∧ P (.dat .none) (um M2 a (.lst (xs ++ ds.map .dat)))
    | _, _ => False
  | _ => False
section
variable {K : PySem.W.Frag} {S : Sg}
theorem cm_extL {to tv : TE} {mo mv : ME} (ho : CmE K S to mo) (hv : CmE K S tv mv) : CmE K S (tBM K "list" (TF.rExtendL K) to (tCons tv tNil)) (mExtL mo mv) := fun b I0 H0 M0 c δ M P nb ok p σ I H x en Q q =>
  ho b I0 H0 M0 c δ M _ nb ok p σ I H x en _ fun r v I1 H1 M1 p1 x1 r1 => by
    split at p1
    · rename_i a
      have r1 : v = .ref a := r1
      subst r1
      obtain ⟨⟨xs, em⟩, p1⟩ := p1
      obtain ⟨_, _, ho, hh, vs, rfl, pl⟩ := x1.r a _ em
      refine ⟨.inl ⟨rfl, vs, .inl (.inl hh)⟩, hv b I0 H0 M0 c δ M1 _ nb ok p1 σ I1 H1 (x.trans x1) (en.mono x1.i) _ fun y w I2 H2 M2 p2 x2 r2 => ?_⟩
      split at p2
      · rename_i ys ds em2
        obtain ⟨_, _, ho2, hh2, ws, rfl, pl2⟩ := x2.r a _ em2
        have r2 : Dp K I2 w (.list ds) := r2
        cases r2 with
        | @lst t ts _ hs hd =>
          refine ⟨a, t, ws, ts, rfl, rfl, hh2, sl_mono x2.ok.s hs, Nat.le_trans (by rw [Paired.length pl2, dpa_len hd]; exact p2.1) (by decide : 100000 ≤ sizeLine), ?_⟩
          exact q (.dat .none) .non I2 _ _ p2.2 ((x1.trans x2).trans (XM.mut x2.ok x2.r em2 ⟨_, rfl, paired_app (dats_vbs hd) pl2⟩)) Dp.non
      · exact p2.elim
    · exact p1.elim
end
section
variable {X : Cx} {S : Sg} {o e : Expr} {mo mv : ME}
theorem xe_extL {call : Expr} (ho : XE X S o mo) (hv : XE X S e mv) (hp : ∀ to tv, PE X o to → PE X e tv → PE X call (tBM X.K "list" (TF.rExtendL X.K) to (tCons tv tNil))) : XE X S call (mExtL mo mv) := by
  obtain ⟨t, h1, h2⟩ := ho
  obtain ⟨u, h3, h4⟩ := hv
  exact ⟨_, hp t u h1 h3, cm_extL h2 h4⟩
end
end DM
namespace DM
open PySem PySem.Spec PyProof.Rows L2 RZ DL DW
def forGoE (c : Cm) (a : Addr) (xs : List DV) (i j : Nat) (db : MS) (D : MEd) : Nat → List DV → En → Mem → Prop
  | _, [], δ, M => M a = some (.lst xs) ∧ D.nx δ M
  | k, r :: rs, δ, M => M a = some (.lst xs) ∧ db c ((δ.set i (some (dint (k : Nat)))).set j (some r)) M ⟨forGoE c a xs i j db D (k + 1) rs, D.rt, D.nx, forGoE c a xs i j db D (k + 1) rs⟩
def mForE (me : ME) (i j : Nat) (db : MS) : MS := fun c δ M D => me c δ M fun x M1 => match x with
  | .raw (.ref a) => match M1 a with
    | some (.lst xs) => forGoE c a xs i j db D 0 xs δ M1
    | _ => False
  | _ => False
theorem forGoE_at {c : Cm} {a : Addr} {xs : List DV} {i j k : Nat} {db : MS} {D : MEd} {l : List DV} {δ : En} {M : Mem} (h : forGoE c a xs i j db D k l δ M) : M a = some (.lst xs) := by
  cases l with
  | nil => exact h.1
  | cons _ _ => exact h.1
section
variable {K : PySem.W.Frag} {S : Sg}
theorem walk_enumD {a : Addr} {n : Nat} : Walk (Ite K a) n (fun H => ∃ xs, SqL K H a xs ∧ xs.length = n) (fun i H v H' => ∃ T x, v = .ref T ∧ H T = none ∧ H' = upd H T (.tup [.int (i : Nat), x]) ∧ ∀ xs, SqL K H a xs → xs[i]? = some x) :=
  ⟨fun i _ hi ⟨xs, q, l⟩ => ⟨xs, xs[i]'(by omega), q, by simp⟩, fun _ ⟨xs, q, l⟩ => ⟨xs, q, by omega⟩, fun _ _ _ _ _ _ y => y⟩
theorem cms_forE {te : TE} {me : ME} {i j : Nat} {tb : TS} {db : MS} (hi : i < S.n) (hj : j < S.n) (he : CmE K S te me) (hb : CmS K S tb db) : CmS K S (tFor (iEnumS K (tCons te tNil)) (gTup K 2 (gCons (gName i) (gCons (gName j) gNil))) tb) (mForE me i j db) := fun b I0 H0 M0 c δ M D nb ok p σ I H x en Dd a1 a2 a3 a4 =>
  he b I0 H0 M0 c δ M _ nb ok p σ I H x en _ fun r v I1 H1 M1 p1 x1 rs => by
    split at p1
    · rename_i a
      have rs : v = .ref a := rs
      subst rs
      split at p1
      · rename_i xs em
        obtain ⟨_, _, ho, hh, vs, rfl, pl⟩ := x1.r a _ em
        refine ⟨a, vs, rfl, .inl ⟨.inl (.inl hh), ?_⟩⟩
        have at_ : ∀ {I' H' : Hp} {M' : Mem}, XM K b I1 H1 M1 I' H' M' → M' a = some (.lst xs) → ∃ ws, H' a = some (.lst ws) ∧ Paired (VB K b I') ws xs := fun x' e => by
          obtain ⟨_, _, ho, hh, ws, rfl, pl⟩ := x'.r a _ e
          exact ⟨ws, hh, pl⟩
        refine for_it (walk_enumD (K := K) (a := a) (n := xs.length)) (fun k σ' H' => ∃ I' M' δk, δk.length = S.n ∧ forGoE c a xs i j db D k (xs.drop k) δk M' ∧ XM K b I1 H1 M1 I' H' M' ∧ EnvM K b I' σ' δk) ⟨I1, M1, δ, nb, p1, x1.re, en.mono x1.i⟩ (fun k σ' H' _ ⟨_, _, _, _, pk, x', _⟩ => ?_) ?_ ?_
        · obtain ⟨ws, h1, h2⟩ := at_ x' (forGoE_at pk)
          exact ⟨ws, .inl (.inl h1), Paired.length h2⟩
        · rintro k u σ' H' H'' hk ⟨I', M', δk, nbk, pk, x', n'⟩ ⟨T, w, rfl, hT, rfl, y⟩
          obtain ⟨ws, h1, h2⟩ := at_ x' (forGoE_at pk)
          obtain ⟨z, hz, ruz⟩ := paired_len_at h2 (y ws (.inl (.inl h1)))
          have hz2 : xs[k] = z := (List.getElem?_eq_some_iff.mp hz).2
          rw [List.drop_eq_getElem_cons hk, hz2] at pk
          obtain ⟨ea, pk⟩ := pk
          have x3 := x'.trans (XM.of x'.r (x'.ok.newH (o := .tup [.int (k : Nat), w]) hT))
          have x13 := x1.trans x3
          have n2 : EnvM K b I' ((σ'.set i (some (.int (k : Nat)))).set j (some w)) ((δk.set i (some (dint (k : Nat)))).set j (some z)) := (n'.set (r := dint (k : Nat)) (by rw [nbk]; exact hi) (Dp.int _)).set (by rw [List.length_set, nbk]; exact hj) ruz
          refine ⟨T, [.int (k : Nat), w], rfl, .inl (.inl upd_same), rfl, ⟨_, _, rfl, ⟨_, _, rfl, rfl, ?_⟩⟩⟩
          have fin : ∀ (d : En) (σ4 : L2.St) (I4 H4 : Hp) (M4 : Mem), d.length = S.n ∧ forGoE c a xs i j db D (k + 1) (xs.drop (k + 1)) d M4 → XM K b I' (upd H' T (.tup [.int (k : Nat), w])) M' I4 H4 M4 → EnvM K b I4 σ4 d → ∃ I' M' δk, δk.length = S.n ∧ forGoE c a xs i j db D (k + 1) (xs.drop (k + 1)) δk M' ∧ XM K b I1 H1 M1 I' H4 M' ∧ EnvM K b I' σ4 δk := fun d σ4 I4 H4 M4 p4 x4 n4 => ⟨I4, M4, d, p4.1, p4.2, x3.trans x4, n4⟩
          exact hb b I0 H0 M0 c _ M' _ (by rw [List.length_set, List.length_set]; exact nbk) ok pk _ I' _ (x.trans x13) n2 _ fin (fun r v I4 H4 M4 p4 x4 n4 => a2 r v I4 H4 M4 p4 (x13.trans x4) n4) (fun d σ4 I4 H4 M4 p4 x4 n4 => a1 d σ4 I4 H4 M4 p4 (x13.trans x4) n4) fin
        · rintro σ' H' ⟨I', M', δn, nbn, pk, x', n'⟩
          rw [List.drop_length] at pk
          exact a1 δn σ' I' H' M' ⟨nbn, pk.2⟩ (x1.trans x') n'
      · exact p1.elim
    · exact p1.elim
end
section
variable {X : Cx} {S : Sg} {e tg : Expr} {me : ME} {p pos ipos tpos : Pos}
theorem xs_forE {elts : List Expr} {kk : Nat} {i j : Nat} {body : List Stmt} {db : MS} (hi : i < S.n) (hj : j < S.n) (hgl : Gl X "enumerate") (hm : X.mg "enumerate" = none) (he : XE X S e me) (hg : PG X (.Tuple elts kk tpos) (gTup X.K 2 (gCons (gName i) (gCons (gName j) gNil)))) (hb : XSs X S body db)
    (hps : ∀ wi g tb, PI X (.Tuple elts kk tpos) (.Call (.Name "enumerate" p) [e] [] ipos) wi → PG X (.Tuple elts kk tpos) g → PSs X body tb → PS X (.For (.Tuple elts kk tpos) (.Call (.Name "enumerate" p) [e] [] ipos) body [] pos) (tFor wi g tb))
    (ha : ∀ t, PE X e t → PA X [e] (tCons t tNil)) (one : starEach [e] X.env = [(false, eval e X.env)] := by rfl) : XS X S (.For (.Tuple elts kk tpos) (.Call (.Name "enumerate" p) [e] [] ipos) body [] pos) (mForE me i j db) := by
  obtain ⟨te, e1, e2⟩ := he
  obtain ⟨tb, b1, b2⟩ := hb
  exact ⟨_, hps _ _ tb (pi_enumS hgl hm (ha _ e1) one) hg b1, cms_forE hi hj e2 b2⟩
end
end DM
namespace DM
open PySem PySem.Spec PyProof.Rows L2 RZ DL DW
def nd1 : PyData → Bool
  | .tuple ds => ds.all flD
  | d => flD d
def mLendT (W : Wt) (ma : MA) : ME := fun c δ M P => ma c δ M fun rs M1 => (rs.map (lendM M1)).all isPl = true ∧ W (rs.map (lendM M1)) (fun r => match r with
  | .dat d => nd1 d = true ∧ P (.dat d) M1
  | _ => False) ⟨fun s fs => c.x s fs M1, c.fa⟩
theorem flats_unL {K : PySem.W.Frag} {I I' : Hp} : ∀ {vs : List V} {ds : List PyData}, DpAll K I vs ds → ds.all flD = true → DpAll K I' vs ds
  | _, _, .nil, _ => .nil
  | _, _, .cons h t, f => by
    rw [List.all_cons] at f
    obtain ⟨f1, f2⟩ := Bool.and_eq_true_iff.mp f
    exact .cons (flat_unL h f1) (flats_unL t f2)
theorem nd1_unL {K : PySem.W.Frag} {I I' : Hp} {v : V} {d : PyData} (hi : ∀ a o, I a = some o → (∀ vs, o ≠ .lst vs) → I' a = some o) (h : Dp K I v d) (f : nd1 d = true) : Dp K I' v d := by
  cases h with
  | non => exact .non
  | bl c => exact .bl c
  | int i => exact .int i
  | str x => exact .str x
  | lst _ _ => cases f
  | tup q t =>
    refine .tup ?_ (flats_unL t f)
    rcases q with (q | ⟨ow, q⟩) | q
    · exact .inl (.inl (hi _ _ q fun vs e => by cases e))
    · exact .inl (.inr ⟨ow, hi _ _ q fun vs e => by cases e⟩)
    · exact .inr q
section
variable {k : Nat} {f : Addr} {fd : FuncData} {ps : List Str} {W : Wt}
theorem xe_lendT (F : FnOk X.prog X.w X.K X.mg X.base (L2.CX X.prog X.w) k f fd ps (spW X.K S.cls S.fa W)) (hr : Room k X.A) (hg : Gl X x) (hm : X.mg x = some (.ref f)) (hk : PySem.W.keepIn X.K (.ref f) = true) (hb : Binds X.K fd ps []) (hx : Passes (L2.CX X.prog X.w) X S.E)
    (ha : XA X S (e :: es) ma) (hdb : (x == ("__debug__" : Str)) = false := by decide) (he : starEach (e :: es) X.env = (false, eval e X.env) :: starEach es X.env := by rfl) (hpl : (backTo pos (starEach es X.env)).any (·.1) = false := by rfl) :
    XE X S (.Call (.Name x p) (e :: es) [] pos) (mLendT W ma) := by
  obtain ⟨t, a1, a2⟩ := ha
  refine ⟨_, pe_call F hr hg hm hk hb .nil hx a1 hdb he hpl, fun b I0 H0 M0 c δ M P nb ok p σ I H x en Q q => ?_⟩
  refine a2 b I0 H0 M0 c δ M _ nb ok p σ I H x en _ fun rs vs I1 H1 M1 ⟨_, pl, hw⟩ x1 r1 => ?_
  rw [List.append_nil]
  refine ⟨(rs.map (lendM M1), (fun r => match r with
  | .dat d => nd1 d = true ∧ P (.dat d) M1
  | _ => False), ⟨fun s fs => c.x s fs M1, c.fa⟩), b, IL M1 I1 H1, IL_ok x1.ok x1.r, lend_res x1.ok x1.r r1, ⟨ok.fa, pl, hw⟩, fun r v I' H' o x2 rs' => ?_, fun C fs d I' H' he x2 h1 h2 => ?_⟩
  · dsimp only at o
    split at o
    · rename_i d
      refine q (.dat d) v _ H' M1 o.2 (x1.trans (unL_xm x1.ok x1.r x2)) (nd1_unL (I := I') (fun a u hu nl => ?_) rs' o.1)
      unfold unL
      split
      · rename_i z
        obtain ⟨_, _, vs, _, e1, _, _⟩ := lent_of x1.r z
        have e2 : IL M1 I1 H1 a = some (.lst vs) := by unfold IL; rw [if_pos z]; exact e1
        rw [x2.i a _ e2] at hu
        cases hu
        exact absurd rfl (nl vs)
      · exact hu
    · exact o.elim
  · obtain ⟨s, rfl, hx⟩ := he
    have x3 := (x.trans x1).trans (unL_xm x1.ok x1.r x2)
    refine ok.xw s fs d _ H' M1 hx x3 ?_ h2 ?_
    · unfold unL
      split
      · rfl
      · exact h1
    · cases q : M1 d with
      | none => rfl
      | some o =>
        obtain ⟨_, _, ho, e1, e2⟩ := x3.r d o q
        rw [h2] at e1
        cases e1
        exact (e2.xd).elim
end
end DM
namespace Lw
open PySem PySem.Spec PyProof.Rows L2 DL DW DM
def aft : Nat → List (Str × V) → Option PyData := fun s fs => if s = 0 then ((fs.lookup ("word" : Str)).bind vD).bind fun d0 => some (.tuple [.none, d0]) else if s = 4 then ((fs.lookup ("word" : Str)).bind vD).bind fun d0 => some (.tuple [.none, d0]) else if s = 6 then ((fs.lookup ("word" : Str)).bind vD).bind fun d0 => some (.tuple [.none, d0]) else if s = 8 then ((fs.lookup ("word" : Str)).bind vD).bind fun d0 => some (.tuple [.none, d0]) else if s = 11 then ((fs.lookup ("word" : Str)).bind vD).bind fun d0 => some (.tuple [.none, d0]) else if s = 12 then ((fs.lookup ("word" : Str)).bind vD).bind fun d0 => some (.tuple [.none, d0]) else if s = 14 then ((fs.lookup ("word" : Str)).bind vD).bind fun d0 => some (.tuple [.none, d0]) else if s = 17 then ((fs.lookup ("word" : Str)).bind vD).bind fun d0 => some (.tuple [.none, d0]) else none
abbrev mk_BadSizes (vs : List V) : List (Str × V) := [("cask", vs.getD 0 .non), ("word", .str "bad sizes")]
abbrev mk_BadRow (vs : List V) : List (Str × V) := [("place", vs.getD 1 .non), ("step", vs.getD 0 .non), ("word", .str "bad row")]
abbrev mk_BadName (vs : List V) : List (Str × V) := [("word", .str "bad name")]
abbrev mk_Taken (vs : List V) : List (Str × V) := [("name", vs.getD 0 .non), ("word", .str "taken")]
abbrev mk_TooLong (vs : List V) : List (Str × V) := [("most", vs.getD 0 .non), ("word", .str "too long")]
abbrev mk_TooMany (vs : List V) : List (Str × V) := [("most", vs.getD 0 .non), ("word", .str "too many")]
abbrev mk_NoRound (vs : List V) : List (Str × V) := [("name", vs.getD 0 .non), ("word", .str "no round")]
def D_look_sizes : DS := (dSeq (dIfS (dNot (dTst (dChain oLe oLe (dC (dint 1)) (dCb bLen (dCons (dVar 0) dNil)) (dC (dint (6)))))) (dRaise 0 mk_BadSizes (dCons (dUn oNeg (dC (dint 1))) dNil)) dNext)
    (dFor (dIEnum (dCons (dVar 0) dNil)) (tfPair 1 2) (dIfS (dNot (dTst (dChain oLe oLe (dC (dint 1)) (dVar 2) (dC (dint (40)))))) (dRaise 0 mk_BadSizes (dCons (dVar 1) dNil)) dNext)))
def W_look_sizes : Wt := wFn 1 3 D_look_sizes
def D_cask_fault : DS := (dSeq (dFor (dIRg2 (dCons (dVar 2) (dCons (dCb bLen (dCons (dVar 1) dNil)) dNil))) (tfName 3) (dSeq (dAsg 4 (dBin oIx (dVar 1) (dVar 3)))
    (dIfS (dOr (dNot (dTst (dChain oLe oLt (dC (dint 0)) (dVar 4) (dCb bLen (dCons (dVar 0) dNil))))) (dTst (dBin (oIn false) (dVar 4) (dSl (dVar 1) (dSome (dVar 2)) (dSome (dVar 3)))))) (dRetV 3) dNext)))
    (dRet (dC (.dat .none))))
def W_cask_fault : Wt := wFn 3 5 D_cask_fault
def D_length_fits : DS := (dSeq (dIfS (dTst (dBin (oIn false) (dBin oIx (dVar 1) (dC (dint 0))) (dTup (dCons (dC (dstr "over")) (dCons (dC (dstr "down")) dNil))))) (dRet (dChain oLe oLe (dC (dint 4)) (dCb bLen (dCons (dVar 1) dNil)) (dBin oAdd (dC (dint 2)) (dCb bLen (dCons (dVar 0) dNil))))) dNext)
    (dRet (dBin (oEq false) (dCb bLen (dCons (dVar 1) dNil)) (dC (dint 3)))))
def W_length_fits : Wt := wFn 2 2 D_length_fits
def D_swap_fault : DS := (dSeq (dAsg 2 (dCall W_cask_fault (dCons (dVar 0) (dCons (dVar 1) (dCons (dC (dint 1)) dNil)))))
    (dSeq (dIfS (dAnd (dTst (dBin (oIsN false) (dVar 2) (dC (.dat .none)))) (dTst (dBin (oEq true) (dBin oIx (dVar 0) (dBin oIx (dVar 1) (dC (dint 1)))) (dBin oIx (dVar 0) (dBin oIx (dVar 1) (dC (dint 2))))))) (dRet (dC (dint 2))) dNext)
    (dRetV 2)))
def W_swap_fault : Wt := wFn 2 3 D_swap_fault
def D_fault_place : DS := (dSeq (dIfS (dOr (dTst (dBin (oEq false) (dCb bLen (dCons (dVar 1) dNil)) (dC (dint 0)))) (dTst (dBin (oIn true) (dBin oIx (dVar 1) (dC (dint 0))) (dC (.dat (.tuple ((["over", "down", "swap", "tap", "drain"] : List Str).map .str))))))) (dRet (dC (dint 0))) dNext)
    (dSeq (dIfS (dNot (dTst (dCall W_length_fits (dCons (dVar 0) (dCons (dVar 1) dNil))))) (dRet (dUn oNeg (dC (dint 1)))) dNext)
    (dSeq (dIfS (dTst (dBin (oEq false) (dBin oIx (dVar 1) (dC (dint 0))) (dC (dstr "swap")))) (dRet (dCall W_swap_fault (dCons (dVar 0) (dCons (dVar 1) dNil)))) dNext)
    (dSeq (dIfS (dNot (dTst (dChain oLe oLt (dC (dint 0)) (dBin oIx (dVar 1) (dC (dint 1))) (dC (dint (1000000000000000000000000000000)))))) (dRet (dC (dint 1))) dNext)
    (dRet (dCall W_cask_fault (dCons (dVar 0) (dCons (dVar 1) (dCons (dC (dint 2)) dNil)))))))))
def W_fault_place : Wt := wFn 2 2 D_fault_place
def B_Book_init_0 : MS := (mFldS 0 "laid" (mVar 0) mDNew)
def B_Book_init_1 : MS := (mSeq (mFldS 0 "written" (mVar 0) mDNew)
    B_Book_init_0)
def B_Book_init_2 : MS := (mSeq (mFldS 0 "held_sizes" (mVar 0) (mLft lftP (dVar 1)))
    B_Book_init_1)
def B_Book_init_3 : MS := (mSeq (mExpr (mLft lftP (dCall W_look_sizes (dCons (dVar 1) dNil))))
    B_Book_init_2)
def D_Book_init : MS := B_Book_init_3
def W_Book_init : MW := wM 2 2 D_Book_init
def D_step_fault : DS := (dSeq (dIfS (dOr (dTst (dBin (oEq false) (dCb bLen (dCons (dVar 1) dNil)) (dC (dint 0)))) (dTst (dBin (oEq true) (dBin oIx (dVar 1) (dC (dint 0))) (dC (dstr "call"))))) (dRet (dCall W_fault_place (dCons (dVar 0) (dCons (dVar 1) dNil)))) dNext)
    (dSeq (dIfS (dTst (dBin (oEq true) (dCb bLen (dCons (dVar 1) dNil)) (dC (dint 3)))) (dRet (dUn oNeg (dC (dint 1)))) dNext)
    (dSeq (dIfS (dNot (dTst (dChain oLe oLe (dC (dint 0)) (dBin oIx (dVar 1) (dC (dint 2))) (dC (dint (9)))))) (dRet (dC (dint 2))) dNext)
    (dRet (dC (.dat .none))))))
def W_step_fault : Wt := wFn 2 2 D_step_fault
def D_calls : DS := (dRet (dCb bAny (dCons (dLc (dISeq (dVar 0)) (tfName 2) dYes (dAndV (dBin (oEq false) (dBin oIx (dVar 2) (dC (dint 0))) (dC (dstr "call"))) (dBin (oEq false) (dBin oIx (dVar 2) (dC (dint 1))) (dVar 1))) [2]) dNil)))
def W_calls : Wt := wFn 2 3 D_calls
def D_law_pick : DS := (dRet (dBin oIx (dVar 1) (dCall W_take (dCons (dVar 0) (dCons (dCb bLen (dCons (dVar 1) dNil)) dNil)))))
def W_law_pick : Wt := wFn 2 2 D_law_pick
def D_law_same (W : Wt) : DS := (dSeq (dIfS (dTst (dBin (oIsN false) (dVar 1) (dC (.dat .none)))) (dRet (dBin (oIsN false) (dVar 0) (dC (.dat .none)))) dNext)
    (dSeq (dIfS (dTst (dCb bIsi (dCons (dVar 1) (dCons (dC (.raw (.ty "bool"))) dNil)))) (dRet (dAndV (dCb bIsi (dCons (dVar 0) (dCons (dC (.raw (.ty "bool"))) dNil))) (dBin (oEq false) (dVar 0) (dVar 1)))) dNext)
    (dSeq (dIfS (dTst (dCb bIsi (dCons (dVar 1) (dCons (dC (.raw (.ty "int"))) dNil)))) (dRet (dAndV (dCb bIsi (dCons (dVar 0) (dCons (dC (.raw (.ty "int"))) dNil))) (dAndV (dNotV (dCb bIsi (dCons (dVar 0) (dCons (dC (.raw (.ty "bool"))) dNil)))) (dBin (oEq false) (dVar 0) (dVar 1))))) dNext)
    (dSeq (dIfS (dTst (dCb bIsi (dCons (dVar 1) (dCons (dC (.raw (.ty "str"))) dNil)))) (dRet (dAndV (dCb bIsi (dCons (dVar 0) (dCons (dC (.raw (.ty "str"))) dNil))) (dBin (oEq false) (dVar 0) (dVar 1)))) dNext)
    (dSeq (dIfS (dOr (dTst (dBin (oEq true) (dCb bIsi (dCons (dVar 1) (dCons (dC (.raw (.ty "tuple"))) dNil))) (dCb bIsi (dCons (dVar 0) (dCons (dC (.raw (.ty "tuple"))) dNil))))) (dTst (dBin (oEq true) (dCb bIsi (dCons (dVar 1) (dCons (dC (.raw (.ty "list"))) dNil))) (dCb bIsi (dCons (dVar 0) (dCons (dC (.raw (.ty "list"))) dNil)))))) (dRet (dC (dbl false))) dNext)
    (dSeq (dIfS (dTst (dBin (oEq true) (dCb bLen (dCons (dVar 0) dNil)) (dCb bLen (dCons (dVar 1) dNil)))) (dRet (dC (dbl false))) dNext)
    (dRet (dCb bAll (dCons (dLc (dIRg1 (dCons (dCb bLen (dCons (dVar 1) dNil)) dNil)) (tfName 2) dYes (dCall W (dCons (dBin oIx (dVar 0) (dVar 2)) (dCons (dBin oIx (dVar 1) (dVar 2)) dNil))) [2]) dNil)))))))))
def W_law_same : Nat → Wt
  | 0 => fun _ _ _ => False
  | k + 1 => wFn 2 3 (D_law_same (W_law_same k))
def D_law_sizes : DS := (dRet (dCb bTuple (dCons (dLc (dIRg1 (dCons (dBin oAdd (dC (dint 1)) (dCall W_take (dCons (dVar 0) (dCons (dVar 1) dNil)))) dNil)) (tfName 3) dYes (dBin oAdd (dC (dint 1)) (dCall W_take (dCons (dVar 0) (dCons (dVar 2) dNil)))) [3]) dNil)))
def W_law_sizes : Wt := wFn 3 4 D_law_sizes
def D_law_any_sizes : DS := (dRet (dCall W_law_sizes (dCons (dVar 0) (dCons (dC (dint 6)) (dCons (dCall W_law_pick (dCons (dVar 0) (dCons (dLst (dCons (dC (dint 40)) (dCons (dC (dint 9)) (dCons (dC (dint 4)) (dCons (dC (dint 2)) dNil))))) dNil))) dNil)))))
def W_law_any_sizes : Wt := wFn 1 1 D_law_any_sizes
def D_law_number : DS := (dSeq (dAsg 1 (dLst (dCons (dC (dint 0)) (dCons (dC (dint 1)) (dCons (dC (dint 2)) (dCons (dC (dint 3)) (dCons (dBin oAdd (dC (dint 1)) (dCall W_take (dCons (dVar 0) (dCons (dC (dint 9)) dNil)))) (dCons (dCall W_take (dCons (dVar 0) (dCons (dC (dint 45)) dNil))) (dCons (dBin oSub (dBin oPow (dC (dint 10)) (dC (dint 30))) (dC (dint 1))) (dCons (dCall W_take (dCons (dVar 0) (dCons (dBin oPow (dC (dint 10)) (dC (dint 30))) dNil))) dNil))))))))))
    (dFrz 1 (dRet (dCall W_law_pick (dCons (dVar 0) (dCons (dVar 1) dNil))))))
def W_law_number : Wt := wFn 1 2 D_law_number
def D_law_some_casks : DS := (dRet (dCb bTuple (dCons (dSl (dCall W_shuffled (dCons (dVar 0) (dCons (dLrg (dVar 1)) dNil))) dNone (dSome (dVar 2))) dNil)))
def W_law_some_casks : Wt := wFn 3 3 D_law_some_casks
def D_law_alike : DS := (dSeq (dAsg 1 (dLst dNil))
    (dSeq (dFor (dIRg1 (dCons (dCb bLen (dCons (dVar 0) dNil)) dNil)) (tfName 2) (dSeq (dAsg 3 (dLc (dIRg1 (dCons (dCb bLen (dCons (dVar 0) dNil)) dNil)) (tfName 4) (dAnd (dTst (dBin (oEq true) (dVar 4) (dVar 2))) (dTst (dBin (oEq false) (dBin oIx (dVar 0) (dVar 4)) (dBin oIx (dVar 0) (dVar 2))))) (dVar 4) [4]))
    (dFrz 3 (dExt 1 (dLc (dISeq (dVar 3)) (tfName 4) dYes (dTup (dCons (dVar 2) (dCons (dVar 4) dNil))) [4])))))
    (dRetV 1)))
def W_law_alike : Wt := wFn 1 5 D_law_alike
def D_law_deed : DS := (dSeq (dAsg 4 (dCall W_take (dCons (dVar 0) (dCons (dC (dint 12)) dNil))))
    (dSeq (dAsg 5 (dCall W_law_alike (dCons (dVar 1) dNil)))
    (dSeq (dIfS (dAnd (dTst (dBin (oEq false) (dVar 4) (dC (dint 0)))) (dTst (dBin (oEq true) (dVar 5) (dLst dNil)))) (dFrz 5 (dRet (dBin oAdd (dTup (dCons (dC (dstr "swap")) dNil)) (dCall W_law_pick (dCons (dVar 0) (dCons (dVar 5) dNil)))))) dNext)
    (dSeq (dIfS (dAnd (dTst (dBin oLt (dVar 4) (dC (dint 3)))) (dTst (dVar 3))) (dRet (dTup (dCons (dC (dstr "tap")) (dCons (dCall W_law_pick (dCons (dVar 0) (dCons (dLst (dCons (dC (dint 1)) (dCons (dC (dint 1)) (dCons (dC (dint 2)) (dCons (dC (dint 3)) (dCons (dVar 2) dNil)))))) dNil))) (dCons (dCall W_take (dCons (dVar 0) (dCons (dCb bLen (dCons (dVar 1) dNil)) dNil))) dNil))))) dNext)
    (dSeq (dIfS (dOr (dTst (dBin (oEq false) (dVar 4) (dC (dint 3)))) (dTst (dBin (oEq false) (dCb bLen (dCons (dVar 1) dNil)) (dC (dint 1))))) (dRet (dTup (dCons (dC (dstr "drain")) (dCons (dVar 2) (dCons (dCall W_take (dCons (dVar 0) (dCons (dCb bLen (dCons (dVar 1) dNil)) dNil))) dNil))))) dNext)
    (dSeq (dAsg 6 (dBin oAdd (dC (dint 2)) (dCall W_take (dCons (dVar 0) (dCons (dBin oSub (dCb bLen (dCons (dVar 1) dNil)) (dC (dint 1))) dNil)))))
    (dSeq (dAsg 7 (dBin oIx (dLst (dCons (dC (dstr "over")) (dCons (dC (dstr "down")) dNil))) (dBin oDiv (dCall W_take (dCons (dVar 0) (dCons (dC (dint 3)) dNil))) (dC (dint 2)))))
    (dFrz 6 (dRet (dBin oAdd (dTup (dCons (dVar 7) (dCons (dVar 2) dNil))) (dCall W_law_some_casks (dCons (dVar 0) (dCons (dCb bLen (dCons (dVar 1) dNil)) (dCons (dVar 6) dNil))))))))))))))
def W_law_deed : Wt := wFn 4 8 D_law_deed
def D_law_names : DS := (dSeq (dAsg 2 (dC (dstr "abcdefghijklmnopqrstuvwxyz")))
    (dSeq (dAsg 3 (dBin oMulS (dBin oIx (dVar 2) (dCall W_take (dCons (dVar 0) (dCons (dC (dint 26)) dNil)))) (dCall W_take (dCons (dVar 0) (dCons (dC (dint 8)) dNil)))))
    (dSeq (dAsg 4 (dCall W_take (dCons (dVar 0) (dCons (dBin oAdd (dCb bLen (dCons (dVar 3) dNil)) (dC (dint 1))) dNil))))
    (dSeq (dAsg 5 (dCall W_take (dCons (dVar 0) (dCons (dC (dint 26)) dNil))))
    (dRet (dLc (dIRg1 (dCons (dVar 1) dNil)) (tfName 6) dYes (dBin oAdd (dBin oAdd (dSl (dVar 3) dNone (dSome (dVar 4))) (dBin oIx (dVar 2) (dBin oMod (dBin oAdd (dVar 5) (dBin oMul (dC (dint 7)) (dVar 6))) (dC (dint 26))))) (dSl (dVar 3) (dSome (dVar 4)) dNone)) [6]))))))
def W_law_names : Wt := wFn 2 7 D_law_names
def D_law_step : DS := (dSeq (dAsg 3 (dCall W_take (dCons (dVar 0) (dCons (dC (dint 5)) dNil))))
    (dSeq (dIfS (dAnd (dTst (dBin oLt (dVar 3) (dC (dint 2)))) (dTst (dBin (oEq true) (dVar 2) (dLst dNil)))) (dRet (dTup (dCons (dC (dstr "call")) (dCons (dCall W_law_pick (dCons (dVar 0) (dCons (dVar 2) dNil))) (dCons (dCall W_take (dCons (dVar 0) (dCons (dC (dint 10)) dNil))) dNil))))) dNext)
    (dSeq (dIfS (dAnd (dTst (dBin (oEq false) (dVar 3) (dC (dint 2)))) (dTst (dBin (oEq false) (dCall W_take (dCons (dVar 0) (dCons (dC (dint 6)) dNil))) (dC (dint 0))))) (dSeq (dAsg 4 (dLst (dCons (dTup (dCons (dC (dstr "call")) (dCons (dC (dstr "zz")) (dCons (dC (dint 10)) dNil)))) (dCons (dTup (dCons (dC (dstr "call")) (dCons (dC (dstr "Zz")) (dCons (dC (dint 1)) dNil)))) (dCons (dTup (dCons (dC (dstr "call")) dNil)) (dCons (dTup dNil) (dCons (dTup (dCons (dC (dstr "over")) (dCons (dC (dint 1)) (dCons (dC (dint 0)) (dCons (dC (dint 0)) dNil))))) (dCons (dTup (dCons (dC (dstr "call")) (dCons (dC (dstr "Zz")) (dCons (dC (dint 1)) (dCons (dC (dint 1)) dNil))))) dNil))))))))
    (dFrz 4 (dRet (dCall W_law_pick (dCons (dVar 0) (dCons (dVar 4) dNil)))))) dNext)
    (dRet (dCall W_law_deed (dCons (dVar 0) (dCons (dVar 1) (dCons (dCall W_law_number (dCons (dVar 0) dNil)) (dCons (dC (dbl true)) dNil)))))))))
def W_law_step : Wt := wFn 3 5 D_law_step
def B_law_step_word_0 : MS := (mRet (mLft lftP (dC (dstr "bad row"))))
def B_law_step_word_1 : MS := (mRet (mLft lftP (dC (dstr "bad row"))))
def B_law_step_word_2 : MS := (mRet (mIfE (mTst (mBin (oDIn false) (mLft lftP (dBin oIx (dVar 2) (dC (dint 1)))) (mVar 1))) (mLft lftP (dC (dstr ""))) (mLft lftP (dC (dstr "no round")))))
def B_law_step_word_3 : MS := (mSeq (mIfS (mLftT (dOr (dTst (dBin (oEq true) (dCb bLen (dCons (dVar 2) dNil)) (dC (dint 3)))) (dNot (dTst (dChain oLe oLe (dC (dint 0)) (dBin oIx (dVar 2) (dC (dint 2))) (dC (dint 9))))))) B_law_step_word_1 mNext)
    B_law_step_word_2)
def B_law_step_word_4 : MS := (mRet (mLft lftP (dC (dstr ""))))
def B_law_step_word_5 : MS := (mSeq (mIfS (mLftT (dTst (dBin (oEq false) (dBin oIx (dVar 2) (dC (dint 0))) (dC (dstr "call"))))) B_law_step_word_3 mNext)
    B_law_step_word_4)
def B_law_step_word_6 : MS := (mSeq (mIfS (mLftT (dOr (dTst (dBin (oEq false) (dVar 2) (dTup dNil))) (dTst (dBin (oEq false) (dVar 2) (dTup (dCons (dC (dstr "over")) (dCons (dC (dint 1)) (dCons (dC (dint 0)) (dCons (dC (dint 0)) dNil))))))))) B_law_step_word_0 mNext)
    B_law_step_word_5)
def D_law_step_word : MS := B_law_step_word_6
def W_law_step_word : MW := wM 3 3 D_law_step_word
def B_law_laid_0 : MS := (mRet (mIfE (mLftT (dTst (dBin (oEq false) (dBin oIx (dVar 1) (dC (dint 0))) (dC (dstr "call"))))) (mBin (mo lftP oMulE) (mBin oDGet (mVar 0) (mLft lftP (dBin oIx (dVar 1) (dC (dint 1))))) (mLft lftP (dBin oIx (dVar 1) (dC (dint 2))))) (mLft lftP (dLst (dCons (dVar 1) dNil)))))
def D_law_laid : MS := B_law_laid_0
def W_law_laid : MW := wM 2 2 D_law_laid
def B_law_due_0 : MS := (mRet (mLft lftP (dC (dstr "bad name"))))
def B_law_due_1 : MS := (mRet (mLft lftP (dC (dstr "taken"))))
def B_law_due_2 : MS := (mRet (mLft lftP (dC (dstr "too many"))))
def B_law_due_3 : MS := (mRet (mLft lftP (dBin oIx (dVar 5) (dC (dint 0)))))
def B_law_due_4 : MS := (mRet (mLft lftP (dIfE (dTst (dBin oGt (dVar 6) (dC (dint 200)))) (dC (dstr "too long")) (dC (dstr "")))))
def B_law_due_5 : MS := (mSeq (mAsg 6 (mCb (mc lftP bSum) (mCons (mLc .dat (mLftI (dISeq (dVar 3))) (tfName 7) mYes (mIfE (mLftT (dTst (dBin (oEq false) (dBin oIx (dVar 7) (dC (dint 0))) (dC (dstr "call"))))) (mBin (mo lftP oMulE) (mLft lftP (dBin oIx (dVar 7) (dC (dint 2)))) (mCb (mc lftP bLen) (mCons (mBin oDGet (mVar 1) (mLft lftP (dBin oIx (dVar 7) (dC (dint 1))))) mNil))) (mLft lftP (dC (dint 1)))) [7]) mNil)))
    B_law_due_4)
def B_law_due_6 : MS := (mSeq (mIfS (mLftT (dTst (dBin (oEq true) (dVar 5) (dLst dNil)))) B_law_due_3 mNext)
    B_law_due_5)
def B_law_due_7 : MS := (mSeq (mAsg 5 (mLc .dat (mLftI (dISeq (dVar 4))) (tfName 8) (mLftT (dTst (dBin (oEq true) (dVar 8) (dC (dstr ""))))) (mLft lftP (dVar 8)) [8]))
    B_law_due_6)
def B_law_due_8 : MS := (mSeq (mAsg 4 (mLc .dat (mLftI (dISeq (dVar 3))) (tfName 7) mYes (mCall W_law_step_word (mCons (mLft lftP (dVar 0)) (mCons (mVar 1) (mCons (mLft lftP (dVar 7)) mNil)))) [7]))
    B_law_due_7)
def B_law_due_9 : MS := (mSeq (mIfS (mTst (mBin (mo lftP oGt) (mCb cLenD (mCons (mVar 1) mNil)) (mLft lftP (dC (dint 11))))) B_law_due_2 mNext)
    B_law_due_8)
def B_law_due_10 : MS := (mSeq (mIfS (mTst (mBin (oDIn false) (mLft lftP (dVar 2)) (mVar 1))) B_law_due_1 mNext)
    B_law_due_9)
def B_law_due_11 : MS := (mSeq (mIfS (mLftT (dTst (dBin (oIn false) (dVar 2) (dLst (dCons (dC (dstr "")) (dCons (dC (dstr "A")) (dCons (dC (dstr "abcdefghi")) (dCons (dC (dstr "a b")) dNil)))))))) B_law_due_0 mNext)
    B_law_due_10)
def D_law_due : MS := B_law_due_11
def W_law_due : MW := wM 4 9 D_law_due
def B_Book_sizes_0 : MS := (mRet (mFld 0 "held_sizes" (mVar 0)))
def D_Book_sizes : MS := B_Book_sizes_0
def W_Book_sizes : MW := wM 1 1 D_Book_sizes
def B_Book_look_written_0 : MS := (mLftS (dRaise 14 mk_NoRound (dCons (dVar 1) dNil)))
def B_Book_look_written_1 : MS := (mIfS (mTst (mBin (oDIn true) (mLft lftP (dVar 1)) (mFld 0 "written" (mVar 0)))) B_Book_look_written_0 mNext)
def D_Book_look_written : MS := B_Book_look_written_1
def W_Book_look_written : MW := wM 2 2 D_Book_look_written
def B_Book_steps_0 : MS := (mRet (mCb (mc lftP bList) (mCons (mBin oDGet (mFld 0 "written" (mVar 0)) (mLft lftP (dVar 1))) mNil)))
def B_Book_steps_1 : MS := (mSeq (mExpr (mMeth 0 "look_written" W_Book_look_written (mVar 0) (mCons (mLft lftP (dVar 1)) mNil)))
    B_Book_steps_0)
def D_Book_steps : MS := B_Book_steps_1
def W_Book_steps : MW := wM 2 2 D_Book_steps
def B_Book_flat_0 : MS := (mRet (mCb (mc lftP bList) (mCons (mBin oDGet (mFld 0 "laid" (mVar 0)) (mLft lftP (dVar 1))) mNil)))
def B_Book_flat_1 : MS := (mSeq (mExpr (mMeth 0 "look_written" W_Book_look_written (mVar 0) (mCons (mLft lftP (dVar 1)) mNil)))
    B_Book_flat_0)
def D_Book_flat : MS := B_Book_flat_1
def W_Book_flat : MW := wM 2 2 D_Book_flat
def B_Book_callers_0 : MS := (mRet (mLockE (mLc .dat (mIKeys (mFld 0 "written" (mVar 0))) (tfName 2) (mTst (mCallW lftP W_calls (mCons (mBin oDGet (mFld 0 "written" (mVar 0)) (mLft lftP (dVar 2))) (mCons (mLft lftP (dVar 1)) mNil)))) (mLft lftP (dVar 2)) [2])))
def B_Book_callers_1 : MS := (mSeq (mExpr (mMeth 0 "look_written" W_Book_look_written (mVar 0) (mCons (mLft lftP (dVar 1)) mNil)))
    B_Book_callers_0)
def D_Book_callers : MS := B_Book_callers_1
def W_Book_callers : MW := wM 2 3 D_Book_callers
def B_Book_names_0 : MS := (mRet (mCb (cListD lftP) (mCons (mFld 0 "written" (mVar 0)) mNil)))
def D_Book_names : MS := B_Book_names_0
def W_Book_names : MW := wM 1 1 D_Book_names
def B_Book_len_0 : MS := (mRet (mCb cLenD (mCons (mFld 0 "written" (mVar 0)) mNil)))
def D_Book_len : MS := B_Book_len_0
def W_Book_len : MW := wM 1 1 D_Book_len
def B_Book_repr_0 : MS := (mRet (mFS ((mLft lftP (dC (dstr "Book("))) :: ((mFmt (mCb cLenD (mCons (mFld 0 "written" (mVar 0)) mNil))) :: ((mLft lftP (dC (dstr " rounds)"))) :: [])))))
def D_Book_repr : MS := B_Book_repr_0
def W_Book_repr : MW := wM 1 1 D_Book_repr
def B_Book_look_fresh_0 : MS := (mLftS (dRaise 6 mk_BadName dNil))
def B_Book_look_fresh_1 : MS := (mLftS (dRaise 8 mk_Taken (dCons (dVar 1) dNil)))
def B_Book_look_fresh_2 : MS := (mLftS (dRaise 12 mk_TooMany (dCons (dC (dint (12))) dNil)))
def B_Book_look_fresh_3 : MS := (mIfS (mTst (mBin (mo lftP oGe) (mCb cLenD (mCons (mFld 0 "written" (mVar 0)) mNil)) (mLft lftP (dC (dint (12)))))) B_Book_look_fresh_2 mNext)
def B_Book_look_fresh_4 : MS := (mSeq (mIfS (mTst (mBin (oDIn false) (mLft lftP (dVar 1)) (mFld 0 "written" (mVar 0)))) B_Book_look_fresh_1 mNext)
    B_Book_look_fresh_3)
def B_Book_look_fresh_5 : MS := (mSeq (mIfS (mLftT (dNot (dTst (dCall W_is_name (dCons (dVar 1) dNil))))) B_Book_look_fresh_0 mNext)
    B_Book_look_fresh_4)
def D_Book_look_fresh : MS := B_Book_look_fresh_5
def W_Book_look_fresh : MW := wM 2 2 D_Book_look_fresh
def B_Book_look_steps_0 : MS := (mLftS (dFrz 4 (dRaise 4 mk_BadRow (dCons (dVar 2) (dCons (dVar 4) dNil)))))
def B_Book_look_steps_1 : MS := (mExpr (mMeth 0 "look_written" W_Book_look_written (mVar 0) (mCons (mLft lftP (dBin oIx (dVar 3) (dC (dint 1)))) mNil)))
def B_Book_look_steps_2 : MS := (mIfS (mLftT (dTst (dBin (oEq false) (dBin oIx (dVar 3) (dC (dint 0))) (dC (dstr "call"))))) B_Book_look_steps_1 mNext)
def B_Book_look_steps_3 : MS := (mSeq (mIfS (mLftT (dTst (dBin (oIsN true) (dVar 4) (dC (.dat .none))))) B_Book_look_steps_0 mNext)
    B_Book_look_steps_2)
def B_Book_look_steps_4 : MS := (mSeq (mAsg 4 (mCallW lftP W_step_fault (mCons (mFld 0 "held_sizes" (mVar 0)) (mCons (mLft lftP (dVar 3)) mNil))))
    B_Book_look_steps_3)
def B_Book_look_steps_5 : MS := (mForE (mVar 1) 2 3 B_Book_look_steps_4)
def D_Book_look_steps : MS := B_Book_look_steps_5
def W_Book_look_steps : MW := wM 2 5 D_Book_look_steps
def B_Book_lay_out_0 : MS := (mExpr (mExt (mVar 2) (mBin (mo lftP oMulE) (mBin oDGet (mFld 0 "laid" (mVar 0)) (mLft lftP (dBin oIx (dVar 3) (dC (dint 1))))) (mLft lftP (dBin oIx (dVar 3) (dC (dint 2)))))))
def B_Book_lay_out_1 : MS := (mExpr (mApp (mVar 2) (mLft lftP (dVar 3))))
def B_Book_lay_out_2 : MS := (mIfS (mLftT (dTst (dBin (oEq false) (dBin oIx (dVar 3) (dC (dint 0))) (dC (dstr "call"))))) B_Book_lay_out_0 B_Book_lay_out_1)
def B_Book_lay_out_3 : MS := (mFrz 2 (mRet (mLft lftP (dCb bTuple (dCons (dVar 2) dNil)))))
def B_Book_lay_out_4 : MS := (mSeq (mForL (mVar 1) 3 B_Book_lay_out_2)
    B_Book_lay_out_3)
def B_Book_lay_out_5 : MS := (mSeq (mAsg 2 (mLstM mNil))
    B_Book_lay_out_4)
def D_Book_lay_out : MS := B_Book_lay_out_5
def W_Book_lay_out : MW := wM 2 4 D_Book_lay_out
def B_Book_count_deeds_0 : MS := (mRet (mBin (mo lftP oMulE) (mCb (mc lftP bLen) (mCons (mBin oDGet (mFld 0 "laid" (mVar 0)) (mLft lftP (dBin oIx (dVar 1) (dC (dint 1))))) mNil)) (mLft lftP (dBin oIx (dVar 1) (dC (dint 2))))))
def B_Book_count_deeds_1 : MS := (mRet (mLft lftP (dC (dint 1))))
def B_Book_count_deeds_2 : MS := (mSeq (mIfS (mLftT (dTst (dBin (oEq false) (dBin oIx (dVar 1) (dC (dint 0))) (dC (dstr "call"))))) B_Book_count_deeds_0 mNext)
    B_Book_count_deeds_1)
def D_Book_count_deeds : MS := B_Book_count_deeds_2
def W_Book_count_deeds : MW := wM 2 2 D_Book_count_deeds
def B_Book_write_0 : MS := (mLftS (dRaise 11 mk_TooLong (dCons (dC (dint (200))) dNil)))
def B_Book_write_1 : MS := (mDPut (mFld 0 "written" (mVar 0)) (mLft lftP (dVar 1)) (mCb (mc lftP bTuple) (mCons (mVar 2) mNil)))
def B_Book_write_2 : MS := (mSeq (mDPut (mFld 0 "laid" (mVar 0)) (mLft lftP (dVar 1)) (mMeth 0 "lay_out" W_Book_lay_out (mVar 0) (mCons (mVar 2) mNil)))
    B_Book_write_1)
def B_Book_write_3 : MS := (mSeq (mIfS (mTst (mBin (mo lftP oGt) (mCb (mc lftP bSum) (mCons (mLcL .dat (mVar 2) 3 mYes (mMeth 0 "count_deeds" W_Book_count_deeds (mVar 0) (mCons (mLft lftP (dVar 3)) mNil)) [3]) mNil)) (mLft lftP (dC (dint (200)))))) B_Book_write_0 mNext)
    B_Book_write_2)
def B_Book_write_4 : MS := (mSeq (mExpr (mMeth 0 "look_steps" W_Book_look_steps (mVar 0) (mCons (mVar 2) mNil)))
    B_Book_write_3)
def B_Book_write_5 : MS := (mSeq (mExpr (mMeth 0 "look_fresh" W_Book_look_fresh (mVar 0) (mCons (mLft lftP (dVar 1)) mNil)))
    B_Book_write_4)
def D_Book_write : MS := B_Book_write_5
def W_Book_write : MW := wM 3 4 D_Book_write
end Lw
namespace Lw
open PySem PySem.Spec PyProof.Rows L2 DL DW DM
def B_law_0 : MS := (mRet (mLft lftP (dC (dbl false))))
def B_law_1 : MS := (mExpr (mExtL (mVar 13) (mCall W_law_laid (mCons (mVar 5) (mCons (mLft lftP (dVar 14)) mNil)))))
def B_law_2 : MS := (mExpr (mApp (mVar 7) (mLft lftP (dVar 9))))
def B_law_3 : MS := (mSeq (mFrz 13 (mAsgGs (mGPut (mVar 5) (mLft lftP (dVar 9)) :: (mGPut (mVar 6) (mLft lftP (dVar 9)) :: [])) (mCons (mLft lftP (dVar 13)) (mCons (mLft lftP (dVar 10)) mNil))))
    B_law_2)
def B_law_4 : MS := (mSeq (mFor (mLftI (dISeq (dVar 10))) (tfName 14) B_law_1)
    B_law_3)
def B_law_5 : MS := (mSeq (mAsg 13 (mLstM mNil))
    B_law_4)
def B_law_6 : MS := (mRet (mLft lftP (dC (dbl false))))
def B_law_7 : MS := (mRet (mLft lftP (dC (dbl false))))
def B_law_8 : MS := (mIfS (mNot (mTst (mCallW lftP (W_law_same 6) (mCons (mLft lftP (dVar 18)) (mCons (mLstD (mCons (mBin oDGet (mVar 6) (mLft lftP (dVar 16))) (mCons (mBin oDGet (mVar 5) (mLft lftP (dVar 16))) (mCons (mLft lftP (dVar 17)) mNil)))) mNil))))) B_law_7 mNext)
def B_law_9 : MS := (mSeq (mAsg 18 (mLstD (mCons (mMeth 0 "steps" W_Book_steps (mVar 4) (mCons (mLft lftP (dVar 16)) mNil)) (mCons (mMethK 0 "flat" W_Book_flat [0, 1] (mVar 4) mNil (mCons (mLft lftP (dVar 16)) mNil)) (mCons (mMeth 0 "callers" W_Book_callers (mVar 4) (mCons (mLft lftP (dVar 16)) mNil)) mNil)))))
    B_law_8)
def B_law_10 : MS := (mSeq (mFgt 14 (mAsg 17 (mLcL .dat (mVar 7) 20 (mTst (mBin (mo lftP (oIn false)) (mLft lftP (dTup (dCons (dC (dstr "call")) (dCons (dVar 16) dNil)))) (mLc .dat (mISeq (mBin oDGet (mVar 6) (mLft lftP (dVar 20)))) (tfName 14) mYes (mLft lftP (dSl (dVar 14) dNone (dSome (dC (dint 2))))) [14]))) (mLft lftP (dVar 20)) [20])))
    B_law_9)
def B_law_11 : MS := (mForL (mVar 7) 16 B_law_10)
def B_law_12 : MS := (mSeq (mIfS (mNot (mTst (mLendD (W_law_same 6) (mCons (mLstD (mCons (mMeth 0 "names" W_Book_names (mVar 4) mNil) (mCons (mLenO 0 W_Book_len (mCons (mVar 4) mNil)) (mCons (mTxtO 0 W_Book_repr (mCons (mVar 4) mNil)) mNil)))) (mCons (mLstM (mCons (mVar 7) (mCons (mLft lftP (dVar 15)) (mCons (mLft lftP (dBin oAdd (dBin oAdd (dC (dstr "Book(")) (dCb bStr (dCons (dVar 15) dNil))) (dC (dstr " rounds)")))) mNil)))) mNil))))) B_law_6 mNext)
    B_law_11)
def B_law_13 : MS := (mSeq (mAsg 15 (mCb cLenD (mCons (mVar 7) mNil)))
    B_law_12)
def B_law_14 : MS := (mSeq (mIfS (mLftT (dTst (dBin (oEq false) (dVar 12) (dC (dstr ""))))) B_law_5 mNext)
    B_law_13)
def B_law_15 : MS := (mSeq (mExpr (mApp (mVar 11) (mLft lftP (dTup dNil))))
    B_law_14)
def B_law_16 : MS := (mSeq (mIfS (mOr (mTst (mBin (mo lftP (oEq true)) (mToldP aft (mMeth 0 "write" W_Book_write (mVar 4) (mCons (mLft lftP (dVar 9)) (mCons (mVar 11) mNil)))) (mLft lftP (dTup (dCons (dC (.dat .none)) (dCons (dVar 12) dNil)))))) (mTst (mBin (mo lftP (oEq true)) (mVar 11) (mLft lftP (dVar 10))))) B_law_0 mNext)
    B_law_15)
def B_law_17 : MS := (mSeq (mAsg 12 (mCall W_law_due (mCons (mLft lftP (dVar 2)) (mCons (mVar 5) (mCons (mLft lftP (dVar 9)) (mCons (mLft lftP (dVar 10)) mNil))))))
    B_law_16)
def B_law_18 : MS := (mSeq (mAsg 11 (mLft alcP (dCb bList (dCons (dVar 10) dNil))))
    B_law_17)
def B_law_19 : MS := (mSeq (mAsg 10 (mLc .dat (mLftI (dIRg1 (dCons (dCall W_take (dCons (dVar 1) (dCons (dC (dint 7)) dNil))) dNil))) (tfName 19) mYes (mLendT W_law_step (mCons (mLft lftP (dVar 1)) (mCons (mLft lftP (dVar 2)) (mCons (mVar 7) mNil)))) [19]))
    B_law_18)
def B_law_20 : MS := (mSeq (mAsg 9 (mLft lftP (dCall W_law_pick (dCons (dVar 1) (dCons (dBin oAdd (dVar 3) (dLst (dCons (dCall W_law_pick (dCons (dVar 1) (dCons (dLst (dCons (dC (dstr "")) (dCons (dC (dstr "A")) (dCons (dC (dstr "abcdefghi")) (dCons (dC (dstr "a b")) dNil))))) dNil))) dNil))) dNil)))))
    B_law_19)
def B_law_21 : MS := (mRet (mBin (mo lftP (oEq false)) (mMeth 0 "sizes" W_Book_sizes (mVar 4) mNil) (mLft lftP (dVar 2))))
def B_law_22 : MS := (mSeq (mFor (mLftI (dIRg1 (dCons (dCall W_take (dCons (dVar 1) (dCons (dC (dint 10)) dNil))) dNil))) (tfName 8) B_law_20)
    B_law_21)
def B_law_23 : MS := (mSeq (mParG [4, 5, 6, 7] (mCons (mMake 0 W_Book_init (mCons (mLft lftP (dVar 2)) mNil)) (mCons mDNew (mCons mDNew (mCons (mLstM mNil) mNil)))))
    B_law_22)
def B_law_24 : MS := (mSeq (mAsg 3 (mLft lftP (dCall W_law_names (dCons (dVar 1) (dCons (dC (dint 6)) dNil)))))
    B_law_23)
def B_law_25 : MS := (mSeq (mAsg 2 (mLft lftP (dCall W_law_any_sizes (dCons (dVar 1) dNil))))
    B_law_24)
def D_law : MS := B_law_25
end Lw
namespace Lw
open PySem PySem.Spec PyProof.Rows L2 DL DW DM
section
variable {K : PySem.W.Frag} {mg : Str → Option Value} {w : World}
theorem Top.K_Book_ (T : Top K mg w) : Cls K (T.fa 0) := T.K_Book
theorem Top.g_Book_ (T : Top K mg w) : mg "Book" = some (.ref (T.fa 0)) := T.g_Book
theorem Top.N_Book_held_sizes_ (T : Top K mg w) : NoAttr K (T.fa 0) "held_sizes" := T.N_Book_held_sizes
theorem Top.N_Book_written_ (T : Top K mg w) : NoAttr K (T.fa 0) "written" := T.N_Book_written
theorem Top.N_Book_laid_ (T : Top K mg w) : NoAttr K (T.fa 0) "laid" := T.N_Book_laid
theorem Top.Mk_Book_ (T : Top K mg w) : Mk K (T.fa 0) T.a_Book_init := T.Mk_Book
theorem Top.M_Book_write_ (T : Top K mg w) : Meth K (T.fa 0) "write" T.a_Book_write := T.M_Book_write
theorem Top.M_Book_steps_ (T : Top K mg w) : Meth K (T.fa 0) "steps" T.a_Book_steps := T.M_Book_steps
theorem Top.M_Book_flat_ (T : Top K mg w) : Meth K (T.fa 0) "flat" T.a_Book_flat := T.M_Book_flat
theorem Top.M_Book_callers_ (T : Top K mg w) : Meth K (T.fa 0) "callers" T.a_Book_callers := T.M_Book_callers
theorem Top.M_Book_names_ (T : Top K mg w) : Meth K (T.fa 0) "names" T.a_Book_names := T.M_Book_names
theorem Top.M_Book_sizes_ (T : Top K mg w) : Meth K (T.fa 0) "sizes" T.a_Book_sizes := T.M_Book_sizes
theorem Top.M_Book_look_fresh_ (T : Top K mg w) : Meth K (T.fa 0) "look_fresh" T.a_Book_look_fresh := T.M_Book_look_fresh
theorem Top.M_Book_look_written_ (T : Top K mg w) : Meth K (T.fa 0) "look_written" T.a_Book_look_written := T.M_Book_look_written
theorem Top.M_Book_look_steps_ (T : Top K mg w) : Meth K (T.fa 0) "look_steps" T.a_Book_look_steps := T.M_Book_look_steps
theorem Top.M_Book_count_deeds_ (T : Top K mg w) : Meth K (T.fa 0) "count_deeds" T.a_Book_count_deeds := T.M_Book_count_deeds
theorem Top.M_Book_lay_out_ (T : Top K mg w) : Meth K (T.fa 0) "lay_out" T.a_Book_lay_out := T.M_Book_lay_out
theorem Top.M_Book_len_ (T : Top K mg w) : Meth K (T.fa 0) "__len__" T.a_Book_len := T.M_Book_len
theorem Top.M_Book_repr_ (T : Top K mg w) : Meth K (T.fa 0) "__repr__" T.a_Book_repr := T.M_Book_repr
end
section
variable {P : Program} {w : World} {K : PySem.W.Frag} {mg : Str → Option Value} {base : Heap}
theorem init_BadSizes (T : Top K mg w) : FnOk P w K mg base CX0 1 T.fi_BadSizes T.fdi_BadSizes ["self", "cask"] (spInit T.C_BadSizes 1 mk_BadSizes) := ok_init1 T.Fi_BadSizes sc_BadSizes T.o_BadSizes T.n_BadSizes_word T.n_BadSizes_cask rfl (Or.inl rfl) (Or.inl rfl) (by decide) (by decide)
theorem init_BadRow (T : Top K mg w) : FnOk P w K mg base CX0 1 T.fi_BadRow T.fdi_BadRow ["self", "step", "place"] (spInit T.C_BadRow 2 mk_BadRow) := ok_init2 T.Fi_BadRow sc_BadRow T.o_BadRow T.n_BadRow_word T.n_BadRow_step T.n_BadRow_place rfl (Or.inl rfl) (Or.inl rfl) (Or.inl rfl) (by decide) (by decide) (by decide) (by decide)
theorem init_BadName (T : Top K mg w) : FnOk P w K mg base CX0 1 T.fi_BadName T.fdi_BadName ["self"] (spInit T.C_BadName 0 mk_BadName) := ok_initB0 OEL.base_V T.Fi_BadName sc_BadName T.o_BadName T.n_BadName_word rfl (Or.inl rfl)
theorem init_Taken (T : Top K mg w) : FnOk P w K mg base CX0 1 T.fi_Taken T.fdi_Taken ["self", "name"] (spInit T.C_Taken 1 mk_Taken) := ok_init1 T.Fi_Taken sc_Taken T.o_Taken T.n_Taken_word T.n_Taken_name rfl (Or.inl rfl) (Or.inl rfl) (by decide) (by decide)
theorem init_TooLong (T : Top K mg w) : FnOk P w K mg base CX0 1 T.fi_TooLong T.fdi_TooLong ["self", "most"] (spInit T.C_TooLong 1 mk_TooLong) := ok_init1 T.Fi_TooLong sc_TooLong T.o_TooLong T.n_TooLong_word T.n_TooLong_most rfl (Or.inl rfl) (Or.inl rfl) (by decide) (by decide)
theorem init_TooMany (T : Top K mg w) : FnOk P w K mg base CX0 1 T.fi_TooMany T.fdi_TooMany ["self", "most"] (spInit T.C_TooMany 1 mk_TooMany) := ok_init1 T.Fi_TooMany sc_TooMany T.o_TooMany T.n_TooMany_word T.n_TooMany_most rfl (Or.inl rfl) (Or.inl rfl) (by decide) (by decide)
theorem init_NoRound (T : Top K mg w) : FnOk P w K mg base CX0 1 T.fi_NoRound T.fdi_NoRound ["self", "name"] (spInit T.C_NoRound 1 mk_NoRound) := ok_initB OEL.base_L T.Fi_NoRound sc_NoRound T.o_NoRound T.n_NoRound_word T.n_NoRound_name rfl (Or.inl rfl) (Or.inl rfl) (by decide) (by decide)
theorem okd_law_take (T : Top K mg w) : FnOk P w K mg base CX0 1 T.a_law_take T.fd_law_take ["_law_bag", "_law_sides"] (spD K aTake okTake outTake noX) := by
  refine T.F_law_take.ok sc_law_take (fun vs H Q E h => ?_) (fun cdv A outer s H vs Q E hr h => ?_)
  · obtain ⟨n, b, I, _, r, _⟩ := h
    rw [resA_len r]
    rfl
  · obtain ⟨n, ⟨b, bT⟩, I, k, r, hn, qq, _⟩ := h
    cases r with
    | cons r1 r =>
      cases r with
      | cons r2 r =>
        cases r
        have e2 := int_read r2
        subst e2
        have e1 : _ = V.ref b := r1
        subst e1
        obtain ⟨ib, ipl, itb, l, ns, p, q, m, c, hb, hl, hp, hq, hm, hm2⟩ := k.b
        have sl : SqL K H l (ns.map V.int) := sl_mono k.s hl
        have fin : ∀ i H', 0 ≤ i → i < n → Ext K ⟨b, bT⟩ I H I H' → Q (.int i) H' := fun i H' h0 h1 e => qq _ _ I H' ⟨i, rfl, h0, h1⟩ e (Dp.int i)
        have n0 := hn.1
        have nd : ∀ i : Int, CDivW i n := fun i => wide_div (b := 1040) n0 (by
          have h1 : n.natAbs < 10000000000000000000000000000000000000000000000000000000000000000000000000000000000000000000000000000000000000000000000000000000000000000000000000000000000000000000000000000000000000000000000000000000000000000000000000000000000000000000000000000000000000000000000000000000000000000000000000000000000000000000000 := by
            have := hn.2
            omega
          exact Nat.lt_trans h1 (by decide +kernel)) (by decide) (by decide)
        refine ⟨_, (C8.pss_cut (ps_if (PW.pt (pw_and (pt_cmpR op_lt (pe_ix (k_ix_list K) (pv 0) pe_int (fun _ _ => rfl)) (pv 1) (nomark _)) (pw_and1 (pt_cmpR op_lt (pe_ix (k_ix_list K) (pv 0) pe_int (fun _ _ => rfl)) (pe_callB (k_len K) (by rfl) T.m_len PySem.boot_len (pa_cons (pe_ix (k_ix_list K) (pv 0) pe_int (fun _ _ => rfl)) pa_nil)) (nomark _))))) (pss_cons (ps_set (i := 2) sc_law_take.nd rfl (by first | exact Or.inl rfl | exact Or.inr rfl) (pe_ix (k_ix_seq K) (pe_ix (k_ix_list K) (pv 0) pe_int (fun _ _ => rfl)) (pe_ix (k_ix_list K) (pv 0) pe_int (fun _ _ => rfl)) (fun _ _ => rfl)))
      (pss_cons (ps_asg (pe_op op_add (pe_ix (k_ix_list K) (pv 0) pe_int (fun _ _ => rfl)) pe_int) (pg_sub (pv 0) pe_int set_list))
      (pss_cons (ps_asg pe_int (pg_sub (pv 0) pe_int set_list))
      (pss_one (ps_if (pt_cmpR op_ge (pv 2) (pe_op op_pow pe_int pe_int) (nomark _)) (pss_one (ps_asg (pv 2) (pg_sub (pv 0) pe_int set_list))) (pss_one (ps_asg (pe_op op_mod (pe_op op_add (pe_op op_add (pe_op op_mul (pe_ix (k_ix_list K) (pv 0) pe_int (fun _ _ => rfl)) pe_int) (pe_op op_mul (pe_op op_mod (pv 2) pe_int) pe_int)) pe_int) pe_int) (pg_sub (pv 0) pe_int set_list)))))))) pss_nil)
      (pss_cons (ps_if (pt_cmpR op_ge (pe_ix (k_ix_list K) (pv 0) pe_int (fun _ _ => rfl)) (pv 1) (nomark _)) (pss_cons (ps_set (i := 3) sc_law_take.nd rfl (by first | exact Or.inl rfl | exact Or.inr rfl) (pe_op op_mod (pe_ix (k_ix_list K) (pv 0) pe_int (fun _ _ => rfl)) (pv 1)))
      (pss_cons (ps_asg (pe_op op_fdivW (pe_ix (k_ix_list K) (pv 0) pe_int (fun _ _ => rfl)) (pv 1)) (pg_sub (pv 0) pe_int set_list))
      (pss_one (ps_ret (pv 3))))) pss_nil)
      (pss_cons (ps_asg (pe_op op_add (pe_ix (k_ix_list K) (pv 0) pe_int (fun _ _ => rfl)) pe_int) (pg_sub (pv 0) pe_int set_list))
      (pss_cons (ps_set (i := 4) sc_law_take.nd rfl (by first | exact Or.inl rfl | exact Or.inr rfl) (pe_ix (k_ix_list K) (pv 0) pe_int (fun _ _ => rfl)))
      (pss_cons (ps_asg (pe_op op_mod (pe_op op_add (pe_op op_add (pe_op op_add (pe_op op_mul (pe_op op_mod (pe_op op_mul (pv 4) (pv 4)) pe_int) pe_int) (pe_op op_mul (pv 4) pe_int)) (pe_op op_mul pe_int (pe_ix (k_ix_list K) (pv 0) pe_int (fun _ _ => rfl)))) pe_int) pe_int) (pg_sub (pv 0) pe_int set_list))
      (pss_one (ps_ret (pe_op op_mod (pe_op op_add (pe_op op_fdivW (pe_ix (k_ix_list K) (pv 0) pe_int (fun _ _ => rfl)) pe_int) (pe_op op_mul (pe_op op_mod (pe_ix (k_ix_list K) (pv 0) pe_int (fun _ _ => rfl)) pe_int) pe_int)) (pv 1))))))))), ?_⟩
        refine ⟨fun σ' H' => ∃ x2 p q m, σ' = [some (.ref b), some (.int n), x2, none, none] ∧ Ext K ⟨b, bT⟩ I H I H' ∧ H' b = some (.lst [.ref l, .int p, .int q, .int m, .int c]) ∧ 0 ≤ p ∧ 0 ≤ q ∧ 0 ≤ m ∧ m < 2147483647, ?_, ?_⟩
        · refine ⟨.ref b, rfl, b, _, 2, .int q, rfl, rfl, .inl (.inl hb), rfl, .int n, rfl, q, n, rfl, rfl, _, rfl, ite2 (fun h1 => ?_) (fun h1 => ?_)⟩
          · refine ⟨.ref b, rfl, b, _, 1, .int p, rfl, rfl, .inl (.inl hb), rfl, .ref b, rfl, b, _, 0, .ref l, rfl, rfl, .inl (.inl hb), rfl, l, _, rfl, .inl sl, p, _, rfl, rfl, _, rfl, ite2 (fun h2 => ?_) (fun h2 => ?_)⟩
            · have h2' : p < (ns.map V.int).length := of_decide_eq_true h2
              rw [List.length_map] at h2'
              have hpn : p.toNat < ns.length := by omega
              have gz : (ns.map V.int)[p.toNat]? = some (.int ns[p.toNat]) := by
                rw [List.getElem?_map, List.getElem?_eq_getElem hpn]
                rfl
              generalize ns[p.toNat] = z at gz
              have hb1 : upd H b (.lst [.ref l, .int (p + 1), .int q, .int m, .int c]) b = some (.lst [.ref l, .int (p + 1), .int q, .int m, .int c]) := upd_same
              have hb2 : upd (upd H b (.lst [.ref l, .int (p + 1), .int q, .int m, .int c])) b (.lst [.ref l, .int (p + 1), .int 0, .int m, .int c]) b = some (.lst [.ref l, .int (p + 1), .int 0, .int m, .int c]) := upd_same
              refine ⟨.ref b, rfl, b, _, 0, .ref l, rfl, rfl, .inl (.inl hb), rfl, .ref b, rfl, b, _, 1, .int p, rfl, rfl, .inl (.inl hb), rfl, .inl ⟨l, _, p, .int z, rfl, rfl, sl, at_of (j := p.toNat) (by omega) gz, ?_⟩⟩
              refine ⟨.ref b, rfl, b, _, 1, .int p, rfl, rfl, .inl (.inl hb), rfl, p, 1, rfl, rfl, .ref b, rfl, b, _, 1, 1, rfl, rfl, hb, rfl, ?_⟩
              refine ⟨.ref b, rfl, b, _, 2, 2, rfl, rfl, hb1, rfl, ?_⟩
              refine ⟨.int z, rfl, 10, 18, rfl, rfl, ⟨by decide, by decide, by decide⟩, z, _, rfl, rfl, _, rfl, ite2 (fun h3 => ?_) (fun h3 => ?_)⟩
              · have hz : (10 : Int) ^ (18 : Int).toNat ≤ z := of_decide_eq_true h3
                have hz0 : 0 ≤ z := Int.le_trans (by decide) hz
                refine ⟨.int z, rfl, .ref b, rfl, b, _, 2, 2, rfl, rfl, hb2, rfl, ?_⟩
                refine ⟨some (.int z), p + 1, z, m, rfl, ?_, upd_same, by omega, hz0, hm, hm2⟩
                rw [upd_upd, upd_upd]
                exact Ext.bag k ⟨_, hb⟩ hl (by omega) hz0 hm hm2
              · refine ⟨.ref b, rfl, b, _, 3, .int m, rfl, rfl, .inl (.inl hb2), rfl, m, 48271, rfl, rfl, .inl ⟨by omega, by omega⟩, .int z, rfl, z, 2147483629, rfl, rfl, (show (0 : Int) < 2147483629 by decide), _, 69621, rfl, rfl, .inl ⟨by omega, by omega⟩, _, _, rfl, rfl, _, 12345, rfl, rfl, _, 2147483647, rfl, rfl, (show (0 : Int) < 2147483647 by decide), .ref b, rfl, b, _, 3, 3, rfl, rfl, hb2, rfl, ?_⟩
                refine ⟨some (.int z), p + 1, 0, _, rfl, ?_, upd_same, by omega, by omega, Int.emod_nonneg _ (by decide), Int.emod_lt_of_pos _ (by decide)⟩
                rw [upd_upd, upd_upd]
                exact Ext.bag k ⟨_, hb⟩ hl (by omega) (by omega) (Int.emod_nonneg _ (by decide)) (Int.emod_lt_of_pos _ (by decide))
            · exact ⟨none, p, q, m, rfl, k.re, hb, hp, hq, hm, hm2⟩
          · exact iteF ⟨none, p, q, m, rfl, k.re, hb, hp, hq, hm, hm2⟩
        · rintro σ' H' ⟨x2, p, q, m, rfl, e, hb, hp, hq, hm, hm2⟩
          refine ⟨.ref b, rfl, b, _, 2, .int q, rfl, rfl, .inl (.inl hb), rfl, .int n, rfl, q, n, rfl, rfl, _, rfl, ite2 (fun h1 => ?_) (fun h1 => ?_)⟩
          · refine ⟨.ref b, rfl, b, _, 2, .int q, rfl, rfl, .inl (.inl hb), rfl, .int n, rfl, q, n, rfl, rfl, n0, ?_⟩
            refine ⟨.ref b, rfl, b, _, 2, .int q, rfl, rfl, .inl (.inl hb), rfl, .int n, rfl, q, n, rfl, rfl, nd q, .ref b, rfl, b, _, 2, 2, rfl, rfl, hb, rfl, ?_⟩
            exact ⟨_, rfl, fin _ _ (Int.emod_nonneg _ (by omega)) (Int.emod_lt_of_pos _ n0) (e.trans (Ext.bag e.ok ⟨_, hb⟩ hl hp (Int.ediv_nonneg hq (by omega)) hm hm2))⟩
          · have hb1 : upd H' b (.lst [.ref l, .int p, .int q, .int m, .int (c + 1)]) b = some (.lst [.ref l, .int p, .int q, .int m, .int (c + 1)]) := upd_same
            refine ⟨.ref b, rfl, b, _, 4, .int c, rfl, rfl, .inl (.inl hb), rfl, c, 1, rfl, rfl, .ref b, rfl, b, _, 4, 4, rfl, rfl, hb, rfl, ?_⟩
            refine ⟨.ref b, rfl, b, _, 3, .int m, rfl, rfl, .inl (.inl hb1), rfl, ?_⟩
            refine ⟨.int m, rfl, .int m, rfl, m, m, rfl, rfl, .inl ⟨by omega, by omega⟩, _, 2147483629, rfl, rfl, (show (0 : Int) < 2147483629 by decide), _, 5, rfl, rfl, .inl ⟨by omega, by omega⟩, .int m, rfl, m, 16811, rfl, rfl, .inl ⟨by omega, by omega⟩, _, _, rfl, rfl, .ref b, rfl, b, _, 4, .int (c + 1), rfl, rfl, .inl (.inl hb1), rfl, 7919, c + 1, rfl, rfl, .inl ⟨by decide, by decide⟩, _, _, rfl, rfl, _, 2531011, rfl, rfl, _, 2147483647, rfl, rfl, (show (0 : Int) < 2147483647 by decide), .ref b, rfl, b, _, 3, 3, rfl, rfl, hb1, rfl, ?_⟩
            have m0 : 0 ≤ ((m * m % 2147483629 * 5 + m * 16811 + 7919 * (c + 1) + 2531011) % 2147483647) := Int.emod_nonneg _ (by decide)
            have m1 : ((m * m % 2147483629 * 5 + m * 16811 + 7919 * (c + 1) + 2531011) % 2147483647) < 2147483647 := Int.emod_lt_of_pos _ (by decide)
            have hb3 : upd (upd H' b (.lst [.ref l, .int p, .int q, .int m, .int (c + 1)])) b (.lst [.ref l, .int p, .int q, .int ((m * m % 2147483629 * 5 + m * 16811 + 7919 * (c + 1) + 2531011) % 2147483647), .int (c + 1)]) b = some (.lst [.ref l, .int p, .int q, .int ((m * m % 2147483629 * 5 + m * 16811 + 7919 * (c + 1) + 2531011) % 2147483647), .int (c + 1)]) := upd_same
            have ee : Ext K ⟨b, bT⟩ I H I (upd (upd H' b (.lst [.ref l, .int p, .int q, .int m, .int (c + 1)])) b (.lst [.ref l, .int p, .int q, .int ((m * m % 2147483629 * 5 + m * 16811 + 7919 * (c + 1) + 2531011) % 2147483647), .int (c + 1)])) := by
              rw [upd_upd]
              exact e.trans (Ext.bag e.ok ⟨_, hb⟩ hl hp hq m0 m1)
            refine ⟨.ref b, rfl, b, _, 3, .int ((m * m % 2147483629 * 5 + m * 16811 + 7919 * (c + 1) + 2531011) % 2147483647), rfl, rfl, .inl (.inl hb3), rfl, _, 61, rfl, rfl, wide_div (b := 10) (by decide) (by decide) (by decide) (by decide), .ref b, rfl, b, _, 3, .int ((m * m % 2147483629 * 5 + m * 16811 + 7919 * (c + 1) + 2531011) % 2147483647), rfl, rfl, .inl (.inl hb3), rfl, _, 8191, rfl, rfl, (show (0 : Int) < 8191 by decide), _, 31, rfl, rfl, .inl ⟨by omega, by omega⟩, _, _, rfl, rfl, .int n, rfl, _, n, rfl, rfl, n0, ?_⟩
            exact fin _ _ (Int.emod_nonneg _ (by omega)) (Int.emod_lt_of_pos _ n0) ee
theorem ok_law_take (T : Top K mg w) : FnOk P w K mg base (L2.CX P w) 1 T.a_law_take T.fd_law_take ["_law_bag", "_law_sides"] (spW K T.cls T.fa W_take) := fn_to (okd_law_take T) take_to
def spOpen (K : PySem.W.Frag) : Sp := fun vs H Q _ => ∃ (a : Addr) (ns : List Int), vs = [.ref a] ∧ SqL K H a (ns.map V.int) ∧
  ∀ (b l : Addr) (ms : List Int) (H' : Hp), (∀ c o, H c = some o → H' c = some o) → b ≠ l → H' b = some (.lst [.ref l, .int 0, .int 0, .int 9465, .int 0]) → H' l = some (.lst (ms.map V.int)) → Q (.ref b) H'
theorem ok_law_open (T : Top K mg w) : FnOk P w K mg base CX0 1 T.a_law_open T.fd_law_open ["_law_script"] (spOpen K) := by
  refine T.F_law_open.ok sc_law_open (fun vs H Q E h => ?_) (fun cdv A outer s H vs Q E hr h => ?_)
  · obtain ⟨a, ns, rfl, _⟩ := h
    rfl
  · obtain ⟨a, ns, rfl, hS, q⟩ := h
    refine ⟨_, (pss_one (ps_ret (pe_lst (pa_cons (pe_callTy (k_list K) (by rfl) T.m_list (by decide +kernel) (pa_cons (pe_slice (k_sl_list K) (pv 0) po_none (po_some pe_int)) pa_nil)) (pa_cons pe_int (pa_cons pe_int (pa_cons pe_int (pa_cons pe_int pa_nil)))))))), ?_⟩
    obtain ⟨ms, hm⟩ := cut_ints ns none (some 63)
    refine ⟨.ref a, rfl, 63, rfl, a, _, rfl, hS, fun p hp => ⟨p, _, rfl, .inl (.inl (.inl upd_same)), fun l hl => ⟨(by show 5 ≤ sizeLine; decide), fun b hb => ?_⟩⟩⟩
    have nb : l ≠ b := fun z => by
      rw [← z, upd_same] at hb
      cases hb
    refine q b l ms _ (fun c o e => ?_) nb.symm upd_same ?_
    · have keep : ∀ {G : Hp} {d : Addr} {u : HO}, G d = none → G c = some o → upd G d u c = some o := fun n h => by rw [upd_ne (ne_of_none h n)]; exact h
      exact keep hb (keep hl (keep hp e))
    rw [upd_ne nb, upd_same, hm]
theorem bag_start {H : Hp} {b l : Addr} {T : List (Addr × Str)} {ms : List Int} {σ : L2.St} {n : Nat} (hn : b ≠ l) (hb : H b = some (.lst [.ref l, .int 0, .int 0, .int 9465, .int 0])) (hl : H l = some (.lst (ms.map V.int))) (ht : LamX.Tabs T H) (hs : σ[1]? = some (some (.ref b))) (hσ : σ.length = n + 2) :
    ∃ I, Ok K ⟨b, T⟩ I H ∧ EnvR K ⟨b, T⟩ H I H σ (none :: some .bag :: List.replicate n none) := by
  refine ⟨upd (fun _ => none) l (.lst (ms.map V.int)), ⟨fun a o h => ?_, ?_, fun a o h => ?_, ht, l, ms, 0, 0, 9465, 0, hb, .inl (.inl upd_same), by decide, by decide, by decide, by decide⟩, ⟨by rw [hσ]; simp, fun i r e => ?_, fun i j a ds es e => ?_⟩⟩
  · by_cases z : a = l
    · subst z
      rw [upd_same] at h
      rw [hl]
      exact h
    · rw [upd_ne z] at h
      cases h
  · rw [upd_ne hn]
  · by_cases z : a = l
    · subst z
      rw [upd_same] at h
      cases h
      exact True.intro
    · rw [upd_ne z] at h
      cases h
  · match i with
    | 0 => cases e
    | 1 => cases e; exact ⟨_, hs, rfl⟩
    | i + 2 =>
      have e : (List.replicate n (none : Option DV))[i]? = some (some r) := e
      rw [List.getElem?_replicate] at e
      split at e <;> cases e
  · match i with
    | 0 => cases e
    | 1 => cases e
    | i + 2 =>
      have e : (List.replicate n (none : Option DV))[i]? = some (some (.own ds)) := e
      rw [List.getElem?_replicate] at e
      split at e <;> cases e
abbrev aShuf (ns : List Int) : List DV := [.bag, .dat (.list (ns.map .int))]
theorem okd_law_shuffled (T : Top K mg w) : FnOk P w K mg base CX0 2 T.a_law_shuffled T.fd_law_shuffled ["_law_bag", "_law_row"] (spD K aShuf (fun ns => ns.length ≤ 1000) (fun ns r => ∃ ms : List Int, r = .own (ms.map .int) ∧ ms.Perm ns) noX) := by
  have G_law_take := okd_law_take (P := P) (w := w) (base := base) T
  refine fn_ok T.F_law_shuffled sc_law_shuffled (fun a _ => rfl) fun cdv A outer s H E hr => ⟨_, (pss_cons (ps_set (i := 2) sc_law_shuffled.nd rfl (by first | exact Or.inl rfl | exact Or.inr rfl) (pe_callTy (k_list K) (by rfl) T.m_list (by decide +kernel) (pa_cons (pv 1) pa_nil)))
      (pss_one (ps_ret (pe_lc (own := [("_law_thing", 3)]) (g := gName 3) (tt := tYes) rfl sc_law_shuffled.nd (k_pi_list K (pv 1)) (blkOk_by (own := [("_law_thing", 3)]) (N := N_law_shuffled) (sc := defScope s_law_shuffled) (by decide +kernel)) (fun _ _ _ _ _ => (pg_name (i := 3) sc_law_shuffled.nd rfl (by first | exact Or.inl rfl | exact Or.inr rfl))) (fun _ _ _ _ _ => pts_nil) (fun _ _ _ _ _ => (k_bm K PySem.F.plainAttrs_list PySem.F.slot_list_pop PySem.F.type_list_pop mt_popAt (pv 2) (pa_cons (pe_call G_law_take (hr.mono (by omega)) (by rfl) T.g_law_take T.F_law_take.kp T.b_law_take .nil pass0 (pa_cons (pv 0) (pa_cons (pe_callB (k_len K) (by rfl) T.m_len PySem.boot_len (pa_cons (pv 2) pa_nil)) pa_nil))) pa_nil))))))), fun b I ns hp => ?_⟩
  refine sv_seq1 (sv_set (r := .own (ns.map .int)) (ev_cb (ea_cons1 (ev_var rfl) ea_nil) fun rs e => by
    subst e
    exact cb_listL (.inr (.inr rfl)))) (sv_shuf hp fun ms h => ⟨ms, rfl, h⟩)
theorem ok_law_shuffled (T : Top K mg w) : FnOk P w K mg base (L2.CX P w) 2 T.a_law_shuffled T.fd_law_shuffled ["_law_bag", "_law_row"] (spW K T.cls T.fa W_shuffled) := fn_to (okd_law_shuffled T) shuffled_to
end
end Lw
namespace Lw
open PySem PySem.Spec PyProof.Rows L2 DL DW DM
section
variable {P : Program} {w : World} {K : PySem.W.Frag} {mg : Str → Option Value} {base : Heap}
theorem B_Book_flat_1_name (T : Top K mg w) : KBn K T.fd_Book_flat ["self", "name"] 1 ["name"] (pk [0, 1]) (pk [0, 1]) := kb_mk [0, 1] T.F_Book_flat (fun _ _ _ _ _ _ us ws h1 h2 => match us, ws, h1, h2 with | [_], [_], _, _ => rfl)
theorem ok_look_sizes (T : Top K mg w) : FnOk P w K mg base (L2.CX P w) 3 T.a_look_sizes T.fd_look_sizes ["sizes"] (spW K T.cls T.fa W_look_sizes) := by
  exact fn_w 1 3 T.F_look_sizes sc_look_sizes rfl rfl (by decide) fun cdv A outer s H E hr => (jss_cons (js_if (jt_not (jt_chain jo_le jo_le je_int (je_callB jb_len (by rfl) T.m_len PySem.boot_len (ja_cons (je_var (pv 0)) ja_nil)) (je_c (C8.pe_gc (by rfl) (gc_int T.c_MOST_CASKS)) (fun _ => Dp.int _)))) (jss_one (js_raise (x := 0) (mk := mk_BadSizes) (ja_cons (je_un ju_neg je_int) ja_nil) (by decide) (fun _ h => ps_raise rfl (takes_of rfl rfl rfl rfl) (pmk_oex T.o_BadSizes T.ii_BadSizes T.ti_BadSizes (init_BadSizes T) (hr.mono (by omega)) T.bi_BadSizes .nil pass0 (by rfl) T.g_BadSizes h)))) jss_nil)
      (jss_one (js_for (passes_of rfl) rfl (ji_enum (by rfl) T.m_enumerate (ja_cons (je_var (pv 0)) ja_nil)) to_pair (jg_pair (i := 1) (j := 2) (pg_tup rfl (pgs_cons (pg_name (i := 1) sc_look_sizes.nd rfl (by first | exact Or.inl rfl | exact Or.inr rfl)) (pgs_cons (pg_name (i := 2) sc_look_sizes.nd rfl (by first | exact Or.inl rfl | exact Or.inr rfl)) pgs_nil))) (ltr rfl) (ltr rfl)) (jss_one (js_if (jt_not (jt_chain jo_le jo_le je_int (je_var (pv 2)) (je_c (C8.pe_gc (by rfl) (gc_int T.c_MOST_SIZE)) (fun _ => Dp.int _)))) (jss_one (js_raise (x := 0) (mk := mk_BadSizes) (ja_cons (je_var (pv 1)) ja_nil) (by decide) (fun _ h => ps_raise rfl (takes_of rfl rfl rfl rfl) (pmk_oex T.o_BadSizes T.ii_BadSizes T.ti_BadSizes (init_BadSizes T) (hr.mono (by omega)) T.bi_BadSizes .nil pass0 (by rfl) T.g_BadSizes h)))) jss_nil)) (fun _ _ _ h1 h2 h3 => ps_for (passes_of rfl) rfl h1 h2 h3))))
theorem ok_cask_fault (T : Top K mg w) : FnOk P w K mg base (L2.CX P w) 1 T.a_cask_fault T.fd_cask_fault ["sizes", "deed", "start"] (spW K T.cls T.fa W_cask_fault) := by
  exact fn_w 3 5 T.F_cask_fault sc_cask_fault rfl rfl (by decide) fun cdv A outer s H E hr => (jss_cons (js_for (passes_of rfl) rfl (ji_rg2 (by rfl) T.m_range (ja_cons (je_var (pv 2)) (ja_cons (je_callB jb_len (by rfl) T.m_len PySem.boot_len (ja_cons (je_var (pv 1)) ja_nil)) ja_nil))) to_name (jg_name (i := 3) (pg_name (i := 3) sc_cask_fault.nd rfl (by first | exact Or.inl rfl | exact Or.inr rfl)) (ltr rfl)) (jss_cons (js_set sc_cask_fault.nd rfl (ltr rfl) (je_ix (jx_seq (units65 hr)) (je_var (pv 1)) (je_var (pv 3)) (fun _ _ => rfl)) (fun _ h => ps_set (i := 4) sc_cask_fault.nd rfl (by first | exact Or.inl rfl | exact Or.inr rfl) h))
      (jss_one (js_if (jt_w (jw_or (jt_not (jt_chain jo_le jo_lt je_int (je_var (pv 4)) (je_callB jb_len (by rfl) T.m_len PySem.boot_len (ja_cons (je_var (pv 0)) ja_nil)))) (jw_or1 (jt_cmp (jo_in (units65 hr)) (je_var (pv 4)) (je_sl (je_var (pv 1)) (jo_some (je_var (pv 2))) (jo_some (je_var (pv 3)))) (by rfl))))) (jss_one (js_retV (pv 3))) jss_nil))) (fun _ _ _ h1 h2 h3 => ps_for (passes_of rfl) rfl h1 h2 h3))
      (jss_one (js_ret je_non)))
theorem ok_length_fits (T : Top K mg w) : FnOk P w K mg base (L2.CX P w) 1 T.a_length_fits T.fd_length_fits ["sizes", "deed"] (spW K T.cls T.fa W_length_fits) := by
  exact fn_w 2 2 T.F_length_fits sc_length_fits rfl rfl (by decide) fun cdv A outer s H E hr => (jss_cons (js_if (jt_cmp (jo_in (units65 hr)) (je_ix (jx_seq (units65 hr)) (je_var (pv 1)) je_int (fun _ _ => rfl)) (je_tup (ja_cons je_str (ja_cons je_str ja_nil))) (by rfl)) (jss_one (js_ret (je_chain jo_le jo_le je_int (je_callB jb_len (by rfl) T.m_len PySem.boot_len (ja_cons (je_var (pv 1)) ja_nil)) (je_op (jo_add T.kl) je_int (je_callB jb_len (by rfl) T.m_len PySem.boot_len (ja_cons (je_var (pv 0)) ja_nil)))))) jss_nil)
      (jss_one (js_ret (je_cmp (jo_eq hr.units) (je_callB jb_len (by rfl) T.m_len PySem.boot_len (ja_cons (je_var (pv 1)) ja_nil)) je_int (nomark _)))))
theorem ok_swap_fault (T : Top K mg w) : FnOk P w K mg base (L2.CX P w) 2 T.a_swap_fault T.fd_swap_fault ["sizes", "deed"] (spW K T.cls T.fa W_swap_fault) := by
  have G_cask_fault := ok_cask_fault (P := P) (w := w) (base := base) T
  exact fn_w 2 3 T.F_swap_fault sc_swap_fault rfl rfl (by decide) fun cdv A outer s H E hr => (jss_cons (js_set sc_swap_fault.nd rfl (ltr rfl) (je_call G_cask_fault (hr.mono (by omega)) (by rfl) T.g_cask_fault T.F_cask_fault.kp T.b_cask_fault passX (ja_cons (je_var (pv 0)) (ja_cons (je_var (pv 1)) (ja_cons je_int ja_nil)))) (fun _ h => ps_set (i := 2) sc_swap_fault.nd rfl (by first | exact Or.inl rfl | exact Or.inr rfl) h))
      (jss_cons (js_if (jt_w (jw_and (jt_cmp jo_isN (je_var (pv 2)) je_non (nomark _)) (jw_and1 (jt_cmp (jo_ne hr.units) (je_ix (jx_seq (units65 hr)) (je_var (pv 0)) (je_ix (jx_seq (units65 hr)) (je_var (pv 1)) je_int (fun _ _ => rfl)) (fun _ _ => rfl)) (je_ix (jx_seq (units65 hr)) (je_var (pv 0)) (je_ix (jx_seq (units65 hr)) (je_var (pv 1)) je_int (fun _ _ => rfl)) (fun _ _ => rfl)) (nomark _))))) (jss_one (js_ret je_int)) jss_nil)
      (jss_one (js_retV (pv 2)))))
theorem ok_fault_place (T : Top K mg w) : FnOk P w K mg base (L2.CX P w) 3 T.a_fault_place T.fd_fault_place ["sizes", "deed"] (spW K T.cls T.fa W_fault_place) := by
  have G_cask_fault := ok_cask_fault (P := P) (w := w) (base := base) T
  have G_length_fits := ok_length_fits (P := P) (w := w) (base := base) T
  have G_swap_fault := ok_swap_fault (P := P) (w := w) (base := base) T
  exact fn_w 2 2 T.F_fault_place sc_fault_place rfl rfl (by decide) fun cdv A outer s H E hr => (jss_cons (js_if (jt_w (jw_or (jt_cmp (jo_eq hr.units) (je_callB jb_len (by rfl) T.m_len PySem.boot_len (ja_cons (je_var (pv 1)) ja_nil)) je_int (nomark _)) (jw_or1 (jt_cmp (jo_notin (units65 hr)) (je_ix (jx_seq (units65 hr)) (je_var (pv 1)) je_int (fun _ _ => rfl)) (je_c (C8.pe_gc (v := .ref T.a_WORDS) (by rfl) ⟨_, T.c_WORDS, rfl⟩) T.d_WORDS) (by rfl))))) (jss_one (js_ret je_int)) jss_nil)
      (jss_cons (js_if (jt_not (jt_val (je_call G_length_fits (hr.mono (by omega)) (by rfl) T.g_length_fits T.F_length_fits.kp T.b_length_fits passX (ja_cons (je_var (pv 0)) (ja_cons (je_var (pv 1)) ja_nil))))) (jss_one (js_ret (je_un ju_neg je_int))) jss_nil)
      (jss_cons (js_if (jt_cmp (jo_eq hr.units) (je_ix (jx_seq (units65 hr)) (je_var (pv 1)) je_int (fun _ _ => rfl)) je_str (nomark _)) (jss_one (js_ret (je_call G_swap_fault (hr.mono (by omega)) (by rfl) T.g_swap_fault T.F_swap_fault.kp T.b_swap_fault passX (ja_cons (je_var (pv 0)) (ja_cons (je_var (pv 1)) ja_nil))))) jss_nil)
      (jss_cons (js_if (jt_not (jt_chain jo_le jo_lt je_int (je_ix (jx_seq (units65 hr)) (je_var (pv 1)) je_int (fun _ _ => rfl)) (je_c (C8.pe_gc (by rfl) (gc_int T.c_GREAT)) (fun _ => Dp.int _)))) (jss_one (js_ret je_int)) jss_nil)
      (jss_one (js_ret (je_call G_cask_fault (hr.mono (by omega)) (by rfl) T.g_cask_fault T.F_cask_fault.kp T.b_cask_fault passX (ja_cons (je_var (pv 0)) (ja_cons (je_var (pv 1)) (ja_cons je_int ja_nil))))))))))
theorem ok_Book_init (T : Top K mg w) : FnOk P w K mg base (L2.CX P w) 4 T.a_Book_init T.fd_Book_init ["self", "sizes"] (spM K T.cls T.fa (fun _ => True) W_Book_init) := by
  have G_look_sizes := ok_look_sizes (P := P) (w := w) (base := base) T
  exact fn_m 2 2 T.F_Book_init sc_Book_init rfl rfl (by decide) fun cdv A outer s H E hr => (show XSs _ _ _ (mSeq (mExpr (mLft lftP (dCall W_look_sizes (dCons (dVar 1) dNil))))
    (mSeq (mFldS 0 "held_sizes" (mVar 0) (mLft lftP (dVar 1)))
    (mSeq (mFldS 0 "written" (mVar 0) mDNew)
    (mFldS 0 "laid" (mVar 0) mDNew)))) from (xss_cons (xs_expr (xe_lft (je_call G_look_sizes (hr.mono (by omega)) (by rfl) T.g_look_sizes T.F_look_sizes.kp T.b_look_sizes passX (ja_cons (je_var (pv 1)) ja_nil))))
      (xss_cons (xs_fld T.K_Book_ T.N_Book_held_sizes_ (xe_var (pv 0)) (xe_lft (je_var (pv 1))))
      (xss_cons (xs_fld T.K_Book_ T.N_Book_written_ (xe_var (pv 0)) xe_dnew)
      (xss_one (xs_fld T.K_Book_ T.N_Book_laid_ (xe_var (pv 0)) xe_dnew))))))
theorem ok_is_name (T : Top K mg w) : FnOk P w K mg base (L2.CX P w) 1 T.a_is_name T.fd_is_name ["name"] (spW K T.cls T.fa W_is_name) := by
  exact fn_w 1 2 T.F_is_name sc_is_name rfl rfl (by decide) fun cdv A outer s H E hr => (jss_one (js_ret (je_and (je_chain jo_le jo_le je_int (je_callB jb_len (by rfl) T.m_len PySem.boot_len (ja_cons (je_var (pv 0)) ja_nil)) (je_c (C8.pe_gc (by rfl) (gc_int T.c_MOST_LETTERS)) (fun _ => Dp.int _))) (je_one (je_callB (jb_all rfl) (by rfl) T.m_all (by decide +kernel) (ja_cons (je_lc (own := [("sign", 1)]) rfl sc_is_name.nd (ji_seq (je_var (pv 0))) (blkOk_by (own := [("sign", 1)]) (N := N_is_name) (sc := defScope s_is_name) (by decide +kernel)) to_name (fun _ => (jg_name (i := 1) (pg_name (i := 1) sc_is_name.nd rfl (by first | exact Or.inl rfl | exact Or.inr rfl)) (ltr rfl))) (by decide) (fun _ => jts_nil) (fun _ => (je_cmp (jo_in (units65 hr)) (je_var (pv 1)) (je_c (C8.pe_gc (by rfl) (gc_str T.c_LETTERS)) (fun _ => Dp.str _)) (by rfl)))) ja_nil))))))
theorem ok_step_fault (T : Top K mg w) : FnOk P w K mg base (L2.CX P w) 4 T.a_step_fault T.fd_step_fault ["sizes", "step"] (spW K T.cls T.fa W_step_fault) := by
  have G_fault_place := ok_fault_place (P := P) (w := w) (base := base) T
  exact fn_w 2 2 T.F_step_fault sc_step_fault rfl rfl (by decide) fun cdv A outer s H E hr => (jss_cons (js_if (jt_w (jw_or (jt_cmp (jo_eq hr.units) (je_callB jb_len (by rfl) T.m_len PySem.boot_len (ja_cons (je_var (pv 1)) ja_nil)) je_int (nomark _)) (jw_or1 (jt_cmp (jo_ne hr.units) (je_ix (jx_seq (units65 hr)) (je_var (pv 1)) je_int (fun _ _ => rfl)) je_str (nomark _))))) (jss_one (js_ret (je_call G_fault_place (hr.mono (by omega)) (by rfl) T.g_fault_place T.F_fault_place.kp T.b_fault_place passX (ja_cons (je_var (pv 0)) (ja_cons (je_var (pv 1)) ja_nil))))) jss_nil)
      (jss_cons (js_if (jt_cmp (jo_ne hr.units) (je_callB jb_len (by rfl) T.m_len PySem.boot_len (ja_cons (je_var (pv 1)) ja_nil)) je_int (nomark _)) (jss_one (js_ret (je_un ju_neg je_int))) jss_nil)
      (jss_cons (js_if (jt_not (jt_chain jo_le jo_le je_int (je_ix (jx_seq (units65 hr)) (je_var (pv 1)) je_int (fun _ _ => rfl)) (je_c (C8.pe_gc (by rfl) (gc_int T.c_MOST_CALLS)) (fun _ => Dp.int _)))) (jss_one (js_ret je_int)) jss_nil)
      (jss_one (js_ret je_non)))))
theorem ok_calls (T : Top K mg w) : FnOk P w K mg base (L2.CX P w) 1 T.a_calls T.fd_calls ["steps", "name"] (spW K T.cls T.fa W_calls) := by
  exact fn_w 2 3 T.F_calls sc_calls rfl rfl (by decide) fun cdv A outer s H E hr => (jss_one (js_ret (je_callB (jb_any rfl) (by rfl) T.m_any (by decide +kernel) (ja_cons (je_lc (own := [("step", 2)]) rfl sc_calls.nd (ji_seq (je_var (pv 0))) (blkOk_by (own := [("step", 2)]) (N := N_calls) (sc := defScope s_calls) (by decide +kernel)) to_name (fun _ => (jg_name (i := 2) (pg_name (i := 2) sc_calls.nd rfl (by first | exact Or.inl rfl | exact Or.inr rfl)) (ltr rfl))) (by decide) (fun _ => jts_nil) (fun _ => (je_and (je_cmp (jo_eq hr.units) (je_ix (jx_seq (units65 hr)) (je_var (pv 2)) je_int (fun _ _ => rfl)) je_str (nomark _)) (je_one (je_cmp (jo_eq hr.units) (je_ix (jx_seq (units65 hr)) (je_var (pv 2)) je_int (fun _ _ => rfl)) (je_var (pv 1)) (nomark _)))))) ja_nil))))
theorem ok_law_pick (T : Top K mg w) : FnOk P w K mg base (L2.CX P w) 2 T.a_law_pick T.fd_law_pick ["_law_bag", "_law_row"] (spW K T.cls T.fa W_law_pick) := by
  have G_law_take := ok_law_take (P := P) (w := w) (base := base) T
  exact fn_w 2 2 T.F_law_pick sc_law_pick rfl rfl (by decide) fun cdv A outer s H E hr => (jss_one (js_ret (je_ix (jx_seq (units65 hr)) (je_var (pv 1)) (je_call G_law_take (hr.mono (by omega)) (by rfl) T.g_law_take T.F_law_take.kp T.b_law_take passX (ja_cons (je_var (pv 0)) (ja_cons (je_callB jb_len (by rfl) T.m_len PySem.boot_len (ja_cons (je_var (pv 1)) ja_nil)) ja_nil))) (fun _ _ => rfl))))
theorem ok_law_same (T : Top K mg w) : ∀ k, FnOk P w K mg base (L2.CX P w) (1 + k) T.a_law_same T.fd_law_same ["_law_found", "_law_due_here"] (spW K T.cls T.fa (W_law_same k))
  | 0 => fn_none
  | k + 1 => by
    have G_law_same := ok_law_same T k
    exact fn_w (k := 1 + k) 2 3 T.F_law_same sc_law_same rfl rfl (by decide) fun cdv A outer s H E hr => (jss_cons (js_if (jt_cmp jo_isN (je_var (pv 1)) je_non (nomark _)) (jss_one (js_ret (je_cmp jo_isN (je_var (pv 0)) je_non (nomark _)))) jss_nil)
      (jss_cons (js_if (jt_val (je_callB jb_isi (by rfl) T.m_isinstance (by decide +kernel) (ja_cons (je_var (pv 1)) (ja_cons (je_raw (pe_bltn (v := .ty "bool") (u := .type "bool") (by rfl) T.m_bool (by decide +kernel) rfl)) ja_nil)))) (jss_one (js_ret (je_and (je_callB jb_isi (by rfl) T.m_isinstance (by decide +kernel) (ja_cons (je_var (pv 0)) (ja_cons (je_raw (pe_bltn (v := .ty "bool") (u := .type "bool") (by rfl) T.m_bool (by decide +kernel) rfl)) ja_nil))) (je_one (je_cmp (jo_eq hr.units) (je_var (pv 0)) (je_var (pv 1)) (nomark _)))))) jss_nil)
      (jss_cons (js_if (jt_val (je_callB jb_isi (by rfl) T.m_isinstance (by decide +kernel) (ja_cons (je_var (pv 1)) (ja_cons (je_raw (pe_bltn (v := .ty "int") (u := .type "int") (by rfl) T.m_int (by decide +kernel) rfl)) ja_nil)))) (jss_one (js_ret (je_and (je_callB jb_isi (by rfl) T.m_isinstance (by decide +kernel) (ja_cons (je_var (pv 0)) (ja_cons (je_raw (pe_bltn (v := .ty "int") (u := .type "int") (by rfl) T.m_int (by decide +kernel) rfl)) ja_nil))) (je_and (je_not (je_callB jb_isi (by rfl) T.m_isinstance (by decide +kernel) (ja_cons (je_var (pv 0)) (ja_cons (je_raw (pe_bltn (v := .ty "bool") (u := .type "bool") (by rfl) T.m_bool (by decide +kernel) rfl)) ja_nil)))) (je_one (je_cmp (jo_eq hr.units) (je_var (pv 0)) (je_var (pv 1)) (nomark _))))))) jss_nil)
      (jss_cons (js_if (jt_val (je_callB jb_isi (by rfl) T.m_isinstance (by decide +kernel) (ja_cons (je_var (pv 1)) (ja_cons (je_raw (pe_bltn (v := .ty "str") (u := .type "str") (by rfl) T.m_str (by decide +kernel) rfl)) ja_nil)))) (jss_one (js_ret (je_and (je_callB jb_isi (by rfl) T.m_isinstance (by decide +kernel) (ja_cons (je_var (pv 0)) (ja_cons (je_raw (pe_bltn (v := .ty "str") (u := .type "str") (by rfl) T.m_str (by decide +kernel) rfl)) ja_nil))) (je_one (je_cmp (jo_eq hr.units) (je_var (pv 0)) (je_var (pv 1)) (nomark _)))))) jss_nil)
      (jss_cons (js_if (jt_w (jw_or (jt_cmp (jo_ne hr.units) (je_callB jb_isi (by rfl) T.m_isinstance (by decide +kernel) (ja_cons (je_var (pv 1)) (ja_cons (je_raw (pe_bltn (v := .ty "tuple") (u := .type "tuple") (by rfl) T.m_tuple (by decide +kernel) rfl)) ja_nil))) (je_callB jb_isi (by rfl) T.m_isinstance (by decide +kernel) (ja_cons (je_var (pv 0)) (ja_cons (je_raw (pe_bltn (v := .ty "tuple") (u := .type "tuple") (by rfl) T.m_tuple (by decide +kernel) rfl)) ja_nil))) (nomark _)) (jw_or1 (jt_cmp (jo_ne hr.units) (je_callB jb_isi (by rfl) T.m_isinstance (by decide +kernel) (ja_cons (je_var (pv 1)) (ja_cons (je_raw (pe_bltn (v := .ty "list") (u := .type "list") (by rfl) T.m_list (by decide +kernel) rfl)) ja_nil))) (je_callB jb_isi (by rfl) T.m_isinstance (by decide +kernel) (ja_cons (je_var (pv 0)) (ja_cons (je_raw (pe_bltn (v := .ty "list") (u := .type "list") (by rfl) T.m_list (by decide +kernel) rfl)) ja_nil))) (nomark _))))) (jss_one (js_ret je_bl)) jss_nil)
      (jss_cons (js_if (jt_cmp (jo_ne hr.units) (je_callB jb_len (by rfl) T.m_len PySem.boot_len (ja_cons (je_var (pv 0)) ja_nil)) (je_callB jb_len (by rfl) T.m_len PySem.boot_len (ja_cons (je_var (pv 1)) ja_nil)) (nomark _)) (jss_one (js_ret je_bl)) jss_nil)
      (jss_one (js_ret (je_callB (jb_all rfl) (by rfl) T.m_all (by decide +kernel) (ja_cons (je_lc (own := [("_law_at", 2)]) rfl sc_law_same.nd (ji_rg1 (by rfl) T.m_range (ja_cons (je_callB jb_len (by rfl) T.m_len PySem.boot_len (ja_cons (je_var (pv 1)) ja_nil)) ja_nil)) (blkOk_by (own := [("_law_at", 2)]) (N := N_law_same) (sc := defScope s_law_same) (by decide +kernel)) to_name (fun _ => (jg_name (i := 2) (pg_name (i := 2) sc_law_same.nd rfl (by first | exact Or.inl rfl | exact Or.inr rfl)) (ltr rfl))) (by decide) (fun _ => jts_nil) (fun _ => (je_call G_law_same (hr.mono (by omega)) (by rfl) T.g_law_same T.F_law_same.kp T.b_law_same passE0 (ja_cons (je_ix (jx_seq (units65 hr)) (je_var (pv 0)) (je_var (pv 2)) (fun _ _ => rfl)) (ja_cons (je_ix (jx_seq (units65 hr)) (je_var (pv 1)) (je_var (pv 2)) (fun _ _ => rfl)) ja_nil))))) ja_nil))))))))))
theorem ok_law_sizes (T : Top K mg w) : FnOk P w K mg base (L2.CX P w) 2 T.a_law_sizes T.fd_law_sizes ["_law_bag", "_law_mcasks", "_law_most"] (spW K T.cls T.fa W_law_sizes) := by
  have G_law_take := ok_law_take (P := P) (w := w) (base := base) T
  exact fn_w 3 4 T.F_law_sizes sc_law_sizes rfl rfl (by decide) fun cdv A outer s H E hr => (jss_one (js_ret (je_callT jb_tuple (by rfl) T.m_tuple (by decide +kernel) (ja_cons (je_lc (own := [("_law_mcask", 3)]) rfl sc_law_sizes.nd (ji_rg1 (by rfl) T.m_range (ja_cons (je_op (jo_add T.kl) je_int (je_call G_law_take (hr.mono (by omega)) (by rfl) T.g_law_take T.F_law_take.kp T.b_law_take passX (ja_cons (je_var (pv 0)) (ja_cons (je_var (pv 1)) ja_nil)))) ja_nil)) (blkOk_by (own := [("_law_mcask", 3)]) (N := N_law_sizes) (sc := defScope s_law_sizes) (by decide +kernel)) to_name (fun _ => (jg_name (i := 3) (pg_name (i := 3) sc_law_sizes.nd rfl (by first | exact Or.inl rfl | exact Or.inr rfl)) (ltr rfl))) (by decide) (fun _ => jts_nil) (fun _ => (je_op (jo_add T.kl) je_int (je_call G_law_take (hr.mono (by omega)) (by rfl) T.g_law_take T.F_law_take.kp T.b_law_take passE0 (ja_cons (je_var (pv 0)) (ja_cons (je_var (pv 2)) ja_nil)))))) ja_nil))))
theorem ok_law_any_sizes (T : Top K mg w) : FnOk P w K mg base (L2.CX P w) 3 T.a_law_any_sizes T.fd_law_any_sizes ["_law_bag"] (spW K T.cls T.fa W_law_any_sizes) := by
  have G_law_sizes := ok_law_sizes (P := P) (w := w) (base := base) T
  have G_law_pick := ok_law_pick (P := P) (w := w) (base := base) T
  exact fn_w 1 1 T.F_law_any_sizes sc_law_any_sizes rfl rfl (by decide) fun cdv A outer s H E hr => (jss_one (js_ret (je_call G_law_sizes (hr.mono (by omega)) (by rfl) T.g_law_sizes T.F_law_sizes.kp T.b_law_sizes passX (ja_cons (je_var (pv 0)) (ja_cons je_int (ja_cons (je_call G_law_pick (hr.mono (by omega)) (by rfl) T.g_law_pick T.F_law_pick.kp T.b_law_pick passX (ja_cons (je_var (pv 0)) (ja_cons (je_lst (ja_cons je_int (ja_cons je_int (ja_cons je_int (ja_cons je_int ja_nil))))) ja_nil))) ja_nil))))))
theorem ok_law_number (T : Top K mg w) : FnOk P w K mg base (L2.CX P w) 3 T.a_law_number T.fd_law_number ["_law_bag"] (spW K T.cls T.fa W_law_number) := by
  have G_law_pick := ok_law_pick (P := P) (w := w) (base := base) T
  have G_law_take := ok_law_take (P := P) (w := w) (base := base) T
  exact fn_w 1 2 T.F_law_number sc_law_number rfl rfl (by decide) fun cdv A outer s H E hr => (jss_cons (js_set sc_law_number.nd rfl (ltr rfl) (je_lst (ja_cons je_int (ja_cons je_int (ja_cons je_int (ja_cons je_int (ja_cons (je_op (jo_add T.kl) je_int (je_call G_law_take (hr.mono (by omega)) (by rfl) T.g_law_take T.F_law_take.kp T.b_law_take passX (ja_cons (je_var (pv 0)) (ja_cons je_int ja_nil)))) (ja_cons (je_call G_law_take (hr.mono (by omega)) (by rfl) T.g_law_take T.F_law_take.kp T.b_law_take passX (ja_cons (je_var (pv 0)) (ja_cons je_int ja_nil))) (ja_cons (je_op jo_sub (je_op jo_pow je_int je_int) je_int) (ja_cons (je_call G_law_take (hr.mono (by omega)) (by rfl) T.g_law_take T.F_law_take.kp T.b_law_take passX (ja_cons (je_var (pv 0)) (ja_cons (je_op jo_pow je_int je_int) ja_nil))) ja_nil))))))))) (fun _ h => ps_set (i := 1) sc_law_number.nd rfl (by first | exact Or.inl rfl | exact Or.inr rfl) h))
      (jss_one (js_frz 1 (js_ret (je_call G_law_pick (hr.mono (by omega)) (by rfl) T.g_law_pick T.F_law_pick.kp T.b_law_pick passX (ja_cons (je_var (pv 0)) (ja_cons (je_var (pv 1)) ja_nil)))))))
theorem ok_law_some_casks (T : Top K mg w) : FnOk P w K mg base (L2.CX P w) 3 T.a_law_some_casks T.fd_law_some_casks ["_law_bag", "_law_mcasks", "_law_mmany"] (spW K T.cls T.fa W_law_some_casks) := by
  have G_law_shuffled := ok_law_shuffled (P := P) (w := w) (base := base) T
  exact fn_w 3 3 T.F_law_some_casks sc_law_some_casks rfl rfl (by decide) fun cdv A outer s H E hr => (jss_one (js_ret (je_callT jb_tuple (by rfl) T.m_tuple (by decide +kernel) (ja_cons (je_sl (je_call G_law_shuffled (hr.mono (by omega)) (by rfl) T.g_law_shuffled T.F_law_shuffled.kp T.b_law_shuffled passX (ja_cons (je_var (pv 0)) (ja_cons (je_lrg rfl (by rfl) T.m_list (by rfl) T.m_range (je_var (pv 1))) ja_nil))) jo_none (jo_some (je_var (pv 2)))) ja_nil))))
theorem ok_law_alike (T : Top K mg w) : FnOk P w K mg base (L2.CX P w) 1 T.a_law_alike T.fd_law_alike ["_law_msizes"] (spW K T.cls T.fa W_law_alike) := by
  exact fn_w 1 5 T.F_law_alike sc_law_alike rfl rfl (by decide) fun cdv A outer s H E hr => (jss_cons (js_set sc_law_alike.nd rfl (ltr rfl) (je_lst ja_nil) (fun _ h => ps_set (i := 1) sc_law_alike.nd rfl (by first | exact Or.inl rfl | exact Or.inr rfl) h))
      (jss_cons (js_for (passes_of rfl) rfl (ji_rg1 (by rfl) T.m_range (ja_cons (je_callB jb_len (by rfl) T.m_len PySem.boot_len (ja_cons (je_var (pv 0)) ja_nil)) ja_nil)) to_name (jg_name (i := 2) (pg_name (i := 2) sc_law_alike.nd rfl (by first | exact Or.inl rfl | exact Or.inr rfl)) (ltr rfl)) (jss_cons (js_setLc (i := 3) (own := [("_law_at", 4)]) rfl sc_law_alike.nd rfl rfl (sw_true rfl rfl rfl (by decide +kernel)) (ltr rfl) (ji_rg1 (by rfl) T.m_range (ja_cons (je_callB jb_len (by rfl) T.m_len PySem.boot_len (ja_cons (je_var (pv 0)) ja_nil)) ja_nil)) (blkOk_by (own := [("_law_at", 4)]) (N := N_law_alike) (sc := defScope s_law_alike) (by decide +kernel)) to_name (fun _ => (jg_name (i := 4) (pg_name (i := 4) sc_law_alike.nd rfl (by first | exact Or.inl rfl | exact Or.inr rfl)) (ltr rfl))) (by decide) (fun _ => (jts_one (jt_w (jw_and (jt_cmp (jo_ne hr.units) (je_var (pv 4)) (je_var (pv 2)) (nomark _)) (jw_and1 (jt_cmp (jo_eq hr.units) (je_ix (jx_seq (units65 hr)) (je_var (pv 0)) (je_var (pv 4)) (fun _ _ => rfl)) (je_ix (jx_seq (units65 hr)) (je_var (pv 0)) (je_var (pv 2)) (fun _ _ => rfl)) (nomark _))))))) (fun _ => (je_var (pv 4))))
      (jss_one (js_frz 3 (js_ext T.kl (i := 1) (je_lc (own := [("_law_at", 4)]) rfl sc_law_alike.nd (ji_seq (je_var (pv 3))) (blkOk_by (own := [("_law_at", 4)]) (N := N_law_alike) (sc := defScope s_law_alike) (by decide +kernel)) to_name (fun _ => (jg_name (i := 4) (pg_name (i := 4) sc_law_alike.nd rfl (by first | exact Or.inl rfl | exact Or.inr rfl)) (ltr rfl))) (by decide) (fun _ => jts_nil) (fun _ => (je_tup (ja_cons (je_var (pv 2)) (ja_cons (je_var (pv 4)) ja_nil))))) (fun _ h => ps_expr (pe_bm PySem.F.plainAttrs_list PySem.F.slot_list_extend PySem.F.type_list_extend mt_extend (pv 1) (pa_cons h pa_nil))))))) (fun _ _ _ h1 h2 h3 => ps_for (passes_of rfl) rfl h1 h2 h3))
      (jss_one (js_retV (pv 1)))))
theorem ok_law_deed (T : Top K mg w) : FnOk P w K mg base (L2.CX P w) 4 T.a_law_deed T.fd_law_deed ["_law_bag", "_law_msizes", "_law_number_here", "_law_taps"] (spW K T.cls T.fa W_law_deed) := by
  have G_law_take := ok_law_take (P := P) (w := w) (base := base) T
  have G_law_alike := ok_law_alike (P := P) (w := w) (base := base) T
  have G_law_some_casks := ok_law_some_casks (P := P) (w := w) (base := base) T
  have G_law_pick := ok_law_pick (P := P) (w := w) (base := base) T
  exact fn_w 4 8 T.F_law_deed sc_law_deed rfl rfl (by decide) fun cdv A outer s H E hr => (jss_cons (js_set sc_law_deed.nd rfl (ltr rfl) (je_call G_law_take (hr.mono (by omega)) (by rfl) T.g_law_take T.F_law_take.kp T.b_law_take passX (ja_cons (je_var (pv 0)) (ja_cons je_int ja_nil))) (fun _ h => ps_set (i := 4) sc_law_deed.nd rfl (by first | exact Or.inl rfl | exact Or.inr rfl) h))
      (jss_cons (js_set sc_law_deed.nd rfl (ltr rfl) (je_call G_law_alike (hr.mono (by omega)) (by rfl) T.g_law_alike T.F_law_alike.kp T.b_law_alike passX (ja_cons (je_var (pv 1)) ja_nil)) (fun _ h => ps_set (i := 5) sc_law_deed.nd rfl (by first | exact Or.inl rfl | exact Or.inr rfl) h))
      (jss_cons (js_if (jt_w (jw_and (jt_cmp (jo_eq hr.units) (je_var (pv 4)) je_int (nomark _)) (jw_and1 (jt_cmp (jo_ne hr.units) (je_var (pv 5)) (je_lst ja_nil) (nomark _))))) (jss_one (js_frz 5 (js_ret (je_op (jo_add T.kl) (je_tup (ja_cons je_str ja_nil)) (je_call G_law_pick (hr.mono (by omega)) (by rfl) T.g_law_pick T.F_law_pick.kp T.b_law_pick passX (ja_cons (je_var (pv 0)) (ja_cons (je_var (pv 5)) ja_nil))))))) jss_nil)
      (jss_cons (js_if (jt_w (jw_and (jt_cmp jo_lt (je_var (pv 4)) je_int (nomark _)) (jw_and1 (jt_val (je_var (pv 3)))))) (jss_one (js_ret (je_tup (ja_cons je_str (ja_cons (je_call G_law_pick (hr.mono (by omega)) (by rfl) T.g_law_pick T.F_law_pick.kp T.b_law_pick passX (ja_cons (je_var (pv 0)) (ja_cons (je_lst (ja_cons je_int (ja_cons je_int (ja_cons je_int (ja_cons je_int (ja_cons (je_var (pv 2)) ja_nil)))))) ja_nil))) (ja_cons (je_call G_law_take (hr.mono (by omega)) (by rfl) T.g_law_take T.F_law_take.kp T.b_law_take passX (ja_cons (je_var (pv 0)) (ja_cons (je_callB jb_len (by rfl) T.m_len PySem.boot_len (ja_cons (je_var (pv 1)) ja_nil)) ja_nil))) ja_nil)))))) jss_nil)
      (jss_cons (js_if (jt_w (jw_or (jt_cmp (jo_eq hr.units) (je_var (pv 4)) je_int (nomark _)) (jw_or1 (jt_cmp (jo_eq hr.units) (je_callB jb_len (by rfl) T.m_len PySem.boot_len (ja_cons (je_var (pv 1)) ja_nil)) je_int (nomark _))))) (jss_one (js_ret (je_tup (ja_cons je_str (ja_cons (je_var (pv 2)) (ja_cons (je_call G_law_take (hr.mono (by omega)) (by rfl) T.g_law_take T.F_law_take.kp T.b_law_take passX (ja_cons (je_var (pv 0)) (ja_cons (je_callB jb_len (by rfl) T.m_len PySem.boot_len (ja_cons (je_var (pv 1)) ja_nil)) ja_nil))) ja_nil)))))) jss_nil)
      (jss_cons (js_set sc_law_deed.nd rfl (ltr rfl) (je_op (jo_add T.kl) je_int (je_call G_law_take (hr.mono (by omega)) (by rfl) T.g_law_take T.F_law_take.kp T.b_law_take passX (ja_cons (je_var (pv 0)) (ja_cons (je_op jo_sub (je_callB jb_len (by rfl) T.m_len PySem.boot_len (ja_cons (je_var (pv 1)) ja_nil)) je_int) ja_nil)))) (fun _ h => ps_set (i := 6) sc_law_deed.nd rfl (by first | exact Or.inl rfl | exact Or.inr rfl) h))
      (jss_cons (js_set sc_law_deed.nd rfl (ltr rfl) (je_ix (jx_seq (units65 hr)) (je_lst (ja_cons je_str (ja_cons je_str ja_nil))) (je_op jo_div (je_call G_law_take (hr.mono (by omega)) (by rfl) T.g_law_take T.F_law_take.kp T.b_law_take passX (ja_cons (je_var (pv 0)) (ja_cons je_int ja_nil))) je_int) (fun _ _ => rfl)) (fun _ h => ps_set (i := 7) sc_law_deed.nd rfl (by first | exact Or.inl rfl | exact Or.inr rfl) h))
      (jss_one (js_frz 6 (js_ret (je_op (jo_add T.kl) (je_tup (ja_cons (je_var (pv 7)) (ja_cons (je_var (pv 2)) ja_nil))) (je_call G_law_some_casks (hr.mono (by omega)) (by rfl) T.g_law_some_casks T.F_law_some_casks.kp T.b_law_some_casks passX (ja_cons (je_var (pv 0)) (ja_cons (je_callB jb_len (by rfl) T.m_len PySem.boot_len (ja_cons (je_var (pv 1)) ja_nil)) (ja_cons (je_var (pv 6)) ja_nil)))))))))))))))
theorem ok_law_names (T : Top K mg w) : FnOk P w K mg base (L2.CX P w) 2 T.a_law_names T.fd_law_names ["_law_bag", "_law_count"] (spW K T.cls T.fa W_law_names) := by
  have G_law_take := ok_law_take (P := P) (w := w) (base := base) T
  exact fn_w 2 7 T.F_law_names sc_law_names rfl rfl (by decide) fun cdv A outer s H E hr => (jss_cons (js_set sc_law_names.nd rfl (ltr rfl) je_str (fun _ h => ps_set (i := 2) sc_law_names.nd rfl (by first | exact Or.inl rfl | exact Or.inr rfl) h))
      (jss_cons (js_set sc_law_names.nd rfl (ltr rfl) (je_op jo_mulS (je_ix (jx_seq (units65 hr)) (je_var (pv 2)) (je_call G_law_take (hr.mono (by omega)) (by rfl) T.g_law_take T.F_law_take.kp T.b_law_take passX (ja_cons (je_var (pv 0)) (ja_cons je_int ja_nil))) (fun _ _ => rfl)) (je_call G_law_take (hr.mono (by omega)) (by rfl) T.g_law_take T.F_law_take.kp T.b_law_take passX (ja_cons (je_var (pv 0)) (ja_cons je_int ja_nil)))) (fun _ h => ps_set (i := 3) sc_law_names.nd rfl (by first | exact Or.inl rfl | exact Or.inr rfl) h))
      (jss_cons (js_set sc_law_names.nd rfl (ltr rfl) (je_call G_law_take (hr.mono (by omega)) (by rfl) T.g_law_take T.F_law_take.kp T.b_law_take passX (ja_cons (je_var (pv 0)) (ja_cons (je_op (jo_add T.kl) (je_callB jb_len (by rfl) T.m_len PySem.boot_len (ja_cons (je_var (pv 3)) ja_nil)) je_int) ja_nil))) (fun _ h => ps_set (i := 4) sc_law_names.nd rfl (by first | exact Or.inl rfl | exact Or.inr rfl) h))
      (jss_cons (js_set sc_law_names.nd rfl (ltr rfl) (je_call G_law_take (hr.mono (by omega)) (by rfl) T.g_law_take T.F_law_take.kp T.b_law_take passX (ja_cons (je_var (pv 0)) (ja_cons je_int ja_nil))) (fun _ h => ps_set (i := 5) sc_law_names.nd rfl (by first | exact Or.inl rfl | exact Or.inr rfl) h))
      (jss_one (js_ret (je_lc (own := [("_law_k", 6)]) rfl sc_law_names.nd (ji_rg1 (by rfl) T.m_range (ja_cons (je_var (pv 1)) ja_nil)) (blkOk_by (own := [("_law_k", 6)]) (N := N_law_names) (sc := defScope s_law_names) (by decide +kernel)) to_name (fun _ => (jg_name (i := 6) (pg_name (i := 6) sc_law_names.nd rfl (by first | exact Or.inl rfl | exact Or.inr rfl)) (ltr rfl))) (by decide) (fun _ => jts_nil) (fun _ => (je_op (jo_add T.kl) (je_op (jo_add T.kl) (je_sl (je_var (pv 3)) jo_none (jo_some (je_var (pv 4)))) (je_ix (jx_seq (units65 hr)) (je_var (pv 2)) (je_op jo_mod (je_op (jo_add T.kl) (je_var (pv 5)) (je_op (jo_mul T.kl) je_int (je_var (pv 6)))) je_int) (fun _ _ => rfl))) (je_sl (je_var (pv 3)) (jo_some (je_var (pv 4))) jo_none))))))))))
theorem ok_law_step (T : Top K mg w) : FnOk P w K mg base (L2.CX P w) 5 T.a_law_step T.fd_law_step ["_law_bag", "_law_msizes", "_law_names_here"] (spW K T.cls T.fa W_law_step) := by
  have G_law_take := ok_law_take (P := P) (w := w) (base := base) T
  have G_law_deed := ok_law_deed (P := P) (w := w) (base := base) T
  have G_law_pick := ok_law_pick (P := P) (w := w) (base := base) T
  have G_law_number := ok_law_number (P := P) (w := w) (base := base) T
  exact fn_w 3 5 T.F_law_step sc_law_step rfl rfl (by decide) fun cdv A outer s H E hr => (jss_cons (js_set sc_law_step.nd rfl (ltr rfl) (je_call G_law_take (hr.mono (by omega)) (by rfl) T.g_law_take T.F_law_take.kp T.b_law_take passX (ja_cons (je_var (pv 0)) (ja_cons je_int ja_nil))) (fun _ h => ps_set (i := 3) sc_law_step.nd rfl (by first | exact Or.inl rfl | exact Or.inr rfl) h))
      (jss_cons (js_if (jt_w (jw_and (jt_cmp jo_lt (je_var (pv 3)) je_int (nomark _)) (jw_and1 (jt_cmp (jo_ne hr.units) (je_var (pv 2)) (je_lst ja_nil) (nomark _))))) (jss_one (js_ret (je_tup (ja_cons je_str (ja_cons (je_call G_law_pick (hr.mono (by omega)) (by rfl) T.g_law_pick T.F_law_pick.kp T.b_law_pick passX (ja_cons (je_var (pv 0)) (ja_cons (je_var (pv 2)) ja_nil))) (ja_cons (je_call G_law_take (hr.mono (by omega)) (by rfl) T.g_law_take T.F_law_take.kp T.b_law_take passX (ja_cons (je_var (pv 0)) (ja_cons je_int ja_nil))) ja_nil)))))) jss_nil)
      (jss_cons (js_if (jt_w (jw_and (jt_cmp (jo_eq hr.units) (je_var (pv 3)) je_int (nomark _)) (jw_and1 (jt_cmp (jo_eq hr.units) (je_call G_law_take (hr.mono (by omega)) (by rfl) T.g_law_take T.F_law_take.kp T.b_law_take passX (ja_cons (je_var (pv 0)) (ja_cons je_int ja_nil))) je_int (nomark _))))) (jss_cons (js_set sc_law_step.nd rfl (ltr rfl) (je_lst (ja_cons (je_tup (ja_cons je_str (ja_cons je_str (ja_cons je_int ja_nil)))) (ja_cons (je_tup (ja_cons je_str (ja_cons je_str (ja_cons je_int ja_nil)))) (ja_cons (je_tup (ja_cons je_str ja_nil)) (ja_cons (je_tup ja_nil) (ja_cons (je_tup (ja_cons je_str (ja_cons je_int (ja_cons je_int (ja_cons je_int ja_nil))))) (ja_cons (je_tup (ja_cons je_str (ja_cons je_str (ja_cons je_int (ja_cons je_int ja_nil))))) ja_nil))))))) (fun _ h => ps_set (i := 4) sc_law_step.nd rfl (by first | exact Or.inl rfl | exact Or.inr rfl) h))
      (jss_one (js_frz 4 (js_ret (je_call G_law_pick (hr.mono (by omega)) (by rfl) T.g_law_pick T.F_law_pick.kp T.b_law_pick passX (ja_cons (je_var (pv 0)) (ja_cons (je_var (pv 4)) ja_nil))))))) jss_nil)
      (jss_one (js_ret (je_call G_law_deed (hr.mono (by omega)) (by rfl) T.g_law_deed T.F_law_deed.kp T.b_law_deed passX (ja_cons (je_var (pv 0)) (ja_cons (je_var (pv 1)) (ja_cons (je_call G_law_number (hr.mono (by omega)) (by rfl) T.g_law_number T.F_law_number.kp T.b_law_number passX (ja_cons (je_var (pv 0)) ja_nil)) (ja_cons je_bl ja_nil))))))))))
theorem ok_law_step_word (T : Top K mg w) : FnOk P w K mg base (L2.CX P w) 1 T.a_law_step_word T.fd_law_step_word ["_law_msizes", "_law_flats", "_law_mstep"] (spM K T.cls T.fa (fun _ => True) W_law_step_word) := by
  exact fn_m 3 3 T.F_law_step_word sc_law_step_word rfl rfl (by decide) fun cdv A outer s H E hr => (show XSs _ _ _ (mSeq (mIfS (mLftT (dOr (dTst (dBin (oEq false) (dVar 2) (dTup dNil))) (dTst (dBin (oEq false) (dVar 2) (dTup (dCons (dC (dstr "over")) (dCons (dC (dint 1)) (dCons (dC (dint 0)) (dCons (dC (dint 0)) dNil))))))))) (mRet (mLft lftP (dC (dstr "bad row")))) mNext)
    (mSeq (mIfS (mLftT (dTst (dBin (oEq false) (dBin oIx (dVar 2) (dC (dint 0))) (dC (dstr "call"))))) (mSeq (mIfS (mLftT (dOr (dTst (dBin (oEq true) (dCb bLen (dCons (dVar 2) dNil)) (dC (dint 3)))) (dNot (dTst (dChain oLe oLe (dC (dint 0)) (dBin oIx (dVar 2) (dC (dint 2))) (dC (dint 9))))))) (mRet (mLft lftP (dC (dstr "bad row")))) mNext)
    (mRet (mIfE (mTst (mBin (oDIn false) (mLft lftP (dBin oIx (dVar 2) (dC (dint 1)))) (mVar 1))) (mLft lftP (dC (dstr ""))) (mLft lftP (dC (dstr "no round")))))) mNext)
    (mRet (mLft lftP (dC (dstr "")))))) from (xss_cons (xs_if (xt_lft (jt_w (jw_or (jt_cmp (jo_eq hr.units) (je_var (pv 2)) (je_tup ja_nil) (nomark _)) (jw_or1 (jt_cmp (jo_eq hr.units) (je_var (pv 2)) (je_tup (ja_cons je_str (ja_cons je_int (ja_cons je_int (ja_cons je_int ja_nil))))) (nomark _)))))) (xss_one (xs_ret (xe_lft je_str))) xss_nil)
      (xss_cons (xs_if (xt_lft (jt_cmp (jo_eq hr.units) (je_ix (jx_seq (units65 hr)) (je_var (pv 2)) je_int (fun _ _ => rfl)) je_str (nomark _))) (xss_cons (xs_if (xt_lft (jt_w (jw_or (jt_cmp (jo_ne hr.units) (je_callB jb_len (by rfl) T.m_len PySem.boot_len (ja_cons (je_var (pv 2)) ja_nil)) je_int (nomark _)) (jw_or1 (jt_not (jt_chain jo_le jo_le je_int (je_ix (jx_seq (units65 hr)) (je_var (pv 2)) je_int (fun _ _ => rfl)) je_int)))))) (xss_one (xs_ret (xe_lft je_str))) xss_nil)
      (xss_one (xs_ret (xe_ifE (xt_din (units1 hr) (xe_lft (je_ix (jx_seq (units65 hr)) (je_var (pv 2)) je_int (fun _ _ => rfl))) (xe_var (pv 1))) (xe_lft je_str) (xe_lft je_str))))) xss_nil)
      (xss_one (xs_ret (xe_lft je_str))))))
theorem ok_law_laid (T : Top K mg w) : FnOk P w K mg base (L2.CX P w) 1 T.a_law_laid T.fd_law_laid ["_law_flats", "_law_mstep"] (spM K T.cls T.fa (fun _ => True) W_law_laid) := by
  exact fn_m 2 2 T.F_law_laid sc_law_laid rfl rfl (by decide) fun cdv A outer s H E hr => (show XSs _ _ _ (mRet (mIfE (mLftT (dTst (dBin (oEq false) (dBin oIx (dVar 1) (dC (dint 0))) (dC (dstr "call"))))) (mBin (mo lftP oMulE) (mBin oDGet (mVar 0) (mLft lftP (dBin oIx (dVar 1) (dC (dint 1))))) (mLft lftP (dBin oIx (dVar 1) (dC (dint 2))))) (mLft lftP (dLst (dCons (dVar 1) dNil))))) from (xss_one (xs_ret (xe_ifE (xt_lft (jt_cmp (jo_eq hr.units) (je_ix (jx_seq (units65 hr)) (je_var (pv 1)) je_int (fun _ _ => rfl)) je_str (nomark _))) (xe_op (xop_of fin_lft (jo_mulE T.kl)) (xe_dget (units1 hr) (xe_var (pv 0)) (xe_lft (je_ix (jx_seq (units65 hr)) (je_var (pv 1)) je_int (fun _ _ => rfl))) (fun _ _ => rfl)) (xe_lft (je_ix (jx_seq (units65 hr)) (je_var (pv 1)) je_int (fun _ _ => rfl)))) (xe_lft (je_lst (ja_cons (je_var (pv 1)) ja_nil)))))))
theorem ok_law_due (T : Top K mg w) : FnOk P w K mg base (L2.CX P w) 2 T.a_law_due T.fd_law_due ["_law_msizes", "_law_flats", "_law_mname", "_law_msteps"] (spM K T.cls T.fa (fun _ => True) W_law_due) := by
  have G_law_step_word := ok_law_step_word (P := P) (w := w) (base := base) T
  exact fn_m 4 9 T.F_law_due sc_law_due rfl rfl (by decide) fun cdv A outer s H E hr => (show XSs _ _ _ (mSeq (mIfS (mLftT (dTst (dBin (oIn false) (dVar 2) (dLst (dCons (dC (dstr "")) (dCons (dC (dstr "A")) (dCons (dC (dstr "abcdefghi")) (dCons (dC (dstr "a b")) dNil)))))))) (mRet (mLft lftP (dC (dstr "bad name")))) mNext)
    (mSeq (mIfS (mTst (mBin (oDIn false) (mLft lftP (dVar 2)) (mVar 1))) (mRet (mLft lftP (dC (dstr "taken")))) mNext)
    (mSeq (mIfS (mTst (mBin (mo lftP oGt) (mCb cLenD (mCons (mVar 1) mNil)) (mLft lftP (dC (dint 11))))) (mRet (mLft lftP (dC (dstr "too many")))) mNext)
    (mSeq (mAsg 4 (mLc .dat (mLftI (dISeq (dVar 3))) (tfName 7) mYes (mCall W_law_step_word (mCons (mLft lftP (dVar 0)) (mCons (mVar 1) (mCons (mLft lftP (dVar 7)) mNil)))) [7]))
    (mSeq (mAsg 5 (mLc .dat (mLftI (dISeq (dVar 4))) (tfName 8) (mLftT (dTst (dBin (oEq true) (dVar 8) (dC (dstr ""))))) (mLft lftP (dVar 8)) [8]))
    (mSeq (mIfS (mLftT (dTst (dBin (oEq true) (dVar 5) (dLst dNil)))) (mRet (mLft lftP (dBin oIx (dVar 5) (dC (dint 0))))) mNext)
    (mSeq (mAsg 6 (mCb (mc lftP bSum) (mCons (mLc .dat (mLftI (dISeq (dVar 3))) (tfName 7) mYes (mIfE (mLftT (dTst (dBin (oEq false) (dBin oIx (dVar 7) (dC (dint 0))) (dC (dstr "call"))))) (mBin (mo lftP oMulE) (mLft lftP (dBin oIx (dVar 7) (dC (dint 2)))) (mCb (mc lftP bLen) (mCons (mBin oDGet (mVar 1) (mLft lftP (dBin oIx (dVar 7) (dC (dint 1))))) mNil))) (mLft lftP (dC (dint 1)))) [7]) mNil)))
    (mRet (mLft lftP (dIfE (dTst (dBin oGt (dVar 6) (dC (dint 200)))) (dC (dstr "too long")) (dC (dstr "")))))))))))) from (xss_cons (xs_if (xt_lft (jt_cmp (jo_in (units65 hr)) (je_var (pv 2)) (je_lst (ja_cons je_str (ja_cons je_str (ja_cons je_str (ja_cons je_str ja_nil))))) (by rfl))) (xss_one (xs_ret (xe_lft je_str))) xss_nil)
      (xss_cons (xs_if (xt_din (units1 hr) (xe_lft (je_var (pv 2))) (xe_var (pv 1))) (xss_one (xs_ret (xe_lft je_str))) xss_nil)
      (xss_cons (xs_if (xt_cmp (xop_of fin_lft jo_gt) (xe_callB xc_len (by rfl) T.m_len PySem.boot_len (xa_cons (xe_var (pv 1)) xa_nil)) (xe_lft je_int) (nomark _)) (xss_one (xs_ret (xe_lft je_str))) xss_nil)
      (xss_cons (xs_setLc (i := 4) (own := [("_law_mstep", 7)]) rfl sc_law_due.nd rfl rfl (sw_true rfl rfl rfl (by decide +kernel)) (ltr rfl) (xi_lft (ji_seq (je_var (pv 3)))) (blkOk_by (own := [("_law_mstep", 7)]) (N := N_law_due) (sc := defScope s_law_due) (by decide +kernel)) to_name tm_name (fun _ => (jg_name (i := 7) (pg_name (i := 7) sc_law_due.nd rfl (by first | exact Or.inl rfl | exact Or.inr rfl)) (ltr rfl))) (by decide) (fun _ => xts_nil) (fun _ => (xe_call G_law_step_word (hr.mono (by omega)) (by rfl) T.g_law_step_word T.F_law_step_word.kp T.b_law_step_word passE0 (fun _ _ => True.intro) (xa_cons (xe_lft (je_var (pv 0))) (xa_cons (xe_var (pv 1)) (xa_cons (xe_lft (je_var (pv 7))) xa_nil))))))
      (xss_cons (xs_setLc (i := 5) (own := [("_law_word_here", 8)]) rfl sc_law_due.nd rfl rfl (sw_true rfl rfl rfl (by decide +kernel)) (ltr rfl) (xi_lft (ji_seq (je_var (pv 4)))) (blkOk_by (own := [("_law_word_here", 8)]) (N := N_law_due) (sc := defScope s_law_due) (by decide +kernel)) to_name tm_name (fun _ => (jg_name (i := 8) (pg_name (i := 8) sc_law_due.nd rfl (by first | exact Or.inl rfl | exact Or.inr rfl)) (ltr rfl))) (by decide) (fun _ => (xts_one (xt_lft (jt_cmp (jo_ne hr.units) (je_var (pv 8)) je_str (nomark _))))) (fun _ => (xe_lft (je_var (pv 8)))))
      (xss_cons (xs_if (xt_lft (jt_cmp (jo_ne hr.units) (je_var (pv 5)) (je_lst ja_nil) (nomark _))) (xss_one (xs_ret (xe_lft (je_ix (jx_seq (units65 hr)) (je_var (pv 5)) je_int (fun _ _ => rfl))))) xss_nil)
      (xss_cons (xs_set sc_law_due.nd rfl (ltr rfl) (xe_callB (xcb_of fin_lft (jb_sum rfl)) (by rfl) T.m_sum (by decide +kernel) (xa_cons (xe_lc (own := [("_law_mstep", 7)]) rfl sc_law_due.nd (xi_lft (ji_seq (je_var (pv 3)))) (blkOk_by (own := [("_law_mstep", 7)]) (N := N_law_due) (sc := defScope s_law_due) (by decide +kernel)) to_name tm_name (fun _ => (jg_name (i := 7) (pg_name (i := 7) sc_law_due.nd rfl (by first | exact Or.inl rfl | exact Or.inr rfl)) (ltr rfl))) (by decide) (fun _ => xts_nil) (fun _ => (xe_ifE (xt_lft (jt_cmp (jo_eq hr.units) (je_ix (jx_seq (units65 hr)) (je_var (pv 7)) je_int (fun _ _ => rfl)) je_str (nomark _))) (xe_op (xop_of fin_lft (jo_mulE T.kl)) (xe_lft (je_ix (jx_seq (units65 hr)) (je_var (pv 7)) je_int (fun _ _ => rfl))) (xe_callB (xcb_of fin_lft jb_len) (by rfl) T.m_len PySem.boot_len (xa_cons (xe_dget (units1 hr) (xe_var (pv 1)) (xe_lft (je_ix (jx_seq (units65 hr)) (je_var (pv 7)) je_int (fun _ _ => rfl))) (fun _ _ => rfl)) xa_nil))) (xe_lft je_int)))) xa_nil)) (fun _ h => ps_set (i := 6) sc_law_due.nd rfl (by first | exact Or.inl rfl | exact Or.inr rfl) h))
      (xss_one (xs_ret (xe_lft (je_ifE (jt_cmp jo_gt (je_var (pv 6)) je_int (nomark _)) je_str je_str))))))))))))
theorem ok_Book_sizes (T : Top K mg w) : FnOk P w K mg base (L2.CX P w) 1 T.a_Book_sizes T.fd_Book_sizes ["self"] (spM K T.cls T.fa (fun _ => True) W_Book_sizes) := by
  exact fn_m 1 1 T.F_Book_sizes sc_Book_sizes rfl rfl (by decide) fun cdv A outer s H E hr => (show XSs _ _ _ (mRet (mFld 0 "held_sizes" (mVar 0))) from (xss_one (xs_ret (xe_fld T.K_Book_ T.N_Book_held_sizes_ (xe_var (pv 0))))))
theorem ok_Book_look_written (T : Top K mg w) : FnOk P w K mg base (L2.CX P w) 3 T.a_Book_look_written T.fd_Book_look_written ["self", "name"] (spM K T.cls T.fa (fun _ => True) W_Book_look_written) := by
  exact fn_m 2 2 T.F_Book_look_written sc_Book_look_written rfl rfl (by decide) fun cdv A outer s H E hr => (show XSs _ _ _ (mIfS (mTst (mBin (oDIn true) (mLft lftP (dVar 1)) (mFld 0 "written" (mVar 0)))) (mLftS (dRaise 14 mk_NoRound (dCons (dVar 1) dNil))) mNext) from (xss_one (xs_if (xt_dnotin (units1 hr) (xe_lft (je_var (pv 1))) (xe_fld T.K_Book_ T.N_Book_written_ (xe_var (pv 0)))) (xss_one (xs_lft (js_raise (x := 14) (mk := mk_NoRound) (ja_cons (je_var (pv 1)) ja_nil) (by decide) (fun _ h => ps_raise rfl (takes_of rfl rfl rfl rfl) (OEL.pmk_of OEL.base_L T.o_NoRound T.ii_NoRound T.ti_NoRound (init_NoRound T) (hr.mono (by omega)) T.bi_NoRound .nil pass0 (by rfl) T.g_NoRound h))))) xss_nil)))
theorem ok_Book_steps (T : Top K mg w) : FnOk P w K mg base (L2.CX P w) 4 T.a_Book_steps T.fd_Book_steps ["self", "name"] (spM K T.cls T.fa (fun _ => True) W_Book_steps) := by
  have G_Book_look_written := ok_Book_look_written (P := P) (w := w) (base := base) T
  exact fn_m 2 2 T.F_Book_steps sc_Book_steps rfl rfl (by decide) fun cdv A outer s H E hr => (show XSs _ _ _ (mSeq (mExpr (mMeth 0 "look_written" W_Book_look_written (mVar 0) (mCons (mLft lftP (dVar 1)) mNil)))
    (mRet (mCb (mc lftP bList) (mCons (mBin oDGet (mFld 0 "written" (mVar 0)) (mLft lftP (dVar 1))) mNil)))) from (xss_cons (xs_expr (xe_meth T.K_Book_ T.M_Book_look_written_ G_Book_look_written (hr.mono (by omega)) T.b_Book_look_written passX (fun _ _ => True.intro) (xe_var (pv 0)) (xa_cons (xe_lft (je_var (pv 1))) xa_nil)))
      (xss_one (xs_ret (xe_callT (xcb_of fin_lft (jb_list rfl)) (by rfl) T.m_list (by decide +kernel) (xa_cons (xe_dget (units1 hr) (xe_fld T.K_Book_ T.N_Book_written_ (xe_var (pv 0))) (xe_lft (je_var (pv 1))) (fun _ _ => rfl)) xa_nil))))))
theorem ok_Book_flat (T : Top K mg w) : FnOk P w K mg base (L2.CX P w) 4 T.a_Book_flat T.fd_Book_flat ["self", "name"] (spM K T.cls T.fa (fun _ => True) W_Book_flat) := by
  have G_Book_look_written := ok_Book_look_written (P := P) (w := w) (base := base) T
  exact fn_m 2 2 T.F_Book_flat sc_Book_flat rfl rfl (by decide) fun cdv A outer s H E hr => (show XSs _ _ _ (mSeq (mExpr (mMeth 0 "look_written" W_Book_look_written (mVar 0) (mCons (mLft lftP (dVar 1)) mNil)))
    (mRet (mCb (mc lftP bList) (mCons (mBin oDGet (mFld 0 "laid" (mVar 0)) (mLft lftP (dVar 1))) mNil)))) from (xss_cons (xs_expr (xe_meth T.K_Book_ T.M_Book_look_written_ G_Book_look_written (hr.mono (by omega)) T.b_Book_look_written passX (fun _ _ => True.intro) (xe_var (pv 0)) (xa_cons (xe_lft (je_var (pv 1))) xa_nil)))
      (xss_one (xs_ret (xe_callT (xcb_of fin_lft (jb_list rfl)) (by rfl) T.m_list (by decide +kernel) (xa_cons (xe_dget (units1 hr) (xe_fld T.K_Book_ T.N_Book_laid_ (xe_var (pv 0))) (xe_lft (je_var (pv 1))) (fun _ _ => rfl)) xa_nil))))))
theorem ok_Book_callers (T : Top K mg w) : FnOk P w K mg base (L2.CX P w) 4 T.a_Book_callers T.fd_Book_callers ["self", "name"] (spM K T.cls T.fa (fun _ => True) W_Book_callers) := by
  have G_calls := ok_calls (P := P) (w := w) (base := base) T
  have G_Book_look_written := ok_Book_look_written (P := P) (w := w) (base := base) T
  exact fn_m 2 3 T.F_Book_callers sc_Book_callers rfl rfl (by decide) fun cdv A outer s H E hr => (show XSs _ _ _ (mSeq (mExpr (mMeth 0 "look_written" W_Book_look_written (mVar 0) (mCons (mLft lftP (dVar 1)) mNil)))
    (mRet (mLockE (mLc .dat (mIKeys (mFld 0 "written" (mVar 0))) (tfName 2) (mTst (mCallW lftP W_calls (mCons (mBin oDGet (mFld 0 "written" (mVar 0)) (mLft lftP (dVar 2))) (mCons (mLft lftP (dVar 1)) mNil)))) (mLft lftP (dVar 2)) [2])))) from (xss_cons (xs_expr (xe_meth T.K_Book_ T.M_Book_look_written_ G_Book_look_written (hr.mono (by omega)) T.b_Book_look_written passX (fun _ _ => True.intro) (xe_var (pv 0)) (xa_cons (xe_lft (je_var (pv 1))) xa_nil)))
      (xss_one (xs_ret (xe_lock (xe_lc (own := [("user", 2)]) rfl sc_Book_callers.nd (xi_keys (xe_fld T.K_Book_ T.N_Book_written_ (xe_var (pv 0)))) (blkOk_by (own := [("user", 2)]) (N := N_Book_callers) (sc := defScope s_Book_callers) (by decide +kernel)) to_name tm_name (fun _ => (jg_name (i := 2) (pg_name (i := 2) sc_Book_callers.nd rfl (by first | exact Or.inl rfl | exact Or.inr rfl)) (ltr rfl))) (by decide) (fun _ => (xts_one (xt_val (xe_callW fin_lft G_calls (hr.mono (by omega)) (by rfl) T.g_calls T.F_calls.kp T.b_calls passE0 (xa_cons (xe_dget (units1 hr) (xe_fld T.K_Book_ T.N_Book_written_ (xe_var (pv 0))) (xe_lft (je_var (pv 2))) (fun _ _ => rfl)) (xa_cons (xe_lft (je_var (pv 1))) xa_nil)))))) (fun _ => (xe_lft (je_var (pv 2))))))))))
theorem ok_Book_names (T : Top K mg w) : FnOk P w K mg base (L2.CX P w) 1 T.a_Book_names T.fd_Book_names ["self"] (spM K T.cls T.fa (fun _ => True) W_Book_names) := by
  exact fn_m 1 1 T.F_Book_names sc_Book_names rfl rfl (by decide) fun cdv A outer s H E hr => (show XSs _ _ _ (mRet (mCb (cListD lftP) (mCons (mFld 0 "written" (mVar 0)) mNil))) from (xss_one (xs_ret (xe_callT (xc_listD fin_lft rfl) (by rfl) T.m_list (by decide +kernel) (xa_cons (xe_fld T.K_Book_ T.N_Book_written_ (xe_var (pv 0))) xa_nil)))))
theorem ok_Book_len (T : Top K mg w) : FnOk P w K mg base (L2.CX P w) 1 T.a_Book_len T.fd_Book_len ["self"] (spM K T.cls T.fa (fun _ => True) W_Book_len) := by
  exact fn_m 1 1 T.F_Book_len sc_Book_len rfl rfl (by decide) fun cdv A outer s H E hr => (show XSs _ _ _ (mRet (mCb cLenD (mCons (mFld 0 "written" (mVar 0)) mNil))) from (xss_one (xs_ret (xe_callB xc_len (by rfl) T.m_len PySem.boot_len (xa_cons (xe_fld T.K_Book_ T.N_Book_written_ (xe_var (pv 0))) xa_nil)))))
theorem ok_Book_repr (T : Top K mg w) : FnOk P w K mg base (L2.CX P w) 1 T.a_Book_repr T.fd_Book_repr ["self"] (spM K T.cls T.fa (fun _ => True) W_Book_repr) := by
  exact fn_m 1 1 T.F_Book_repr sc_Book_repr rfl rfl (by decide) fun cdv A outer s H E hr => (show XSs _ _ _ (mRet (mFS ((mLft lftP (dC (dstr "Book("))) :: ((mFmt (mCb cLenD (mCons (mFld 0 "written" (mVar 0)) mNil))) :: ((mLft lftP (dC (dstr " rounds)"))) :: []))))) from (xss_one (xs_ret (xe_joined (xj_cons (xe_lft je_str) (xj_cons (xe_fmt (xe_callB xc_len (by rfl) T.m_len PySem.boot_len (xa_cons (xe_fld T.K_Book_ T.N_Book_written_ (xe_var (pv 0))) xa_nil))) (xj_cons (xe_lft je_str) xj_nil)))))))
theorem ok_Book_look_fresh (T : Top K mg w) : FnOk P w K mg base (L2.CX P w) 3 T.a_Book_look_fresh T.fd_Book_look_fresh ["self", "name"] (spM K T.cls T.fa (fun _ => True) W_Book_look_fresh) := by
  have G_is_name := ok_is_name (P := P) (w := w) (base := base) T
  exact fn_m 2 2 T.F_Book_look_fresh sc_Book_look_fresh rfl rfl (by decide) fun cdv A outer s H E hr => (show XSs _ _ _ (mSeq (mIfS (mLftT (dNot (dTst (dCall W_is_name (dCons (dVar 1) dNil))))) (mLftS (dRaise 6 mk_BadName dNil)) mNext)
    (mSeq (mIfS (mTst (mBin (oDIn false) (mLft lftP (dVar 1)) (mFld 0 "written" (mVar 0)))) (mLftS (dRaise 8 mk_Taken (dCons (dVar 1) dNil))) mNext)
    (mIfS (mTst (mBin (mo lftP oGe) (mCb cLenD (mCons (mFld 0 "written" (mVar 0)) mNil)) (mLft lftP (dC (dint (12)))))) (mLftS (dRaise 12 mk_TooMany (dCons (dC (dint (12))) dNil))) mNext))) from (xss_cons (xs_if (xt_lft (jt_not (jt_val (je_call G_is_name (hr.mono (by omega)) (by rfl) T.g_is_name T.F_is_name.kp T.b_is_name passX (ja_cons (je_var (pv 1)) ja_nil))))) (xss_one (xs_lft (js_raise0 (x := 6) (mk := mk_BadName) (ps_raise rfl (takes_of rfl rfl rfl rfl) (OEL.pmk_of0 OEL.base_V T.o_BadName T.ii_BadName T.ti_BadName (init_BadName T) (hr.mono (by omega)) T.bi_BadName .nil pass0 (by rfl) T.g_BadName))))) xss_nil)
      (xss_cons (xs_if (xt_din (units1 hr) (xe_lft (je_var (pv 1))) (xe_fld T.K_Book_ T.N_Book_written_ (xe_var (pv 0)))) (xss_one (xs_lft (js_raise (x := 8) (mk := mk_Taken) (ja_cons (je_var (pv 1)) ja_nil) (by decide) (fun _ h => ps_raise rfl (takes_of rfl rfl rfl rfl) (pmk_oex T.o_Taken T.ii_Taken T.ti_Taken (init_Taken T) (hr.mono (by omega)) T.bi_Taken .nil pass0 (by rfl) T.g_Taken h))))) xss_nil)
      (xss_one (xs_if (xt_cmp (xop_of fin_lft jo_ge) (xe_callB xc_len (by rfl) T.m_len PySem.boot_len (xa_cons (xe_fld T.K_Book_ T.N_Book_written_ (xe_var (pv 0))) xa_nil)) (xe_lft (je_c (C8.pe_gc (by rfl) (gc_int T.c_MOST_ROUNDS)) (fun _ => Dp.int _))) (nomark _)) (xss_one (xs_lft (js_raise (x := 12) (mk := mk_TooMany) (ja_cons (je_c (C8.pe_gc (by rfl) (gc_int T.c_MOST_ROUNDS)) (fun _ => Dp.int _)) ja_nil) (by decide) (fun _ h => ps_raise rfl (takes_of rfl rfl rfl rfl) (pmk_oex T.o_TooMany T.ii_TooMany T.ti_TooMany (init_TooMany T) (hr.mono (by omega)) T.bi_TooMany .nil pass0 (by rfl) T.g_TooMany h))))) xss_nil)))))
theorem ok_Book_look_steps (T : Top K mg w) : FnOk P w K mg base (L2.CX P w) 5 T.a_Book_look_steps T.fd_Book_look_steps ["self", "steps"] (spM K T.cls T.fa (fun _ => True) W_Book_look_steps) := by
  have G_step_fault := ok_step_fault (P := P) (w := w) (base := base) T
  have G_Book_look_written := ok_Book_look_written (P := P) (w := w) (base := base) T
  exact fn_m 2 5 T.F_Book_look_steps sc_Book_look_steps rfl rfl (by decide) fun cdv A outer s H E hr => (show XSs _ _ _ (mForE (mVar 1) 2 3 (mSeq (mAsg 4 (mCallW lftP W_step_fault (mCons (mFld 0 "held_sizes" (mVar 0)) (mCons (mLft lftP (dVar 3)) mNil))))
    (mSeq (mIfS (mLftT (dTst (dBin (oIsN true) (dVar 4) (dC (.dat .none))))) (mLftS (dFrz 4 (dRaise 4 mk_BadRow (dCons (dVar 2) (dCons (dVar 4) dNil))))) mNext)
    (mIfS (mLftT (dTst (dBin (oEq false) (dBin oIx (dVar 3) (dC (dint 0))) (dC (dstr "call"))))) (mExpr (mMeth 0 "look_written" W_Book_look_written (mVar 0) (mCons (mLft lftP (dBin oIx (dVar 3) (dC (dint 1)))) mNil))) mNext)))) from (xss_one (xs_forE (i := 2) (j := 3) (ltr rfl) (ltr rfl) (by rfl) T.m_enumerate (xe_var (pv 1)) (pg_tup rfl (pgs_cons (pg_name (i := 2) sc_Book_look_steps.nd rfl (by first | exact Or.inl rfl | exact Or.inr rfl)) (pgs_cons (pg_name (i := 3) sc_Book_look_steps.nd rfl (by first | exact Or.inl rfl | exact Or.inr rfl)) pgs_nil))) (xss_cons (xs_set sc_Book_look_steps.nd rfl (ltr rfl) (xe_callW fin_lft G_step_fault (hr.mono (by omega)) (by rfl) T.g_step_fault T.F_step_fault.kp T.b_step_fault passX (xa_cons (xe_fld T.K_Book_ T.N_Book_held_sizes_ (xe_var (pv 0))) (xa_cons (xe_lft (je_var (pv 3))) xa_nil))) (fun _ h => ps_set (i := 4) sc_Book_look_steps.nd rfl (by first | exact Or.inl rfl | exact Or.inr rfl) h))
      (xss_cons (xs_if (xt_lft (jt_cmp jo_notN (je_var (pv 4)) je_non (nomark _))) (xss_one (xs_lft (js_frz 4 (js_raise (x := 4) (mk := mk_BadRow) (ja_cons (je_var (pv 2)) (ja_cons (je_var (pv 4)) ja_nil)) (by decide) (fun _ h => ps_raise rfl (takes_of rfl rfl rfl rfl) (pmk_oex T.o_BadRow T.ii_BadRow T.ti_BadRow (init_BadRow T) (hr.mono (by omega)) T.bi_BadRow .nil pass0 (by rfl) T.g_BadRow h)))))) xss_nil)
      (xss_one (xs_if (xt_lft (jt_cmp (jo_eq hr.units) (je_ix (jx_seq (units65 hr)) (je_var (pv 3)) je_int (fun _ _ => rfl)) je_str (nomark _))) (xss_one (xs_expr (xe_meth T.K_Book_ T.M_Book_look_written_ G_Book_look_written (hr.mono (by omega)) T.b_Book_look_written passX (fun _ _ => True.intro) (xe_var (pv 0)) (xa_cons (xe_lft (je_ix (jx_seq (units65 hr)) (je_var (pv 3)) je_int (fun _ _ => rfl))) xa_nil)))) xss_nil)))) (fun _ _ _ h1 h2 h3 => ps_for (passes_of rfl) rfl h1 h2 h3) (fun _ h => pa_cons h pa_nil))))
theorem ok_Book_lay_out (T : Top K mg w) : FnOk P w K mg base (L2.CX P w) 1 T.a_Book_lay_out T.fd_Book_lay_out ["self", "steps"] (spM K T.cls T.fa (fun _ => True) W_Book_lay_out) := by
  exact fn_m 2 4 T.F_Book_lay_out sc_Book_lay_out rfl rfl (by decide) fun cdv A outer s H E hr => (show XSs _ _ _ (mSeq (mAsg 2 (mLstM mNil))
    (mSeq (mForL (mVar 1) 3 (mIfS (mLftT (dTst (dBin (oEq false) (dBin oIx (dVar 3) (dC (dint 0))) (dC (dstr "call"))))) (mExpr (mExt (mVar 2) (mBin (mo lftP oMulE) (mBin oDGet (mFld 0 "laid" (mVar 0)) (mLft lftP (dBin oIx (dVar 3) (dC (dint 1))))) (mLft lftP (dBin oIx (dVar 3) (dC (dint 2))))))) (mExpr (mApp (mVar 2) (mLft lftP (dVar 3))))))
    (mFrz 2 (mRet (mLft lftP (dCb bTuple (dCons (dVar 2) dNil))))))) from (xss_cons (xs_set sc_Book_lay_out.nd rfl (ltr rfl) (xe_lstM xa_nil) (fun _ h => ps_set (i := 2) sc_Book_lay_out.nd rfl (by first | exact Or.inl rfl | exact Or.inr rfl) h))
      (xss_cons (xs_forL (i := 3) (ltr rfl) (xe_var (pv 1)) (pg_name (i := 3) sc_Book_lay_out.nd rfl (by first | exact Or.inl rfl | exact Or.inr rfl)) (xss_one (xs_if (xt_lft (jt_cmp (jo_eq hr.units) (je_ix (jx_seq (units65 hr)) (je_var (pv 3)) je_int (fun _ _ => rfl)) je_str (nomark _))) (xss_one (xs_expr (xe_ext (xe_var (pv 2)) (xe_op (xop_of fin_lft (jo_mulE T.kl)) (xe_dget (units1 hr) (xe_fld T.K_Book_ T.N_Book_laid_ (xe_var (pv 0))) (xe_lft (je_ix (jx_seq (units65 hr)) (je_var (pv 3)) je_int (fun _ _ => rfl))) (fun _ _ => rfl)) (xe_lft (je_ix (jx_seq (units65 hr)) (je_var (pv 3)) je_int (fun _ _ => rfl)))) (fun _ _ h1 h2 => pe_bm PySem.F.plainAttrs_list PySem.F.slot_list_extend PySem.F.type_list_extend TF.mt_extendT h1 (pa_cons h2 pa_nil))))) (xss_one (xs_expr (xe_app (xe_var (pv 2)) (xe_lft (je_var (pv 3))) (fun _ _ h1 h2 => pe_bm PySem.F.plainAttrs_list PySem.F.slot_list_append PySem.F.type_list_append mt_append h1 (pa_cons h2 pa_nil))))))) (fun _ _ _ h1 h2 h3 => ps_for (passes_of rfl) rfl h1 h2 h3))
      (xss_one (xs_frz 2 (xs_ret (xe_lft (je_callT jb_tuple (by rfl) T.m_tuple (by decide +kernel) (ja_cons (je_var (pv 2)) ja_nil)))))))))
theorem ok_Book_count_deeds (T : Top K mg w) : FnOk P w K mg base (L2.CX P w) 1 T.a_Book_count_deeds T.fd_Book_count_deeds ["self", "step"] (spM K T.cls T.fa (fun _ => True) W_Book_count_deeds) := by
  exact fn_m 2 2 T.F_Book_count_deeds sc_Book_count_deeds rfl rfl (by decide) fun cdv A outer s H E hr => (show XSs _ _ _ (mSeq (mIfS (mLftT (dTst (dBin (oEq false) (dBin oIx (dVar 1) (dC (dint 0))) (dC (dstr "call"))))) (mRet (mBin (mo lftP oMulE) (mCb (mc lftP bLen) (mCons (mBin oDGet (mFld 0 "laid" (mVar 0)) (mLft lftP (dBin oIx (dVar 1) (dC (dint 1))))) mNil)) (mLft lftP (dBin oIx (dVar 1) (dC (dint 2)))))) mNext)
    (mRet (mLft lftP (dC (dint 1))))) from (xss_cons (xs_if (xt_lft (jt_cmp (jo_eq hr.units) (je_ix (jx_seq (units65 hr)) (je_var (pv 1)) je_int (fun _ _ => rfl)) je_str (nomark _))) (xss_one (xs_ret (xe_op (xop_of fin_lft (jo_mulE T.kl)) (xe_callB (xcb_of fin_lft jb_len) (by rfl) T.m_len PySem.boot_len (xa_cons (xe_dget (units1 hr) (xe_fld T.K_Book_ T.N_Book_laid_ (xe_var (pv 0))) (xe_lft (je_ix (jx_seq (units65 hr)) (je_var (pv 1)) je_int (fun _ _ => rfl))) (fun _ _ => rfl)) xa_nil)) (xe_lft (je_ix (jx_seq (units65 hr)) (je_var (pv 1)) je_int (fun _ _ => rfl)))))) xss_nil)
      (xss_one (xs_ret (xe_lft je_int)))))
theorem ok_Book_write (T : Top K mg w) : FnOk P w K mg base (L2.CX P w) 6 T.a_Book_write T.fd_Book_write ["self", "name", "steps"] (spM K T.cls T.fa (fun _ => True) W_Book_write) := by
  have G_Book_look_fresh := ok_Book_look_fresh (P := P) (w := w) (base := base) T
  have G_Book_look_steps := ok_Book_look_steps (P := P) (w := w) (base := base) T
  have G_Book_lay_out := ok_Book_lay_out (P := P) (w := w) (base := base) T
  have G_Book_count_deeds := ok_Book_count_deeds (P := P) (w := w) (base := base) T
  exact fn_m 3 4 T.F_Book_write sc_Book_write rfl rfl (by decide) fun cdv A outer s H E hr => (show XSs _ _ _ (mSeq (mExpr (mMeth 0 "look_fresh" W_Book_look_fresh (mVar 0) (mCons (mLft lftP (dVar 1)) mNil)))
    (mSeq (mExpr (mMeth 0 "look_steps" W_Book_look_steps (mVar 0) (mCons (mVar 2) mNil)))
    (mSeq (mIfS (mTst (mBin (mo lftP oGt) (mCb (mc lftP bSum) (mCons (mLcL .dat (mVar 2) 3 mYes (mMeth 0 "count_deeds" W_Book_count_deeds (mVar 0) (mCons (mLft lftP (dVar 3)) mNil)) [3]) mNil)) (mLft lftP (dC (dint (200)))))) (mLftS (dRaise 11 mk_TooLong (dCons (dC (dint (200))) dNil))) mNext)
    (mSeq (mDPut (mFld 0 "laid" (mVar 0)) (mLft lftP (dVar 1)) (mMeth 0 "lay_out" W_Book_lay_out (mVar 0) (mCons (mVar 2) mNil)))
    (mDPut (mFld 0 "written" (mVar 0)) (mLft lftP (dVar 1)) (mCb (mc lftP bTuple) (mCons (mVar 2) mNil))))))) from (xss_cons (xs_expr (xe_meth T.K_Book_ T.M_Book_look_fresh_ G_Book_look_fresh (hr.mono (by omega)) T.b_Book_look_fresh passX (fun _ _ => True.intro) (xe_var (pv 0)) (xa_cons (xe_lft (je_var (pv 1))) xa_nil)))
      (xss_cons (xs_expr (xe_meth T.K_Book_ T.M_Book_look_steps_ G_Book_look_steps (hr.mono (by omega)) T.b_Book_look_steps passX (fun _ _ => True.intro) (xe_var (pv 0)) (xa_cons (xe_var (pv 2)) xa_nil)))
      (xss_cons (xs_if (xt_cmp (xop_of fin_lft jo_gt) (xe_callB (xcb_of fin_lft (jb_sum rfl)) (by rfl) T.m_sum (by decide +kernel) (xa_cons (xe_lcL (own := [("step", 3)]) rfl sc_Book_write.nd (xe_var (pv 2)) (blkOk_by (own := [("step", 3)]) (N := N_Book_write) (sc := defScope s_Book_write) (by decide +kernel)) (ltr rfl) (by decide) (fun _ => (pg_name (i := 3) sc_Book_write.nd rfl (by first | exact Or.inl rfl | exact Or.inr rfl))) (fun _ => xts_nil) (fun _ => (xe_meth T.K_Book_ T.M_Book_count_deeds_ G_Book_count_deeds (hr.mono (by omega)) T.b_Book_count_deeds passE0 (fun _ _ => True.intro) (xe_var (pv 0)) (xa_cons (xe_lft (je_var (pv 3))) xa_nil)))) xa_nil)) (xe_lft (je_c (C8.pe_gc (by rfl) (gc_int T.c_MOST_FLAT)) (fun _ => Dp.int _))) (nomark _)) (xss_one (xs_lft (js_raise (x := 11) (mk := mk_TooLong) (ja_cons (je_c (C8.pe_gc (by rfl) (gc_int T.c_MOST_FLAT)) (fun _ => Dp.int _)) ja_nil) (by decide) (fun _ h => ps_raise rfl (takes_of rfl rfl rfl rfl) (pmk_oex T.o_TooLong T.ii_TooLong T.ti_TooLong (init_TooLong T) (hr.mono (by omega)) T.bi_TooLong .nil pass0 (by rfl) T.g_TooLong h))))) xss_nil)
      (xss_cons (xs_dput (units1 hr) (xe_fld T.K_Book_ T.N_Book_laid_ (xe_var (pv 0))) (xe_lft (je_var (pv 1))) (xe_meth T.K_Book_ T.M_Book_lay_out_ G_Book_lay_out (hr.mono (by omega)) T.b_Book_lay_out passX (fun _ _ => True.intro) (xe_var (pv 0)) (xa_cons (xe_var (pv 2)) xa_nil)))
      (xss_one (xs_dput (units1 hr) (xe_fld T.K_Book_ T.N_Book_written_ (xe_var (pv 0))) (xe_lft (je_var (pv 1))) (xe_callT (xcb_of fin_lft jb_tuple) (by rfl) T.m_tuple (by decide +kernel) (xa_cons (xe_var (pv 2)) xa_nil)))))))))
abbrev AfterT (T : Top K mg w) : Addr → List (Str × V) → Hp → VK → Prop := fun C fs H Q => (C = T.C_BadSizes ∧ ∃ v0, fs.lookup ("word" : Str) = some v0 ∧ TF.NewT [.non, v0] H Q) ∨ (C = T.C_BadRow ∧ ∃ v0, fs.lookup ("word" : Str) = some v0 ∧ TF.NewT [.non, v0] H Q) ∨ (C = T.C_BadName ∧ ∃ v0, fs.lookup ("word" : Str) = some v0 ∧ TF.NewT [.non, v0] H Q) ∨ (C = T.C_Taken ∧ ∃ v0, fs.lookup ("word" : Str) = some v0 ∧ TF.NewT [.non, v0] H Q) ∨ (C = T.C_TooLong ∧ ∃ v0, fs.lookup ("word" : Str) = some v0 ∧ TF.NewT [.non, v0] H Q) ∨ (C = T.C_TooMany ∧ ∃ v0, fs.lookup ("word" : Str) = some v0 ∧ TF.NewT [.non, v0] H Q) ∨ (C = T.C_NoRound ∧ ∃ v0, fs.lookup ("word" : Str) = some v0 ∧ TF.NewT [.non, v0] H Q) ∨ (C = T.C_NothingLeft ∧ ∃ v0, fs.lookup ("word" : Str) = some v0 ∧ TF.NewT [.non, v0] H Q)
theorem gives_law_word {X : Cx} (T : Top X.K X.mg w) {cd : Value} {q : Str} : AskTo X N_law_word "_law_word" (defScope s_law_word) T.a_law_word cd (defBody s_law_word) "_law_ask" q (TTp (AfterT T)) := by
  intro f c' s H Q tl act hc h
  refine ⟨_, pss_cons (ps_set (i := 1) sc_law_word.nd rfl (by first | exact Or.inl rfl | exact Or.inr rfl) pe_non) (pss_cons (ps_set (i := 2) sc_law_word.nd rfl (by first | exact Or.inl rfl | exact Or.inr rfl) pe_str) (pss_cons (ps_tryN (i := 3) (n := "e")
      (cs := [(.ref T.B_HideError, fun x k dd => tAsg (tXfS x k dd [T.C_BadSizes, T.C_BadRow, T.C_BadName, T.C_Taken, T.C_TooLong, T.C_TooMany] "word" (tVar 3)) (gName 2)), (.ref T.B_Missing, fun x k dd => tAsg (tXfS x k dd [T.C_NoRound] "word" (tVar 3)) (gName 2)), (.ref T.B_NothingLeft, fun x k dd => tAsg (tXfS x k dd [T.C_NothingLeft] "word" (tVar 3)) (gName 2))])
      (tb := fun W D σ H => ∃ Ech : XK, (∀ cls d H', Ech cls d H' → W cls d σ H') ∧ ∃ QQ : VK, (∀ v H1, QQ v H1 → D.nx (σ.set 1 (some v)) H1) ∧ σ[0]? = some (some (.ref f)) ∧ H c' = some (LamX.CodeO c' q) ∧ tl Ech H QQ)
      sc_law_word.nd rfl rfl (.cons ⟨rfl, by decide, .inl T.gB_HideError⟩ (fun x o k dd ps hz hf => pss_one (ps_set (i := 2) sc_law_word.nd rfl (by first | exact Or.inl rfl | exact Or.inr rfl) (pe_xfS (all_consC (pe_xf T.f_BadSizes T.n_BadSizes_word hz hf (pv 3)) (all_consC (pe_xf T.f_BadRow T.n_BadRow_word hz hf (pv 3)) (all_consC (pe_xf T.f_BadName T.n_BadName_word hz hf (pv 3)) (all_consC (pe_xf T.f_Taken T.n_Taken_word hz hf (pv 3)) (all_consC (pe_xf T.f_TooLong T.n_TooLong_word hz hf (pv 3)) (all_consC (pe_xf T.f_TooMany T.n_TooMany_word hz hf (pv 3)) all_nilC))))))))) (.cons ⟨rfl, by decide, .inl T.gB_Missing⟩ (fun x o k dd ps hz hf => pss_one (ps_set (i := 2) sc_law_word.nd rfl (by first | exact Or.inl rfl | exact Or.inr rfl) (pe_xfS (all_consC (pe_xf T.f_NoRound T.n_NoRound_word hz hf (pv 3)) all_nilC)))) (.cons ⟨rfl, by decide, .inl T.gB_NothingLeft⟩ (fun x o k dd ps hz hf => pss_one (ps_set (i := 2) sc_law_word.nd rfl (by first | exact Or.inl rfl | exact Or.inr rfl) (pe_xfS (all_consC (pe_xf T.f_NothingLeft T.n_NothingLeft_word hz hf (pv 3)) all_nilC)))) .nil))) (fun W ps xe tk po => ?_)) (pss_one (ps_ret (TF.pe_tupF (pa_cons (pv 1) (pa_cons (pv 2) pa_nil))))))), ?_⟩
  · refine ⟨fun pins s' σ H' D I h' => ?_⟩
    obtain ⟨Ech, hW, QQ, m, h1, h2, h3⟩ := h'
    exact (pss_one (ps_set (i := 1) sc_law_word.nd rfl (by first | exact Or.inl rfl | exact Or.inr rfl) (pe_weak (act W ps xe _ _ tk)))).run pins s' σ H' D I ⟨QQ, fun v H1 z => m v H1 z, h1, h2, Ech, hW, h3⟩
  · refine ⟨XKof (AfterT T) Q, ?_, fun v H1 => TF.NewT [v, .str ""] H1 Q, fun v H1 z => ⟨_, rfl, _, rfl, (by show 2 ≤ sizeLine; decide), fun p o hp ho => z p o hp ho⟩, rfl, hc, h⟩
    rintro cls d H' ⟨C, dd, fs, rfl, rfl, hd, af⟩
    rcases af with ⟨rfl, v0, hv0, hq⟩ | ⟨rfl, v0, hv0, hq⟩ | ⟨rfl, v0, hv0, hq⟩ | ⟨rfl, v0, hv0, hq⟩ | ⟨rfl, v0, hv0, hq⟩ | ⟨rfl, v0, hv0, hq⟩ | ⟨rfl, v0, hv0, hq⟩ | ⟨rfl, v0, hv0, hq⟩
    · exact ⟨true, T.eB_BadSizes_HideError, fun _ x hx => ⟨T.C_BadSizes, (List.mem_cons_self ..), _, rfl, rfl, rfl, dd, fs, v0, rfl, hd, hv0, _, rfl, _, rfl, (by show 2 ≤ sizeLine; decide), fun p o hp ho => hq p o hp ho⟩, fun z => by cases z⟩
    · exact ⟨true, T.eB_BadRow_HideError, fun _ x hx => ⟨T.C_BadRow, (List.mem_cons_of_mem _ (List.mem_cons_self ..)), _, rfl, rfl, rfl, dd, fs, v0, rfl, hd, hv0, _, rfl, _, rfl, (by show 2 ≤ sizeLine; decide), fun p o hp ho => hq p o hp ho⟩, fun z => by cases z⟩
    · exact ⟨true, T.eB_BadName_HideError, fun _ x hx => ⟨T.C_BadName, (List.mem_cons_of_mem _ (List.mem_cons_of_mem _ (List.mem_cons_self ..))), _, rfl, rfl, rfl, dd, fs, v0, rfl, hd, hv0, _, rfl, _, rfl, (by show 2 ≤ sizeLine; decide), fun p o hp ho => hq p o hp ho⟩, fun z => by cases z⟩
    · exact ⟨true, T.eB_Taken_HideError, fun _ x hx => ⟨T.C_Taken, (List.mem_cons_of_mem _ (List.mem_cons_of_mem _ (List.mem_cons_of_mem _ (List.mem_cons_self ..)))), _, rfl, rfl, rfl, dd, fs, v0, rfl, hd, hv0, _, rfl, _, rfl, (by show 2 ≤ sizeLine; decide), fun p o hp ho => hq p o hp ho⟩, fun z => by cases z⟩
    · exact ⟨true, T.eB_TooLong_HideError, fun _ x hx => ⟨T.C_TooLong, (List.mem_cons_of_mem _ (List.mem_cons_of_mem _ (List.mem_cons_of_mem _ (List.mem_cons_of_mem _ (List.mem_cons_self ..))))), _, rfl, rfl, rfl, dd, fs, v0, rfl, hd, hv0, _, rfl, _, rfl, (by show 2 ≤ sizeLine; decide), fun p o hp ho => hq p o hp ho⟩, fun z => by cases z⟩
    · exact ⟨true, T.eB_TooMany_HideError, fun _ x hx => ⟨T.C_TooMany, (List.mem_cons_of_mem _ (List.mem_cons_of_mem _ (List.mem_cons_of_mem _ (List.mem_cons_of_mem _ (List.mem_cons_of_mem _ (List.mem_cons_self ..)))))), _, rfl, rfl, rfl, dd, fs, v0, rfl, hd, hv0, _, rfl, _, rfl, (by show 2 ≤ sizeLine; decide), fun p o hp ho => hq p o hp ho⟩, fun z => by cases z⟩
    · exact ⟨false, T.eB_NoRound_HideError, (fun z => by cases z), fun _ => ⟨true, T.eB_NoRound_Missing, fun _ x hx => ⟨T.C_NoRound, (List.mem_cons_self ..), _, rfl, rfl, rfl, dd, fs, v0, rfl, hd, hv0, _, rfl, _, rfl, (by show 2 ≤ sizeLine; decide), fun p o hp ho => hq p o hp ho⟩, fun z => by cases z⟩⟩
    · exact ⟨false, T.eB_NothingLeft_HideError, (fun z => by cases z), fun _ => ⟨false, T.eB_NothingLeft_Missing, (fun z => by cases z), fun _ => ⟨true, T.eB_NothingLeft_NothingLeft, fun _ x hx => ⟨T.C_NothingLeft, (List.mem_cons_self ..), _, rfl, rfl, rfl, dd, fs, v0, rfl, hd, hv0, _, rfl, _, rfl, (by show 2 ≤ sizeLine; decide), fun p o hp ho => hq p o hp ho⟩, fun z => by cases z⟩⟩⟩
abbrev tabs_lam (T : Top K mg w) : List (Addr × Str) := [(T.P_law, (("law" : Str) ++ ".<locals>.") ++ "<lambda>")]
theorem tabs_one (T : Top K mg w) : ∀ p ∈ tabs_lam T, p.1 = T.P_law → p.2 = (("law" : Str) ++ ".<locals>.") ++ "<lambda>" := fun p hp _ => by
  rcases List.mem_cons.mp hp with e | e
  · rw [e]
  · cases e
theorem pe_law_word {X : Cx} {base : Heap} (T : Top K mg w) {k : Nat} {params : Arguments} {body : Expr} {scope : Scope} {t : XK → TE} {p lpos pos : Pos} (TB : LamX.TabB base mg T.k_law T.P_law) (hK : X.K = K) (hmg : X.mg = mg) (hbs : X.base = base) (hq : X.env.qual = ("law" : Str) ++ ".<locals>.") (hcode : X.env.code = .ref T.k_law) (hg : Gl X "_law_word") (hr : Room (k + 2) X.A) (L : LamX.LamS X.env.scope scope) (hdef : defaultsOf params X.env = ([], []))
    (hbind : ∀ (q : Str) (cl : List (Str × Addr)) (pm cv ctv : Value), bindArgs (PySem.W.kla_fn "<lambda>" q params body scope cl pm cv ctv) ⟨[], []⟩ = pure [])
    (hbody : ∀ (A : Around) (outer : List PySem.Env) (s : Shared) (H : Hp) (E : XK) (f c' : Addr), Room k (A.deeper (LamX.lamEnv X scope s.heap.objs.size f c')) → PE (LamX.lamCx X A outer s H E scope f c') body (t E)) :
    PE X (.Call (.Name "_law_word" p) [.Lambda params body scope lpos] [] pos) (LamX.tLam (tabs_lam T) (TTp (AfterT T)) t) := by
  subst hK hmg hbs
  obtain ⟨oc2, od2, kV2, dc2, pm2, an2, cdv2, ct2, osl2, efd2, lk2, cd2⟩ := T.F_law_word.ex
  have bt := T.b_law_word
  rw [efd2] at lk2 bt
  exact ask_call (T := tabs_lam T) hg T.g_law_word T.F_law_word.kp lk2 cd2 bt sc_law_word rfl (Or.inl rfl) (gives_law_word T) TB hcode (by rw [hq]; exact (List.mem_cons_self ..)) (by rw [hq]; exact tabs_one T) hr L hdef hbind hbody
theorem aft_ok (T : Top K mg w) : AftOk K T.cls (AfterT T) aft := by
  intro s fs d h b I' H' Q ok q
  unfold aft at h
  by_cases z0 : s = 0
  · rw [if_pos z0] at h
    subst z0
    cases h0 : fs.lookup ("word" : Str) with
    | none => simp [h0] at h
    | some v0 =>
    rw [h0] at h
    cases e0 : vD v0 with
    | none => simp [e0] at h
    | some d0 =>
    simp [e0] at h
    subst h
    exact .inl ⟨rfl, v0, h0, newT_res ok (.cons .non (.cons (vD_dp e0) .nil)) fun v I2 H2 x2 dd => q v I2 H2 x2 dd⟩
  rw [if_neg z0] at h
  by_cases z1 : s = 4
  · rw [if_pos z1] at h
    subst z1
    cases h0 : fs.lookup ("word" : Str) with
    | none => simp [h0] at h
    | some v0 =>
    rw [h0] at h
    cases e0 : vD v0 with
    | none => simp [e0] at h
    | some d0 =>
    simp [e0] at h
    subst h
    exact .inr (.inl ⟨rfl, v0, h0, newT_res ok (.cons .non (.cons (vD_dp e0) .nil)) fun v I2 H2 x2 dd => q v I2 H2 x2 dd⟩)
  rw [if_neg z1] at h
  by_cases z2 : s = 6
  · rw [if_pos z2] at h
    subst z2
    cases h0 : fs.lookup ("word" : Str) with
    | none => simp [h0] at h
    | some v0 =>
    rw [h0] at h
    cases e0 : vD v0 with
    | none => simp [e0] at h
    | some d0 =>
    simp [e0] at h
    subst h
    exact .inr (.inr (.inl ⟨rfl, v0, h0, newT_res ok (.cons .non (.cons (vD_dp e0) .nil)) fun v I2 H2 x2 dd => q v I2 H2 x2 dd⟩))
  rw [if_neg z2] at h
  by_cases z3 : s = 8
  · rw [if_pos z3] at h
    subst z3
    cases h0 : fs.lookup ("word" : Str) with
    | none => simp [h0] at h
    | some v0 =>
    rw [h0] at h
    cases e0 : vD v0 with
    | none => simp [e0] at h
    | some d0 =>
    simp [e0] at h
    subst h
    exact .inr (.inr (.inr (.inl ⟨rfl, v0, h0, newT_res ok (.cons .non (.cons (vD_dp e0) .nil)) fun v I2 H2 x2 dd => q v I2 H2 x2 dd⟩)))
  rw [if_neg z3] at h
  by_cases z4 : s = 11
  · rw [if_pos z4] at h
    subst z4
    cases h0 : fs.lookup ("word" : Str) with
    | none => simp [h0] at h
    | some v0 =>
    rw [h0] at h
    cases e0 : vD v0 with
    | none => simp [e0] at h
    | some d0 =>
    simp [e0] at h
    subst h
    exact .inr (.inr (.inr (.inr (.inl ⟨rfl, v0, h0, newT_res ok (.cons .non (.cons (vD_dp e0) .nil)) fun v I2 H2 x2 dd => q v I2 H2 x2 dd⟩))))
  rw [if_neg z4] at h
  by_cases z5 : s = 12
  · rw [if_pos z5] at h
    subst z5
    cases h0 : fs.lookup ("word" : Str) with
    | none => simp [h0] at h
    | some v0 =>
    rw [h0] at h
    cases e0 : vD v0 with
    | none => simp [e0] at h
    | some d0 =>
    simp [e0] at h
    subst h
    exact .inr (.inr (.inr (.inr (.inr (.inl ⟨rfl, v0, h0, newT_res ok (.cons .non (.cons (vD_dp e0) .nil)) fun v I2 H2 x2 dd => q v I2 H2 x2 dd⟩)))))
  rw [if_neg z5] at h
  by_cases z6 : s = 14
  · rw [if_pos z6] at h
    subst z6
    cases h0 : fs.lookup ("word" : Str) with
    | none => simp [h0] at h
    | some v0 =>
    rw [h0] at h
    cases e0 : vD v0 with
    | none => simp [e0] at h
    | some d0 =>
    simp [e0] at h
    subst h
    exact .inr (.inr (.inr (.inr (.inr (.inr (.inl ⟨rfl, v0, h0, newT_res ok (.cons .non (.cons (vD_dp e0) .nil)) fun v I2 H2 x2 dd => q v I2 H2 x2 dd⟩))))))
  rw [if_neg z6] at h
  by_cases z7 : s = 17
  · rw [if_pos z7] at h
    subst z7
    cases h0 : fs.lookup ("word" : Str) with
    | none => simp [h0] at h
    | some v0 =>
    rw [h0] at h
    cases e0 : vD v0 with
    | none => simp [e0] at h
    | some d0 =>
    simp [e0] at h
    subst h
    exact .inr (.inr (.inr (.inr (.inr (.inr (.inr (⟨rfl, v0, h0, newT_res ok (.cons .non (.cons (vD_dp e0) .nil)) fun v I2 H2 x2 dd => q v I2 H2 x2 dd⟩)))))))
  rw [if_neg z7] at h
  cases h
end
end Lw
namespace Lw
open PySem PySem.Spec PyProof.Rows L2 DL DW DM
local macro_rules | `(tactic| walk_at "kb") => `(tactic| ((try simp only [isN_b, isN_i, isN_s, isN_l, isN_t, if_false, ite_false, Bool.false_eq_true]) <;> try simp only [tyN, kb_NoneType_bool, kb_NoneType_int, kb_NoneType_str, kb_NoneType_tuple, kb_NoneType_list, kb_bool_bool, kb_bool_int, kb_bool_str, kb_bool_tuple, kb_bool_list, kb_int_bool, kb_int_int, kb_int_str, kb_int_tuple, kb_int_list, kb_str_bool, kb_str_int, kb_str_str, kb_str_tuple, kb_str_list, kb_list_bool, kb_list_int, kb_list_str, kb_list_tuple, kb_list_list, kb_tuple_bool, kb_tuple_int, kb_tuple_str, kb_tuple_tuple, kb_tuple_list, decide_true, decide_false, Bool.not_true, Bool.not_false, if_true, if_false, ite_true, ite_false, Bool.false_eq_true, reduceCtorEq]))
local macro_rules | `(tactic| walk_at "wrd") => `(tactic| (try simp only [oks_over, oks_down, oks_swap, oks_tap, oks_drain, eqv_ss, and_self, true_and, show (("over" : Str) = "down") = False from w_ne (by decide), show (("over" : Str) = "swap") = False from w_ne (by decide), show (("over" : Str) = "tap") = False from w_ne (by decide), show (("over" : Str) = "drain") = False from w_ne (by decide), show (("down" : Str) = "over") = False from w_ne (by decide), show (("down" : Str) = "swap") = False from w_ne (by decide), show (("down" : Str) = "tap") = False from w_ne (by decide), show (("down" : Str) = "drain") = False from w_ne (by decide), show (("swap" : Str) = "over") = False from w_ne (by decide), show (("swap" : Str) = "down") = False from w_ne (by decide), show (("swap" : Str) = "tap") = False from w_ne (by decide), show (("swap" : Str) = "drain") = False from w_ne (by decide), show (("tap" : Str) = "over") = False from w_ne (by decide), show (("tap" : Str) = "down") = False from w_ne (by decide), show (("tap" : Str) = "swap") = False from w_ne (by decide), show (("tap" : Str) = "drain") = False from w_ne (by decide), show (("drain" : Str) = "over") = False from w_ne (by decide), show (("drain" : Str) = "down") = False from w_ne (by decide), show (("drain" : Str) = "swap") = False from w_ne (by decide), show (("drain" : Str) = "tap") = False from w_ne (by decide), List.any_cons, List.any_nil, List.mem_cons, List.not_mem_nil, decide_true, decide_false, Bool.or_false, Bool.false_or, Bool.or_true, Bool.true_or, or_false, false_or, or_true, true_or, Bool.not_true, Bool.not_false, if_true, if_false, ite_true, ite_false, Bool.false_eq_true]))
local macro_rules | `(tactic| walk_at "nx") => `(tactic| ((try simp only [later]) <;> walk_at "dws"))
local macro_rules | `(tactic| walk_at "dws") => `(tactic| ((try simp only [wFn, List.length_cons, List.length_nil, Nat.reduceAdd, true_and, Nat.reduceSub, List.replicate_succ, List.replicate_zero, List.append_nil, List.cons_append, List.nil_append, List.map_cons, List.map_nil]) <;> try simp only [wFn, dSeq, dIfS, dNext, dAsg, dPar, dRet, dRetV, dRetN, dExpr, dBrk, dCnt, dFor, dFrz, frzAt, dAsgG, dGName, dGSub, dGNil, dGCons, dGTup, dAugI, dAug, dApp, dExt, dRaise, dVar, dC, dBin, dUn, dChain, dTst, dAnd, dOr, dNot, dYes, dAndV, dOrV, dNotV, dIfE, dNil, dCons, dTup, dLst, dats, dNone, dSome, dSl, oCut, dCall, dCb, dLrg, pk, dCallK, dTab, dCallV, dISeq, dIRg1, dIRg2, dIZip, dIEnum, tfName, tfPair, dLc, lcStep, Cn.no, dCount, scVs, scV, oAdd, oSub, oMul, oMod, oDiv, oCmp, oNeg, oEq, toD, oIsN, oIx, seqD, lstD, bLen, bTuple, bList, bAbs, bMin, bMax, bSum, bAll, bAny, bSorted, bIsi, fz, isPl_dat, isPl_raw, isPl_bag, oIn, flD, List.map_cons, List.map_nil, List.cons_append, List.nil_append, List.append_nil, List.getElem?_cons_zero, List.getElem?_cons_succ, List.getElem?_nil, List.set_cons_zero, List.set_cons_succ, List.length_cons, List.length_nil, List.all_cons, List.all_nil, List.replicate_succ, List.replicate_zero, Bool.and_true, Bool.and_self, Bool.true_and, List.filterMap_cons, List.filterMap_nil, Nat.reduceAdd, Nat.reduceSub, Nat.zero_add, true_and, and_true, if_true, ite_true, Bool.not_true, Bool.not_false, Bool.false_eq_true, if_false, ite_false]))
local macro_rules | `(tactic| walk_at "dw") => `(tactic| ((try simp only [wFn, List.length_cons, List.length_nil, Nat.reduceAdd, true_and, Nat.reduceSub, List.replicate_succ, List.replicate_zero, List.append_nil, List.cons_append, List.nil_append, List.map_cons, List.map_nil]) <;> try simp only [wFn, dSeq, later, dIfS, dNext, dAsg, dPar, dRet, dRetV, dRetN, dExpr, dBrk, dCnt, dFor, dFrz, frzAt, dAsgG, dGName, dGSub, dGNil, dGCons, dGTup, dAugI, dAug, dApp, dExt, dRaise, dVar, dC, dBin, dUn, dChain, dTst, dAnd, dOr, dNot, dYes, dAndV, dOrV, dNotV, dIfE, dNil, dCons, dTup, dLst, dats, dNone, dSome, dSl, oCut, dCall, dCb, dLrg, pk, dCallK, dTab, dCallV, dISeq, dIRg1, dIRg2, dIZip, dIEnum, tfName, tfPair, dLc, lcStep, Cn.no, dCount, scVs, scV, oAdd, oSub, oMul, oMod, oDiv, oCmp, oNeg, oEq, toD, oIsN, oIx, seqD, lstD, bLen, bTuple, bList, bAbs, bMin, bMax, bSum, bAll, bAny, bSorted, bIsi, fz, isPl_dat, isPl_raw, isPl_bag, oIn, flD, List.map_cons, List.map_nil, List.cons_append, List.nil_append, List.append_nil, List.getElem?_cons_zero, List.getElem?_cons_succ, List.getElem?_nil, List.set_cons_zero, List.set_cons_succ, List.length_cons, List.length_nil, List.all_cons, List.all_nil, List.replicate_succ, List.replicate_zero, Bool.and_true, Bool.and_self, Bool.true_and, List.filterMap_cons, List.filterMap_nil, Nat.reduceAdd, Nat.reduceSub, Nat.zero_add, true_and, and_true, if_true, ite_true, Bool.not_true, Bool.not_false, Bool.false_eq_true, if_false, ite_false]))
structure Sz (ms : List Int) : Prop where
  lo : 1 ≤ ms.length
  hi : ms.length ≤ 6
  at_ : ∀ i : Int, 0 ≤ i → i < ms.length → 1 ≤ DW.at_ ms i ∧ DW.at_ ms i ≤ 40
theorem w_look_sizes {ms : List Int} {P : DP} {c : Cn} (h : Sz ms) (p : P (.dat .none)) : W_look_sizes [.dat (nums ms)] P c := by
  have h1 : (1 : Int) ≤ (ms.length : Int) := by have := h.lo; omega
  have h2 : (ms.length : Int) ≤ 6 := by have := h.hi; omega
  unfold W_look_sizes D_look_sizes
  walk_at "dw"
  (try simp only [h1, h2, decide_true, decide_false, sh_int, sh_bl, sh_non, eqv_ii, eqv_ss, List.any_cons, List.any_nil, true_or, or_true, Bool.or_false, Bool.false_or, Bool.not_true, Bool.not_false, if_true, if_false, ite_true, ite_false, Bool.false_eq_true, List.length_map, not_false_eq_true, not_true_eq_false, reduceCtorEq, and_self, true_and, and_true, Bool.and_true, Bool.true_and])
  refine forGo_inv (fun _ δ => ∃ x y, δ = [some (.dat (nums ms)), x, y]) ⟨_, _, rfl⟩ (fun k d δk hd hj N hN => ?_) fun _ _ => p
  obtain ⟨x, y, rfl⟩ := hj
  obtain ⟨hk, rfl⟩ := enumD_ints hd
  have h3 := h.at_ k (by omega) (by omega)
  refine ⟨_, rfl, ?_⟩
  walk_at "dw"
  (try simp only [h3.1, h3.2, decide_true, decide_false, sh_int, sh_bl, sh_non, eqv_ii, eqv_ss, List.any_cons, List.any_nil, true_or, or_true, Bool.or_false, Bool.false_or, Bool.not_true, Bool.not_false, if_true, if_false, ite_true, ite_false, Bool.false_eq_true, List.length_map, not_false_eq_true, not_true_eq_false, reduceCtorEq, and_self, true_and, and_true, Bool.and_true, Bool.true_and])
  exact hN _ ⟨_, _, rfl⟩
inductive GoodD (ms : List Int) : Str → List Int → Prop
  | swap {a c : Int} : Ck ms a → Ck ms c → a ≠ c → at_ ms a = at_ ms c → GoodD ms "swap" [a, c]
  | tap {n c : Int} : Nm n → Ck ms c → GoodD ms "tap" [n, c]
  | drain {n c : Int} : Nm n → Ck ms c → GoodD ms "drain" [n, c]
  | over {n : Int} {cs : List Int} : Nm n → 2 ≤ cs.length → cs.length ≤ ms.length → (∀ c ∈ cs, Ck ms c) → cs.Nodup → GoodD ms "over" (n :: cs)
  | down {n : Int} {cs : List Int} : Nm n → 2 ≤ cs.length → cs.length ≤ ms.length → (∀ c ∈ cs, Ck ms c) → cs.Nodup → GoodD ms "down" (n :: cs)
theorem rangeD_at {lo : Int} {n k : Nat} {d : PyData} (h : (rangeD lo n)[k]? = some d) : k < n ∧ d = .int (lo + k) := rangeD_get h
theorem deed_at {w : Str} {ns : List Int} {k : Nat} (h1 : 1 ≤ k) (h2 : k ≤ ns.length) : atD (.str w :: ns.map .int) (k : Int) = some (.int (at_ ns ((k : Int) - 1))) := by
  rw [atD_nat (by omega)]
  obtain ⟨j, rfl⟩ : ∃ j, k = j + 1 := ⟨k - 1, by omega⟩
  have e : ((j + 1 : Nat) : Int).toNat = j + 1 := by omega
  rw [e, List.getElem?_cons_succ]
  have := ix_at (ns := ns) (i := (j : Int)) (by omega) (by omega)
  simp only [Int.toNat_natCast] at this
  rw [this]
  congr 2
  congr 1
  omega
theorem w_cask_fault {ms : List Int} {w : Str} {ns : List Int} {s : Nat} {P : DP} {c : Cn} (hs : 1 ≤ s) (hl : s ≤ ns.length + 1) (hn : ns.length ≤ 1000) (hc : ∀ x ∈ ns.drop (s - 1), Ck ms x) (nd : (ns.drop (s - 1)).Nodup) (p : P (.dat .none)) : W_cask_fault [.dat (nums ms), .dat (deedD w ns), dint s] P c := by
  unfold W_cask_fault D_cask_fault
  walk_at "dw"
  simp only [List.length_map]
  refine ⟨by omega, ?_⟩
  refine forGo_inv (fun _ δ => ∃ x y, δ = [some (.dat (nums ms)), some (.dat (deedD w ns)), some (dint s), x, y]) ⟨_, _, rfl⟩ (fun k d δk hd hj N hN => ?_) fun δ hj => ?_
  · obtain ⟨x, y, rfl⟩ := hj
    obtain ⟨hk, rfl⟩ := rangeD_at hd
    refine ⟨_, rfl, ?_⟩
    have e : (s : Int) + (k : Int) = ((s + k : Nat) : Int) := by omega
    walk_at "dw"
    rw [e, deed_at (by omega) (by omega)]
    have hx : at_ ns (((s + k : Nat) : Int) - 1) = (ns.drop (s - 1))[k]'(by rw [List.length_drop]; omega) := by
      unfold at_
      rw [List.getElem_drop, List.getD_eq_getElem?_getD, show (((s + k : Nat) : Int) - 1).toNat = s - 1 + k by omega, List.getElem?_eq_getElem (by omega)]
      rfl
    generalize hxx : at_ ns (((s + k : Nat) : Int) - 1) = v at hx ⊢
    have hin : Ck ms v := hx ▸ hc _ (List.getElem_mem _)
    have e2 : cutD (.str w :: ns.map PyData.int) (some (s : Int)) (some ((s + k : Nat) : Int)) = ((ns.drop (s - 1)).take k).map .int := by
      rw [cut_mid (by simp; omega) (by simp; omega)]
      obtain ⟨j, rfl⟩ : ∃ j, s = j + 1 := ⟨s - 1, by omega⟩
      rw [List.drop_succ_cons, Nat.add_sub_cancel, List.map_take, List.map_drop]
      congr 1
      omega
    have hno : v ∉ (ns.drop (s - 1)).take k := fun hm => by
      obtain ⟨i, hi, ei⟩ := List.getElem_of_mem hm
      rw [List.getElem_take] at ei
      have hik : i < k := by
        rw [List.length_take] at hi
        omega
      exact (List.pairwise_iff_getElem.mp nd) i k (by rw [List.length_take] at hi; omega) (by rw [List.length_drop]; omega) hik (ei.trans hx)
    rw [e2]
    walk_at "dw"
    (try simp only [anyI, fl_ints, hin.1, hin.2, hno, true_or, decide_true, decide_false, sh_int, sh_bl, sh_non, eqv_ii, eqv_ss, List.any_cons, List.any_nil, true_or, or_true, Bool.or_false, Bool.false_or, Bool.not_true, Bool.not_false, if_true, if_false, ite_true, ite_false, Bool.false_eq_true, List.length_map, not_false_eq_true, not_true_eq_false, reduceCtorEq, and_self, true_and, and_true, Bool.and_true, Bool.true_and])
    exact hN _ ⟨_, _, rfl⟩
  · obtain ⟨x, y, rfl⟩ := hj
    walk_at "dw"
    exact p
theorem w_length_fits {ms : List Int} {w : Str} {ns : List Int} {P : DP} {c : Cn} (h : GoodD ms w ns) (p : P (dbl true)) : W_length_fits [.dat (nums ms), .dat (deedD w ns)] P c := by
  unfold W_length_fits D_length_fits
  walk_at "dw"
  rw [atD_0]
  walk_at "dw"
  (try simp only [true_or, decide_true, decide_false, sh_int, sh_bl, sh_non, eqv_ii, eqv_ss, List.any_cons, List.any_nil, true_or, or_true, Bool.or_false, Bool.false_or, Bool.not_true, Bool.not_false, if_true, if_false, ite_true, ite_false, Bool.false_eq_true, List.length_map, not_false_eq_true, not_true_eq_false, reduceCtorEq, and_self, true_and, and_true, Bool.and_true, Bool.true_and])
  cases h with
  | swap _ _ _ _ => walk_at "wrd"; exact p
  | tap _ _ => walk_at "wrd"; exact p
  | drain _ _ => walk_at "wrd"; exact p
  | over h1 h2 h3 _ _ =>
    walk_at "wrd"
    rw [List.length_cons, if_pos (decide_eq_true (by omega)), decide_eq_true (by omega)]
    exact p
  | down h1 h2 h3 _ _ =>
    walk_at "wrd"
    rw [List.length_cons, if_pos (decide_eq_true (by omega)), decide_eq_true (by omega)]
    exact p
theorem w_swap_fault {ms : List Int} {a b : Int} {P : DP} {c : Cn} (ha : Ck ms a) (hb : Ck ms b) (hn : a ≠ b) (he : at_ ms a = at_ ms b) (p : P (.dat .none)) : W_swap_fault [.dat (nums ms), .dat (deedD "swap" [a, b])] P c := by
  unfold W_swap_fault D_swap_fault
  walk_at "dw"
  refine w_cask_fault (ns := [a, b]) (s := 1) (by decide) (by simp) (by simp) (fun x hx => ?_) ?_ ?_
  · simp at hx
    rcases hx with rfl | rfl
    · exact ha
    · exact hb
  · simpa using hn
  · walk_at "dw"
    rw [atD_1, atD_2]
    walk_at "dw"
    rw [atD_at ha.1 ha.2, atD_at hb.1 hb.2]
    walk_at "dw"
    (try simp only [he, decide_true, decide_false, sh_int, sh_bl, sh_non, eqv_ii, eqv_ss, List.any_cons, List.any_nil, true_or, or_true, Bool.or_false, Bool.false_or, Bool.not_true, Bool.not_false, if_true, if_false, ite_true, ite_false, Bool.false_eq_true, List.length_map, not_false_eq_true, not_true_eq_false, reduceCtorEq, and_self, true_and, and_true, Bool.and_true, Bool.true_and])
    exact p
theorem w_fault_place {ms : List Int} {w : Str} {ns : List Int} {P : DP} {c : Cn} (hs : Sz ms) (h : GoodD ms w ns) (p : P (.dat .none)) : W_fault_place [.dat (nums ms), .dat (deedD w ns)] P c := by
  have hl : ns.length ≤ 1000 := by
    have := hs.hi
    cases h with
    | swap => simp
    | tap => simp
    | drain => simp
    | over _ _ h3 => simp; omega
    | down _ _ h3 => simp; omega
  unfold W_fault_place D_fault_place
  walk_at "dw"
  rw [atD_0]
  walk_at "dw"
  rw [if_neg (by rw [eqv_ii]; simp; omega)]
  (try simp only [true_or, decide_true, decide_false, sh_int, sh_bl, sh_non, eqv_ii, eqv_ss, List.any_cons, List.any_nil, true_or, or_true, Bool.or_false, Bool.false_or, Bool.not_true, Bool.not_false, if_true, if_false, ite_true, ite_false, Bool.false_eq_true, List.length_map, not_false_eq_true, not_true_eq_false, reduceCtorEq, and_self, true_and, and_true, Bool.and_true, Bool.true_and])
  have hg := h
  cases h with
  | swap ha hb hn he =>
    walk_at "wrd"
    refine w_length_fits hg ?_
    walk_at "dw"
    walk_at "wrd"
    exact w_swap_fault ha hb hn he p
  | tap hn ha =>
    walk_at "wrd"
    refine w_length_fits hg ?_
    walk_at "dw"
    rw [atD_1]
    walk_at "wrd"
    walk_at "dw"
    (try simp only [hn.1, hn.2, decide_true, decide_false, sh_int, sh_bl, sh_non, eqv_ii, eqv_ss, List.any_cons, List.any_nil, true_or, or_true, Bool.or_false, Bool.false_or, Bool.not_true, Bool.not_false, if_true, if_false, ite_true, ite_false, Bool.false_eq_true, List.length_map, not_false_eq_true, not_true_eq_false, reduceCtorEq, and_self, true_and, and_true, Bool.and_true, Bool.true_and])
    exact w_cask_fault (s := 2) (by decide) (by simp) (by simp) (by simpa using ha) (by simp) p
  | drain hn ha =>
    walk_at "wrd"
    refine w_length_fits hg ?_
    walk_at "dw"
    rw [atD_1]
    walk_at "wrd"
    walk_at "dw"
    (try simp only [hn.1, hn.2, decide_true, decide_false, sh_int, sh_bl, sh_non, eqv_ii, eqv_ss, List.any_cons, List.any_nil, true_or, or_true, Bool.or_false, Bool.false_or, Bool.not_true, Bool.not_false, if_true, if_false, ite_true, ite_false, Bool.false_eq_true, List.length_map, not_false_eq_true, not_true_eq_false, reduceCtorEq, and_self, true_and, and_true, Bool.and_true, Bool.true_and])
    exact w_cask_fault (s := 2) (by decide) (by simp) (by simp) (by simpa using ha) (by simp) p
  | over hn h2 h3 hc nd =>
    walk_at "wrd"
    refine w_length_fits hg ?_
    walk_at "dw"
    rw [atD_1]
    walk_at "wrd"
    walk_at "dw"
    (try simp only [hn.1, hn.2, decide_true, decide_false, sh_int, sh_bl, sh_non, eqv_ii, eqv_ss, List.any_cons, List.any_nil, true_or, or_true, Bool.or_false, Bool.false_or, Bool.not_true, Bool.not_false, if_true, if_false, ite_true, ite_false, Bool.false_eq_true, List.length_map, not_false_eq_true, not_true_eq_false, reduceCtorEq, and_self, true_and, and_true, Bool.and_true, Bool.true_and])
    exact w_cask_fault (s := 2) (by decide) (by simp) hl (by simpa using hc) (by simpa using nd) p
  | down hn h2 h3 hc nd =>
    walk_at "wrd"
    refine w_length_fits hg ?_
    walk_at "dw"
    rw [atD_1]
    walk_at "wrd"
    walk_at "dw"
    (try simp only [hn.1, hn.2, decide_true, decide_false, sh_int, sh_bl, sh_non, eqv_ii, eqv_ss, List.any_cons, List.any_nil, true_or, or_true, Bool.or_false, Bool.false_or, Bool.not_true, Bool.not_false, if_true, if_false, ite_true, ite_false, Bool.false_eq_true, List.length_map, not_false_eq_true, not_true_eq_false, reduceCtorEq, and_self, true_and, and_true, Bool.and_true, Bool.true_and])
    exact w_cask_fault (s := 2) (by decide) (by simp) hl (by simpa using hc) (by simpa using nd) p
theorem Deed.Ok.good {ms : List Int} {d : Deed} (h : d.Ok ms) : GoodD ms d.w d.ns := by
  cases d with
  | over n ks => exact .over h.1 h.2.lo h.2.hi h.2.ck h.2.nd
  | down n ks => exact .down h.1 h.2.lo h.2.hi h.2.ck h.2.nd
  | swap a b => exact .swap h.1 h.2.1 h.2.2.1 h.2.2.2
  | tap n k => exact .tap h.1 h.2
  | drain n k => exact .drain h.1 h.2
theorem w_take {n : Int} {P : DP} {c : Cn} (h : okTake n) (p : ∀ i, 0 ≤ i → i < n → P (dint i)) : W_take [.bag, dint n] P c := ⟨h, p⟩
theorem w_pick {ds : List PyData} {P : DP} {c : Cn} (h0 : 0 < ds.length) (h1 : ds.length ≤ 100000) (p : ∀ d ∈ ds, P (.dat d)) : W_law_pick [.bag, .dat (.list ds)] P c := by
  unfold W_law_pick D_law_pick
  walk_at "dw"
  refine w_take ⟨by omega, by omega⟩ fun i i0 i1 => ?_
  walk_at "dw"
  rw [atD_nat i0, List.getElem?_eq_getElem (by omega)]
  exact p _ (List.getElem_mem _)
theorem rangeM (n : Nat) : rangeD 0 n = (List.range n).map fun (k : Nat) => PyData.int ((0 : Int) + (k : Int)) := rfl
theorem sz_of {ms : List Int} (h1 : 1 ≤ ms.length) (h2 : ms.length ≤ 6) (h : ∀ m ∈ ms, 1 ≤ m ∧ m ≤ 40) : Sz ms := ⟨h1, h2, fun i h0 h1 => h _ (at_mem h0 h1)⟩
theorem w_sizes {a m : Int} {P : DP} {c : Cn} (ha : 1 ≤ a ∧ a ≤ 6) (hm : 1 ≤ m ∧ m ≤ 40) (p : ∀ ms, Sz ms → P (.dat (nums ms))) : W_law_sizes [.bag, dint a, dint m] P c := by
  unfold W_law_sizes D_law_sizes
  walk_at "dw"
  refine ⟨by simp, ?_⟩
  refine w_take ⟨by omega, by omega⟩ fun i i0 i1 => ?_
  walk_at "dw"
  refine ⟨by omega, by rw [rangeD_len]; omega, ?_⟩
  rw [rangeM]
  refine lc_ints (R := fun _ j => 1 ≤ j ∧ j ≤ 40) (fun x hx k hk => ?_) fun ns hp => ?_
  · walk_at "dw"
    refine w_take ⟨by omega, by omega⟩ fun j j0 j1 => ?_
    walk_at "dw"
    exact hk _ ⟨by omega, by omega⟩
  · have hl := hp.length
    rw [List.length_range] at hl
    walk_at "dw"
    refine p ns (sz_of (by omega) (by omega) fun m hm => ?_)
    obtain ⟨_, _, h⟩ := paired_mem hp m hm
    exact h
theorem w_any_sizes {P : DP} {c : Cn} (p : ∀ ms, Sz ms → P (.dat (nums ms))) : W_law_any_sizes [.bag] P c := by
  unfold W_law_any_sizes D_law_any_sizes
  walk_at "dw"
  refine w_pick (by simp) (by simp) fun d hd => ?_
  simp only [List.mem_cons, List.not_mem_nil, or_false] at hd
  rcases hd with rfl | rfl | rfl | rfl
  all_goals
    walk_at "dw"
    exact w_sizes (by omega) (by omega) p
theorem pow30 : (10 : Int) ^ (30 : Int).toNat = 1000000000000000000000000000000 := by decide
theorem cpow30 : CPow 10 30 := ⟨by decide, by decide, by decide⟩
theorem w_number {P : DP} {c : Cn} (p : ∀ n, Nm n → P (dint n)) : W_law_number [.bag] P c := by
  unfold W_law_number D_law_number
  walk_at "dw"
  simp only [oPow, pow30]
  refine w_take ⟨by omega, by omega⟩ fun i i0 i1 => ?_
  walk_at "dw"
  refine w_take ⟨by omega, by omega⟩ fun j j0 j1 => ?_
  walk_at "dw"
  refine ⟨.inl cpow30, .inl cpow30, ?_⟩
  refine w_take ⟨by omega, by omega⟩ fun l l0 l1 => ?_
  walk_at "dw"
  refine w_pick (by simp) (by simp) fun d hd => ?_
  simp only [List.mem_cons, List.not_mem_nil, or_false] at hd
  rcases hd with rfl | rfl | rfl | rfl | rfl | rfl | rfl | rfl
  all_goals exact p _ ⟨by omega, by omega⟩
theorem w_shuffled {ns : List Int} {P : DP} {c : Cn} (h : ns.length ≤ 1000) (p : ∀ ms : List Int, ms.Perm ns → P (.own (ms.map .int))) : W_shuffled [.bag, .dat (.list (ns.map .int))] P c := by
  unfold W_shuffled
  dsimp only
  rw [DW.ints_map]
  exact ⟨h, p⟩
def upto (n : Nat) : List Int := (List.range n).map fun (k : Nat) => (k : Int)
theorem upto_mem {n : Nat} {x : Int} (h : x ∈ upto n) : 0 ≤ x ∧ x < n := by
  obtain ⟨k, hk, rfl⟩ := List.mem_map.mp h
  have := List.mem_range.mp hk
  omega
theorem upto_nd (n : Nat) : (upto n).Nodup := by
  unfold upto
  rw [List.nodup_iff_pairwise_ne, List.pairwise_map]
  refine List.Pairwise.imp (fun h => ?_) (List.nodup_range (n := n))
  intro z
  exact h (by omega)
theorem w_some_casks {ms : List Int} {m : Int} {P : DP} {c : Cn} (hs : Sz ms) (hm : 2 ≤ m ∧ m ≤ ms.length) (p : ∀ ks, Way ms ks → P (.dat (nums ks))) : W_law_some_casks [.bag, dint ms.length, dint m] P c := by
  unfold W_law_some_casks D_law_some_casks
  have := hs.hi
  walk_at "dw"
  refine ⟨by omega, ?_⟩
  have e : bRange (ms.length : Int).toNat = (upto ms.length).map .int := by
    unfold bRange upto
    rw [List.map_map]
    simp
  rw [e]
  refine w_shuffled (by simp [upto]; omega) fun ks hp => ?_
  walk_at "dw"
  obtain ⟨n, rfl⟩ : ∃ n : Nat, m = n := ⟨m.toNat, by omega⟩
  rw [cut_to, ← List.map_take]
  have hl : ks.length = ms.length := by rw [hp.length_eq]; simp [upto]
  refine p _ ⟨?_, ?_, fun c hc => ?_, ?_⟩
  · rw [List.length_take]; omega
  · rw [List.length_take]; omega
  · exact upto_mem (hp.mem_iff.mp (List.mem_of_mem_take hc))
  · exact ((hp.nodup_iff).mpr (upto_nd _)).sublist (List.take_sublist _ _)
abbrev pairD (q : Int × Int) : PyData := .tuple [.int q.1, .int q.2]
def Alike (ms : List Int) (q : Int × Int) : Prop := Ck ms q.1 ∧ Ck ms q.2 ∧ q.1 ≠ q.2 ∧ at_ ms q.1 = at_ ms q.2
theorem w_alike {ms : List Int} {P : DP} {c : Cn} (hs : Sz ms) (p : ∀ qs : List (Int × Int), (∀ q ∈ qs, Alike ms q) → qs.length ≤ 36 → P (.own (qs.map pairD))) : W_law_alike [.dat (nums ms)] P c := by
  unfold W_law_alike D_law_alike
  have h6 := hs.hi
  walk_at "dw"
  simp only [List.length_map]
  refine ⟨by omega, ?_⟩
  refine forGo_inv (fun k δ => ∃ (qs : List (Int × Int)) (x y : Option DV), δ = [some (.dat (nums ms)), some (.own (qs.map pairD)), x, y, none] ∧ (∀ q ∈ qs, Alike ms q) ∧ qs.length ≤ 6 * k) ⟨[], _, _, rfl, (fun _ h => by cases h), by simp⟩ (fun k d δk hd hj N hN => ?_) fun δ hj => ?_
  · obtain ⟨qs, x, y, rfl, hq, hl⟩ := hj
    obtain ⟨hk, rfl⟩ := rangeD_at hd
    have hk' : k < ms.length := by omega
    refine ⟨_, rfl, ?_⟩
    walk_at "dw"
    simp only [List.length_map]
    refine ⟨by simp, by omega, by rw [rangeD_len]; omega, ?_⟩
    rw [rangeM]
    refine lc_filt (fun (j : Nat) => decide (j ≠ k) && decide (at_ ms j = at_ ms k)) (fun j => .int ((0 : Int) + (j : Int))) (fun j hj K h1 h2 => ?_) ?_
    · have hj' : j < ms.length := by
        have := List.mem_range.mp hj
        omega
      walk_at "dw"
      (try simp only [true_or, decide_true, decide_false, sh_int, sh_bl, sh_non, eqv_ii, eqv_ss, List.any_cons, List.any_nil, true_or, or_true, Bool.or_false, Bool.false_or, Bool.not_true, Bool.not_false, if_true, if_false, ite_true, ite_false, Bool.false_eq_true, List.length_map, not_false_eq_true, not_true_eq_false, reduceCtorEq, and_self, true_and, and_true, Bool.and_true, Bool.true_and])
      by_cases e : j = k
      · subst e
        rw [if_neg (by simp)]
        exact h2 (by simp)
      · rw [if_pos (by simp; omega), atD_at (by omega) (by omega), atD_at (by omega) (by omega)]
        walk_at "dw"
        (try simp only [true_or, decide_true, decide_false, sh_int, sh_bl, sh_non, eqv_ii, eqv_ss, List.any_cons, List.any_nil, true_or, or_true, Bool.or_false, Bool.false_or, Bool.not_true, Bool.not_false, if_true, if_false, ite_true, ite_false, Bool.false_eq_true, List.length_map, not_false_eq_true, not_true_eq_false, reduceCtorEq, and_self, true_and, and_true, Bool.and_true, Bool.true_and])
        simp only [Int.zero_add] at h1 ⊢
        by_cases e2 : at_ ms j = at_ ms k
        · rw [if_pos (by simpa using e2)]
          exact h1 (by simp [e, e2])
        · rw [if_neg (by simpa using e2)]
          exact h2 (by simp [e2])
    · walk_at "dw"
      refine ⟨by simp, ?_⟩
      have len : ((List.range (ms.length : Int).toNat).filter fun (j : Nat) => decide (j ≠ k) && decide (at_ ms j = at_ ms k)).length ≤ 6 := by
        refine Nat.le_trans (List.length_filter_le _ _) ?_
        rw [List.length_range]
        omega
      refine ⟨by rw [List.length_map]; omega, ?_⟩
      refine lc_map (fun (j : Nat) => pairD ((0 : Int) + (k : Int), (0 : Int) + (j : Int))) (fun j hj K hK => ?_) ?_
      · walk_at "dw"
        exact hK
      · walk_at "dw"
        refine ⟨by simp only [List.length_map]; omega, ?_⟩
        have e : qs.map pairD ++ ((List.range (ms.length : Int).toNat).filter fun (j : Nat) => decide (j ≠ k) && decide (at_ ms j = at_ ms k)).map (fun (j : Nat) => pairD ((0 : Int) + (k : Int), (0 : Int) + (j : Int))) = (qs ++ (((List.range (ms.length : Int).toNat).filter fun (j : Nat) => decide (j ≠ k) && decide (at_ ms j = at_ ms k)).map fun (j : Nat) => ((0 : Int) + (k : Int), (0 : Int) + (j : Int)))).map pairD := by
          rw [List.map_append, List.map_map]
          rfl
        rw [e]
        refine hN _ ⟨_, _, _, rfl, fun q hqq => ?_, ?_⟩
        · rcases List.mem_append.mp hqq with z | z
          · exact hq q z
          · obtain ⟨j, hj, rfl⟩ := List.mem_map.mp z
            obtain ⟨hj1, hj2⟩ := List.mem_filter.mp hj
            have hj3 := List.mem_range.mp hj1
            simp only [Bool.and_eq_true, decide_eq_true_eq] at hj2
            simp only [Int.zero_add]
            exact ⟨⟨by omega, by omega⟩, ⟨by omega, by omega⟩, by simp; omega, hj2.2.symm⟩
        · rw [List.length_append, List.length_map]
          omega
  · obtain ⟨qs, x, y, rfl, hq, hl⟩ := hj
    rw [rangeD_len] at hl
    walk_at "dw"
    exact p qs hq (by omega)
theorem w_deed {ms : List Int} {n : Int} {t : Bool} {P : DP} {c : Cn} (hs : Sz ms) (hn : Nm n) (p : ∀ d : Deed, d.Ok ms → (t = false → ∀ n k, d ≠ .tap n k) → P (.dat d.D)) : W_law_deed [.bag, .dat (nums ms), dint n, dbl t] P c := by
  unfold W_law_deed D_law_deed
  have h1 := hs.lo
  have h6 := hs.hi
  walk_at "dws"
  refine w_take ⟨by omega, by omega⟩ fun i i0 i1 => ?_
  walk_at "nx"
  refine w_alike hs fun qs hq hl => ?_
  walk_at "nx"
  generalize hX : later _ _ _ _ = X
  have hx : X := by
    rw [← hX]
    walk_at "nx"
    generalize hY : later _ _ _ _ = Y
    have hy : Y := by
      rw [← hY]
      walk_at "nx"
      (try simp only [true_or, decide_true, decide_false, sh_int, sh_bl, sh_non, eqv_ii, eqv_ss, List.any_cons, List.any_nil, true_or, or_true, Bool.or_false, Bool.false_or, Bool.not_true, Bool.not_false, if_true, if_false, ite_true, ite_false, Bool.false_eq_true, List.length_map, not_false_eq_true, not_true_eq_false, reduceCtorEq, and_self, true_and, and_true, Bool.and_true, Bool.true_and])
      by_cases hd : i = 3 ∨ (ms.length : Int) = 1
      · have dr : W_take [DV.bag, dint (ms.length : Int)] (fun r => match dats [dstr "drain", dint n, fz r] with
            | some ds => P (.dat (.tuple ds))
            | none => False) c := by
          refine w_take ⟨by omega, by omega⟩ fun k k0 k1 => ?_
          exact p (.drain n k) ⟨hn, k0, k1⟩ (fun _ _ _ z => by cases z)
        rcases hd with hd | hd
        · rw [if_pos (decide_eq_true hd)]
          exact dr
        · split
          · exact dr
          · rw [if_pos (decide_eq_true hd)]
            exact dr
      · have hd1 : ¬ i = 3 := fun z => hd (.inl z)
        have hd2 : ¬ (ms.length : Int) = 1 := fun z => hd (.inr z)
        rw [if_neg (by simpa using hd1), if_neg (by simpa using hd2)]
        walk_at "nx"
        simp only [List.length_map]
        refine w_take ⟨by omega, by omega⟩ fun j j0 j1 => ?_
        walk_at "nx"
        refine w_take ⟨by omega, by omega⟩ fun l l0 l1 => ?_
        walk_at "dws"
        refine ⟨⟨by decide, by decide⟩, ?_⟩
        have e : atD [PyData.str "over", .str "down"] (l / 2) = some (.str (if l / 2 = 0 then "over" else "down")) := by
          have : l / 2 = 0 ∨ l / 2 = 1 := by omega
          rcases this with h | h
          · rw [h]; exact atD_0
          · rw [h]; exact atD_1
        rw [e]
        walk_at "nx"
        simp only [List.length_map]
        refine w_some_casks hs (by omega) fun ks hw => ?_
        walk_at "dws"
        refine ⟨by have := hw.hi; simp; omega, ?_⟩
        by_cases h : l / 2 = 0
        · rw [if_pos h]
          exact p (.over n ks) ⟨hn, hw⟩ (fun _ _ _ z => by cases z)
        · rw [if_neg h]
          exact p (.down n ks) ⟨hn, hw⟩ (fun _ _ _ z => by cases z)
    split
    · split
      · rename_i ht
        refine w_pick (by simp) (by simp) fun d hd => ?_
        have go : ∀ m, Nm m → W_take [DV.bag, dint (ms.length : Int)] (fun r => match dats [dstr "tap", dint m, fz r] with
            | some ds => P (.dat (.tuple ds))
            | none => False) c := fun m hm => by
          refine w_take ⟨by omega, by omega⟩ fun k k0 k1 => ?_
          exact p (.tap m k) ⟨hm, k0, k1⟩ (fun hf => by rw [ht] at hf; cases hf)
        simp only [List.mem_cons, List.not_mem_nil, or_false] at hd
        rcases hd with rfl | rfl | rfl | rfl | rfl
        · simp only [List.length_map]
          exact go 1 ⟨by decide, by decide⟩
        · simp only [List.length_map]
          exact go 1 ⟨by decide, by decide⟩
        · simp only [List.length_map]
          exact go 2 ⟨by decide, by decide⟩
        · simp only [List.length_map]
          exact go 3 ⟨by decide, by decide⟩
        · simp only [List.length_map]
          exact go n hn
      · exact hy
    · exact hy
  (try simp only [true_or, decide_true, decide_false, sh_int, sh_bl, sh_non, eqv_ii, eqv_ss, List.any_cons, List.any_nil, true_or, or_true, Bool.or_false, Bool.false_or, Bool.not_true, Bool.not_false, if_true, if_false, ite_true, ite_false, Bool.false_eq_true, List.length_map, not_false_eq_true, not_true_eq_false, reduceCtorEq, and_self, true_and, and_true, Bool.and_true, Bool.true_and])
  have lay : Lay 3 (.list (qs.map pairD)) := lay_list (n := 2) fun d hd => by
    obtain ⟨q, _, rfl⟩ := List.mem_map.mp hd
    exact lay_tup (n := 1) fun d hd => by
      simp only [List.mem_cons, List.not_mem_nil, or_false] at hd
      rcases hd with rfl | rfl
      · exact lay_int
      · exact lay_int
  split
  · refine ⟨⟨lay.sh (by decide), by decide⟩, ?_⟩
    cases qs with
    | nil =>
      rw [if_neg (by simp [PyData.eqv, PyData.eqvAll])]
      exact hx
    | cons q qs =>
      rw [if_pos (by simp [PyData.eqv, PyData.eqvAll])]
      refine w_pick (by simp) (by rw [List.length_map]; omega) fun d hd => ?_
      obtain ⟨r, hr, rfl⟩ := List.mem_map.mp hd
      walk_at "dws"
      have ha := hq r hr
      exact ⟨by simp, p (.swap r.1 r.2) ⟨ha.1, ha.2.1, ha.2.2.1, ha.2.2.2⟩ (fun _ _ _ z => by cases z)⟩
  · exact hx
theorem bools_true (l : List Nat) : boolsD (l.map fun _ => PyData.bool true) = some (l.map fun _ => true) := by
  have e : (l.map fun _ => PyData.bool true) = (l.map fun _ => true).map .bool := by rw [List.map_map]; rfl
  rw [e, bools_map]
theorem all_true (l : List Nat) : (l.map fun _ => true).all id = true := by simp
theorem can_mem : ∀ {ds : List PyData}, PyData.canLayAll0 ds = true → ∀ x ∈ ds, PyData.canLay0 x = true
  | [], _, _, h => by cases h
  | d :: ds, h, x, hx => by
    rw [PyData.canLayAll0] at h
    obtain ⟨h1, h2⟩ := Bool.and_eq_true_iff.mp h
    rcases List.mem_cons.mp hx with e | e
    · rw [e]; exact h1
    · exact can_mem h2 x e
theorem w_same : ∀ {n : Nat} {d : PyData} {P : DP} {c : Cn}, Flat n d → PyData.canLay0 d = true → P (dbl true) → W_law_same n [.dat d, .dat d] P c := by
  intro n
  induction n with
  | zero => intro d P c h; exact h.elim
  | succ n ih =>
    intro d P c h hc p
    have seq : ∀ ds : List PyData, (∀ x ∈ ds, Flat n x ∧ PyData.canLay0 x = true) → ds.length ≤ 100000 → ∀ (e : PyData), (e = .list ds ∨ e = .tuple ds) →
        dRet (dCb bAll (dCons (dLc (dIRg1 (dCons (dCb bLen (dCons (dVar 1) dNil)) dNil)) (tfName 2) dYes (dCall (W_law_same n) (dCons (dBin oIx (dVar 0) (dVar 2)) (dCons (dBin oIx (dVar 1) (dVar 2)) dNil))) [2]) dNil)) c [some (.dat e), some (.dat e), none] ⟨fun _ => P (.dat .none), P, fun _ => False, fun _ => False⟩ := by
      intro ds hd hl e he
      have go : lcGo (lcStep (tfName 2) dYes (dCall (W_law_same n) (dCons (dBin oIx (dVar 0) (dVar 2)) (dCons (dBin oIx (dVar 1) (dVar 2)) dNil))) c [some (.dat e), some (.dat e), none]) (rangeD 0 (ds.length : Int).toNat) fun ys => bAll [.dat (.list ys)] P := by
        rw [rangeM]
        refine lc_map (fun _ => PyData.bool true) (fun j hj K hK => ?_) ?_
        · have hj' : j < ds.length := by
            have := List.mem_range.mp hj
            omega
          have ej : atD ds ((0 : Int) + (j : Int)) = some ds[j] := by
            rw [atD_nat (by omega), show ((0 : Int) + (j : Int)).toNat = j by omega, List.getElem?_eq_getElem hj']
          rcases he with rfl | rfl
          · walk_at "dws"
            rw [ej]
            walk_at "dws"
            exact ih (hd _ (List.getElem_mem hj')).1 (hd _ (List.getElem_mem hj')).2 hK
          · walk_at "dws"
            rw [ej]
            walk_at "dws"
            exact ih (hd _ (List.getElem_mem hj')).1 (hd _ (List.getElem_mem hj')).2 hK
        · show (match boolsD ((List.range (ds.length : Int).toNat).map fun _ => PyData.bool true) with
            | some ns => P (dbl (ns.all id))
            | none => False)
          rw [bools_true]
          show P (dbl _)
          rw [all_true]
          exact p
      rcases he with rfl | rfl
      · walk_at "dws"
        exact ⟨by simp, by omega, by rw [rangeD_len]; omega, go⟩
      · walk_at "dws"
        exact ⟨by simp, by omega, by rw [rangeD_len]; omega, go⟩
    unfold W_law_same D_law_same
    cases d with
    | none => walk_at "dws"; walk_at "kb"; walk_at "dws"; walk_at "kb"; exact p
    | bool b =>
      walk_at "dws"; walk_at "kb"; walk_at "nx"; walk_at "kb"
      refine ⟨⟨rfl, rfl⟩, ?_⟩
      rw [eqv_self (n := 0) hc]
      exact p
    | int i =>
      walk_at "dws"; walk_at "kb"; walk_at "nx"; walk_at "kb"; walk_at "nx"; walk_at "kb"
      refine ⟨⟨rfl, rfl⟩, ?_⟩
      rw [eqv_self (n := 0) hc]
      exact p
    | str s =>
      walk_at "dws"; walk_at "kb"; walk_at "nx"; walk_at "kb"; walk_at "nx"; walk_at "kb"; walk_at "nx"; walk_at "kb"
      refine ⟨⟨sh_str hc, sh_str hc⟩, ?_⟩
      rw [eqv_self (n := 0) hc]
      exact p
    | list ds =>
      walk_at "dws"; walk_at "kb"; walk_at "nx"; walk_at "kb"; walk_at "nx"; walk_at "kb"; walk_at "nx"; walk_at "kb"; walk_at "nx"; walk_at "kb"
      refine ⟨⟨rfl, rfl⟩, ?_⟩
      rw [if_neg (by decide)]
      refine ⟨⟨rfl, rfl⟩, ?_⟩
      rw [if_neg (by decide)]
      walk_at "nx"
      refine ⟨⟨rfl, rfl⟩, ?_⟩
      rw [if_neg (by rw [eqv_ii]; simp)]
      rw [PyData.canLay0] at hc
      exact seq ds (fun x hx => ⟨h.2 x hx, can_mem hc x hx⟩) h.1 _ (.inl rfl)
    | tuple ds =>
      walk_at "dws"; walk_at "kb"; walk_at "nx"; walk_at "kb"; walk_at "nx"; walk_at "kb"; walk_at "nx"; walk_at "kb"; walk_at "nx"; walk_at "kb"
      refine ⟨⟨rfl, rfl⟩, ?_⟩
      rw [if_neg (by decide)]
      refine ⟨⟨rfl, rfl⟩, ?_⟩
      rw [if_neg (by decide)]
      walk_at "nx"
      refine ⟨⟨rfl, rfl⟩, ?_⟩
      rw [if_neg (by rw [eqv_ii]; simp)]
      rw [PyData.canLay0] at hc
      exact seq ds (fun x hx => ⟨h.2 x hx, can_mem hc x hx⟩) h.1 _ (.inr rfl)
    | dict kvs => exact h.elim
theorem lay_deed {d : Deed} : Lay 1 d.D := lay_tup (n := 0) fun x hx => by
  rcases List.mem_cons.mp hx with e | e
  · rw [e]
    cases d with
    | over n ks => exact lay_str cl_over
    | down n ks => exact lay_str cl_down
    | swap n ks => exact lay_str cl_swap
    | tap n ks => exact lay_str cl_tap
    | drain n ks => exact lay_str cl_drain
  · obtain ⟨i, _, rfl⟩ := List.mem_map.mp e
    exact lay_int
end Lw
namespace Lw
open PySem PySem.Spec PyProof.Rows L2 DL DW DM
local macro_rules | `(tactic| walk_at "my") => `(tactic| (((first | refine ltM (sqM ?_) | refine nxM (sqM ?_) | refine sqM ?_ | refine ltM ?_ | refine nxM ?_) <;> walk_at "mws")))
local macro_rules | `(tactic| walk_at "mws") => `(tactic| ((try simp only [DM.wM, wFn, List.length_cons, List.length_nil, Nat.reduceAdd, true_and, Nat.reduceSub, List.replicate_succ, List.replicate_zero, List.append_nil, List.cons_append, List.nil_append, List.map_cons, List.map_nil]) <;> try simp only [mSeq, mIfS, mAsg, mRet, mRetN, mExpr, mBrk, mCnt, mNext, mLft, mLftT, mLftS, mLftI, lftP, mVar, mFld, mFldS, mFldAug, mMeth, mCall, mCallW, mMake, mNew, mCb, DM.mc, DM.mo, mBin, mUn, mu, mChain, mTst, mAnd, mOr, mNot, mAndV, mOrV, mNotV, mIfE, mNil, mCons, mTup, mLstD, mLstM, mDPut, mDDel, mDNew, mApp, mExt, mFor, mISeq, mLc, lcStepM, lcFin, mYes, mFgt, mFrz, mParG, setAll, oDGet, oDIn, cLenD, cListD, cDictD, oIxR, keyD, vw_dat, oMulE, wFn, dSeq, dIfS, dNext, dAsg, dPar, dRet, dRetV, dRetN, dExpr, dBrk, dCnt, dFor, dFrz, DW.frzAt, dAsgG, dGName, dGSub, dGNil, dGCons, dGTup, dAugI, dAug, dApp, dExt, dRaise, dVar, dC, dBin, dUn, dChain, dTst, dAnd, dOr, dNot, dYes, dAndV, dOrV, dNotV, dIfE, dNil, dCons, dTup, dLst, dats, dNone, dSome, dSl, oCut, dCall, dCb, dLrg, pk, dCallK, dTab, dCallV, dISeq, dIRg1, dIRg2, dIZip, dIEnum, tfName, tfPair, dLc, lcStep, DW.Cn.no, dCount, scVs, scV, oAdd, oSub, oMul, oMod, oDiv, oCmp, oNeg, oEq, toD, oIsN, oIx, seqD, lstD, bLen, bTuple, bList, bAbs, bMin, bMax, bSum, bAll, bAny, bSorted, bIsi, fz, isPl_dat, isPl_raw, isPl_bag, oIn, flD, List.cons_append, List.nil_append, List.append_nil, List.getElem?_cons_zero, List.getElem?_cons_succ, List.getElem?_nil, List.set_cons_zero, List.set_cons_succ, List.length_cons, List.length_nil, List.all_cons, List.all_nil, List.replicate_succ, List.replicate_zero, Bool.and_true, Bool.and_self, Bool.true_and, List.filterMap_cons, List.filterMap_nil, Nat.reduceAdd, Nat.reduceSub, Nat.zero_add, true_and, and_true, if_true, ite_true, Bool.not_true, Bool.not_false, Bool.false_eq_true, if_false, ite_false]))
local macro_rules | `(tactic| walk_at "nx") => `(tactic| ((try simp only [later]) <;> walk_at "dws"))
local macro_rules | `(tactic| walk_at "dws") => `(tactic| ((try simp only [wFn, List.length_cons, List.length_nil, Nat.reduceAdd, true_and, Nat.reduceSub, List.replicate_succ, List.replicate_zero, List.append_nil, List.cons_append, List.nil_append, List.map_cons, List.map_nil]) <;> try simp only [wFn, dSeq, dIfS, dNext, dAsg, dPar, dRet, dRetV, dRetN, dExpr, dBrk, dCnt, dFor, dFrz, frzAt, dAsgG, dGName, dGSub, dGNil, dGCons, dGTup, dAugI, dAug, dApp, dExt, dRaise, dVar, dC, dBin, dUn, dChain, dTst, dAnd, dOr, dNot, dYes, dAndV, dOrV, dNotV, dIfE, dNil, dCons, dTup, dLst, dats, dNone, dSome, dSl, oCut, dCall, dCb, dLrg, pk, dCallK, dTab, dCallV, dISeq, dIRg1, dIRg2, dIZip, dIEnum, tfName, tfPair, dLc, lcStep, Cn.no, dCount, scVs, scV, oAdd, oSub, oMul, oMod, oDiv, oCmp, oNeg, oEq, toD, oIsN, oIx, seqD, lstD, bLen, bTuple, bList, bAbs, bMin, bMax, bSum, bAll, bAny, bSorted, bIsi, fz, isPl_dat, isPl_raw, isPl_bag, oIn, flD, List.map_cons, List.map_nil, List.cons_append, List.nil_append, List.append_nil, List.getElem?_cons_zero, List.getElem?_cons_succ, List.getElem?_nil, List.set_cons_zero, List.set_cons_succ, List.length_cons, List.length_nil, List.all_cons, List.all_nil, List.replicate_succ, List.replicate_zero, Bool.and_true, Bool.and_self, Bool.true_and, List.filterMap_cons, List.filterMap_nil, Nat.reduceAdd, Nat.reduceSub, Nat.zero_add, true_and, and_true, if_true, ite_true, Bool.not_true, Bool.not_false, Bool.false_eq_true, if_false, ite_false]))
theorem look_mem {bk : List Rd} {x : Str} {r : Rd} (h : look bk x = some r) : r ∈ bk ∧ r.nm = x := ⟨List.mem_of_find?_eq_some h, by simpa using List.find?_some h⟩
theorem gV_wr {bk : List Rd} {x : Str} : gV (wrOf bk) (.inr x) = (look bk x).map fun r => DV.dat (.tuple (r.st.map Stp.D)) := gV_map
theorem gV_ld {bk : List Rd} {x : Str} : gV (ldOf bk) (.inr x) = (look bk x).map fun r => DV.dat (.tuple (rowD r.fl)) := gV_map
def lay1 (bk : List Rd) : Stp → List Deed
  | .dd d => [d]
  | .cl x n => match look bk x with
    | some r => (List.replicate n r.fl).flatten
    | none => []
theorem lay1_cl {bk : List Rd} {x : Str} {n : Nat} {r : Rd} (h : look bk x = some r) : lay1 bk (.cl x n) = (List.replicate n r.fl).flatten := by
  show (match look bk x with
    | some r => (List.replicate n r.fl).flatten
    | none => []) = _
  rw [h]
def lay (bk : List Rd) (ss : List Stp) : List Deed := ss.flatMap (lay1 bk)
def cnt (bk : List Rd) (s : Stp) : Int := ((lay1 bk s).length : Int)
theorem replicate_flat_len {α : Type} (n : Nat) (l : List α) : (List.replicate n l).flatten.length = n * l.length := by
  induction n with
  | zero => simp
  | succ n ih => rw [List.replicate_succ, List.flatten_cons, List.length_append, ih, Nat.succ_mul]; omega
theorem lay1_rows {ms : List Int} {bk : List Rd} {s : Stp} (h : Bks ms bk) (hs : s.Ok ms bk) : Rows ms (lay1 bk s) := by
  cases s with
  | dd d =>
    intro e he
    have : e = d := by simpa [lay1] using he
    rw [this]
    exact hs
  | cl x n =>
    obtain ⟨⟨r, hr⟩, _⟩ := hs
    intro e he
    rw [lay1_cl hr] at he
    obtain ⟨l, hl, he⟩ := List.mem_flatten.mp he
    rw [(List.mem_replicate.mp hl).2] at he
    exact h.fl r (look_mem hr).1 e he
theorem lay_rows {ms : List Int} {bk : List Rd} {ss : List Stp} (h : Bks ms bk) (hs : ∀ s ∈ ss, s.Ok ms bk) : Rows ms (lay bk ss) := fun e he => by
  obtain ⟨s, hm, he⟩ := List.mem_flatMap.mp he
  exact lay1_rows h (hs s hm) e he
theorem cnt_sum {bk : List Rd} : ∀ {ss : List Stp}, (ss.map (cnt bk)).sum = ((lay bk ss).length : Int)
  | [] => rfl
  | s :: ss => by
    unfold lay
    rw [List.map_cons, List.sum_cons, cnt_sum, List.flatMap_cons, List.length_append]
    show ((lay1 bk s).length : Int) + _ = _
    unfold lay
    omega
theorem bk_s {ms : List Int} {w l : Addr} : (bkF ms w l).lookup ("held_sizes" : Str) = some (.dat (nums ms)) := by
  unfold bkF
  rw [List.lookup_cons]
  simp
theorem bk_w {ms : List Int} {w l : Addr} : (bkF ms w l).lookup ("written" : Str) = some (.raw (.ref w)) := by
  unfold bkF
  rw [List.lookup_cons, show (("written" : Str) == "held_sizes") = false by decide, List.lookup_cons]
  simp
theorem bk_l {ms : List Int} {w l : Addr} : (bkF ms w l).lookup ("laid" : Str) = some (.raw (.ref l)) := by
  unfold bkF
  rw [List.lookup_cons, show (("laid" : Str) == "held_sizes") = false by decide, List.lookup_cons, show (("laid" : Str) == "written") = false by decide, List.lookup_cons]
  simp
theorem bk_m {ms : List Int} {w l : Addr} {m : Str} (h1 : (m == "held_sizes") = false) (h2 : (m == "written") = false) (h3 : (m == "laid") = false) : (bkF ms w l).lookup m = none := by
  unfold bkF
  rw [List.lookup_cons, h1, List.lookup_cons, h2, List.lookup_cons, h3]
  rfl
theorem Stp.good {ms : List Int} {bk : List Rd} {d : Deed} (h : (Stp.dd d).Ok ms bk) : d.Ok ms := h
theorem sh_call : SeqAt.shaped (.str "call") = true := by decide +kernel
theorem sh_w {d : Deed} : SeqAt.shaped (.str d.w) = true := by
  cases d with
  | over n ks => exact oks_over
  | down n ks => exact oks_down
  | swap n ks => exact oks_swap
  | tap n ks => exact oks_tap
  | drain n ks => exact oks_drain
theorem eqS {a b : Str} (h : (a == b) = false) : PyData.eqv (.str a) (.str b) = false := by
  rw [eqv_ss]
  exact decide_eq_false (by simpa using h)
theorem deed_word {d : Deed} : PyData.eqv (.str d.w) (.str "call") = false := by
  cases d with
  | over n ks => exact eqS (show (("over" : Str) == "call") = false by decide)
  | down n ks => exact eqS (show (("down" : Str) == "call") = false by decide)
  | swap n ks => exact eqS (show (("swap" : Str) == "call") = false by decide)
  | tap n ks => exact eqS (show (("tap" : Str) == "call") = false by decide)
  | drain n ks => exact eqS (show (("drain" : Str) == "call") = false by decide)
theorem w_step_fault {ms : List Int} {bk : List Rd} {s : Stp} {P : DP} {c : Cn} (hs : Sz ms) (h : s.Ok ms bk) (p : P (.dat .none)) : W_step_fault [.dat (nums ms), .dat s.D] P c := by
  cases s with
  | dd d =>
    unfold W_step_fault D_step_fault
    show wFn _ _ _ [.dat (nums ms), .dat (deedD d.w d.ns)] P c
    walk_at "dws"
    rw [if_neg (by rw [eqv_ii]; simp; omega)]
    rw [atD_0]
    walk_at "dws"
    rw [deed_word]
    walk_at "dws"
    refine ⟨⟨sh_int, sh_int⟩, ⟨sh_w, sh_call⟩, ?_⟩
    exact w_fault_place hs (Stp.good h).good p
  | cl x n =>
    obtain ⟨_, h9⟩ := h
    unfold W_step_fault D_step_fault
    show wFn _ _ _ [.dat (nums ms), .dat (.tuple [.str "call", .str x, .int (n : Int)])] P c
    walk_at "dws"
    rw [if_neg (by rw [eqv_ii]; simp)]
    rw [atD_0]
    walk_at "dws"
    rw [eqv_ss, decide_eq_true rfl]
    refine ⟨⟨sh_int, sh_int⟩, ⟨sh_call, sh_call⟩, ?_⟩
    walk_at "nx"
    refine ⟨⟨sh_int, sh_int⟩, ?_⟩
    walk_at "nx"
    rw [eqv_ii]
    walk_at "nx"
    rw [atD_2]
    walk_at "dws"
    rw [decide_eq_true (by omega : (0 : Int) ≤ n), decide_eq_true (by omega : (n : Int) ≤ 9)]
    walk_at "nx"
    exact p
theorem BookAt.dw {C a w l : Addr} {M : Mem} {ms : List Int} {bk : List Rd} (h : BookAt C M a w l ms bk) : dicAt M (.raw (.ref w)) = some (w, wrOf bk) := dicAt_mk h.hw
theorem BookAt.dl {C a w l : Addr} {M : Mem} {ms : List Int} {bk : List Rd} (h : BookAt C M a w l ms bk) : dicAt M (.raw (.ref l)) = some (l, ldOf bk) := dicAt_mk h.hl
theorem wr_len {bk : List Rd} : (wrOf bk).length = bk.length := by unfold wrOf; simp
theorem ld_len {bk : List Rd} : (ldOf bk).length = bk.length := by unfold ldOf; simp
theorem wr_keys {bk : List Rd} : (wrOf bk).map (fun kv => keyPD kv.1) = bk.map fun r => PyData.str r.nm := by
  unfold wrOf
  rw [List.map_map]
  rfl
theorem w_look_written {a w l : Addr} {M : Mem} {ms : List Int} {bk : List Rd} {x : Str} {r : Rd} {P : MP} {c : Cm} (h : BookAt (c.fa 0) M a w l ms bk) (hr : look bk x = some r) (p : P (.dat .none) M) : W_Book_look_written [.raw (.ref a), dstr x] M P c := by
  unfold W_Book_look_written D_Book_look_written B_Book_look_written_1
  walk_at "mws"
  simp only [h.ins, bk_w]
  walk_at "mws"
  simp only [h.dw, gV_wr, hr]
  exact p
theorem w_book_names {a w l : Addr} {M : Mem} {ms : List Int} {bk : List Rd} {P : MP} {c : Cm} (h : BookAt (c.fa 0) M a w l ms bk) (p : P (.dat (.list (bk.map fun r => .str r.nm))) M) : W_Book_names [.raw (.ref a)] M P c := by
  unfold W_Book_names D_Book_names B_Book_names_0
  walk_at "mws"
  simp only [h.ins, bk_w]
  walk_at "mws"
  simp only [h.dw, wr_keys]
  exact p
theorem w_book_flat {a w l : Addr} {M : Mem} {ms : List Int} {bk : List Rd} {x : Str} {r : Rd} {P : MP} {c : Cm} (h : BookAt (c.fa 0) M a w l ms bk) (hr : look bk x = some r) (p : P (.dat (.list (rowD r.fl))) M) : W_Book_flat [.raw (.ref a), dstr x] M P c := by
  unfold W_Book_flat D_Book_flat B_Book_flat_1
  walk_at "mws"
  simp only [h.ins, bk_m (show (("look_written" : Str) == "held_sizes") = false by decide) (show (("look_written" : Str) == "written") = false by decide) (show (("look_written" : Str) == "laid") = false by decide)]
  walk_at "mws"
  refine w_look_written h hr ?_
  unfold B_Book_flat_0
  refine ltM ?_
  walk_at "mws"
  simp only [h.ins, bk_l]
  walk_at "mws"
  simp only [h.dl, gV_ld, hr]
  walk_at "mws"
  exact p
theorem w_count_deeds {a w l : Addr} {M : Mem} {ms : List Int} {bk : List Rd} {s : Stp} {P : MP} {c : Cm} (h : BookAt (c.fa 0) M a w l ms bk) (hb : Bks ms bk) (hs : s.Ok ms bk) (p : P (dint (cnt bk s)) M) : W_Book_count_deeds [.raw (.ref a), .dat s.D] M P c := by
  unfold W_Book_count_deeds D_Book_count_deeds B_Book_count_deeds_2
  cases s with
  | dd d =>
    show wM _ _ _ [.raw (.ref a), .dat (deedD d.w d.ns)] M P c
    walk_at "mws"
    rw [atD_0]
    walk_at "mws"
    rw [deed_word]
    refine ⟨⟨sh_w, sh_call⟩, ?_⟩
    walk_at "mws"
    exact p
  | cl x n =>
    obtain ⟨⟨r, hr⟩, h9⟩ := hs
    show wM _ _ _ [.raw (.ref a), .dat (.tuple [.str "call", .str x, .int (n : Int)])] M P c
    walk_at "mws"
    rw [atD_0]
    walk_at "mws"
    rw [eqv_ss, decide_eq_true rfl]
    refine ⟨⟨sh_call, sh_call⟩, ?_⟩
    unfold B_Book_count_deeds_0
    walk_at "mws"
    simp only [h.ins, bk_l]
    walk_at "mws"
    rw [atD_1]
    walk_at "mws"
    simp only [h.dl, gV_ld, hr]
    walk_at "mws"
    rw [atD_2]
    walk_at "mws"
    have hl := hb.len r (look_mem hr).1
    refine ⟨?_, ?_⟩
    · exact .inl (.inr (by constructor <;> omega))
    · have e : cnt bk (.cl x n) = ((rowD r.fl).length : Int) * (n : Int) := by
        unfold cnt
        rw [lay1_cl hr, replicate_flat_len, List.length_map, Int.natCast_mul, Int.mul_comm]
      rw [← e]
      exact p
theorem bkm {ms : List Int} {w l : Addr} {m : Str} (h : (m == "held_sizes" || (m == "written" || m == "laid")) = false) : (bkF ms w l).lookup m = none := by
  rw [Bool.or_eq_false_iff, Bool.or_eq_false_iff] at h
  exact bk_m h.1 h.2.1 h.2.2
theorem um_none {M : Mem} {p : Addr} {o : SO} (h : M p = none) : (fun x => if x = p then none else um M p o x) = M := by
  funext x
  by_cases z : x = p
  · rw [if_pos z, z, h]
  · rw [if_neg z, um_ne z]
theorem um_um {M : Mem} {p : Addr} {o u : SO} : um (um M p o) p u = um M p u := by
  funext x
  by_cases z : x = p
  · rw [z, um_same, um_same]
  · rw [um_ne z, um_ne z, um_ne z]
theorem lay_take {bk : List Rd} {ss : List Stp} {k : Nat} {s : Stp} (h : ss[k]? = some s) : lay bk (ss.take (k + 1)) = lay bk (ss.take k) ++ lay1 bk s := by
  unfold lay
  rw [List.take_add_one, h, List.flatMap_append]
  simp
theorem lay_len_take {bk : List Rd} {ss : List Stp} {k : Nat} : (lay bk (ss.take k)).length ≤ (lay bk ss).length := by
  have e : lay bk ss = lay bk (ss.take k) ++ lay bk (ss.drop k) := by
    unfold lay
    rw [← List.flatMap_append, List.take_append_drop]
  rw [e, List.length_append]
  omega
theorem rowD_app {x y : List Deed} : rowD (x ++ y) = rowD x ++ rowD y := List.map_append ..
theorem rowD_flat {n : Nat} {x : List Deed} : (List.replicate n (rowD x)).flatten = rowD (List.replicate n x).flatten := by
  show _ = List.map _ _
  rw [List.map_flatten, List.map_replicate]
theorem sum_ints : ∀ {ns : List Int}, intsD (ns.map PyData.int) = some ns
  | [] => rfl
  | n :: ns => by
    rw [List.map_cons]
    unfold intsD
    rw [sum_ints]
theorem look_new {bk : List Rd} {x : Str} (h : look bk x = none) : ∀ y ∈ bk, y.nm ≠ x := fun y hy => by
  have := List.find?_eq_none.mp h y hy
  simpa using this
theorem bks_new {ms : List Int} {bk : List Rd} {x : Str} {ss : List Stp} (hb : Bks ms bk) (hx : look bk x = none) (ho : ∀ s ∈ ss, s.Ok ms bk) (hl : (lay bk ss).length ≤ 200) : Bks ms (bk ++ [⟨x, ss, lay bk ss⟩]) := by
  refine ⟨?_, fun r hr => ?_, fun r hr => ?_⟩
  · rw [List.map_append, List.nodup_append]
    refine ⟨hb.nd, by simp, fun y hy z hz e => ?_⟩
    simp at hz
    obtain ⟨r, hr, rfl⟩ := List.mem_map.mp hy
    exact look_new hx r hr (e.trans hz)
  · rcases List.mem_append.mp hr with h | h
    · exact hb.fl r h
    · rw [List.mem_singleton.mp h]
      exact lay_rows hb ho
  · rcases List.mem_append.mp hr with h | h
    · exact hb.len r h
    · rw [List.mem_singleton.mp h]
      exact hl
theorem fp1 {x y : DV} : fPut ("written" : Str) y [(("held_sizes" : Str), x)] = [(("held_sizes" : Str), x), (("written" : Str), y)] := by
  unfold fPut
  rw [if_neg (show ¬ ("held_sizes" : Str) = "written" by decide)]
  rfl
theorem fp2 {x y z : DV} : fPut ("laid" : Str) z [(("held_sizes" : Str), x), (("written" : Str), y)] = [(("held_sizes" : Str), x), (("written" : Str), y), (("laid" : Str), z)] := by
  unfold fPut
  rw [if_neg (show ¬ ("held_sizes" : Str) = "laid" by decide)]
  unfold fPut
  rw [if_neg (show ¬ ("written" : Str) = "laid" by decide)]
  rfl
theorem w_book_init {a : Addr} {M : Mem} {ms : List Int} {P : MP} {c : Cm} (hs : Sz ms) (h : M a = some (.ins (c.fa 0) []))
    (p : ∀ M' w l, BookAt (c.fa 0) M' a w l ms [] → M w = none → M l = none → (∀ y, y ≠ a → y ≠ w → y ≠ l → M' y = M y) → P (.dat .none) M') : W_Book_init [.raw (.ref a), .dat (nums ms)] M P c := by
  unfold W_Book_init D_Book_init B_Book_init_3
  walk_at "mws"
  refine w_look_sizes hs ?_
  unfold B_Book_init_2
  walk_at "my"
  simp only [insAt_mk h, fPut]
  refine ⟨by decide, ?_⟩
  unfold B_Book_init_1
  walk_at "my"
  intro w hw
  have wa : w ≠ a := fun z => by
    subst z
    rw [um_same] at hw
    cases hw
  rw [um_ne wa] at hw
  have h1 : um (um M a (.ins (c.fa 0) [("held_sizes", .dat (nums ms))])) w (.dic []) a = some (.ins (c.fa 0) [("held_sizes", .dat (nums ms))]) := by
    rw [um_ne wa.symm, um_same]
  simp only [insAt_mk h1]
  refine ⟨by show 1 < 1000; decide, ?_⟩
  rw [fp1]
  unfold B_Book_init_0
  walk_at "my"
  intro l hl
  have la : l ≠ a := fun z => by
    subst z
    rw [um_same] at hl
    cases hl
  rw [um_ne la] at hl
  have lw : l ≠ w := fun z => by
    subst z
    rw [um_same] at hl
    cases hl
  rw [um_ne lw, um_ne la] at hl
  have h2 : um (um (um (um M a (.ins (c.fa 0) [("held_sizes", .dat (nums ms))])) w (.dic [])) a (.ins (c.fa 0) [("held_sizes", .dat (nums ms)), ("written", .raw (.ref w))])) l (.dic []) a = some (.ins (c.fa 0) [("held_sizes", .dat (nums ms)), ("written", .raw (.ref w))]) := by
    rw [um_ne la.symm, um_same]
  simp only [insAt_mk h2]
  refine ⟨by show 2 < 1000; decide, ?_⟩
  rw [fp2]
  refine p _ w l ⟨wa.symm, la.symm, lw.symm, um_same, ?_, ?_⟩ hw hl fun y h1 h2 h3 => ?_
  · rw [um_ne wa, um_ne lw.symm, um_ne wa, um_same]
    rfl
  · rw [um_ne la, um_same]
    rfl
  · rw [um_ne h1, um_ne h3, um_ne h1, um_ne h2, um_ne h1]
end Lw
namespace Lw
open PySem PySem.Spec PyProof.Rows L2 DL DW DM
local macro_rules | `(tactic| walk_at "mwu") => `(tactic| ((try simp only [DM.wM, wFn, List.length_cons, List.length_nil, Nat.reduceAdd, true_and, Nat.reduceSub, List.replicate_succ, List.replicate_zero, List.append_nil, List.cons_append, List.nil_append, List.map_cons, List.map_nil]) <;> try simp only [mSeq, mIfS, mAsg, mRet, mRetN, mExpr, mBrk, mCnt, mNext, mLft, mLftT, mLftS, mLftI, lftP, mVar, mFld, mFldS, mFldAug, mMeth, mCall, mCallW, mMake, mNew, mCb, DM.mc, DM.mo, mBin, mUn, mu, mChain, mTst, mAnd, mOr, mNot, mAndV, mOrV, mNotV, mIfE, mNil, mCons, mTup, mLstD, mLstM, mDPut, mDDel, mDNew, mApp, mExt, mFor, mISeq, mLc, lcStepM, lcFin, mYes, mFgt, mSl, mONone, mOSome, oAddR, mLcL, lcStepL, dIRg3, mMakeK, mFrz, mParG, setAll, oDGet, oDIn, cLenD, cListD, cDictD, oIxR, keyD, vw_dat, oMulE, wFn, dSeq, dIfS, dNext, dAsg, dPar, dRet, dRetV, dRetN, dExpr, dBrk, dCnt, dFor, dFrz, DW.frzAt, dAsgG, dGName, dGSub, dGNil, dGCons, dGTup, dAugI, dAug, dApp, dExt, dRaise, dVar, dC, dBin, dUn, dChain, dTst, dAnd, dOr, dNot, dYes, dAndV, dOrV, dNotV, dIfE, dNil, dCons, dTup, dLst, dats, dNone, dSome, dSl, oCut, dCall, dCb, dLrg, pk, dCallK, dTab, dCallV, dISeq, dIRg1, dIRg2, dIZip, dIEnum, tfName, tfPair, dLc, lcStep, DW.Cn.no, dCount, scVs, scV, oAdd, oSub, oMul, oMod, oDiv, oCmp, oNeg, oEq, toD, oIsN, oIx, seqD, lstD, bLen, bTuple, bList, bAbs, bMin, bMax, bSum, bAll, bAny, bSorted, bIsi, fz, isPl_dat, isPl_raw, isPl_bag, oIn, flD, List.cons_append, List.nil_append, List.append_nil, List.getElem?_cons_zero, List.getElem?_cons_succ, List.getElem?_nil, List.set_cons_zero, List.set_cons_succ, List.length_cons, List.length_nil, List.all_cons, List.all_nil, List.replicate_succ, List.replicate_zero, Bool.and_true, Bool.and_self, Bool.true_and, List.filterMap_cons, List.filterMap_nil, Nat.reduceAdd, Nat.reduceSub, Nat.zero_add, true_and, and_true, if_true, ite_true, Bool.not_true, Bool.not_false, Bool.false_eq_true, if_false, ite_false]))
local macro_rules | `(tactic| walk_at "dws") => `(tactic| ((try simp only [wFn, List.length_cons, List.length_nil, Nat.reduceAdd, true_and, Nat.reduceSub, List.replicate_succ, List.replicate_zero, List.append_nil, List.cons_append, List.nil_append, List.map_cons, List.map_nil]) <;> try simp only [wFn, dSeq, dIfS, dNext, dAsg, dPar, dRet, dRetV, dRetN, dExpr, dBrk, dCnt, dFor, dFrz, frzAt, dAsgG, dGName, dGSub, dGNil, dGCons, dGTup, dAugI, dAug, dApp, dExt, dRaise, dVar, dC, dBin, dUn, dChain, dTst, dAnd, dOr, dNot, dYes, dAndV, dOrV, dNotV, dIfE, dNil, dCons, dTup, dLst, dats, dNone, dSome, dSl, oCut, dCall, dCb, dLrg, pk, dCallK, dTab, dCallV, dISeq, dIRg1, dIRg2, dIZip, dIEnum, tfName, tfPair, dLc, lcStep, Cn.no, dCount, scVs, scV, oAdd, oSub, oMul, oMod, oDiv, oCmp, oNeg, oEq, toD, oIsN, oIx, seqD, lstD, bLen, bTuple, bList, bAbs, bMin, bMax, bSum, bAll, bAny, bSorted, bIsi, fz, isPl_dat, isPl_raw, isPl_bag, oIn, flD, List.map_cons, List.map_nil, List.cons_append, List.nil_append, List.append_nil, List.getElem?_cons_zero, List.getElem?_cons_succ, List.getElem?_nil, List.set_cons_zero, List.set_cons_succ, List.length_cons, List.length_nil, List.all_cons, List.all_nil, List.replicate_succ, List.replicate_zero, Bool.and_true, Bool.and_self, Bool.true_and, List.filterMap_cons, List.filterMap_nil, Nat.reduceAdd, Nat.reduceSub, Nat.zero_add, true_and, and_true, if_true, ite_true, Bool.not_true, Bool.not_false, Bool.false_eq_true, if_false, ite_false]))
def isCl (x : Str) : Stp → Bool
  | .dd _ => false
  | .cl y _ => decide (y = x)
theorem w_calls {ss : List Stp} {x : Str} {P : DP} {c : Cn} (hl : ss.length ≤ 1000) (hx : SeqAt.shaped (.str x) = true) (hs : ∀ s ∈ ss, ∀ y n, s = .cl y n → SeqAt.shaped (.str y) = true) (p : P (dbl (ss.any (isCl x)))) : W_calls [.dat (.tuple (ss.map Stp.D)), dstr x] P c := by
  unfold W_calls D_calls
  walk_at "dws"
  refine ⟨by simp, by rw [List.length_map]; omega, ?_⟩
  refine lc_map (fun s => .bool (isCl x s)) (fun s hm K hK => ?_) ?_
  · cases s with
    | dd d =>
      show lcStep _ _ _ _ _ (deedD d.w d.ns) _
      walk_at "dws"
      rw [atD_0]
      walk_at "dws"
      rw [deed_word]
      walk_at "dws"
      exact ⟨⟨sh_w, sh_call⟩, hK⟩
    | cl y n =>
      show lcStep _ _ _ _ _ (.tuple [.str "call", .str y, .int (n : Int)]) _
      walk_at "dws"
      rw [atD_0]
      walk_at "dws"
      rw [eqv_ss, decide_eq_true rfl]
      walk_at "dws"
      refine ⟨⟨sh_call, sh_call⟩, ?_⟩
      rw [atD_1]
      walk_at "dws"
      rw [eqv_ss]
      exact ⟨⟨hs _ hm y n rfl, hx⟩, hK⟩
  · have eb : ∀ l : List Stp, boolsD (l.map fun s => PyData.bool (isCl x s)) = some (l.map (isCl x)) := fun l => by
      induction l with
      | nil => rfl
      | cons a l ih => simp [boolsD, ih]
    rw [eb]
    dsimp only
    rw [List.any_map]
    exact p
theorem um_id {M : Mem} {a : Addr} {o : SO} (h : M a = some o) : um M a o = M := by
  funext x
  by_cases z : x = a
  · rw [z, um_same, h]
  · rw [um_ne z]
theorem lcM_out {β : Type} {step : PyData → Mem → (Option DV → Mem → Prop) → Prop} {P : List DV → Mem → Prop} {M : Mem} {l : List β} {gI : β → PyData} (g : β → Option DV)
    (h : ∀ x ∈ l, ∀ k : Option DV → Mem → Prop, k (g x) M → step (gI x) M k) (hP : P (l.filterMap g) M) : lcGoM step (l.map gI) M P := by
  induction l generalizing P with
  | nil => exact hP
  | cons x l ih =>
    show step (gI x) M _
    refine h x (List.mem_cons_self ..) _ ?_
    cases e : g x with
    | none =>
      rw [List.filterMap_cons_none e] at hP
      exact ih (fun y hy => h y (List.mem_cons_of_mem _ hy)) hP
    | some v =>
      rw [List.filterMap_cons_some e] at hP
      exact ih (fun y hy => h y (List.mem_cons_of_mem _ hy)) hP
theorem look_at {bk : List Rd} {r : Rd} (hnd : (bk.map (·.nm)).Nodup) (hm : r ∈ bk) : look bk r.nm = some r := by
  unfold look
  induction bk with
  | nil => cases hm
  | cons r0 bk ih =>
    rw [List.map_cons, List.nodup_cons] at hnd
    rcases List.mem_cons.mp hm with rfl | hm
    · rw [List.find?_cons_of_pos (by simp)]
    · rw [List.find?_cons_of_neg (by
        have : r0.nm ≠ r.nm := fun z => hnd.1 (List.mem_map.mpr ⟨r, hm, z.symm⟩)
        simpa using this)]
      exact ih hnd.2 hm
def users (bk : List Rd) (x : Str) : List Rd := bk.filter fun r => r.st.any (isCl x)
structure Shp (bk : List Rd) : Prop where
  l : ∀ r ∈ bk, r.st.length ≤ 1000
  s : ∀ r ∈ bk, ∀ s ∈ r.st, ∀ y n, s = .cl y n → PyData.canLay0 (.str y) = true
theorem w_book_callers {M : Mem} {a w l : Addr} {ms : List Int} {bk : List Rd} {x : Str} {r : Rd} {P : MP} {c : Cm} (h : BookAt (c.fa 0) M a w l ms bk) (hb : bk.length ≤ 1000) (hnd : (bk.map (·.nm)).Nodup) (hr : look bk x = some r) (hx : SeqAt.shaped (.str x) = true) (hs : Shp bk) (p : P (.dat (.list ((users bk x).map fun r => .str r.nm))) M) : W_Book_callers [.raw (.ref a), dstr x] M P c := by
  unfold W_Book_callers D_Book_callers B_Book_callers_1
  walk_at "mwu"
  simp only [h.ins, bkm (show (("look_written" : Str) == "held_sizes" || (("look_written" : Str) == "written" || ("look_written" : Str) == "laid")) = false by decide), true_and]
  refine w_look_written h hr ?_
  unfold B_Book_callers_0
  refine ltM ?_
  unfold mRet
  refine ⟨w, wrOf bk, h.hw, ?_⟩
  have hi : insAt (um M w (.dicL (wrOf bk))) (c.fa 0) (.raw (.ref a)) = some (a, bkF ms w l) := by
    refine insAt_mk ?_
    rw [um_ne h.aw]
    exact h.ha
  have hd : dicAt (um M w (.dicL (wrOf bk))) (.raw (.ref w)) = some (w, wrOf bk) := dicAt_mkL um_same
  have hback : um (um M w (.dicL (wrOf bk))) w (.dic (wrOf bk)) = M := by rw [um_um, um_id h.hw]
  refine ⟨by simp, ?_⟩
  unfold mIKeys
  walk_at "mwu"
  simp only [hi, bk_w, um_same, wr_keys]
  refine ⟨by rw [List.length_map]; omega, ?_⟩
  refine lcM_out (fun r => if r.st.any (isCl x) = true then some (.dat (.str r.nm)) else none) (fun r hm K hK => ?_) ?_
  · walk_at "mwu"
    have hi' : insAt (um M w (.dicL (wrOf bk))) (c.no.fa 0) (.raw (.ref a)) = some (a, bkF ms w l) := hi
    simp only [hi', show List.lookup (Str.ofString "written") (bkF ms w l) = some (.raw (.ref w)) from bk_w]
    have hg : gV (wrOf bk) (.inr r.nm) = some (DV.dat (.tuple (r.st.map Stp.D))) := by
      rw [gV_wr, look_at hnd hm]
      rfl
    simp only [hd, hg]
    refine ⟨rfl, ?_⟩
    refine w_calls (hs.l r hm) hx (fun s h1 y n h2 => (lay_str (n := 0) (hs.s r hm s h1 y n h2)).sh (by decide)) ?_
    simp only [lftP]
    by_cases z : r.st.any (isCl x) = true
    · rw [if_pos z]
      rw [if_pos z] at hK
      exact hK
    · rw [if_neg z]
      rw [if_neg z] at hK
      exact hK
  · have e : bk.filterMap (fun r => if r.st.any (isCl x) = true then some (DV.dat (PyData.str r.nm)) else none) = (users bk x).map fun r => DV.dat (PyData.str r.nm) := by
      unfold users
      clear hr hs hnd hb h p hi hd hback
      induction bk with
      | nil => rfl
      | cons r0 bk ih =>
        by_cases z : r0.st.any (isCl x) = true
        · rw [List.filterMap_cons, if_pos z, List.filter_cons, if_pos z, List.map_cons, ih]
        · rw [List.filterMap_cons, if_neg z, List.filter_cons, if_neg z, ih]
    rw [e, dats_of, hback]
    exact p
def Wrd (c : Cm) (M : Mem) (s : Str) : Prop := ∀ (n : Nat) (fs : List (Str × V)) (M' : Mem), n ∈ ([5, 8, 9, 10, 11, 12, 14, 17] : List Nat) → fs.lookup ("word" : Str) = some (.str s) → (∀ x o, M x = some o → M' x = some o) → c.x n fs M'
theorem Wrd.of {c : Cm} {M M' : Mem} {s : Str} (h : Wrd c M s) (k : ∀ x o, M x = some o → M' x = some o) : Wrd c M' s := fun n fs M2 hn hf hk => h n fs M2 hn hf fun x o e => hk x o (k x o e)
theorem lk_w1 {v w : V} {f : Str} (h : (("word" : Str) == f) = false) : List.lookup ("word" : Str) [(f, v), (("word" : Str), w)] = some w := by
  rw [List.lookup_cons, h, List.lookup_cons]
  simp
end Lw
namespace Lw
open PySem PySem.Spec PyProof.Rows L2 DL DW DM
local macro_rules | `(tactic| walk_at "mwv") => `(tactic| ((try simp only [DM.wM, wFn, List.length_cons, List.length_nil, Nat.reduceAdd, true_and, Nat.reduceSub, List.replicate_succ, List.replicate_zero, List.append_nil, List.cons_append, List.nil_append, List.map_cons, List.map_nil]) <;> try simp only [mSeq, mIfS, mAsg, mRet, mRetN, mExpr, mBrk, mCnt, mNext, mLft, mLftT, mLftS, mLftI, lftP, mVar, mFld, mFldS, mFldAug, mMeth, mCall, mCallW, mMake, mNew, mCb, DM.mc, DM.mo, mBin, mUn, mu, mChain, mTst, mAnd, mOr, mNot, mAndV, mOrV, mNotV, mIfE, mNil, mCons, mTup, mLstD, mLstM, mDPut, mDDel, mDNew, mApp, mExt, mFor, mISeq, mLc, lcStepM, lcFin, mYes, mFgt, mSl, mONone, mOSome, oAddR, mLcL, lcStepL, dIRg3, mMakeK, mFrz, mParG, setAll, oDGet, oDIn, cLenD, cListD, cDictD, oIxR, keyD, vw_dat, oMulE, mTupM, oEmp, oEmpN, mUnp, mPop, mDPop, mAsgGs, mGPut, mGName, mGs, mDisp, mPairs, mLockE, mLockS, mIKeys, mIRg1, oIxT, wFn, dSeq, dIfS, dNext, dAsg, dPar, dRet, dRetV, dRetN, dExpr, dBrk, dCnt, dFor, dFrz, DW.frzAt, dAsgG, dGName, dGSub, dGNil, dGCons, dGTup, dAugI, dAug, dApp, dExt, dRaise, dVar, dC, dBin, dUn, dChain, dTst, dAnd, dOr, dNot, dYes, dAndV, dOrV, dNotV, dIfE, dNil, dCons, dTup, dLst, dats, dNone, dSome, dSl, oCut, dCall, dCb, dLrg, pk, dCallK, dTab, dCallV, dISeq, dIRg1, dIRg2, dIZip, dIEnum, tfName, tfPair, dLc, lcStep, DW.Cn.no, dCount, scVs, scV, oAdd, oSub, oMul, oMod, oDiv, oCmp, oNeg, oEq, toD, oIsN, oIx, seqD, lstD, bLen, bTuple, bList, bAbs, bMin, bMax, bSum, bAll, bAny, bSorted, bIsi, fz, isPl_dat, isPl_raw, isPl_bag, oIn, flD, List.cons_append, List.nil_append, List.append_nil, List.getElem?_cons_zero, List.getElem?_cons_succ, List.getElem?_nil, List.set_cons_zero, List.set_cons_succ, List.length_cons, List.length_nil, List.all_cons, List.all_nil, List.replicate_succ, List.replicate_zero, Bool.and_true, Bool.and_self, Bool.true_and, List.filterMap_cons, List.filterMap_nil, Nat.reduceAdd, Nat.reduceSub, Nat.zero_add, true_and, and_true, if_true, ite_true, Bool.not_true, Bool.not_false, Bool.false_eq_true, if_false, ite_false]))
local macro_rules | `(tactic| walk_at "mws") => `(tactic| ((try simp only [DM.wM, wFn, List.length_cons, List.length_nil, Nat.reduceAdd, true_and, Nat.reduceSub, List.replicate_succ, List.replicate_zero, List.append_nil, List.cons_append, List.nil_append, List.map_cons, List.map_nil]) <;> try simp only [mSeq, mIfS, mAsg, mRet, mRetN, mExpr, mBrk, mCnt, mNext, mLft, mLftT, mLftS, mLftI, lftP, mVar, mFld, mFldS, mFldAug, mMeth, mCall, mCallW, mMake, mNew, mCb, DM.mc, DM.mo, mBin, mUn, mu, mChain, mTst, mAnd, mOr, mNot, mAndV, mOrV, mNotV, mIfE, mNil, mCons, mTup, mLstD, mLstM, mDPut, mDDel, mDNew, mApp, mExt, mFor, mISeq, mLc, lcStepM, lcFin, mYes, mFgt, mFrz, mParG, setAll, oDGet, oDIn, cLenD, cListD, cDictD, oIxR, keyD, vw_dat, oMulE, wFn, dSeq, dIfS, dNext, dAsg, dPar, dRet, dRetV, dRetN, dExpr, dBrk, dCnt, dFor, dFrz, DW.frzAt, dAsgG, dGName, dGSub, dGNil, dGCons, dGTup, dAugI, dAug, dApp, dExt, dRaise, dVar, dC, dBin, dUn, dChain, dTst, dAnd, dOr, dNot, dYes, dAndV, dOrV, dNotV, dIfE, dNil, dCons, dTup, dLst, dats, dNone, dSome, dSl, oCut, dCall, dCb, dLrg, pk, dCallK, dTab, dCallV, dISeq, dIRg1, dIRg2, dIZip, dIEnum, tfName, tfPair, dLc, lcStep, DW.Cn.no, dCount, scVs, scV, oAdd, oSub, oMul, oMod, oDiv, oCmp, oNeg, oEq, toD, oIsN, oIx, seqD, lstD, bLen, bTuple, bList, bAbs, bMin, bMax, bSum, bAll, bAny, bSorted, bIsi, fz, isPl_dat, isPl_raw, isPl_bag, oIn, flD, List.cons_append, List.nil_append, List.append_nil, List.getElem?_cons_zero, List.getElem?_cons_succ, List.getElem?_nil, List.set_cons_zero, List.set_cons_succ, List.length_cons, List.length_nil, List.all_cons, List.all_nil, List.replicate_succ, List.replicate_zero, Bool.and_true, Bool.and_self, Bool.true_and, List.filterMap_cons, List.filterMap_nil, Nat.reduceAdd, Nat.reduceSub, Nat.zero_add, true_and, and_true, if_true, ite_true, Bool.not_true, Bool.not_false, Bool.false_eq_true, if_false, ite_false]))
local macro_rules | `(tactic| walk_at "dwt") => `(tactic| (try simp only [wFn, dSeq, dIfS, dNext, dAsg, dPar, dRet, dRetV, dRetN, dExpr, dBrk, dCnt, dFor, dFrz, frzAt, dAsgG, dGName, dGSub, dGNil, dGCons, dGTup, dAugI, dAug, dApp, dExt, dRaise, dVar, dC, dBin, dUn, dChain, dTst, dAnd, dOr, dNot, dYes, dAndV, dOrV, dNotV, dIfE, dNil, dCons, dTup, dLst, dats, dNone, dSome, dSl, oCut, dCall, dCb, dLrg, pk, dCallK, dTab, dCallV, dISeq, dIRg1, dIRg2, dIZip, dIEnum, tfName, tfPair, dLc, lcStep, Cn.no, dCount, scVs, scV, oAdd, oSub, oMul, oMod, oDiv, oCmp, oNeg, oEq, toD, oIsN, oIx, seqD, lstD, bLen, bTuple, bList, bAbs, bMin, bMax, bSum, bAll, bAny, bSorted, bIsi, fz, isPl_dat, isPl_raw, isPl_bag, oIn, flD, List.cons_append, List.nil_append, List.append_nil, List.getElem?_cons_zero, List.getElem?_cons_succ, List.getElem?_nil, List.set_cons_zero, List.set_cons_succ, List.length_cons, List.length_nil, List.all_cons, List.all_nil, List.replicate_succ, List.replicate_zero, Bool.and_true, Bool.and_self, Bool.true_and, List.filterMap_cons, List.filterMap_nil, Nat.reduceAdd, Nat.reduceSub, Nat.zero_add, true_and, and_true, if_true, ite_true, Bool.not_true, Bool.not_false, Bool.false_eq_true, if_false, ite_false]))
local macro_rules | `(tactic| walk_at "nx") => `(tactic| ((try simp only [later]) <;> walk_at "dws"))
local macro_rules | `(tactic| walk_at "dws") => `(tactic| ((try simp only [wFn, List.length_cons, List.length_nil, Nat.reduceAdd, true_and, Nat.reduceSub, List.replicate_succ, List.replicate_zero, List.append_nil, List.cons_append, List.nil_append, List.map_cons, List.map_nil]) <;> try simp only [wFn, dSeq, dIfS, dNext, dAsg, dPar, dRet, dRetV, dRetN, dExpr, dBrk, dCnt, dFor, dFrz, frzAt, dAsgG, dGName, dGSub, dGNil, dGCons, dGTup, dAugI, dAug, dApp, dExt, dRaise, dVar, dC, dBin, dUn, dChain, dTst, dAnd, dOr, dNot, dYes, dAndV, dOrV, dNotV, dIfE, dNil, dCons, dTup, dLst, dats, dNone, dSome, dSl, oCut, dCall, dCb, dLrg, pk, dCallK, dTab, dCallV, dISeq, dIRg1, dIRg2, dIZip, dIEnum, tfName, tfPair, dLc, lcStep, Cn.no, dCount, scVs, scV, oAdd, oSub, oMul, oMod, oDiv, oCmp, oNeg, oEq, toD, oIsN, oIx, seqD, lstD, bLen, bTuple, bList, bAbs, bMin, bMax, bSum, bAll, bAny, bSorted, bIsi, fz, isPl_dat, isPl_raw, isPl_bag, oIn, flD, List.map_cons, List.map_nil, List.cons_append, List.nil_append, List.append_nil, List.getElem?_cons_zero, List.getElem?_cons_succ, List.getElem?_nil, List.set_cons_zero, List.set_cons_succ, List.length_cons, List.length_nil, List.all_cons, List.all_nil, List.replicate_succ, List.replicate_zero, Bool.and_true, Bool.and_self, Bool.true_and, List.filterMap_cons, List.filterMap_nil, Nat.reduceAdd, Nat.reduceSub, Nat.zero_add, true_and, and_true, if_true, ite_true, Bool.not_true, Bool.not_false, Bool.false_eq_true, if_false, ite_false]))
theorem any_eqv {x : Str} : ∀ ys : List Str, ((ys.map PyData.str).any fun z => PyData.eqv z (.str x)) = decide (x ∈ ys)
  | [] => rfl
  | y :: ys => by
    rw [List.map_cons, List.any_cons, any_eqv ys, eqv_ss]
    by_cases z : y = x
    · subst z
      simp
    · have z' : ¬ x = y := fun e => z e.symm
      simp [z, z']
theorem bools_mp : ∀ {ns : List Bool}, boolsD (ns.map fun b => PyData.bool b) = some ns
  | [] => rfl
  | n :: ns => by
    rw [List.map_cons]
    unfold boolsD
    rw [bools_mp]
theorem lcL_out {β : Type} {a : Addr} {xs : List DV} {step : DV → Mem → (Option DV → Mem → Prop) → Prop} {P : List DV → Mem → Prop} {M : Mem} {l : List β} {gI : β → DV} (g : β → Option DV) (hM : M a = some (.lst xs))
    (h : ∀ x ∈ l, ∀ k : Option DV → Mem → Prop, k (g x) M → step (gI x) M k) (hP : P (l.filterMap g) M) : lcGoL a xs step (l.map gI) M P := by
  induction l generalizing P with
  | nil => exact ⟨hM, hP⟩
  | cons x l ih =>
    refine ⟨hM, ?_⟩
    refine h x (List.mem_cons_self ..) _ ?_
    cases e : g x with
    | none =>
      rw [List.filterMap_cons_none e] at hP
      exact ih (fun y hy => h y (List.mem_cons_of_mem _ hy)) hP
    | some v =>
      rw [List.filterMap_cons_some e] at hP
      exact ih (fun y hy => h y (List.mem_cons_of_mem _ hy)) hP
theorem w_book_len {M : Mem} {a w l : Addr} {ms : List Int} {bk : List Rd} {P : MP} {c : Cm} (h : BookAt (c.fa 0) M a w l ms bk) (p : P (dint bk.length) M) : W_Book_len [.raw (.ref a)] M P c := by
  unfold W_Book_len D_Book_len B_Book_len_0
  walk_at "mwv"
  simp only [h.ins, bk_w]
  simp only [h.hw, wr_len]
  exact p
def tI (n : Nat) : Str := Str.ofString (toString (n : Int))
def bnm (n : Nat) : Str := ("Book(" ++ tI n) ++ " rounds)"
theorem e_app {y : Str} : Str.empty ++ y = y := Str.append_left_empty rfl
theorem bnm_len {n : Nat} (hn : n ≤ 60) : (bnm n).length ≤ 100 ∧ (("Book(" ++ tI n) : Str).length ≤ 100 ∧ ("Book(" : Str).length ≤ 100 := by
  have key : ∀ i : Fin 61, (bnm i.1).length ≤ 100 ∧ (("Book(" ++ tI i.1) : Str).length ≤ 100 ∧ ("Book(" : Str).length ≤ 100 := by decide +kernel
  exact key ⟨n, by omega⟩
theorem cl_bnm {n : Nat} (hn : n ≤ 60) : PyData.canLay0 (.str (bnm n)) = true := by
  have key : ∀ j : Fin 61, PyData.canLay0 (.str (bnm j.1)) = true := by decide +kernel
  exact key ⟨n, by omega⟩
theorem log_n {n : Nat} (h : n ≤ 60) : ((n : Int)).natAbs.log2 < 1920 := by
  have key : ∀ i : Fin 61, (((i.1 : Nat) : Int)).natAbs.log2 < 1920 := by decide +kernel
  exact key ⟨n, by omega⟩
theorem w_book_repr {M : Mem} {a w l : Addr} {ms : List Int} {bk : List Rd} {P : MP} {c : Cm} (h : BookAt (c.fa 0) M a w l ms bk) (hb : bk.length ≤ 60) (pp : P (.dat (.str (bnm bk.length))) M) : W_Book_repr [.raw (.ref a)] M P c := by
  obtain ⟨l1, l2, l3⟩ := bnm_len hb
  have hs : 100 ≤ sizeLine := by decide
  have b0 := Nat.le_trans l3 hs
  have b1 := Nat.le_trans l2 hs
  have b2 := Nat.le_trans l1 hs
  have pp' := pp
  unfold bnm at b2 pp'
  unfold tI at b1 b2 pp'
  unfold W_Book_repr D_Book_repr B_Book_repr_0
  walk_at "mwv"
  unfold mFS
  simp only [mJs, mFmt, mLenO, mLft, lftP, mCons, mNil, mCb, mFld, mVar, DM.mc]
  simp only [dC, lftP, dstr, List.getElem?_cons_zero, h.ins, bk_w, e_app, cLenD, h.hw, wr_len, dint]
  exact ⟨b0, log_n hb, b1, b2, pp'⟩
theorem flat_deed {n : Nat} {ms : List Int} {d : Deed} (hz : Sz ms) (h : d.Ok ms) : Flat (n + 2) d.D := by
  have hl : d.ns.length ≤ 1000 := by
    have := hz.hi
    cases d with
    | over n ks => have := h.2.hi; show (n :: ks).length ≤ 1000; rw [List.length_cons]; omega
    | down n ks => have := h.2.hi; show (n :: ks).length ≤ 1000; rw [List.length_cons]; omega
    | swap a b => show 2 ≤ 1000; decide
    | tap a b => show 2 ≤ 1000; decide
    | drain a b => show 2 ≤ 1000; decide
  refine flat_t (by rw [List.length_cons, List.length_map]; omega) fun x hx => ?_
  rcases List.mem_cons.mp hx with rfl | hx
  · exact flat_str
  · obtain ⟨i, _, rfl⟩ := List.mem_map.mp hx
    exact flat_int
theorem forGoL_inv {c : Cm} {a : Addr} {xs : List DV} {i : Nat} {db : MS} {D : MEd} {δ : En} {M : Mem} (J : Nat → En → Mem → Prop) (hJ : ∀ k δ M, J k δ M → M a = some (.lst xs)) (h0 : J 0 δ M)
    (hs : ∀ (k : Nat) r δk Mk, xs[k]? = some r → J k δk Mk → ∀ N : En → Mem → Prop, (∀ δ' M', J (k + 1) δ' M' → N δ' M') → db c (δk.set i (some r)) Mk ⟨N, D.rt, D.nx, N⟩) (hn : ∀ δn Mn, J xs.length δn Mn → D.nx δn Mn) : forGoL c a xs i db D xs δ M := by
  have go : ∀ (l : List DV) (k : Nat) (δk : En) (Mk : Mem), xs.drop k = l → J k δk Mk → k + l.length = xs.length → forGoL c a xs i db D l δk Mk := by
    intro l
    induction l with
    | nil =>
      intro k δk Mk _ hj hl
      have e : k = xs.length := by simpa using hl
      subst e
      exact ⟨hJ _ _ _ hj, hn δk Mk hj⟩
    | cons d l ih =>
      intro k δk Mk hd hj hl
      have hk : k < xs.length := by rw [List.length_cons] at hl; omega
      have e := List.drop_eq_getElem_cons hk
      rw [e] at hd
      injection hd with h1 h2
      refine ⟨hJ _ _ _ hj, ?_⟩
      exact hs k d δk Mk (by rw [List.getElem?_eq_getElem hk, h1]) hj (forGoL c a xs i db D l) fun δ'' M'' hj' => ih (k + 1) δ'' M'' h2 hj' (by rw [List.length_cons] at hl; omega)
  exact go xs 0 δ M rfl h0 (by simp)
theorem dats_strs (ns : List Str) : dats (ns.map fun s => DV.dat (.str s)) = some (ns.map PyData.str) := dats_of
theorem lendD_at {M : Mem} {p : Addr} {xs : List DV} {ds : List PyData} (e : M p = some (.lst xs)) (h : dats (xs.map (lendM M)) = some ds) : lendD M (.raw (.ref p)) = .dat (.list ds) := by
  unfold lendD
  simp only [e, h]
theorem lendM_at {M : Mem} {p : Addr} {xs : List DV} {ds : List PyData} (e : M p = some (.lst xs)) (h : dats xs = some ds) : lendM M (.raw (.ref p)) = .dat (.list ds) := by
  unfold lendM
  simp only [e, h]
theorem gV_fl {bk : List Rd} {x : Str} : gV (flOf bk) (.inr x) = (look bk x).map fun r => DV.dat (.list (rowD r.fl)) := gV_map
theorem fl_len {bk : List Rd} : (flOf bk).length = bk.length := by unfold flOf; simp
theorem w_book_steps {a w l : Addr} {M : Mem} {ms : List Int} {bk : List Rd} {x : Str} {r : Rd} {P : MP} {c : Cm} (h : BookAt (c.fa 0) M a w l ms bk) (hr : look bk x = some r) (p : P (.dat (.list (r.st.map Stp.D))) M) : W_Book_steps [.raw (.ref a), dstr x] M P c := by
  unfold W_Book_steps D_Book_steps B_Book_steps_1
  walk_at "mws"
  simp only [h.ins, bk_m (show (("look_written" : Str) == "held_sizes") = false by decide) (show (("look_written" : Str) == "written") = false by decide) (show (("look_written" : Str) == "laid") = false by decide)]
  walk_at "mws"
  refine w_look_written h hr ?_
  unfold B_Book_steps_0
  refine ltM ?_
  walk_at "mws"
  simp only [h.ins, bk_w]
  walk_at "mws"
  simp only [h.dw, gV_wr, hr]
  walk_at "mws"
  exact p
theorem Nm8.sh {x : Str} (h : Nm8 x) : SeqAt.shaped (.str x) = true := (lay_str (n := 0) h.cl).sh (by decide)
theorem letter {i : Int} (h0 : 0 ≤ i) (h1 : i < 26) : ∃ k, atI abc.cps.toList i = some k ∧ k ∈ abc.cps.toList := by
  have h26 : abc.cps.toList.length = 26 := by decide +kernel
  obtain ⟨n, rfl⟩ := Int.eq_ofNat_of_zero_le h0
  have hl : n < abc.cps.toList.length := by omega
  refine ⟨abc.cps.toList[n], ?_, List.getElem_mem hl⟩
  unfold atI
  rw [ixN_at (n := abc.cps.toList.length) (i := (n : Int)) (by omega) (by omega), Int.toNat_natCast]
  show abc.cps.toList[n]? = _
  rw [List.getElem?_eq_getElem hl]
theorem mul_ok {k : Nat} {n : Int} (h0 : 0 ≤ n) (h1 : n < 8) : MulOk ⟨#[k]⟩ n := by
  have e : (⟨#[k]⟩ : Str).length = 1 := rfl
  refine ⟨by rw [decide_eq_false (by omega), decide_eq_false (by omega)]; rfl, fun h _ => ?_, fun h _ => ?_⟩
  · rw [e]
    have : n = 1 ∨ n = 2 ∨ n = 3 ∨ n = 4 ∨ n = 5 ∨ n = 6 ∨ n = 7 := by omega
    rcases this with rfl | rfl | rfl | rfl | rfl | rfl | rfl <;> decide
  · rw [e]
    have : n = 1 ∨ n = 2 ∨ n = 3 ∨ n = 4 ∨ n = 5 ∨ n = 6 ∨ n = 7 := by omega
    rcases this with rfl | rfl | rfl | rfl | rfl | rfl | rfl <;> decide
theorem cutS_to {z : Str} {n : Nat} : (cutS z none (some (n : Int))).cps.toList = z.cps.toList.take n := by
  unfold cutS
  rw [HT.sIx_none, HT.sIx_nat, List.drop_zero, Nat.sub_zero]
  show (z.cps.toList.take (min n z.length)) = _
  have e : z.length = z.cps.toList.length := rfl
  rw [e, Nat.min_def]
  split
  · rfl
  · rw [List.take_length, List.take_of_length_le (by omega)]
theorem cutS_from {z : Str} {n : Nat} (h : n ≤ z.length) : (cutS z (some (n : Int)) none).cps.toList = z.cps.toList.drop n := by
  unfold cutS
  rw [HT.sIx_none, HT.sIx_nat, Nat.min_eq_left h]
  show (z.cps.toList.drop n).take (z.length - n) = _
  exact List.take_of_length_le (by rw [List.length_drop]; exact Nat.le_refl _)
theorem app_cps {a b : Str} : (a ++ b).cps.toList = a.cps.toList ++ b.cps.toList := Array.toList_append
theorem w_law_names {P : DP} {c : Cn} (p : ∀ ns : List Str, ns.length = 6 → (∀ x ∈ ns, Nm8 x) → P (.own (ns.map .str))) : W_law_names [.bag, dint 6] P c := by
  have l26 : abc.length = 26 := by decide +kernel
  unfold W_law_names D_law_names
  walk_at "dws"
  walk_at "nx"
  refine w_take ⟨by omega, by omega⟩ fun i i0 i1 => ?_
  walk_at "dws"
  obtain ⟨k, ek, hk⟩ := letter i0 i1
  refine ⟨by show abc.length ≤ _; omega, ?_⟩
  rw [show Str.ofString "abcdefghijklmnopqrstuvwxyz" = abc from rfl, ek]
  dsimp only
  refine w_take ⟨by omega, by omega⟩ fun m m0 m1 => ?_
  simp only [oMulS, dint]
  refine ⟨mul_ok m0 m1, ?_⟩
  have hT : (Txt.mul ⟨#[k]⟩ m).cps.toList = List.replicate m.toNat k := mul_one_list k m
  generalize Txt.mul ⟨#[k]⟩ m = T at hT ⊢
  have hTl : T.length = m.toNat := by
    show T.cps.toList.length = _
    rw [hT, List.length_replicate]
  have hTm : ∀ y ∈ T.cps.toList, y ∈ abc.cps.toList := fun y hy => by
    rw [hT] at hy
    rw [(List.mem_replicate.mp hy).2]
    exact hk
  walk_at "nx"
  refine ⟨by omega, ?_⟩
  refine w_take ⟨by omega, by omega⟩ fun j j0 j1 => ?_
  obtain ⟨j, rfl⟩ := Int.eq_ofNat_of_zero_le j0
  walk_at "nx"
  refine w_take ⟨by omega, by omega⟩ fun u u0 u1 => ?_
  walk_at "nx"
  refine ⟨by simp, by omega, by rw [rangeD_len]; decide, ?_⟩
  rw [rangeM]
  refine lc_all (R := fun _ y => ∃ x, Nm8 x ∧ y = PyData.str x) (fun y hy K hK => ?_) fun ys hp => ?_
  · walk_at "dws"
    have hy6 : y < 6 := by simpa using hy
    obtain ⟨k', ek', hk'⟩ := letter (i := (u + 7 * (0 + (y : Int))) % 26) (by omega) (by omega)
    have c1 := cutS_to (z := T) (n := j)
    have c2 := cutS_from (z := T) (n := j) (by omega)
    have l1 : (cutS T none (some (j : Int))).length = j := by
      show (cutS T none (some (j : Int))).cps.toList.length = _
      rw [c1, List.length_take]
      have : T.cps.toList.length = T.length := rfl
      omega
    have l2 : (cutS T (some (j : Int)) none).length = T.length - j := by
      show (cutS T (some (j : Int)) none).cps.toList.length = _
      rw [c2, List.length_drop]
      rfl
    have l3 : (⟨#[k']⟩ : Str).length = 1 := rfl
    refine ⟨by omega, .inl (by unfold CMul; omega), by decide, by omega, ?_⟩
    rw [ek']
    dsimp only
    refine ⟨by rw [l1, l3]; omega, by omega, by rw [Str.length_append, l1, l2, l3]; omega, hK _ ⟨_, ?_, rfl⟩⟩
    refine ⟨by rw [Str.length_append, Str.length_append, l1, l2, l3]; omega, by rw [Str.length_append, Str.length_append, l1, l2, l3]; omega, fun z hz => ?_⟩
    rw [app_cps, app_cps, c1, c2] at hz
    rcases List.mem_append.mp hz with hz | hz
    · rcases List.mem_append.mp hz with hz | hz
      · exact hTm z (List.mem_of_mem_take hz)
      · have : z = k' := by simpa using hz
        rw [this]
        exact hk'
    · exact hTm z (List.mem_of_mem_drop hz)
  · have go : ∀ {l : List Nat} {ys : List PyData}, Paired (fun _ y => ∃ x, Nm8 x ∧ y = PyData.str x) l ys → ∃ ns : List Str, ys = ns.map .str ∧ ns.length = l.length ∧ ∀ x ∈ ns, Nm8 x := by
      intro l ys hp
      induction hp with
      | nil => exact ⟨[], rfl, rfl, fun x h => by cases h⟩
      | cons r _ ih =>
        obtain ⟨x, hx, rfl⟩ := r
        obtain ⟨ns, rfl, h1, h2⟩ := ih
        refine ⟨x :: ns, rfl, by simp [h1], fun y hy => ?_⟩
        rcases List.mem_cons.mp hy with e | e
        · rw [e]; exact hx
        · exact h2 y e
    obtain ⟨ns, rfl, h1, h2⟩ := go hp
    rw [List.length_range] at h1
    exact p ns h1 h2
def deedS : DS := (dRet (dCall W_law_deed (dCons (dVar 0) (dCons (dVar 1) (dCons (dCall W_law_number (dCons (dVar 0) dNil)) (dCons (dC (dbl true)) dNil))))))
def oddS : DS := (dSeq (dAsg 4 (dLst (dCons (dTup (dCons (dC (dstr "call")) (dCons (dC (dstr "zz")) (dCons (dC (dint 10)) dNil)))) (dCons (dTup (dCons (dC (dstr "call")) (dCons (dC (dstr "Zz")) (dCons (dC (dint 1)) dNil)))) (dCons (dTup (dCons (dC (dstr "call")) dNil)) (dCons (dTup dNil) (dCons (dTup (dCons (dC (dstr "over")) (dCons (dC (dint 1)) (dCons (dC (dint 0)) (dCons (dC (dint 0)) dNil))))) (dCons (dTup (dCons (dC (dstr "call")) (dCons (dC (dstr "Zz")) (dCons (dC (dint 1)) (dCons (dC (dint 1)) dNil))))) dNil))))))))
    (dFrz 4 (dRet (dCall W_law_pick (dCons (dVar 0) (dCons (dVar 4) dNil))))))
def tailS : DS := (dSeq (dIfS (dAnd (dTst (dBin (oEq false) (dVar 3) (dC (dint 2)))) (dTst (dBin (oEq false) (dCall W_take (dCons (dVar 0) (dCons (dC (dint 6)) dNil))) (dC (dint 0))))) oddS dNext)
    deedS)
abbrev eD (P : DP) : Ed := ⟨fun _ => P (.dat .none), P, fun _ => False, fun _ => False⟩
theorem deed_tail {ms : List Int} {bk : List Rd} {P : DP} {c : Cn} {i : Int} {x2 : PyData} (hz : Sz ms) (p : ∀ s : Sx, s.Ok ms bk → P (.dat s.D)) : later deedS c (eD P) [some .bag, some (.dat (nums ms)), some (.dat x2), some (dint i), none] := by
  unfold deedS
  walk_at "nx"
  refine w_number fun n hn => ?_
  walk_at "dws"
  exact w_deed hz hn fun d hd _ => p (.g (.dd d)) hd
def oddL : List PyData := [.tuple [.str "call", .str "zz", .int 10], zzc, .tuple [.str "call"], .tuple [], .tuple [.str "over", .int 1, .int 0, .int 0], .tuple [.str "call", .str "Zz", .int 1, .int 1]]
theorem odd_ev {c : Cn} {x1 x2 x3 : Option DV} {D : Ed} (h : W_law_pick [.bag, .dat (.list oddL)] D.rt c) : oddS c [some .bag, x1, x2, x3, none] D := ⟨rfl, h⟩
theorem step_tail {ms : List Int} {bk : List Rd} {P : DP} {c : Cn} {i : Int} {x2 : PyData} (hz : Sz ms) (p : ∀ s : Sx, s.Ok ms bk → P (.dat s.D)) : later tailS c (eD P) [some .bag, some (.dat (nums ms)), some (.dat x2), some (dint i), none] := by
  unfold tailS
  walk_at "nx"
  refine ⟨⟨sh_int, sh_int⟩, ?_⟩
  rw [eqv_ii]
  by_cases h2 : i = 2
  · rw [decide_eq_true h2, if_pos rfl]
    refine w_take ⟨by omega, by omega⟩ fun j j0 j1 => ?_
    refine ⟨⟨sh_int, sh_int⟩, ?_⟩
    rw [eqv_ii]
    by_cases h0 : j = 0
    · rw [decide_eq_true h0, if_pos rfl]
      refine odd_ev (w_pick (by decide) (by decide) fun d hd => ?_)
      simp only [oddL, List.mem_cons, List.not_mem_nil, or_false] at hd
      rcases hd with rfl | rfl | rfl | rfl | rfl | rfl
      · exact p (.b _) (by simp [Sx.Ok, odd5])
      · exact p .z True.intro
      · exact p (.b _) (by simp [Sx.Ok, odd5])
      · exact p (.b _) (by simp [Sx.Ok, odd5])
      · exact p (.b _) (by simp [Sx.Ok, odd5])
      · exact p (.b _) (by simp [Sx.Ok, odd5])
    · rw [decide_eq_false h0, if_neg (by simp)]
      exact deed_tail hz p
  · rw [decide_eq_false h2, if_neg (by simp)]
    exact deed_tail hz p
theorem w_law_step {ms : List Int} {bk : List Rd} {P : DP} {c : Cn} (hz : Sz ms) (hb : bk.length ≤ 1000) (hnd : (bk.map (·.nm)).Nodup) (hn : ∀ r ∈ bk, Nm8 r.nm) (p : ∀ s : Sx, s.Ok ms bk → P (.dat s.D)) : W_law_step [.bag, .dat (nums ms), .dat (.list (bk.map fun r => .str r.nm))] P c := by
  have hnmL : Lay 1 (.list (bk.map fun r => PyData.str r.nm)) := lay_list fun d hd => by
    obtain ⟨r, hr, rfl⟩ := List.mem_map.mp hd
    exact lay_str (hn r hr).cl
  unfold W_law_step D_law_step
  walk_at "dws"
  refine w_take ⟨by omega, by omega⟩ fun i i0 i1 => ?_
  have tail := step_tail (c := c) (bk := bk) (i := i) (x2 := .list (bk.map fun r => .str r.nm)) hz p
  generalize hT : tailS = T at tail
  unfold tailS oddS deedS at hT
  rw [hT]
  clear hT
  refine lt_in (sq_in ?_)
  walk_at "dws"
  by_cases h2 : i < 2
  · rw [decide_eq_true h2, if_pos rfl]
    refine ⟨⟨hnmL.sh (by decide), (lay_list (n := 0) fun d hd => by cases hd).sh (by decide)⟩, ?_⟩
    cases bk with
    | nil => exact tail
    | cons r0 bk =>
      rw [if_pos (show (!(PyData.list (List.map (fun r => PyData.str r.nm) (r0 :: bk))).eqv (PyData.list [])) = true from rfl)]
      refine w_pick (by simp) (by rw [List.length_map]; omega) fun d hd => ?_
      obtain ⟨r, hr, rfl⟩ := List.mem_map.mp hd
      refine w_take ⟨by omega, by omega⟩ fun j j0 j1 => ?_
      obtain ⟨j, rfl⟩ := Int.eq_ofNat_of_zero_le j0
      exact p (.g (.cl r.nm j)) ⟨⟨r, look_at hnd hr⟩, by omega⟩
  · rw [decide_eq_false h2, if_neg (by simp)]
    exact tail
theorem w_step_faultO {ms : List Int} {d : PyData} {P : DP} {c : Cn} (hz : Sz ms) (h : d ∈ odd5) (p : ∀ i : Int, P (dint i)) : W_step_fault [.dat (nums ms), .dat d] P c := by
  simp only [odd5, List.mem_cons, List.not_mem_nil, or_false] at h
  have hlo := hz.lo
  have hhi := hz.hi
  have sc : SeqAt.shaped (.str "call") = true := sh_call
  unfold W_step_fault D_step_fault
  rcases h with rfl | rfl | rfl | rfl | rfl
  · walk_at "dws"
    refine ⟨⟨sh_int, sh_int⟩, ?_⟩
    rw [eqv_ii, decide_eq_false (by decide), if_neg (by simp), atD_0]
    dsimp only
    refine ⟨⟨sc, sc⟩, ?_⟩
    rw [eqv_ss, decide_eq_true rfl, if_neg (by simp)]
    walk_at "nx"
    refine ⟨⟨sh_int, sh_int⟩, ?_⟩
    rw [eqv_ii, decide_eq_true (by decide)]
    walk_at "nx"
    rw [atD_2]
    walk_at "dws"
    exact p _
  · walk_at "dws"
    refine ⟨⟨sh_int, sh_int⟩, ?_⟩
    rw [eqv_ii, decide_eq_false (by decide), if_neg (by simp), atD_0]
    dsimp only
    refine ⟨⟨sc, sc⟩, ?_⟩
    rw [eqv_ss, decide_eq_true rfl, if_neg (by simp)]
    walk_at "nx"
    refine ⟨⟨sh_int, sh_int⟩, ?_⟩
    rw [eqv_ii, decide_eq_false (by decide)]
    walk_at "dws"
    exact p _
  · walk_at "dws"
    refine ⟨⟨sh_int, sh_int⟩, ?_⟩
    rw [eqv_ii, decide_eq_true (by decide), if_pos rfl]
    unfold W_fault_place D_fault_place
    walk_at "dws"
    refine ⟨⟨sh_int, sh_int⟩, ?_⟩
    rw [eqv_ii, decide_eq_true (by decide), if_pos rfl]
    exact p _
  · walk_at "dws"
    refine ⟨⟨sh_int, sh_int⟩, ?_⟩
    rw [eqv_ii, decide_eq_false (by decide), if_neg (by simp), atD_0]
    dsimp only
    refine ⟨⟨lay_str (n := 0) cl_over |>.sh (by decide), sc⟩, ?_⟩
    rw [eqv_ss, decide_eq_false (by decide), if_pos (by simp)]
    unfold W_fault_place D_fault_place
    walk_at "dws"
    refine ⟨⟨sh_int, sh_int⟩, ?_⟩
    rw [eqv_ii, decide_eq_false (by decide), if_neg (by simp), atD_0]
    dsimp only
    refine ⟨.inl rfl, ?_⟩
    rw [if_neg (by decide +kernel)]
    walk_at "nx"
    unfold W_length_fits D_length_fits
    walk_at "dws"
    rw [atD_0]
    dsimp only
    refine ⟨.inl rfl, ?_⟩
    rw [if_pos (by decide +kernel), if_pos (by decide), List.length_map]
    by_cases h2 : 2 ≤ ms.length
    · rw [show decide (((4 : Nat) : Int) ≤ 2 + (ms.length : Int)) = true from decide_eq_true (by omega), if_neg (by simp)]
      refine lt_in (sq_in ?_)
      walk_at "dws"
      rw [atD_0]
      dsimp only
      refine ⟨⟨lay_str (n := 0) cl_over |>.sh (by decide), lay_str (n := 0) cl_swap |>.sh (by decide)⟩, ?_⟩
      rw [eqv_ss, decide_eq_false (by decide), if_neg (by simp)]
      refine lt_in (sq_in ?_)
      walk_at "dws"
      rw [atD_1]
      walk_at "dws"
      rw [show decide ((0 : Int) ≤ 1) = true from rfl, show decide ((1 : Int) < 1000000000000000000000000000000) = true from rfl]
      walk_at "dws"
      refine lt_in ?_
      walk_at "dws"
      unfold W_cask_fault D_cask_fault
      walk_at "dws"
      refine ⟨by decide, ?_⟩
      show forGo c (tfName 3) _ _ [.int 2, .int 3] _
      have hm : (0 : Int) < (ms.length : Int) := by omega
      unfold forGo
      dsimp only [tfName]
      walk_at "dws"
      rw [show atD [PyData.str (Str.ofString "over"), .int 1, .int 0, .int 0] 2 = some (.int 0) from rfl]
      refine lt_in ?_
      walk_at "dws"
      rw [List.length_map, show decide ((0 : Int) ≤ 0) = true from rfl, decide_eq_true hm]
      walk_at "dws"
      refine ⟨.inl rfl, ?_⟩
      rw [if_neg (by decide +kernel)]
      unfold forGo
      dsimp only [tfName]
      walk_at "dws"
      rw [show atD [PyData.str (Str.ofString "over"), .int 1, .int 0, .int 0] 3 = some (.int 0) from rfl]
      walk_at "dws"
      refine lt_in ?_
      walk_at "dws"
      rw [List.length_map, show decide ((0 : Int) ≤ 0) = true from rfl, decide_eq_true hm]
      walk_at "dws"
      refine ⟨.inl rfl, ?_⟩
      rw [if_pos (by decide +kernel)]
      exact p _
    · rw [show decide (((4 : Nat) : Int) ≤ 2 + (ms.length : Int)) = false from decide_eq_false (by omega), if_pos (by simp)]
      exact p _
  · walk_at "dws"
    refine ⟨⟨sh_int, sh_int⟩, ?_⟩
    rw [eqv_ii, decide_eq_false (by decide), if_neg (by simp), atD_0]
    dsimp only
    refine ⟨⟨sc, sc⟩, ?_⟩
    rw [eqv_ss, decide_eq_true rfl, if_neg (by simp)]
    walk_at "nx"
    refine ⟨⟨sh_int, sh_int⟩, ?_⟩
    rw [eqv_ii, decide_eq_false (by decide)]
    walk_at "dws"
    exact p _
theorem fw_b {d : PyData} {ss : List Sx} : fw (.b d :: ss) = "bad row" := by
  show (if ("bad row" : Str) = "" then fw ss else ("bad row" : Str)) = _
  rw [if_neg (by decide +kernel)]
theorem fw_z {ss : List Sx} : fw (.z :: ss) = "no round" := by
  show (if ("no round" : Str) = "" then fw ss else ("no round" : Str)) = _
  rw [if_neg (by decide +kernel)]
def Wq (c : Cm) (M : Mem) (s : Str) : Prop := ∀ (n : Nat) (fs : List (Str × V)), n ∈ ([4, 6, 8, 11, 14] : List Nat) → fs.lookup ("word" : Str) = some (.str s) → c.x n fs M
theorem lkw2 {u v w : V} {f g : Str} (h : (("word" : Str) == f) = false) (h2 : (("word" : Str) == g) = false) : List.lookup ("word" : Str) [(f, u), (g, v), (("word" : Str), w)] = some w := by
  rw [List.lookup_cons, h, List.lookup_cons, h2, List.lookup_cons]
  simp
theorem step_faultZ {ms : List Int} {P : DP} {c : Cn} (hz : Sz ms) (p : P (.dat .none)) : W_step_fault [.dat (nums ms), .dat zzc] P c :=
  w_step_fault (bk := [⟨"Zz", [], []⟩]) (s := .cl "Zz" 1) hz ⟨⟨⟨"Zz", [], []⟩, by unfold look; rw [List.find?_cons_of_pos (by simp)]⟩, by decide⟩ p
theorem look_go {a w l h : Addr} {M : Mem} {ms : List Int} {bk : List Rd} {xs : List DV} {c : Cm} {D : MEd} (hB : BookAt (c.fa 0) M a w l ms bk) (hz : Sz ms) (hh : M h = some (.lst xs)) (hzz : look bk "Zz" = none) : ∀ (ss : List Sx) (k : Nat) (s2 s3 s4 : Option DV), (∀ s ∈ ss, s.Ok ms bk) →
    (fw ss ≠ "" → Wq c M (fw ss)) → (fw ss = "" → ∀ s2 s3 s4, D.nx [some (.raw (.ref a)), some (.raw (.ref h)), s2, s3, s4] M) →
    forGoE c h xs 2 3 B_Book_look_steps_4 D k (ss.map fun s => .dat s.D) [some (.raw (.ref a)), some (.raw (.ref h)), s2, s3, s4] M
  | [], k, s2, s3, s4, _, _, hn => ⟨hh, hn rfl _ _ _⟩
  | s :: ss, k, s2, s3, s4, ho, hx, hn => by
    have hok := ho s (List.mem_cons_self ..)
    have ih := look_go hB hz hh hzz (D := D) ss (k + 1)
    refine ⟨hh, ?_⟩
    show B_Book_look_steps_4 c [some (.raw (.ref a)), some (.raw (.ref h)), some (dint (k : Nat)), some (.dat s.D), s4] M _
    unfold B_Book_look_steps_4
    walk_at "mwv"
    simp only [hB.ins, bk_s]
    cases s with
    | b d =>
      refine ⟨rfl, w_step_faultO hz hok fun i => ?_⟩
      simp only [lftP]
      unfold B_Book_look_steps_3
      refine ltM (sqM ?_)
      walk_at "mwv"
      rw [show decide (tyN (PyData.int i) = "NoneType") = false from by simp [tyN]]
      unfold B_Book_look_steps_0
      walk_at "mwv"
      rw [fw_b] at hx
      exact hx (by decide +kernel) 4 _ (by simp) (lkw2 (by decide) (by decide))
    | z =>
      refine ⟨rfl, step_faultZ hz ?_⟩
      simp only [lftP]
      unfold B_Book_look_steps_3
      refine ltM (sqM ?_)
      walk_at "mwv"
      rw [decide_eq_true (show tyN PyData.none = "NoneType" from rfl)]
      walk_at "mwv"
      unfold B_Book_look_steps_2
      refine ltM ?_
      show mIfS _ _ _ _ [some (.raw (.ref a)), some (.raw (.ref h)), some (dint (k : Nat)), some (.dat (.tuple [.str "call", .str "Zz", .int 1])), _] _ _
      walk_at "mwv"
      rw [atD_0]
      walk_at "mwv"
      rw [eqv_ss, decide_eq_true rfl]
      refine ⟨⟨sh_call, sh_call⟩, ?_⟩
      unfold B_Book_look_steps_1
      walk_at "mwv"
      simp only [hB.ins]
      refine ⟨bkm (show (("look_written" : Str) == "held_sizes" || (("look_written" : Str) == "written" || ("look_written" : Str) == "laid")) = false by decide), ?_⟩
      rw [atD_1]
      walk_at "mwv"
      unfold W_Book_look_written D_Book_look_written B_Book_look_written_1
      walk_at "mwv"
      simp only [hB.ins, bk_w]
      simp only [hB.dw, gV_wr, hzz, Option.map_none, Option.isSome_none]
      walk_at "mwv"
      unfold B_Book_look_written_0
      walk_at "mwv"
      rw [fw_z] at hx
      exact hx (by decide +kernel) 14 _ (by simp) (lk_w1 (by decide))
    | g st =>
      refine ⟨rfl, w_step_fault hz hok ?_⟩
      simp only [lftP]
      have hw : fw (.g st :: ss) = fw ss := by
        show (if ("" : Str) = "" then fw ss else _) = _
        rw [if_pos rfl]
      rw [hw] at hx hn
      unfold B_Book_look_steps_3
      refine ltM (sqM ?_)
      walk_at "mwv"
      rw [decide_eq_true (show tyN PyData.none = "NoneType" from rfl)]
      walk_at "mwv"
      unfold B_Book_look_steps_2
      cases st with
      | dd d =>
        refine ltM ?_
        show mIfS _ _ _ _ [some (.raw (.ref a)), some (.raw (.ref h)), some (dint (k : Nat)), some (.dat (deedD d.w d.ns)), _] _ _
        walk_at "mwv"
        rw [atD_0]
        walk_at "mwv"
        rw [deed_word]
        refine ⟨⟨sh_w, sh_call⟩, ?_⟩
        walk_at "mwv"
        exact ih _ _ _ (fun s hs => ho s (List.mem_cons_of_mem _ hs)) hx hn
      | cl x n =>
        obtain ⟨⟨r, hr⟩, h9⟩ := (show (Stp.cl x n).Ok ms bk from hok)
        refine ltM ?_
        show mIfS _ _ _ _ [some (.raw (.ref a)), some (.raw (.ref h)), some (dint (k : Nat)), some (.dat (.tuple [.str "call", .str x, .int (n : Int)])), _] _ _
        walk_at "mwv"
        rw [atD_0]
        walk_at "mwv"
        rw [eqv_ss, decide_eq_true rfl]
        refine ⟨⟨sh_call, sh_call⟩, ?_⟩
        unfold B_Book_look_steps_1
        walk_at "mwv"
        simp only [hB.ins]
        refine ⟨bkm (show (("look_written" : Str) == "held_sizes" || (("look_written" : Str) == "written" || ("look_written" : Str) == "laid")) = false by decide), ?_⟩
        rw [atD_1]
        walk_at "mwv"
        refine w_look_written hB hr ?_
        exact ih _ _ _ (fun s hs => ho s (List.mem_cons_of_mem _ hs)) hx hn
theorem w_look_stepsS {a w l h : Addr} {M : Mem} {ms : List Int} {bk : List Rd} {ss : List Sx} {P : MP} {c : Cm} (hB : BookAt (c.fa 0) M a w l ms bk) (hz : Sz ms) (hh : M h = some (.lst (ss.map fun s => .dat s.D))) (hzz : look bk "Zz" = none) (ho : ∀ s ∈ ss, s.Ok ms bk)
    (hx : fw ss ≠ "" → Wq c M (fw ss)) (hn : fw ss = "" → P (.dat .none) M) : W_Book_look_steps [.raw (.ref a), .raw (.ref h)] M P c := by
  unfold W_Book_look_steps D_Book_look_steps B_Book_look_steps_5
  unfold mForE
  walk_at "mwv"
  simp only [hh]
  exact look_go hB hz hh hzz ss 0 none none none ho hx fun e _ _ _ => hn e
theorem w_lay_outS {a w l h : Addr} {M : Mem} {ms : List Int} {bk : List Rd} {ss : List Stp} {P : MP} {c : Cm} (hB : BookAt (c.fa 0) M a w l ms bk) (hb : Bks ms bk) (hh : M h = some (.lst (ss.map fun s => .dat s.D))) (ho : ∀ s ∈ ss, s.Ok ms bk) (hl : (lay bk ss).length ≤ 200) (p : P (.dat (.tuple (rowD (lay bk ss)))) M) : W_Book_lay_out [.raw (.ref a), .raw (.ref h)] M P c := by
  unfold W_Book_lay_out D_Book_lay_out B_Book_lay_out_5
  walk_at "mwv"
  intro q hq
  have hqh : h ≠ q := fun z => by rw [z, hq] at hh; cases hh
  have hk : ∀ o, BookAt (c.fa 0) (um M q o) a w l ms bk := fun o => hB.mono fun x hx => um_ne (fun z => by
    subst z
    rcases hx with z | z | z <;> subst z
    · rw [hB.ha] at hq; cases hq
    · rw [hB.hw] at hq; cases hq
    · rw [hB.hl] at hq; cases hq)
  unfold B_Book_lay_out_4
  refine ltM (sqM ?_)
  unfold mForL
  walk_at "mwv"
  rw [show um M q (.lst []) h = some (.lst (ss.map fun s => .dat s.D)) by rw [um_ne hqh]; exact hh]
  dsimp only
  refine forGoL_inv (fun k δ' M' => M' = um M q (.lst ((rowD (lay bk (ss.take k))).map .dat)) ∧ ∃ x, δ' = [some (.raw (.ref a)), some (.raw (.ref h)), some (.raw (.ref q)), x]) (fun k δ' M' hj => ?_) ⟨by simp [lay], _, rfl⟩ (fun k r δk Mk hr hj N hN => ?_) (fun δn Mn hj => ?_)
  · obtain ⟨rfl, _⟩ := hj
    rw [um_ne hqh]
    exact hh
  · obtain ⟨rfl, x, rfl⟩ := hj
    rw [List.getElem?_map] at hr
    obtain ⟨s, hs1, rfl⟩ := Option.map_eq_some_iff.mp hr
    have hok := ho s (List.mem_of_getElem? hs1)
    have hlen := lay_len_take (bk := bk) (ss := ss) (k := k)
    have hlen1 := lay_len_take (bk := bk) (ss := ss) (k := k + 1)
    have et := lay_take (bk := bk) hs1
    show B_Book_lay_out_2 c [some (.raw (.ref a)), some (.raw (.ref h)), some (.raw (.ref q)), some (.dat s.D)] _ _
    unfold B_Book_lay_out_2
    cases s with
    | dd d =>
      show mIfS _ _ _ _ [some (.raw (.ref a)), some (.raw (.ref h)), some (.raw (.ref q)), some (.dat (deedD d.w d.ns))] _ _
      walk_at "mwv"
      rw [atD_0]
      walk_at "mwv"
      rw [deed_word]
      refine ⟨⟨sh_w, sh_call⟩, ?_⟩
      unfold B_Book_lay_out_1
      walk_at "mwv"
      simp only [um_same]
      refine ⟨⟨_, rfl⟩, by rw [List.length_map, List.length_map]; omega, ?_⟩
      refine hN _ _ ⟨?_, _, rfl⟩
      rw [um_um, et]
      show um M q (.lst _) = um M q (.lst ((rowD (lay bk (ss.take k) ++ [d])).map .dat))
      rw [rowD_app, List.map_append]
      rfl
    | cl x n =>
      obtain ⟨⟨r, hr⟩, h9⟩ := hok
      show mIfS _ _ _ _ [some (.raw (.ref a)), some (.raw (.ref h)), some (.raw (.ref q)), some (.dat (.tuple [.str "call", .str x, .int (n : Int)]))] _ _
      walk_at "mwv"
      rw [atD_0]
      walk_at "mwv"
      rw [eqv_ss, decide_eq_true rfl]
      refine ⟨⟨sh_call, sh_call⟩, ?_⟩
      unfold B_Book_lay_out_0
      walk_at "mwv"
      simp only [um_same]
      refine ⟨⟨_, rfl⟩, ?_⟩
      simp only [(hk _).ins, bk_l]
      walk_at "mwv"
      rw [atD_1]
      walk_at "mwv"
      simp only [(hk _).dl, gV_ld, hr, Option.map_some]
      walk_at "mwv"
      rw [atD_2]
      have hl := hb.len r (look_mem hr).1
      have fin : ∀ ds, ds = rowD (lay1 bk (.cl x n)) → ((rowD (lay bk (ss.take k))).map DV.dat).length + ds.length ≤ 100000 ∧ N [some (.raw (.ref a)), some (.raw (.ref h)), some (.raw (.ref q)), some (.dat (.tuple [.str "call", .str x, .int (n : Int)]))] (um (um M q (.lst ((rowD (lay bk (ss.take k))).map .dat))) q (.lst ((rowD (lay bk (ss.take k))).map DV.dat ++ ds.map DV.dat))) := fun ds ed => by
        subst ed
        rw [et, List.length_append] at hlen1
        refine ⟨by simp only [List.length_map]; omega, hN _ _ ⟨?_, _, rfl⟩⟩
        rw [um_um, et, rowD_app, List.map_append]
      cases er : r.fl with
      | nil =>
        have e0 : rowD (lay1 bk (.cl x n)) = [] := by
          rw [lay1_cl hr, er]
          simp
        have := fin [] e0.symm
        rw [List.map_nil, List.append_nil] at this
        simp only [List.map_nil]
        exact ⟨⟨by omega, by omega⟩, this⟩
      | cons d0 ds0 =>
        have e0 : (List.replicate n (rowD (d0 :: ds0))).flatten = rowD (lay1 bk (.cl x n)) := by
          rw [lay1_cl hr, er]
          exact rowD_flat
        have := fin _ e0
        rw [er] at hl
        simp only [List.map_cons, vw_dat]
        refine ⟨⟨by simp, by simp only [List.length_cons, List.length_map] at hl ⊢; omega, by omega, by omega⟩, ?_⟩
        rw [Int.toNat_natCast]
        walk_at "mwv"
        simp only [um_same]
        exact this
  · obtain ⟨rfl, x, rfl⟩ := hj
    unfold B_Book_lay_out_3
    refine nxM ?_
    walk_at "mwv"
    simp only [um_same, dats_of, dats_map, List.length_map, List.take_length]
    walk_at "mwv"
    rw [um_none hq]
    exact p
def bad4 : List Str := ["", "A", "abcdefghi", "a b"]
theorem is_nameX {x : Str} {P : DP} {c : Cn} (h : x ∈ bad4) (p : P (dbl false)) : W_is_name [dstr x] P c := by
  have key : ∀ x : Str, 1 ≤ x.length → x.length ≤ 8 → x.cps.toList.all (fun k => decide (k ∈ abc.cps.toList)) = false → W_is_name [dstr x] P c := fun x h1 h2 h3 => by
    unfold W_is_name D_is_name
    walk_at "dws"
    refine ⟨by omega, ?_⟩
    rw [if_pos (decide_eq_true (by omega)), if_pos (decide_eq_true (by omega))]
    refine ⟨by simp, by unfold chars; rw [List.length_map]; show x.length ≤ _; omega, ?_⟩
    refine lc_map (l := x.cps.toList) (gI := fun k => PyData.str ⟨#[k]⟩) (fun k => PyData.bool (decide (k ∈ abc.cps.toList))) (fun k hk K hK => ?_) ?_
    · walk_at "dwt"
      exact hK
    · have e : (x.cps.toList.map fun k => PyData.bool (decide (k ∈ abc.cps.toList))) = (x.cps.toList.map fun k => decide (k ∈ abc.cps.toList)).map fun b => PyData.bool b := by
        rw [List.map_map]
        rfl
      rw [e, bools_mp]
      have e2 : ((x.cps.toList.map fun k => decide (k ∈ abc.cps.toList)).all id) = false := by
        rw [List.all_map]
        exact h3
      show P (dbl _)
      rw [e2]
      exact p
  simp only [bad4, List.mem_cons, List.not_mem_nil, or_false] at h
  rcases h with rfl | rfl | rfl | rfl
  · unfold W_is_name D_is_name
    walk_at "dws"
    refine ⟨by decide +kernel, ?_⟩
    rw [if_neg (by decide +kernel)]
    exact p
  · exact key _ (by decide +kernel) (by decide +kernel) (by decide +kernel)
  · unfold W_is_name D_is_name
    walk_at "dws"
    refine ⟨by decide +kernel, ?_⟩
    rw [if_pos (by decide +kernel), if_neg (by decide +kernel)]
    exact p
  · exact key _ (by decide +kernel) (by decide +kernel) (by decide +kernel)
def gds : List Sx → List Stp := List.filterMap fun s => match s with
  | .g st => some st
  | _ => none
theorem fw_all : ∀ {ss : List Sx}, fw ss = "" → ss = (gds ss).map .g
  | [], _ => rfl
  | .g st :: ss, h => by
    have h : (if ("" : Str) = "" then fw ss else ("" : Str)) = "" := h
    rw [if_pos rfl] at h
    show Sx.g st :: ss = .g st :: (gds ss).map .g
    rw [← fw_all h]
  | .b d :: ss, h => by
    rw [fw_b] at h
    exact absurd h (by decide +kernel)
  | .z :: ss, h => by
    rw [fw_z] at h
    exact absurd h (by decide +kernel)
theorem gds_ok {ms : List Int} {bk : List Rd} {ss : List Sx} (h : ∀ s ∈ ss, s.Ok ms bk) : ∀ s ∈ gds ss, s.Ok ms bk := fun s hs => by
  obtain ⟨y, hy, e⟩ := List.mem_filterMap.mp hs
  cases y with
  | g st =>
    injection e with e
    rw [← e]
    exact h _ hy
  | b d => cases e
  | z => cases e
def dueW (bk : List Rd) (x : Str) (ss : List Sx) : Str := if x ∈ bad4 then "bad name" else if (look bk x).isSome = true then "taken" else if fw ss ≠ "" then fw ss else if (lay bk (gds ss)).length > 200 then "too long" else ""
theorem w_book_writeS {a w l h : Addr} {M : Mem} {ms : List Int} {bk : List Rd} {x : Str} {ss : List Sx} {P : MP} {c : Cm} (hB : BookAt (c.fa 0) M a w l ms bk) (hz : Sz ms) (hb : Bks ms bk) (hx : x ∈ bad4 ∨ Nm8 x ∧ x ∉ bad4) (hh : M h = some (.lst (ss.map fun s => .dat s.D))) (hzz : look bk "Zz" = none) (ho : ∀ s ∈ ss, s.Ok ms bk) (hlen : bk.length < 12) (hs5 : ss.length ≤ 1000)
    (kx : dueW bk x ss ≠ "" → Wq c M (dueW bk x ss))
    (kn : dueW bk x ss = "" → ∀ M', BookAt (c.fa 0) M' a w l ms (bk ++ [⟨x, gds ss, lay bk (gds ss)⟩]) → (∀ y, y ≠ w → y ≠ l → M' y = M y) → P (.dat .none) M') : W_Book_write [.raw (.ref a), dstr x, .raw (.ref h)] M P c := by
  have fld : ∀ m : Str, (m == "held_sizes" || (m == "written" || m == "laid")) = false → (bkF ms w l).lookup m = none := fun m hm => bkm hm
  unfold W_Book_write D_Book_write B_Book_write_5
  walk_at "mwv"
  simp only [hB.ins]
  refine ⟨fld "look_fresh" (by decide), ?_⟩
  unfold W_Book_look_fresh D_Book_look_fresh B_Book_look_fresh_5
  walk_at "mwv"
  unfold dueW at kx kn
  rcases hx with hx | ⟨hx, hxb⟩
  · rw [if_pos hx] at kx
    refine is_nameX hx ?_
    unfold B_Book_look_fresh_0
    walk_at "mwv"
    exact kx (by decide +kernel) 6 _ (by simp) (by rw [List.lookup_cons]; simp)
  rw [if_neg hxb] at kx kn
  refine hx.ok _ _ ?_
  walk_at "mwv"
  unfold B_Book_look_fresh_4
  refine ltM (sqM ?_)
  walk_at "mwv"
  simp only [hB.ins, bk_w]
  simp only [hB.dw, gV_wr]
  cases hl : look bk x with
  | some r =>
    rw [hl] at kx
    simp only [Option.isSome_some, if_true] at kx
    simp only [Option.map_some, Option.isSome_some, if_true]
    unfold B_Book_look_fresh_1
    walk_at "mwv"
    exact kx (by decide +kernel) 8 _ (by simp) (lk_w1 (by decide))
  | none =>
    rw [hl] at kx kn
    simp only [Option.isSome_none, Bool.false_eq_true, if_false] at kx kn
    simp only [Option.map_none, Option.isSome_none, Bool.false_eq_true, if_false]
    unfold B_Book_look_fresh_3
    refine ltM ?_
    walk_at "mwv"
    simp only [hB.ins, bk_w]
    simp only [hB.hw, wr_len]
    rw [decide_eq_false (by omega)]
    walk_at "mwv"
    unfold B_Book_write_4
    refine ltM (sqM ?_)
    walk_at "mwv"
    simp only [hB.ins]
    refine ⟨fld "look_steps" (by decide), ?_⟩
    refine w_look_stepsS hB hz hh hzz ho (fun e => ?_) (fun e => ?_)
    · rw [if_pos e] at kx
      exact kx e
    rw [if_neg (fun z => z e)] at kx kn
    have hgs := fw_all e
    have hok := gds_ok ho
    have hg5 : (gds ss).length ≤ 1000 := Nat.le_trans (List.length_filterMap_le _ _) hs5
    have hh2 : M h = some (.lst ((gds ss).map fun s => .dat s.D)) := by
      rw [hh]
      conv => lhs; rw [hgs]
      rw [List.map_map]
      rfl
    clear hh hgs ho
    generalize gds ss = gs at kx kn hok hh2 hg5
    have hne : ∀ {y : Addr} {kvs : List (Key × DV)}, M y = some (.dic kvs) → h ≠ y := fun e z => by rw [z, e] at hh2; cases hh2
    unfold B_Book_write_3
    refine ltM (sqM ?_)
    walk_at "mwv"
    simp only [hh2]
    refine ⟨fun v hv => by rw [List.mem_singleton.mp hv]; rfl, by rw [List.length_map]; omega, ?_⟩
    refine lcL_out (fun s => some (dint (cnt bk s))) hh2 (fun s hs K hK => ?_) ?_
    · walk_at "mwv"
      have hB' : BookAt (c.no.fa 0) M a w l ms bk := hB
      simp only [hB'.ins]
      refine ⟨fld "count_deeds" (by decide), ?_⟩
      exact w_count_deeds hB' hb (hok s hs) hK
    rw [show gs.filterMap (fun s => some (dint (cnt bk s))) = (gs.map (cnt bk)).map fun i => DV.dat (.int i) by
      clear hh2 hok kx kn hg5
      induction gs with
      | nil => rfl
      | cons s gs ih =>
        rw [List.filterMap_cons, List.map_cons, List.map_cons, ← ih]]
    rw [dats_of]
    walk_at "mwv"
    rw [sum_ints]
    dsimp only
    rw [cnt_sum]
    by_cases h200 : (lay bk gs).length > 200
    · rw [if_pos h200] at kx
      rw [show decide ((200 : Int) < ((lay bk gs).length : Int)) = true from decide_eq_true (by omega)]
      unfold B_Book_write_0
      walk_at "mwv"
      exact kx (by decide +kernel) 11 _ (by simp) (lk_w1 (by decide))
    rw [if_neg h200] at kn
    have kn := kn rfl
    rw [show decide ((200 : Int) < ((lay bk gs).length : Int)) = false from decide_eq_false (by omega)]
    walk_at "mwv"
    unfold B_Book_write_2
    refine ltM (sqM ?_)
    walk_at "mwv"
    simp only [hB.ins]
    refine ⟨fld "lay_out" (by decide), ?_⟩
    refine w_lay_outS hB hb hh2 hok (by omega) ?_
    simp only [hB.ins, bk_l, hB.hl]
    refine ⟨by rw [ld_len]; omega, ?_⟩
    have h1a : um M l (.dic (gPut (ldOf bk) (.inr x) (.dat (.tuple (rowD (lay bk gs)))))) a = some (.ins (c.fa 0) (bkF ms w l)) := by rw [um_ne hB.al]; exact hB.ha
    have h1w : um M l (.dic (gPut (ldOf bk) (.inr x) (.dat (.tuple (rowD (lay bk gs)))))) w = some (.dic (wrOf bk)) := by rw [um_ne hB.wl]; exact hB.hw
    have h1h : um M l (.dic (gPut (ldOf bk) (.inr x) (.dat (.tuple (rowD (lay bk gs)))))) h = some (.lst (gs.map fun s => .dat s.D)) := by rw [um_ne (hne hB.hl)]; exact hh2
    unfold B_Book_write_1
    refine ltM ?_
    walk_at "mwv"
    have hv : vw (um M l (.dic (gPut (ldOf bk) (.inr x) (.dat (.tuple (rowD (lay bk gs))))))) (.raw (.ref h)) = .bor (gs.map Stp.D) := by
      unfold vw
      simp only [h1h, dats_of]
    simp only [List.map_cons, List.map_nil, hv, lftP, insAt_mk h1a, bk_w, h1w]
    refine ⟨by rw [wr_len]; omega, kn _ ⟨hB.aw, hB.al, hB.wl, by rw [um_ne hB.aw]; exact h1a, ?_, ?_⟩ fun y hw hl => by rw [um_ne hw, um_ne hl]⟩
    · rw [um_same]
      exact congrArg (fun z => some (SO.dic z)) (gPut_map (r := (⟨x, gs, lay bk gs⟩ : Rd)) (look_new hl) rfl rfl)
    · rw [um_ne hB.wl.symm, um_same]
      exact congrArg (fun z => some (SO.dic z)) (gPut_map (r := (⟨x, gs, lay bk gs⟩ : Rd)) (look_new hl) rfl rfl)
end Lw
namespace Lw
open PySem PySem.Spec PyProof.Rows L2 DL DW DM
local macro_rules | `(tactic| walk_at "myv") => `(tactic| (((first | refine ltM (sqM ?_) | refine nxM (sqM ?_) | refine sqM ?_ | refine ltM ?_ | refine nxM ?_) <;> walk_at "mwv")))
local macro_rules | `(tactic| walk_at "mwv") => `(tactic| ((try simp only [DM.wM, wFn, List.length_cons, List.length_nil, Nat.reduceAdd, true_and, Nat.reduceSub, List.replicate_succ, List.replicate_zero, List.append_nil, List.cons_append, List.nil_append, List.map_cons, List.map_nil]) <;> try simp only [mSeq, mIfS, mAsg, mRet, mRetN, mExpr, mBrk, mCnt, mNext, mLft, mLftT, mLftS, mLftI, lftP, mVar, mFld, mFldS, mFldAug, mMeth, mCall, mCallW, mMake, mNew, mCb, DM.mc, DM.mo, mBin, mUn, mu, mChain, mTst, mAnd, mOr, mNot, mAndV, mOrV, mNotV, mIfE, mNil, mCons, mTup, mLstD, mLstM, mDPut, mDDel, mDNew, mApp, mExt, mFor, mISeq, mLc, lcStepM, lcFin, mYes, mFgt, mSl, mONone, mOSome, oAddR, mLcL, lcStepL, dIRg3, mMakeK, mFrz, mParG, setAll, oDGet, oDIn, cLenD, cListD, cDictD, oIxR, keyD, vw_dat, oMulE, mTupM, oEmp, oEmpN, mUnp, mPop, mDPop, mAsgGs, mGPut, mGName, mGs, mDisp, mPairs, mLockE, mLockS, mIKeys, mIRg1, oIxT, wFn, dSeq, dIfS, dNext, dAsg, dPar, dRet, dRetV, dRetN, dExpr, dBrk, dCnt, dFor, dFrz, DW.frzAt, dAsgG, dGName, dGSub, dGNil, dGCons, dGTup, dAugI, dAug, dApp, dExt, dRaise, dVar, dC, dBin, dUn, dChain, dTst, dAnd, dOr, dNot, dYes, dAndV, dOrV, dNotV, dIfE, dNil, dCons, dTup, dLst, dats, dNone, dSome, dSl, oCut, dCall, dCb, dLrg, pk, dCallK, dTab, dCallV, dISeq, dIRg1, dIRg2, dIZip, dIEnum, tfName, tfPair, dLc, lcStep, DW.Cn.no, dCount, scVs, scV, oAdd, oSub, oMul, oMod, oDiv, oCmp, oNeg, oEq, toD, oIsN, oIx, seqD, lstD, bLen, bTuple, bList, bAbs, bMin, bMax, bSum, bAll, bAny, bSorted, bIsi, fz, isPl_dat, isPl_raw, isPl_bag, oIn, flD, List.cons_append, List.nil_append, List.append_nil, List.getElem?_cons_zero, List.getElem?_cons_succ, List.getElem?_nil, List.set_cons_zero, List.set_cons_succ, List.length_cons, List.length_nil, List.all_cons, List.all_nil, List.replicate_succ, List.replicate_zero, Bool.and_true, Bool.and_self, Bool.true_and, List.filterMap_cons, List.filterMap_nil, Nat.reduceAdd, Nat.reduceSub, Nat.zero_add, true_and, and_true, if_true, ite_true, Bool.not_true, Bool.not_false, Bool.false_eq_true, if_false, ite_false]))
def o100 : PyData := .tuple [.str "over", .int 1, .int 0, .int 0]
theorem lay_o : Lay 1 o100 := lay_tup fun d hd => by
  simp only [List.mem_cons, List.not_mem_nil, or_false] at hd
  rcases hd with rfl | rfl | rfl | rfl
  · exact lay_str cl_over
  · exact lay_int
  · exact lay_int
  · exact lay_int
theorem lay_e : Lay 1 (.tuple []) := lay_tup fun d hd => by cases hd
theorem deed_o {ms : List Int} {d : Deed} (h : d.Ok ms) : PyData.eqv d.D o100 = false := by
  have first : ∀ {w : Str} {ns : List Int}, decide (w = "over") = false → PyData.eqv (deedD w ns) o100 = false := fun {w ns} hw => by
    show (PyData.eqv (.str w) (.str "over") && _) = false
    rw [eqv_ss, hw]
    rfl
  cases d with
  | over n ks =>
    show (PyData.eqv (.str "over") (.str "over") && (PyData.eqv (.int n) (.int 1) && PyData.eqvAll (ks.map .int) [.int 0, .int 0])) = false
    have hn := h.2.nd
    by_cases z : PyData.eqvAll (ks.map .int) [.int 0, .int 0] = true
    · exfalso
      match ks, z, hn with
      | [], z, _ => cases z
      | [a], z, _ =>
        rw [show PyData.eqvAll ([a].map PyData.int) [.int 0, .int 0] = (PyData.eqv (.int a) (.int 0) && false) from rfl, Bool.and_false] at z
        cases z
      | [a, b], z, hn =>
        rw [show PyData.eqvAll ([a, b].map PyData.int) [.int 0, .int 0] = (PyData.eqv (.int a) (.int 0) && (PyData.eqv (.int b) (.int 0) && true)) from rfl, eqv_ii, eqv_ii, Bool.and_true] at z
        obtain ⟨z1, z2⟩ := Bool.and_eq_true_iff.mp z
        have e1 := of_decide_eq_true z1
        have e2 := of_decide_eq_true z2
        rw [e1, e2] at hn
        simp at hn
      | a :: b :: e :: r, z, _ =>
        rw [show PyData.eqvAll ((a :: b :: e :: r).map PyData.int) [.int 0, .int 0] = (PyData.eqv (.int a) (.int 0) && (PyData.eqv (.int b) (.int 0) && false)) from rfl, Bool.and_false, Bool.and_false] at z
        cases z
    · rw [Bool.not_eq_true] at z
      rw [z, Bool.and_false, Bool.and_false]
  | down n ks => exact first (w := "down") (by decide +kernel)
  | swap a b => exact first (w := "swap") (by decide +kernel)
  | tap a b => exact first (w := "tap") (by decide +kernel)
  | drain a b => exact first (w := "drain") (by decide +kernel)
theorem call_o {r : List PyData} : PyData.eqv (.tuple (.str "call" :: r)) o100 = false := by
  show (PyData.eqv (.str "call") (.str "over") && PyData.eqvAll r [.int 1, .int 0, .int 0]) = false
  rw [eqv_ss, decide_eq_false (by decide +kernel)]
  rfl
theorem sx_lay {ms : List Int} {bk : List Rd} {s : Sx} (hn : ∀ r ∈ bk, Nm8 r.nm) (h : s.Ok ms bk) : Lay 1 s.D := by
  cases s with
  | g st =>
    cases st with
    | dd d => exact lay_deed
    | cl y n =>
      obtain ⟨⟨r, hr⟩, _⟩ := (show (Stp.cl y n).Ok ms bk from h)
      have := hn r (look_mem hr).1
      rw [(look_mem hr).2] at this
      refine lay_tup fun z hz => ?_
      simp only [List.mem_cons, List.not_mem_nil, or_false] at hz
      rcases hz with rfl | rfl | rfl
      · exact lay_str (by decide +kernel)
      · exact lay_str this.cl
      · exact lay_int
  | b d =>
    have h : d ∈ odd5 := h
    simp only [odd5, List.mem_cons, List.not_mem_nil, or_false] at h
    have hz : Lay 0 (.str "zz") := lay_str (by decide +kernel)
    have hc : Lay 0 (.str "call") := lay_str (by decide +kernel)
    have hZ : Lay 0 (.str "Zz") := lay_str (by decide +kernel)
    have ho : Lay 0 (.str "over") := lay_str (by decide +kernel)
    have two : ∀ {l : List PyData}, (∀ z ∈ l, z = .str "zz" ∨ z = .str "call" ∨ z = .str "Zz" ∨ z = .str "over" ∨ ∃ i, z = .int i) → Lay 1 (.tuple l) := fun {l} hl => lay_tup fun z hz' => by
      rcases hl z hz' with rfl | rfl | rfl | rfl | ⟨i, rfl⟩
      · exact hz
      · exact hc
      · exact hZ
      · exact ho
      · exact lay_int
    rcases h with rfl | rfl | rfl | rfl | rfl
    · exact two (by simp)
    · exact two (by simp)
    · exact two (by simp)
    · exact two (by simp)
    · exact two (by simp)
  | z =>
    refine lay_tup fun z hz => ?_
    simp only [List.mem_cons, List.not_mem_nil, or_false] at hz
    rcases hz with rfl | rfl | rfl
    · exact lay_str (by decide +kernel)
    · exact lay_str (by decide +kernel)
    · exact lay_int
theorem w_law_step_word {M : Mem} {f : Addr} {ms : List Int} {bk : List Rd} {s : Sx} {P : MP} {c : Cm} (hf : M f = some (.dic (flOf bk))) (hzz : look bk "Zz" = none) (hn : ∀ r ∈ bk, Nm8 r.nm) (h : s.Ok ms bk) (p : P (dstr s.w) M) : W_law_step_word [.dat (nums ms), .raw (.ref f), .dat s.D] M P c := by
  have ly := sx_lay hn h
  have sc : SeqAt.shaped (.str "call") = true := sh_call
  unfold W_law_step_word D_law_step_word B_law_step_word_6
  walk_at "mwv"
  refine ⟨⟨ly.sh (by decide), lay_e.sh (by decide)⟩, ?_⟩
  cases s with
  | g st =>
    cases st with
    | dd d =>
      rw [show PyData.eqv (Sx.g (.dd d)).D (.tuple []) = false from rfl]
      walk_at "mwv"
      refine ⟨⟨ly.sh (by decide), lay_o.sh (by decide)⟩, ?_⟩
      rw [show PyData.eqv (Sx.g (.dd d)).D (.tuple [.str (Str.ofString "over"), .int 1, .int 0, .int 0]) = false from deed_o h]
      walk_at "mwv"
      unfold B_law_step_word_5
      refine ltM (sqM ?_)
      show mIfS _ _ _ _ [some (.dat (nums ms)), some (.raw (.ref f)), some (.dat (deedD d.w d.ns))] M _
      walk_at "mwv"
      rw [atD_0]
      walk_at "mwv"
      rw [deed_word]
      refine ⟨⟨sh_w, sh_call⟩, ?_⟩
      walk_at "mwv"
      unfold B_law_step_word_4
      refine ltM ?_
      walk_at "mwv"
      exact p
    | cl y n =>
      obtain ⟨⟨r, hr⟩, h9⟩ := (show (Stp.cl y n).Ok ms bk from h)
      rw [show PyData.eqv (Sx.g (.cl y n)).D (.tuple []) = false from rfl]
      walk_at "mwv"
      refine ⟨⟨ly.sh (by decide), lay_o.sh (by decide)⟩, ?_⟩
      rw [show PyData.eqv (Sx.g (.cl y n)).D (.tuple [.str (Str.ofString "over"), .int 1, .int 0, .int 0]) = false from call_o]
      walk_at "mwv"
      unfold B_law_step_word_5
      refine ltM (sqM ?_)
      show mIfS _ _ _ _ [some (.dat (nums ms)), some (.raw (.ref f)), some (.dat (.tuple [.str "call", .str y, .int (n : Int)]))] M _
      walk_at "mwv"
      rw [atD_0]
      walk_at "mwv"
      rw [eqv_ss, decide_eq_true rfl]
      refine ⟨⟨sc, sc⟩, ?_⟩
      unfold B_law_step_word_3
      walk_at "mwv"
      refine ⟨⟨sh_int, sh_int⟩, ?_⟩
      rw [eqv_ii, decide_eq_true (by decide), if_neg (by simp), atD_2]
      walk_at "mwv"
      rw [show decide ((0 : Int) ≤ (n : Int)) = true from decide_eq_true (by omega), show decide ((n : Int) ≤ 9) = true from decide_eq_true (by omega)]
      walk_at "mwv"
      unfold B_law_step_word_2
      refine ltM ?_
      walk_at "mwv"
      rw [atD_1]
      walk_at "mwv"
      simp only [dicAt_mk hf, gV_fl, hr]
      walk_at "mwv"
      exact p
  | b d =>
    have hd : d ∈ odd5 := h
    simp only [odd5, List.mem_cons, List.not_mem_nil, or_false] at hd
    rcases hd with rfl | rfl | rfl | rfl | rfl
    · rw [show PyData.eqv (Sx.b (.tuple [.str "call", .str "zz", .int 10])).D (.tuple []) = false from rfl]
      walk_at "mwv"
      refine ⟨⟨ly.sh (by decide), lay_o.sh (by decide)⟩, ?_⟩
      rw [show PyData.eqv (Sx.b (.tuple [.str "call", .str "zz", .int 10])).D (.tuple [.str (Str.ofString "over"), .int 1, .int 0, .int 0]) = false from call_o]
      walk_at "mwv"
      unfold B_law_step_word_5
      refine ltM (sqM ?_)
      show mIfS _ _ _ _ [some (.dat (nums ms)), some (.raw (.ref f)), some (.dat (.tuple [.str "call", .str "zz", .int 10]))] M _
      walk_at "mwv"
      rw [atD_0]
      walk_at "mwv"
      rw [eqv_ss, decide_eq_true rfl]
      refine ⟨⟨sc, sc⟩, ?_⟩
      unfold B_law_step_word_3
      walk_at "mwv"
      refine ⟨⟨sh_int, sh_int⟩, ?_⟩
      rw [eqv_ii, decide_eq_true (by decide), if_neg (by simp), atD_2]
      walk_at "mwv"
      rw [show decide ((0 : Int) ≤ 10) = true from rfl, show decide ((10 : Int) ≤ 9) = false from rfl]
      walk_at "mwv"
      unfold B_law_step_word_1
      walk_at "mwv"
      exact p
    · rw [show PyData.eqv (Sx.b (.tuple [.str "call"])).D (.tuple []) = false from rfl]
      walk_at "mwv"
      refine ⟨⟨ly.sh (by decide), lay_o.sh (by decide)⟩, ?_⟩
      rw [show PyData.eqv (Sx.b (.tuple [.str "call"])).D (.tuple [.str (Str.ofString "over"), .int 1, .int 0, .int 0]) = false from call_o]
      walk_at "mwv"
      unfold B_law_step_word_5
      refine ltM (sqM ?_)
      show mIfS _ _ _ _ [some (.dat (nums ms)), some (.raw (.ref f)), some (.dat (.tuple [.str "call"]))] M _
      walk_at "mwv"
      rw [atD_0]
      walk_at "mwv"
      rw [eqv_ss, decide_eq_true rfl]
      refine ⟨⟨sc, sc⟩, ?_⟩
      unfold B_law_step_word_3
      walk_at "mwv"
      refine ⟨⟨sh_int, sh_int⟩, ?_⟩
      rw [eqv_ii, decide_eq_false (by decide), if_pos (by simp)]
      unfold B_law_step_word_1
      walk_at "mwv"
      exact p
    · rw [show PyData.eqv (Sx.b (.tuple [])).D (.tuple []) = true from rfl, if_pos rfl]
      unfold B_law_step_word_0
      walk_at "mwv"
      exact p
    · rw [show PyData.eqv (Sx.b (.tuple [.str (Str.ofString "over"), .int 1, .int 0, .int 0])).D (.tuple []) = false from rfl]
      walk_at "mwv"
      refine ⟨⟨ly.sh (by decide), lay_o.sh (by decide)⟩, ?_⟩
      rw [show PyData.eqv (Sx.b (.tuple [.str (Str.ofString "over"), .int 1, .int 0, .int 0])).D (.tuple [.str (Str.ofString "over"), .int 1, .int 0, .int 0]) = true from eqv_self (n := 1) lay_o.1, if_pos rfl]
      unfold B_law_step_word_0
      walk_at "mwv"
      exact p
    · rw [show PyData.eqv (Sx.b (.tuple [.str "call", .str "Zz", .int 1, .int 1])).D (.tuple []) = false from rfl]
      walk_at "mwv"
      refine ⟨⟨ly.sh (by decide), lay_o.sh (by decide)⟩, ?_⟩
      rw [show PyData.eqv (Sx.b (.tuple [.str "call", .str "Zz", .int 1, .int 1])).D (.tuple [.str (Str.ofString "over"), .int 1, .int 0, .int 0]) = false from call_o]
      walk_at "mwv"
      unfold B_law_step_word_5
      refine ltM (sqM ?_)
      show mIfS _ _ _ _ [some (.dat (nums ms)), some (.raw (.ref f)), some (.dat (.tuple [.str "call", .str "Zz", .int 1, .int 1]))] M _
      walk_at "mwv"
      rw [atD_0]
      walk_at "mwv"
      rw [eqv_ss, decide_eq_true rfl]
      refine ⟨⟨sc, sc⟩, ?_⟩
      unfold B_law_step_word_3
      walk_at "mwv"
      refine ⟨⟨sh_int, sh_int⟩, ?_⟩
      rw [eqv_ii, decide_eq_false (by decide), if_pos (by simp)]
      unfold B_law_step_word_1
      walk_at "mwv"
      exact p
  | z =>
    rw [show PyData.eqv Sx.z.D (.tuple []) = false from rfl]
    walk_at "mwv"
    refine ⟨⟨ly.sh (by decide), lay_o.sh (by decide)⟩, ?_⟩
    rw [show PyData.eqv Sx.z.D (.tuple [.str (Str.ofString "over"), .int 1, .int 0, .int 0]) = false from call_o]
    walk_at "mwv"
    unfold B_law_step_word_5
    refine ltM (sqM ?_)
    show mIfS _ _ _ _ [some (.dat (nums ms)), some (.raw (.ref f)), some (.dat (.tuple [.str "call", .str "Zz", .int 1]))] M _
    walk_at "mwv"
    rw [atD_0]
    walk_at "mwv"
    rw [eqv_ss, decide_eq_true rfl]
    refine ⟨⟨sc, sc⟩, ?_⟩
    unfold B_law_step_word_3
    walk_at "mwv"
    refine ⟨⟨sh_int, sh_int⟩, ?_⟩
    rw [eqv_ii, decide_eq_true (by decide), if_neg (by simp), atD_2]
    walk_at "mwv"
    rw [show decide ((0 : Int) ≤ 1) = true from rfl, show decide ((1 : Int) ≤ 9) = true from rfl]
    walk_at "mwv"
    unfold B_law_step_word_2
    refine ltM ?_
    walk_at "mwv"
    rw [atD_1]
    walk_at "mwv"
    simp only [dicAt_mk hf, gV_fl, hzz]
    walk_at "mwv"
    exact p
theorem fw_filter : ∀ ss : List Sx, (((ss.map Sx.w).filter fun (w : Str) => decide (w ≠ "")).head?).getD "" = fw ss ∧ (((ss.map Sx.w).filter fun (w : Str) => decide (w ≠ "")) = [] ↔ fw ss = "")
  | [] => ⟨rfl, by simp [fw]⟩
  | s :: ss => by
    obtain ⟨h1, h2⟩ := fw_filter ss
    by_cases z : s.w = ""
    · have e : fw (s :: ss) = fw ss := by
        show (if s.w = "" then fw ss else s.w) = _
        rw [if_pos z]
      rw [List.map_cons, List.filter_cons_of_neg (by simp [z]), e]
      exact ⟨h1, h2⟩
    · have e : fw (s :: ss) = s.w := by
        show (if s.w = "" then fw ss else s.w) = _
        rw [if_neg z]
      rw [List.map_cons, List.filter_cons_of_pos (by simp [z]), e]
      exact ⟨rfl, by simp [z]⟩
theorem w_cl {s : Sx} : PyData.canLay0 (.str s.w) = true := by
  cases s with
  | g st => show PyData.canLay0 (.str "") = true; decide +kernel
  | b d => show PyData.canLay0 (.str "bad row") = true; decide +kernel
  | z => show PyData.canLay0 (.str "no round") = true; decide +kernel
theorem w_law_due {M : Mem} {f : Addr} {ms : List Int} {bk : List Rd} {x : Str} {ss : List Sx} {P : MP} {c : Cm} (hf : M f = some (.dic (flOf bk))) (hb : Bks ms bk) (hzz : look bk "Zz" = none) (hn : ∀ r ∈ bk, Nm8 r.nm) (hx : x ∈ bad4 ∨ Nm8 x ∧ x ∉ bad4) (hl12 : bk.length < 12) (h6 : ss.length ≤ 6) (ho : ∀ s ∈ ss, s.Ok ms bk) (p : P (dstr (dueW bk x ss)) M) : W_law_due [.dat (nums ms), .raw (.ref f), dstr x, .dat (.list (ss.map Sx.D))] M P c := by
  unfold W_law_due D_law_due B_law_due_11
  walk_at "mwv"
  refine ⟨.inl True.intro, ?_⟩
  have e4 : ([PyData.str (Str.ofString ""), .str (Str.ofString "A"), .str (Str.ofString "abcdefghi"), .str (Str.ofString "a b")].any fun z => z.eqv (.str x)) = decide (x ∈ bad4) := any_eqv bad4
  rw [e4]
  unfold dueW at p
  rcases hx with hx | ⟨hx, hxb⟩
  · rw [if_pos hx] at p
    rw [decide_eq_true hx, if_pos rfl]
    unfold B_law_due_0
    walk_at "mwv"
    exact p
  rw [if_neg hxb] at p
  rw [decide_eq_false hxb, if_neg (by simp)]
  unfold B_law_due_10
  refine ltM (sqM ?_)
  walk_at "mwv"
  simp only [dicAt_mk hf, gV_fl]
  cases hl : look bk x with
  | some r =>
    rw [hl] at p
    simp only [Option.isSome_some, if_true] at p
    simp only [Option.map_some, Option.isSome_some, if_true]
    unfold B_law_due_1
    walk_at "mwv"
    exact p
  | none =>
    rw [hl] at p
    simp only [Option.isSome_none, Bool.false_eq_true, if_false] at p
    simp only [Option.map_none, Option.isSome_none, Bool.false_eq_true, if_false]
    unfold B_law_due_9
    refine ltM (sqM ?_)
    walk_at "mwv"
    simp only [hf, fl_len]
    rw [decide_eq_false (by omega)]
    walk_at "mwv"
    unfold B_law_due_8
    refine ltM (sqM ?_)
    walk_at "mwv"
    refine ⟨by simp, by rw [List.length_map]; omega, ?_⟩
    refine lcM_map (fun s => dstr s.w) (fun s hs K hK => ?_) ?_
    · walk_at "mwv"
      exact w_law_step_word hf hzz hn (ho s hs) hK
    rw [show (ss.map fun s => dstr s.w) = ss.map fun s => DV.dat (PyData.str s.w) from rfl, dats_of]
    walk_at "mwv"
    unfold B_law_due_7
    refine ltM (sqM ?_)
    walk_at "mwv"
    refine ⟨by simp, by rw [List.length_map]; omega, ?_⟩
    have she : SeqAt.shaped (.str "") = true := (lay_str (n := 0) (show PyData.canLay0 (.str "") = true by decide +kernel)).sh (by decide)
    refine lcM_out (β := Sx) (gI := fun s => PyData.str s.w) (fun s => if s.w = "" then none else some (dstr s.w)) (fun s hs K hK => ?_) ?_
    · walk_at "mwv"
      refine ⟨⟨(lay_str (n := 0) w_cl).sh (by decide), she⟩, ?_⟩
      rw [eqv_ss]
      by_cases z : s.w = ""
      · rw [if_pos z] at hK
        rw [show decide (s.w = Str.ofString "") = true from decide_eq_true z]
        walk_at "mwv"
        exact hK
      · rw [if_neg z] at hK
        rw [show decide (s.w = Str.ofString "") = false from decide_eq_false z]
        walk_at "mwv"
        exact hK
    have ef : ss.filterMap (fun (s : Sx) => if s.w = ("" : Str) then none else some (dstr s.w)) = (((ss.map Sx.w).filter fun (w : Str) => decide (w ≠ "")).map PyData.str).map DV.dat := by
      clear p ho h6
      induction ss with
      | nil => rfl
      | cons s ss ih =>
        by_cases z : s.w = ""
        · rw [List.filterMap_cons, if_pos z, List.map_cons, List.filter_cons_of_neg (by simp [z]), ih]
        · rw [List.filterMap_cons, if_neg z, List.map_cons, List.filter_cons_of_pos (by simp [z]), List.map_cons, List.map_cons, ih]
    rw [ef, dats_map]
    dsimp only
    obtain ⟨f1, f2⟩ := fw_filter ss
    unfold B_law_due_6
    refine ltM (sqM ?_)
    walk_at "mwv"
    have lw : Lay 1 (.list (((ss.map Sx.w).filter fun (w : Str) => decide (w ≠ "")).map PyData.str)) := lay_list fun d hd => by
      obtain ⟨w, hw, rfl⟩ := List.mem_map.mp hd
      obtain ⟨s, _, rfl⟩ := List.mem_map.mp ((List.mem_filter.mp hw).1)
      exact lay_str w_cl
    refine ⟨⟨lw.sh (by decide), (lay_list (n := 0) fun d hd => by cases hd).sh (by decide)⟩, ?_⟩
    clear ef
    generalize (ss.map Sx.w).filter (fun (w : Str) => decide (w ≠ "")) = W at f1 f2 lw ⊢
    cases W with
    | cons w0 r =>
      have f1 : w0 = fw ss := f1
      have ne : fw ss ≠ "" := fun z => by
        have := f2.mpr z
        cases this
      rw [if_pos ne] at p
      rw [show PyData.eqv (.list ((w0 :: r).map PyData.str)) (.list []) = false from rfl]
      walk_at "mwv"
      unfold B_law_due_3
      walk_at "mwv"
      rw [atD_0]
      walk_at "mwv"
      rw [f1]
      exact p
    | nil =>
      have e0 := f2.mp rfl
      rw [if_neg (fun z => z e0)] at p
      rw [show PyData.eqv (.list (([] : List Str).map PyData.str)) (.list []) = true from rfl]
      walk_at "mwv"
      have hgs := fw_all e0
      have hok := gds_ok ho
      have hg5 : (gds ss).length ≤ 6 := Nat.le_trans (List.length_filterMap_le _ _) h6
      have eD : ss.map Sx.D = (gds ss).map Stp.D := by
        conv => lhs; rw [hgs]
        rw [List.map_map]
        rfl
      rw [eD]
      clear hgs ho eD f1 f2 lw h6
      generalize gds ss = gs at p hok hg5 ⊢
      unfold B_law_due_5
      refine ltM (sqM ?_)
      walk_at "mwv"
      refine ⟨by simp, by rw [List.length_map]; omega, ?_⟩
      refine lcM_map (fun s => dint (cnt bk s)) (fun s hs K hK => ?_) ?_
      · have hs2 := hok s hs
        cases s with
        | dd d =>
          show lcStepM _ _ _ _ _ (deedD d.w d.ns) M K
          walk_at "mwv"
          rw [atD_0]
          walk_at "mwv"
          rw [deed_word]
          refine ⟨⟨sh_w, sh_call⟩, ?_⟩
          walk_at "mwv"
          exact hK
        | cl y n =>
          obtain ⟨⟨r, hr⟩, h9⟩ := hs2
          show lcStepM _ _ _ _ _ (.tuple [.str "call", .str y, .int (n : Int)]) M K
          walk_at "mwv"
          rw [atD_0]
          walk_at "mwv"
          rw [eqv_ss, decide_eq_true rfl]
          refine ⟨⟨sh_call, sh_call⟩, ?_⟩
          rw [if_pos rfl, atD_2]
          walk_at "mwv"
          rw [atD_1]
          walk_at "mwv"
          simp only [dicAt_mk hf, gV_fl, hr, Option.map_some, vw_dat]
          walk_at "mwv"
          have hfl := hb.len r (look_mem hr).1
          have ec : cnt bk (.cl y n) = (n : Int) * (r.fl.length : Int) := by
            unfold cnt
            rw [lay1_cl hr, replicate_flat_len]
            simp
          rw [ec] at hK
          rw [show (rowD r.fl).length = r.fl.length from List.length_map ..]
          exact ⟨.inl (by unfold CMul; omega), hK⟩
      rw [show (gs.map fun s => dint (cnt bk s)) = (gs.map (cnt bk)).map fun i => DV.dat (.int i) by rw [List.map_map]; rfl, dats_of]
      walk_at "mwv"
      rw [sum_ints]
      dsimp only
      rw [cnt_sum]
      unfold B_law_due_4
      refine ltM ?_
      walk_at "mwv"
      by_cases h200 : (lay bk gs).length > 200
      · rw [if_pos h200] at p
        rw [show decide (((lay bk gs).length : Int) > 200) = true from decide_eq_true (by omega)]
        walk_at "mwv"
        exact p
      · rw [if_neg h200] at p
        rw [show decide (((lay bk gs).length : Int) > 200) = false from decide_eq_false (by omega)]
        walk_at "mwv"
        exact p
theorem w_law_laid {M : Mem} {f : Addr} {ms : List Int} {bk : List Rd} {s : Stp} {P : MP} {c : Cm} (hf : M f = some (.dic (flOf bk))) (hb : Bks ms bk) (h : s.Ok ms bk) (p : P (.dat (.list (rowD (lay1 bk s)))) M) : W_law_laid [.raw (.ref f), .dat s.D] M P c := by
  unfold W_law_laid D_law_laid B_law_laid_0
  cases s with
  | dd d =>
    show wM _ _ _ [.raw (.ref f), .dat (deedD d.w d.ns)] M P c
    walk_at "mwv"
    rw [atD_0]
    walk_at "mwv"
    rw [deed_word]
    refine ⟨⟨sh_w, sh_call⟩, ?_⟩
    walk_at "mwv"
    exact p
  | cl y n =>
    obtain ⟨⟨r, hr⟩, h9⟩ := h
    show wM _ _ _ [.raw (.ref f), .dat (.tuple [.str "call", .str y, .int (n : Int)])] M P c
    walk_at "mwv"
    rw [atD_0]
    walk_at "mwv"
    rw [eqv_ss, decide_eq_true rfl]
    refine ⟨⟨sh_call, sh_call⟩, ?_⟩
    rw [if_pos rfl, atD_1]
    walk_at "mwv"
    simp only [dicAt_mk hf, gV_fl, hr, Option.map_some, vw_dat]
    rw [atD_2]
    walk_at "mwv"
    have hl3 := hb.len r (look_mem hr).1
    have hm : r.fl.length * n ≤ 1800 := Nat.le_trans (Nat.mul_le_mul hl3 h9) (by decide)
    rw [Int.toNat_natCast, rowD_flat]
    rw [lay1_cl hr] at p
    exact ⟨⟨by omega, by omega, by rw [show (rowD r.fl).length = r.fl.length from List.length_map ..]; omega⟩, p⟩
theorem gV_wl {bk : List Rd} {x : Str} : gV (wlOf bk) (.inr x) = (look bk x).map fun r => DV.dat (.list (r.st.map Stp.D)) := gV_map
theorem wl_len {bk : List Rd} : (wlOf bk).length = bk.length := by unfold wlOf; simp
section
variable {C : Addr} {M M' : Mem} {a w l o f v : Addr} {ms : List Int} {bk : List Rd} {n : Nat}
theorem St.oa (h : St C M a w l o f v ms bk n) : o ≠ a ∧ o ≠ w ∧ o ≠ l ∧ o ≠ f ∧ o ≠ v ∧ f ≠ a ∧ v ≠ a := by
  refine ⟨fun z => ?_, fun z => ?_, fun z => ?_, fun z => ?_, fun z => ?_, fun z => ?_, fun z => ?_⟩
  · have e := h.ho; rw [z, h.b.ha] at e; cases e
  · have e := h.ho; rw [z, h.b.hw] at e; cases e
  · have e := h.ho; rw [z, h.b.hl] at e; cases e
  · have e := h.ho; rw [z, h.hf] at e; cases e
  · have e := h.ho; rw [z, h.hv] at e; cases e
  · have e := h.hf; rw [z, h.b.ha] at e; cases e
  · have e := h.hv; rw [z, h.b.ha] at e; cases e
theorem St.shp (h : St C M a w l o f v ms bk n) : Shp bk := ⟨fun r hr => Nat.le_trans (h.sl r hr) (by decide), fun r hr s hs y m e => by
  have := h.so r hr s hs
  rw [e] at this
  exact this.1.cl⟩
theorem zz_no (h : ∀ r ∈ bk, Nm8 r.nm) : look bk "Zz" = none := by
  unfold look
  rw [List.find?_eq_none]
  intro r hr z
  have e : r.nm = "Zz" := of_decide_eq_true z
  have := (h r hr).2.2 90 (by rw [e]; decide +kernel)
  exact absurd this (by decide +kernel)
end
theorem cl_call : PyData.canLay0 (.str "call") = true := by decide +kernel
def two : Stp → PyData
  | .dd d => .tuple ((.str d.w :: d.ns.map .int).take 2)
  | .cl y _ => .tuple [.str "call", .str y]
theorem two_eq {s : Stp} {nm : Str} : PyData.eqv (two s) (.tuple [.str "call", .str nm]) = isCl nm s := by
  cases s with
  | dd d =>
    have h : ∃ n r, (d.ns.map PyData.int).take 1 = .int n :: r := by
      cases d with
      | over n ks => exact ⟨_, _, rfl⟩
      | down n ks => exact ⟨_, _, rfl⟩
      | swap n ks => exact ⟨_, _, rfl⟩
      | tap n ks => exact ⟨_, _, rfl⟩
      | drain n ks => exact ⟨_, _, rfl⟩
    obtain ⟨n, r, e⟩ := h
    show PyData.eqv (.tuple (.str d.w :: (d.ns.map PyData.int).take 1)) _ = false
    rw [e]
    show ((PyData.str d.w).eqv (.str "call") && _) = false
    rw [deed_word]
    rfl
  | cl y n =>
    show ((PyData.str "call").eqv (.str "call") && ((PyData.str y).eqv (.str nm) && true)) = decide (y = nm)
    rw [eqv_ss, decide_eq_true rfl, eqv_ss]
    simp
theorem lay_two {s : Stp} (h : ∀ y n, s = .cl y n → PyData.canLay0 (.str y) = true) : Lay 1 (two s) := by
  cases s with
  | dd d =>
    have hd : Lay 1 d.D := lay_deed
    refine lay_tup (n := 0) fun z hz => ?_
    rcases List.mem_cons.mp hz with rfl | hz
    · cases d with
      | over n ks => exact lay_str cl_over
      | down n ks => exact lay_str cl_down
      | swap n ks => exact lay_str cl_swap
      | tap n ks => exact lay_str cl_tap
      | drain n ks => exact lay_str cl_drain
    · obtain ⟨i, _, rfl⟩ := List.mem_map.mp (List.mem_of_mem_take hz)
      exact lay_int
  | cl y n =>
    refine lay_tup (n := 0) fun z hz => ?_
    rcases List.mem_cons.mp hz with rfl | hz
    · exact lay_str cl_call
    · rw [List.mem_singleton.mp hz]
      exact lay_str (h y n rfl)
theorem users_map {bk : List Rd} {x : Str} : bk.filterMap (fun r => if r.st.any (isCl x) = true then some (DV.dat (PyData.str r.nm)) else none) = (users bk x).map fun r => DV.dat (PyData.str r.nm) := by
  unfold users
  induction bk with
  | nil => rfl
  | cons r0 bk ih =>
    by_cases z : r0.st.any (isCl x) = true
    · rw [List.filterMap_cons, if_pos z, List.filter_cons, if_pos z, List.map_cons, ih]
    · rw [List.filterMap_cons, if_neg z, List.filter_cons, if_neg z, ih]
abbrev env (ms : List Int) (a o f v : Addr) (s3 s8 s9 s10 s11 s12 s13 s14 s15 s16 s17 s18 : Option DV) : En := [none, some .bag, some (.dat (nums ms)), s3, some (.raw (.ref a)), some (.raw (.ref f)), some (.raw (.ref v)), some (.raw (.ref o)), s8, s9, s10, s11, s12, s13, s14, s15, s16, s17, s18, none, none]
theorem each_ok {M : Mem} {a w l o f v : Addr} {ms : List Int} {bk : List Rd} {n : Nat} {c : Cm} {D : MEd} {r : Rd} {s3 s8 s9 s10 s11 s12 s13 s14 s15 s17 s18 : Option DV} (hz : Sz ms) (h : St (c.fa 0) M a w l o f v ms bk n) (hn9 : n ≤ 9) (hr : r ∈ bk)
    (pp : ∀ s17 s18, D.nx (env ms a o f v s3 s8 s9 s10 s11 s12 s13 none s15 (some (dstr r.nm)) s17 s18) M) : B_law_10 c (env ms a o f v s3 s8 s9 s10 s11 s12 s13 s14 s15 (some (dstr r.nm)) s17 s18) M D := by
  have hl := h.ln
  have hlr := look_at h.k.nd hr
  have hnm := h.nm r hr
  unfold B_law_10
  refine sqM ?_
  walk_at "mwv"
  simp only [h.ho]
  refine ⟨fun v hv => by rw [List.mem_singleton.mp hv]; rfl, by rw [List.length_map, List.length_map]; omega, ?_⟩
  rw [show (bk.map (·.nm)).map (fun s => DV.dat (.str s)) = bk.map fun r => dstr r.nm from by rw [List.map_map]; rfl]
  refine lcL_out (fun r' => if r'.st.any (isCl r.nm) = true then some (DV.dat (PyData.str r'.nm)) else none) (by rw [h.ho, List.map_map]; rfl) (fun r' hr' K hK => ?_) ?_
  · have hg : gV (wlOf bk) (.inr r'.nm) = some (DV.dat (.list (r'.st.map Stp.D))) := by
      rw [gV_wl, look_at h.k.nd hr']
      rfl
    have hsl := h.sl r' hr'
    unfold mISeq
    walk_at "mwv"
    simp only [dicAt_mk h.hv, hg]
    walk_at "mwv"
    refine ⟨fun v hv => by rw [List.mem_singleton.mp hv]; rfl, by rw [List.length_map]; omega, ?_⟩
    refine lcM_map (fun s => .dat (two s)) (fun s hs K2 hK2 => ?_) ?_
    · cases s with
      | dd d =>
        show lcStepM _ _ _ _ _ (deedD d.w d.ns) _ _
        walk_at "mwv"
        have e2 : DL.cutD (PyData.str d.w :: d.ns.map PyData.int) none (some 2) = (PyData.str d.w :: d.ns.map PyData.int).take 2 := cut_to (b := 2)
        rw [e2]
        exact hK2
      | cl y n =>
        show lcStepM _ _ _ _ _ (.tuple [.str "call", .str y, .int (n : Int)]) _ _
        walk_at "mwv"
        exact hK2
    · rw [dats_of]
      walk_at "mwv"
      have hlay : ∀ z ∈ r'.st.map two, Lay 1 z := fun z hz => by
        obtain ⟨s, hs, rfl⟩ := List.mem_map.mp hz
        exact lay_two (h.shp.s r' hr' s hs)
      refine ⟨.inr ⟨(lay_two (s := .cl r.nm 0) fun y n e => by cases e; exact hnm.cl).sh (by decide), (lay_list hlay).sh (by decide), _, rfl⟩, ?_⟩
      rw [List.any_map, show ((fun z => PyData.eqv z (.tuple [.str "call", .str r.nm])) ∘ two) = isCl r.nm from funext fun s => two_eq]
      by_cases z : r'.st.any (isCl r.nm) = true
      · rw [z]
        rw [if_pos z] at hK
        walk_at "mwv"
        exact hK
      · rw [Bool.not_eq_true] at z
        rw [z]
        rw [z] at hK
        walk_at "mwv"
        exact hK
  · rw [users_map, dats_of]
    dsimp only
    unfold B_law_9
    refine ltM (sqM ?_)
    walk_at "mwv"
    simp only [h.b.ins]
    refine ⟨bkm (show (("steps" : Str) == "held_sizes" || (("steps" : Str) == "written" || ("steps" : Str) == "laid")) = false by decide), ?_⟩
    refine w_book_steps h.b hlr ?_
    refine methK_ok (M1 := M) (fun K hK => ?_) h.b.ha (bkm (show (("flat" : Str) == "held_sizes" || (("flat" : Str) == "written" || ("flat" : Str) == "laid")) = false by decide)) ?_
    · walk_at "mwv"
      exact hK
    walk_at "mwv"
    refine w_book_flat h.b hlr ?_
    simp only [h.b.ins]
    refine ⟨bkm (show (("callers" : Str) == "held_sizes" || (("callers" : Str) == "written" || ("callers" : Str) == "laid")) = false by decide), ?_⟩
    refine w_book_callers h.b (by omega) h.k.nd hlr hnm.sh h.shp ?_
    dsimp only [dats]
    unfold B_law_8
    refine ltM ?_
    walk_at "mwv"
    simp only [dicAt_mk h.hv, gV_wl, dicAt_mk h.hf, gV_fl, hlr, Option.map_some]
    dsimp only [dats]
    have hlu : (users bk r.nm).length ≤ 9 := Nat.le_trans (List.length_filter_le _ _) (by omega)
    have hlf := h.k.len r hr
    have hsl := h.sl r hr
    have la : Lay 3 (.list [.list (r.st.map Stp.D), .list (rowD r.fl), .list ((users bk r.nm).map fun r => PyData.str r.nm)]) := lay_list fun d hd => by
      simp only [List.mem_cons, List.not_mem_nil, or_false] at hd
      rcases hd with rfl | rfl | rfl
      · refine lay_list fun d hd => ?_
        obtain ⟨s, hs, rfl⟩ := List.mem_map.mp hd
        cases s with
        | dd d => exact lay_deed
        | cl y n =>
          have := (show Nm8 y ∧ n ≤ 9 from h.so r hr _ hs).1
          refine lay_tup (n := 0) fun z hz => ?_
          simp only [List.mem_cons, List.not_mem_nil, or_false] at hz
          rcases hz with rfl | rfl | rfl
          · exact lay_str cl_call
          · exact lay_str this.cl
          · exact lay_int
      · refine lay_list fun d hd => ?_
        obtain ⟨e, _, rfl⟩ := List.mem_map.mp hd
        exact lay_deed
      · refine lay_list fun d hd => ?_
        obtain ⟨r', hr', rfl⟩ := List.mem_map.mp hd
        exact lay_str (h.nm r' ((List.mem_filter.mp hr').1)).cl
    have fa : Flat 6 (.list [.list (r.st.map Stp.D), .list (rowD r.fl), .list ((users bk r.nm).map fun r => PyData.str r.nm)]) := flat_l (by simp) fun d hd => by
      simp only [List.mem_cons, List.not_mem_nil, or_false] at hd
      rcases hd with rfl | rfl | rfl
      · refine flat_l (by rw [List.length_map]; omega) fun d hd => ?_
        obtain ⟨s, hs, rfl⟩ := List.mem_map.mp hd
        cases s with
        | dd d => exact flat_deed hz (h.so r hr _ hs)
        | cl y n =>
          refine flat_t (by show 3 ≤ 100000; decide) fun z hz => ?_
          simp only [List.mem_cons, List.not_mem_nil, or_false] at hz
          rcases hz with rfl | rfl | rfl
          · exact flat_str
          · exact flat_str
          · exact flat_int
      · refine flat_l (by rw [List.length_map]; omega) fun d hd => ?_
        obtain ⟨e, he, rfl⟩ := List.mem_map.mp hd
        exact flat_deed hz (h.k.fl r hr e he)
      · refine flat_l (by rw [List.length_map]; omega) fun d hd => ?_
        obtain ⟨r', hr', rfl⟩ := List.mem_map.mp hd
        exact flat_str
    refine w_same fa la.1 ?_
    walk_at "mwv"
    exact pp _ _
theorem after_ok {M : Mem} {a w l o f v : Addr} {ms : List Int} {bk : List Rd} {n : Nat} {c : Cm} {D : MEd} {s3 s8 s9 s10 s11 s12 s13 s14 s15 s16 s17 s18 : Option DV} (hz : Sz ms) (h : St (c.fa 0) M a w l o f v ms bk n) (hn9 : n ≤ 9)
    (pp : ∀ M' s14 s15 s16 s17 s18, St (c.fa 0) M' a w l o f v ms bk n → D.nx (env ms a o f v s3 s8 s9 s10 s11 s12 s13 s14 s15 s16 s17 s18) M') : laterM B_law_13 c D (env ms a o f v s3 s8 s9 s10 s11 s12 s13 s14 s15 s16 s17 s18) M := by
  have hl := h.ln
  unfold B_law_13
  refine ltM (sqM ?_)
  walk_at "mwv"
  simp only [h.ho]
  rw [List.length_map, List.length_map]
  unfold B_law_12
  refine ltM (sqM ?_)
  unfold mLendD mLenO mTxtO
  walk_at "mwv"
  simp only [h.b.ins]
  refine ⟨bkm (show (("names" : Str) == "held_sizes" || (("names" : Str) == "written" || ("names" : Str) == "laid")) = false by decide), ?_⟩
  refine w_book_names h.b ?_
  simp only [h.b.ins]
  refine w_book_len h.b ?_
  refine ⟨_, rfl, by omega, by omega, ?_⟩
  simp only [h.b.ins]
  refine w_book_repr h.b (by omega) ?_
  refine ⟨_, rfl, ?_⟩
  obtain ⟨l1, l2, l3⟩ := bnm_len (n := bk.length) (by omega)
  simp only [dats, bStr, dint, dstr]
  refine ⟨log_n (by omega), ?_⟩
  refine ⟨by rw [← Str.length_append]; exact Nat.le_trans l2 (by decide), by rw [← Str.length_append]; exact Nat.le_trans l1 (by decide), ?_⟩
  simp only [lftP]
  intro p hp
  have ne : o ≠ p := fun z => by rw [← z, h.ho] at hp; cases hp
  have e2 : lendD (um M p (SO.lst [DV.raw (V.ref o), DV.dat (PyData.int (bk.length : Int)), DV.dat (.str (("Book(" ++ Str.ofString (toString (bk.length : Int))) ++ " rounds)"))])) (.raw (.ref p)) = .dat (.list [.list (bk.map fun r => PyData.str r.nm), .int (bk.length : Int), .str (bnm bk.length)]) := by
    refine lendD_at um_same ?_
    rw [List.map_cons, lendM_at (xs := (bk.map (·.nm)).map fun s => DV.dat (.str s)) (by rw [um_ne ne, h.ho]) (dats_strs _), List.map_map]
    rfl
  rw [List.map_cons, List.map_cons, List.map_nil, e2]
  refine ⟨rfl, ?_⟩
  have la : Lay 3 (.list [.list (bk.map fun r => PyData.str r.nm), .int (bk.length : Int), .str (bnm bk.length)]) := lay_list fun d hd => by
    simp only [List.mem_cons, List.not_mem_nil, or_false] at hd
    rcases hd with rfl | rfl | rfl
    · refine lay_list fun d hd => ?_
      obtain ⟨r', hr', rfl⟩ := List.mem_map.mp hd
      exact lay_str (h.nm r' hr').cl
    · exact lay_int
    · exact lay_str (cl_bnm (by omega))
  have fa : Flat 6 (.list [.list (bk.map fun r => PyData.str r.nm), .int (bk.length : Int), .str (bnm bk.length)]) := flat_l (by simp) fun d hd => by
    simp only [List.mem_cons, List.not_mem_nil, or_false] at hd
    rcases hd with rfl | rfl | rfl
    · refine flat_l (by rw [List.length_map]; omega) fun d hd => ?_
      obtain ⟨r', hr', rfl⟩ := List.mem_map.mp hd
      exact flat_str
    · exact flat_int
    · exact flat_str
  refine w_same fa la.1 ?_
  refine ⟨rfl, ?_⟩
  walk_at "mwv"
  clear la fa e2
  have h2 := h.keep (M' := um M p (SO.lst [DV.raw (V.ref o), DV.dat (PyData.int (bk.length : Int)), DV.dat (.str (("Book(" ++ Str.ofString (toString (bk.length : Int))) ++ " rounds)"))])) fun y u e => by
    rw [um_ne (fun z => by rw [z, hp] at e; cases e)]
    exact e
  generalize um M p (SO.lst [DV.raw (V.ref o), DV.dat (PyData.int (bk.length : Int)), DV.dat (.str (("Book(" ++ Str.ofString (toString (bk.length : Int))) ++ " rounds)"))]) = M2 at h2 ⊢
  unfold B_law_11
  refine ltM ?_
  unfold mForL
  walk_at "mwv"
  simp only [h2.ho]
  refine forGoL_inv (fun k δ M' => M' = M2 ∧ ∃ s14 s16 s17 s18, δ = env ms a o f v s3 s8 s9 s10 s11 s12 s13 s14 (some (.dat (.int (bk.length : Int)))) s16 s17 s18) (fun k δ M' hj => ?_) ⟨rfl, _, _, _, _, rfl⟩ (fun k r δk Mk hr hj N hN => ?_) fun δn Mn hj => ?_
  · obtain ⟨rfl, _⟩ := hj
    exact h2.ho
  · obtain ⟨rfl, t14, t16, t17, t18, rfl⟩ := hj
    rw [List.map_map] at hr
    obtain ⟨r', hr', rfl⟩ := List.mem_map.mp (List.mem_of_getElem? hr)
    exact each_ok hz h2 hn9 hr' fun u17 u18 => hN _ _ ⟨rfl, _, _, _, _, rfl⟩
  · obtain ⟨rfl, t14, t16, t17, t18, rfl⟩ := hj
    exact pp _ _ _ _ _ _ h2
theorem aftw {n : Nat} {fs : List (Str × V)} {s : Str} (hn : n ∈ ([4, 6, 8, 11, 14] : List Nat)) (hf : fs.lookup ("word" : Str) = some (.str s)) : aft n fs = some (.tuple [.none, .str s]) := by
  simp only [List.mem_cons, List.not_mem_nil, or_false] at hn
  rcases hn with rfl | rfl | rfl | rfl | rfl <;> (unfold aft; simp [hf, vD])
theorem gPut_fl {bk : List Rd} {x : Str} {r : Rd} (h : look bk x = none) (e : r.nm = x) : gPut (flOf bk) (.inr x) (.dat (.list (rowD r.fl))) = flOf (bk ++ [r]) :=
  gPut_map (β := Rd) (l := bk) (f := fun r => r.nm) (g := fun r => DV.dat (.list (rowD r.fl))) (x := x) (v := DV.dat (.list (rowD r.fl))) (r := r) (look_new h) e rfl
theorem gPut_wl {bk : List Rd} {x : Str} {r : Rd} (h : look bk x = none) (e : r.nm = x) : gPut (wlOf bk) (.inr x) (.dat (.list (r.st.map Stp.D))) = wlOf (bk ++ [r]) :=
  gPut_map (β := Rd) (l := bk) (f := fun r => r.nm) (g := fun r => DV.dat (.list (r.st.map Stp.D))) (x := x) (v := DV.dat (.list (r.st.map Stp.D))) (r := r) (look_new h) e rfl
theorem sg_ok {ms : List Int} {bk : List Rd} {s : Stp} (hn : ∀ r ∈ bk, Nm8 r.nm) (h : s.Ok ms bk) : Sg ms s := by
  cases s with
  | dd d => exact h
  | cl y n =>
    obtain ⟨⟨r, hr⟩, h9⟩ := h
    have := hn r (look_mem hr).1
    rw [(look_mem hr).2] at this
    exact ⟨this, h9⟩
theorem St.add {C : Addr} {M M2 : Mem} {a w l o f v : Addr} {ms : List Int} {bk : List Rd} {n : Nat} {x : Str} {ss : List Stp} (h : St C M a w l o f v ms bk n) (hx : Nm8 x) (hn : look bk x = none) (ho : ∀ s ∈ ss, s.Ok ms bk) (hl : (lay bk ss).length ≤ 200) (hs : ss.length ≤ 6) (hB : BookAt C M2 a w l ms (bk ++ [⟨x, ss, lay bk ss⟩])) :
    St C (um (um (um M2 f (.dic (gPut (flOf bk) (.inr x) (.dat (.list (rowD (lay bk ss))))))) v (.dic (gPut (wlOf bk) (.inr x) (.dat (.list (ss.map Stp.D)))))) o (.lst (((bk.map (·.nm)).map fun s => DV.dat (.str s)) ++ [dstr x]))) a w l o f v ms (bk ++ [⟨x, ss, lay bk ss⟩]) (n + 1) := by
  obtain ⟨oa, ow, ol, of_, ov, fa, va⟩ := h.oa
  refine ⟨⟨hB.aw, hB.al, hB.wl, ?_, ?_, ?_⟩, bks_new h.k hn ho hl, fun r hr => ?_, fun r hr => ?_, fun r hr => ?_, ?_, ?_, ?_, by rw [List.length_append]; exact Nat.succ_le_succ h.ln, h.fw, h.fl, h.vw, h.vl, h.fv⟩
  · rw [um_ne oa.symm, um_ne va.symm, um_ne fa.symm]; exact hB.ha
  · rw [um_ne ow.symm, um_ne h.vw.symm, um_ne h.fw.symm]; exact hB.hw
  · rw [um_ne ol.symm, um_ne h.vl.symm, um_ne h.fl.symm]; exact hB.hl
  · rcases List.mem_append.mp hr with z | z
    · exact h.nm r z
    · rw [List.mem_singleton.mp z]; exact hx
  · rcases List.mem_append.mp hr with z | z
    · exact h.sl r z
    · rw [List.mem_singleton.mp z]; exact hs
  · rcases List.mem_append.mp hr with z | z
    · exact h.so r z
    · rw [List.mem_singleton.mp z]
      exact fun s hs => sg_ok h.nm (ho s hs)
  · rw [um_ne of_.symm, um_ne h.fv, um_same]
    exact congrArg (fun z => some (SO.dic z)) (gPut_fl (r := ⟨x, ss, lay bk ss⟩) hn rfl)
  · rw [um_ne ov.symm, um_same]
    exact congrArg (fun z => some (SO.dic z)) (gPut_wl (r := ⟨x, ss, lay bk ss⟩) hn rfl)
  · rw [um_same, List.map_append, List.map_append]
    rfl
theorem frz_back {M : Mem} {p : Addr} {o : SO} (hp : M p = none) : (fun x => if x = p then none else um M p o x) = M := by
  funext x
  by_cases z : x = p
  · rw [if_pos z, z, hp]
  · rw [if_neg z, um_ne z]
theorem added_ok {M M1 : Mem} {a w l o f v : Addr} {ms : List Int} {bk : List Rd} {n : Nat} {x : Str} {ss : List Stp} {c : Cm} {D : MEd} {s3 s8 s11 s12 s13 s14 s15 s16 s17 s18 : Option DV} (h : St (c.fa 0) M a w l o f v ms bk n) (hx : Nm8 x) (hn : look bk x = none) (hok : ∀ s ∈ ss, s.Ok ms bk) (hl : (lay bk ss).length ≤ 200) (h6 : ss.length ≤ 6) (h9 : n ≤ 9)
    (hB : BookAt (c.fa 0) M1 a w l ms (bk ++ [⟨x, ss, lay bk ss⟩])) (hf1 : M1 f = some (.dic (flOf bk))) (hv1 : M1 v = some (.dic (wlOf bk))) (ho1 : M1 o = some (.lst ((bk.map (·.nm)).map fun s => .dat (.str s))))
    (pp : ∀ M' s13 s14, St (c.fa 0) M' a w l o f v ms (bk ++ [⟨x, ss, lay bk ss⟩]) (n + 1) → D.nx (env ms a o f v s3 s8 (some (dstr x)) (some (.dat (.list (ss.map Stp.D)))) s11 s12 s13 s14 s15 s16 s17 s18) M') :
    B_law_5 c (env ms a o f v s3 s8 (some (dstr x)) (some (.dat (.list (ss.map Stp.D)))) s11 s12 s13 s14 s15 s16 s17 s18) M1 D := by
  have hln := h.ln
  unfold B_law_5
  refine sqM ?_
  walk_at "mwv"
  intro p hp
  have nf : f ≠ p := fun z => by rw [z, hp] at hf1; cases hf1
  unfold B_law_4
  refine ltM (sqM ?_)
  walk_at "mwv"
  refine forGoM_inv (fun k δ M' => M' = um M1 p (.lst ((rowD (lay bk (ss.take k))).map .dat)) ∧ ∃ s14, δ = env ms a o f v s3 s8 (some (dstr x)) (some (.dat (.list (ss.map Stp.D)))) s11 s12 (some (.raw (.ref p))) s14 s15 s16 s17 s18) ⟨rfl, _, rfl⟩ (fun k d δk Mk hdk hj N hN => ?_) fun δn Mn hj => ?_
  · obtain ⟨rfl, t14, rfl⟩ := hj
    rw [List.getElem?_map] at hdk
    obtain ⟨s, hs, rfl⟩ := Option.map_eq_some_iff.mp hdk
    have hsm : s ∈ ss := List.mem_of_getElem? hs
    refine ⟨_, rfl, ?_⟩
    unfold B_law_1 mExtL
    walk_at "mwv"
    refine ⟨⟨_, um_same⟩, ?_⟩
    refine w_law_laid (by rw [um_ne nf]; exact hf1) h.k (hok s hsm) ?_
    simp only [um_same]
    have e := lay_take (bk := bk) hs
    have hle : (lay bk (ss.take (k + 1))).length ≤ (lay bk ss).length := by
      conv => rhs; rw [← List.take_append_drop (k + 1) ss]
      unfold lay
      rw [List.flatMap_append, List.length_append]
      omega
    rw [e, List.length_append] at hle
    have l1 : ∀ z : List Deed, (rowD z).length = z.length := fun z => List.length_map ..
    refine ⟨by rw [List.length_map, l1, l1]; omega, ?_⟩
    rw [um_um, ← List.map_append, ← rowD_app, ← e]
    exact hN _ _ ⟨rfl, _, rfl⟩
  · obtain ⟨rfl, t14, rfl⟩ := hj
    rw [List.length_map, List.take_length]
    unfold B_law_3
    refine nxM (sqM ?_)
    unfold mFrz
    simp only [List.getElem?_cons_succ, List.getElem?_cons_zero, um_same, dats_map, List.set_cons_succ, List.set_cons_zero, frz_back hp]
    walk_at "mwv"
    simp only [hf1, um_ne h.fv.symm, hv1]
    refine ⟨by rw [fl_len]; omega, by rw [wl_len]; omega, ?_⟩
    unfold B_law_2
    refine ltM ?_
    walk_at "mwv"
    obtain ⟨oa, ow, ol, of_, ov, fa, va⟩ := h.oa
    have ho2 : um (um M1 f (.dic (gPut (flOf bk) (.inr x) (.dat (.list (rowD (lay bk ss))))))) v (.dic (gPut (wlOf bk) (.inr x) (.dat (.list (ss.map Stp.D))))) o = some (.lst ((bk.map (·.nm)).map fun s => .dat (.str s))) := by
      rw [um_ne ov, um_ne of_]
      exact ho1
    simp only [ho2]
    exact ⟨⟨_, rfl⟩, by rw [List.length_map, List.length_map]; omega, pp _ _ _ (h.add hx hn hok hl h6 hB)⟩
theorem told_ok {M : Mem} {a w l o f v hd : Addr} {ms : List Int} {bk : List Rd} {n : Nat} {x : Str} {ss : List Sx} {c : Cm} {s3 s8 s10 s12 s13 s14 s15 s16 s17 s18 : Option DV} (hz : Sz ms) (h : St (c.fa 0) M a w l o f v ms bk n) (h9 : n ≤ 9) (hx : x ∈ bad4 ∨ Nm8 x ∧ x ∉ bad4) (hh : M hd = some (.lst (ss.map fun s => .dat s.D))) (ho : ∀ s ∈ ss, s.Ok ms bk) (h6 : ss.length ≤ 6) {K : MP}
    (kx : dueW bk x ss ≠ "" → K (.dat (.tuple [.none, .str (dueW bk x ss)])) M)
    (kn : dueW bk x ss = "" → ∀ M', BookAt (c.fa 0) M' a w l ms (bk ++ [⟨x, gds ss, lay bk (gds ss)⟩]) → (∀ y, y ≠ w → y ≠ l → M' y = M y) → K (.dat (.tuple [.none, .str ""])) M') :
    mToldP aft (mMeth 0 "write" W_Book_write (mVar 4) (mCons (mLft lftP (dVar 9)) (mCons (mVar 11) mNil))) c (env ms a o f v s3 s8 (some (dstr x)) s10 (some (.raw (.ref hd))) s12 s13 s14 s15 s16 s17 s18) M K := by
  have hln := h.ln
  unfold mToldP
  walk_at "mwv"
  simp only [h.b.ins]
  refine ⟨bkm (show (("write" : Str) == "held_sizes" || (("write" : Str) == "written" || ("write" : Str) == "laid")) = false by decide), ?_⟩
  have hb : BookAt ((⟨fun s fs M' => ∃ d, aft s fs = some d ∧ K (.dat d) M', c.fa⟩ : Cm).fa 0) M a w l ms bk := h.b
  refine w_book_writeS hb hz h.k hx hh (zz_no h.nm) ho (by omega) (by omega) (fun e => ?_) (fun e M' hB hf => ?_)
  · exact fun n fs hn hfs => ⟨_, aftw hn hfs, kx e⟩
  · exact kn e M' hB hf
theorem lay_nw {d : Str} (h : PyData.canLay0 (.str d) = true) : Lay 1 (.tuple [.none, .str d]) := lay_tup fun z hz => by
  simp only [List.mem_cons, List.not_mem_nil, or_false] at hz
  rcases hz with rfl | rfl
  · exact lay_non
  · exact lay_str h
theorem fw_cl : ∀ {ss : List Sx}, PyData.canLay0 (.str (fw ss)) = true
  | [] => by show PyData.canLay0 (.str "") = true; decide +kernel
  | s :: ss => by
    show PyData.canLay0 (.str (if s.w = "" then fw ss else s.w)) = true
    split
    · exact fw_cl
    · exact w_cl
theorem due_cl {bk : List Rd} {x : Str} {ss : List Sx} : PyData.canLay0 (.str (dueW bk x ss)) = true := by
  unfold dueW
  split
  · decide +kernel
  split
  · decide +kernel
  split
  · exact fw_cl
  split <;> decide +kernel
theorem due_no {bk : List Rd} {x : Str} {ss : List Sx} (h : dueW bk x ss = "") : x ∉ bad4 ∧ look bk x = none ∧ fw ss = "" ∧ (lay bk (gds ss)).length ≤ 200 := by
  unfold dueW at h
  split at h
  · exact absurd h (by decide +kernel)
  split at h
  · exact absurd h (by decide +kernel)
  split at h
  · rename_i z
    exact absurd h z
  split at h
  · exact absurd h (by decide +kernel)
  rename_i h1 h2 h3 h4
  refine ⟨h1, ?_, Decidable.byContradiction h3, by omega⟩
  cases z : look bk x with
  | none => rfl
  | some r => rw [z] at h2; exact absurd rfl h2
theorem St.up {C : Addr} {M : Mem} {a w l o f v : Addr} {ms : List Int} {bk : List Rd} {n : Nat} (h : St C M a w l o f v ms bk n) : St C M a w l o f v ms bk (n + 1) :=
  ⟨h.b, h.k, h.nm, h.sl, h.so, h.hf, h.hv, h.ho, Nat.le_succ_of_le h.ln, h.fw, h.fl, h.vw, h.vl, h.fv⟩
theorem St.off {C : Addr} {M : Mem} {a w l o f v hd : Addr} {ms : List Int} {bk : List Rd} {n : Nat} {xs : List DV} {so : SO} (h : St C M a w l o f v ms bk n) (hh : M hd = some (.lst xs)) (hdo : hd ≠ o) : St C (um M hd so) a w l o f v ms bk n := by
  have hne : ∀ {y : Addr} {kvs : List (Key × DV)}, M y = some (.dic kvs) → y ≠ hd := fun e z => by rw [← z, e] at hh; cases hh
  have ha' : a ≠ hd := fun z => by rw [← z, h.b.ha] at hh; cases hh
  exact ⟨⟨h.b.aw, h.b.al, h.b.wl, by rw [um_ne ha']; exact h.b.ha, by rw [um_ne (hne h.b.hw)]; exact h.b.hw, by rw [um_ne (hne h.b.hl)]; exact h.b.hl⟩, h.k, h.nm, h.sl, h.so, by rw [um_ne (hne h.hf)]; exact h.hf, by rw [um_ne (hne h.hv)]; exact h.hv, by rw [um_ne hdo.symm]; exact h.ho, h.ln, h.fw, h.fl, h.vw, h.vl, h.fv⟩
theorem write_ok {M : Mem} {a w l o f v hd : Addr} {ms : List Int} {bk : List Rd} {n : Nat} {x : Str} {ss : List Sx} {c : Cm} {D : MEd} {s3 s8 s13 s14 s15 s16 s17 s18 : Option DV} (hz : Sz ms) (h : St (c.fa 0) M a w l o f v ms bk n) (h9 : n < 9) (hx : x ∈ bad4 ∨ Nm8 x ∧ x ∉ bad4) (hh : M hd = some (.lst (ss.map fun s => .dat s.D))) (ho : ∀ s ∈ ss, s.Ok ms bk) (h6 : ss.length ≤ 6) (hdo : hd ≠ o)
    (pp : ∀ M' bk' s13 s14 s15 s16 s17 s18, St (c.fa 0) M' a w l o f v ms bk' (n + 1) → D.nx (env ms a o f v s3 s8 (some (dstr x)) (some (.dat (.list (ss.map Sx.D)))) (some (.raw (.ref hd))) (some (dstr (dueW bk x ss))) s13 s14 s15 s16 s17 s18) M') :
    laterM B_law_16 c D (env ms a o f v s3 s8 (some (dstr x)) (some (.dat (.list (ss.map Sx.D)))) (some (.raw (.ref hd))) (some (dstr (dueW bk x ss))) s13 s14 s15 s16 s17 s18) M := by
  have ly := lay_nw (due_cl (bk := bk) (x := x) (ss := ss))
  have sc0 : SeqAt.shaped (.str "") = true := (lay_str (n := 0) (show PyData.canLay0 (.str "") = true by decide +kernel)).sh (by decide)
  have scd : SeqAt.shaped (.str (dueW bk x ss)) = true := (lay_str (n := 0) due_cl).sh (by decide)
  have lss : Lay 2 (.list (ss.map Sx.D)) := lay_list fun z hz => by
    obtain ⟨s, hs, rfl⟩ := List.mem_map.mp hz
    exact sx_lay h.nm (ho s hs)
  have hne : ∀ {y : Addr} {kvs : List (Key × DV)}, M y = some (.dic kvs) → hd ≠ y := fun e z => by rw [z, e] at hh; cases hh
  -- the list handed in is as it was
  have cmp : ∀ {M' : Mem} {K : Prop}, M' hd = some (.lst (ss.map fun s => .dat s.D)) → K → (SeqAt.shaped (.list (ss.map Sx.D)) = true ∧ SeqAt.shaped (.list (ss.map Sx.D)) = true) ∧ K := fun _ k => ⟨⟨lss.sh (by decide), lss.sh (by decide)⟩, k⟩
  have vwl : ∀ {M' : Mem}, M' hd = some (.lst (ss.map fun s => .dat s.D)) → vw M' (.raw (.ref hd)) = .bor (ss.map Sx.D) := fun e => by
    unfold vw
    simp only [e, dats_of]
  unfold B_law_16
  refine ltM (sqM ?_)
  unfold mIfS mOr mTst
  show mToldP aft _ c (env ms a o f v s3 s8 (some (dstr x)) (some (.dat (.list (ss.map Sx.D)))) (some (.raw (.ref hd))) (some (dstr (dueW bk x ss))) s13 s14 s15 s16 s17 s18) M _
  refine told_ok hz h (by omega) hx hh ho h6 (fun e => ?_) (fun e M' hB hf => ?_)
  · walk_at "mwv"
    refine ⟨⟨ly.sh (by decide), ly.sh (by decide)⟩, ?_⟩
    rw [eqv_self (n := 1) ly.1]
    simp only [dbl, Bool.not_true, Bool.false_eq_true, if_false]
    walk_at "mwv"
    simp only [vwl hh]
    walk_at "mwv"
    refine ⟨⟨lss.sh (by decide), lss.sh (by decide)⟩, ?_⟩
    rw [eqv_self (n := 2) lss.1]
    simp only [dbl, Bool.not_true, Bool.false_eq_true, if_false]
    unfold B_law_15
    refine ltM (sqM ?_)
    walk_at "mwv"
    simp only [hh]
    refine ⟨⟨_, rfl⟩, by rw [List.length_map]; omega, ?_⟩
    have h2 := h.off (so := .lst (ss.map (fun s => DV.dat s.D) ++ [.dat (.tuple [])])) hh hdo
    unfold B_law_14
    refine ltM (sqM ?_)
    walk_at "mwv"
    refine ⟨⟨scd, sc0⟩, ?_⟩
    rw [eqv_ss, show decide (dueW bk x ss = Str.ofString "") = false from decide_eq_false e]
    walk_at "mwv"
    exact after_ok hz h2 (by omega) fun M3 t14 t15 t16 t17 t18 h3 => pp _ _ _ _ _ _ _ _ h3.up
  · have hw' := hne h.b.hw
    have hl' := hne h.b.hl
    have hh2 : M' hd = some (.lst (ss.map fun s => .dat s.D)) := by rw [hf hd hw' hl']; exact hh
    obtain ⟨nb, nl, nf, n200⟩ := due_no e
    have hx8 : Nm8 x := by
      rcases hx with z | z
      · exact absurd z nb
      · exact z.1
    walk_at "mwv"
    refine ⟨⟨(lay_nw (show PyData.canLay0 (.str "") = true by decide +kernel)).sh (by decide), ly.sh (by decide)⟩, ?_⟩
    rw [show PyData.eqv (.tuple [.none, .str ""]) (.tuple [.none, .str (dueW bk x ss)]) = true from by rw [e]; exact eqv_self (n := 1) (lay_nw (show PyData.canLay0 (.str "") = true by decide +kernel)).1]
    simp only [dbl, Bool.not_true, Bool.false_eq_true, if_false]
    walk_at "mwv"
    simp only [vwl hh2]
    walk_at "mwv"
    refine ⟨⟨lss.sh (by decide), lss.sh (by decide)⟩, ?_⟩
    rw [eqv_self (n := 2) lss.1]
    simp only [dbl, Bool.not_true, Bool.false_eq_true, if_false]
    unfold B_law_15
    refine ltM (sqM ?_)
    walk_at "mwv"
    simp only [hh2]
    refine ⟨⟨_, rfl⟩, by rw [List.length_map]; omega, ?_⟩
    unfold B_law_14
    refine ltM (sqM ?_)
    walk_at "mwv"
    refine ⟨⟨scd, sc0⟩, ?_⟩
    rw [eqv_ss, show decide (dueW bk x ss = Str.ofString "") = true from decide_eq_true e]
    walk_at "mwv"
    have hgs := fw_all nf
    have eD : ss.map Sx.D = (gds ss).map Stp.D := by
      conv => lhs; rw [hgs]
      rw [List.map_map]
      rfl
    have hg6 : (gds ss).length ≤ 6 := Nat.le_trans (List.length_filterMap_le _ _) h6
    have ha' : hd ≠ a := fun z => by rw [z, h.b.ha] at hh; cases hh
    have hfd := hne h.hf
    have hvd := hne h.hv
    obtain ⟨oa, ow, ol, of_, ov, fa, va⟩ := h.oa
    rw [eD] at pp ⊢
    refine added_ok h hx8 nl (gds_ok ho) n200 hg6 (by omega) ⟨hB.aw, hB.al, hB.wl, ?_, ?_, ?_⟩ ?_ ?_ ?_ fun M2 t13 t14 h2 => after_ok hz h2 (by omega) fun M3 u14 u15 u16 u17 u18 h3 => pp _ _ _ _ _ _ _ _ h3
    · rw [um_ne ha'.symm]; exact hB.ha
    · rw [um_ne hw'.symm]; exact hB.hw
    · rw [um_ne hl'.symm]; exact hB.hl
    · rw [um_ne hfd.symm, hf f h.fw h.fl]; exact h.hf
    · rw [um_ne hvd.symm, hf v h.vw h.vl]; exact h.hv
    · rw [um_ne hdo.symm, hf o ow ol]; exact h.ho
theorem lcM_rel {α β : Type} {step : α → Mem → (Option DV → Mem → Prop) → Prop} {M : Mem} {R : β → Prop} (g : β → DV) : ∀ {l : List α} {P : List DV → Mem → Prop},
    (∀ x ∈ l, ∀ k : Option DV → Mem → Prop, (∀ y, R y → k (some (g y)) M) → step x M k) → (∀ ys : List β, ys.length = l.length → (∀ y ∈ ys, R y) → P (ys.map g) M) → lcGoM step l M P
  | [], P, _, hP => hP [] rfl fun y hy => by cases hy
  | x :: l, P, h, hP => by
    show step x M _
    refine h x (List.mem_cons_self ..) _ fun y hy => ?_
    refine lcM_rel g (fun z hz => h z (List.mem_cons_of_mem _ hz)) fun ys hl hr => ?_
    refine hP (y :: ys) (by rw [List.length_cons, List.length_cons, hl]) fun z hz => ?_
    rcases List.mem_cons.mp hz with rfl | hz
    · exact hy
    · exact hr z hz
theorem nm8_bad {x : Str} (h : Nm8 x) : x ∉ bad4 := fun z => by
  simp only [bad4, List.mem_cons, List.not_mem_nil, or_false] at z
  rcases z with rfl | rfl | rfl | rfl
  · exact absurd h.1 (by decide +kernel)
  · exact absurd (h.2.2 65 (by decide +kernel)) (by decide +kernel)
  · exact absurd h.2.1 (by decide +kernel)
  · exact absurd (h.2.2 32 (by decide +kernel)) (by decide +kernel)
theorem nd1_step {ms : List Int} {bk : List Rd} {s : Sx} (h : s.Ok ms bk) : nd1 s.D = true := by
  have hi : ∀ ns : List Int, (ns.map PyData.int).all flD = true := fun ns => by
    rw [List.all_map, List.all_eq_true]
    intro i _
    rfl
  cases s with
  | g st =>
    cases st with
    | dd d =>
      show ((PyData.str d.w :: d.ns.map .int).all flD) = true
      rw [List.all_cons, hi]
      rfl
    | cl y n => rfl
  | b d =>
    have h : d ∈ odd5 := h
    simp only [odd5, List.mem_cons, List.not_mem_nil, or_false] at h
    rcases h with rfl | rfl | rfl | rfl | rfl <;> rfl
  | z => rfl
theorem turn_ok {M : Mem} {a w l o f v : Addr} {ms : List Int} {bk : List Rd} {n : Nat} {ns : List Str} {c : Cm} {D : MEd} {s8 s9 s10 s11 s12 s13 s14 s15 s16 s17 s18 : Option DV} (hz : Sz ms) (hn6 : ns.length = 6) (hns : ∀ x ∈ ns, Nm8 x) (h : St (c.fa 0) M a w l o f v ms bk n) (h9 : n < 9)
    (pp : ∀ M' bk' s9 s10 s11 s12 s13 s14 s15 s16 s17 s18, St (c.fa 0) M' a w l o f v ms bk' (n + 1) → D.nx (env ms a o f v (some (.dat (.list (ns.map .str)))) s8 s9 s10 s11 s12 s13 s14 s15 s16 s17 s18) M') :
    B_law_20 c (env ms a o f v (some (.dat (.list (ns.map .str)))) s8 s9 s10 s11 s12 s13 s14 s15 s16 s17 s18) M D := by
  have hln := h.ln
  unfold B_law_20
  refine sqM ?_
  walk_at "mwv"
  refine w_pick (by simp) (by simp) fun d hd => ?_
  walk_at "mwv"
  refine ⟨by rw [List.length_map]; omega, ?_⟩
  refine w_pick (by simp) (by simp; omega) fun e he => ?_
  walk_at "mwv"
  have hx : ∃ x, e = .str x ∧ (x ∈ bad4 ∨ Nm8 x ∧ x ∉ bad4) := by
    rcases List.mem_append.mp he with z | z
    · obtain ⟨x, hx, rfl⟩ := List.mem_map.mp z
      exact ⟨x, rfl, .inr ⟨hns x hx, nm8_bad (hns x hx)⟩⟩
    · rw [List.mem_singleton.mp z]
      simp only [List.mem_cons, List.not_mem_nil, or_false] at hd
      rcases hd with rfl | rfl | rfl | rfl <;> exact ⟨_, rfl, .inl (by simp [bad4])⟩
  obtain ⟨x, rfl, hx⟩ := hx
  unfold B_law_19
  refine ltM (sqM ?_)
  walk_at "mwv"
  refine ⟨fun v hv => by rw [List.mem_singleton.mp hv]; rfl, ?_⟩
  refine w_take ⟨by omega, by omega⟩ fun i i0 i1 => ?_
  walk_at "mwv"
  have hrl : (rangeD 0 i.toNat).length = i.toNat := rangeD_len ..
  refine ⟨⟨by omega, by omega⟩, by omega, ?_⟩
  refine lcM_rel (R := fun s : Sx => s.Ok ms bk) (fun s => .dat s.D) (fun d hd K hK => ?_) fun ss hl hss => ?_
  · unfold lcStepM mLendT
    walk_at "mwv"
    have eL : [DV.bag, DV.dat (nums ms), DV.raw (V.ref o)].map (lendM M) = [.bag, .dat (nums ms), .dat (.list (bk.map fun r => .str r.nm))] := by
      rw [List.map_cons, List.map_cons, List.map_cons, lendM_at h.ho (dats_strs _), List.map_map]
      rfl
    rw [eL]
    refine ⟨rfl, ?_⟩
    refine w_law_step hz (by omega) h.k.nd h.nm fun s hs => ?_
    exact ⟨nd1_step hs, hK s hs⟩
  rw [dats_of]
  dsimp only
  have h6 : ss.length ≤ 6 := by omega
  unfold B_law_18
  refine ltM (sqM ?_)
  walk_at "mwv"
  unfold alcP
  intro hd hp
  have hdo : hd ≠ o := fun z => by have e := h.ho; rw [← z, hp] at e; cases e
  have h2 := h.keep (M' := um M hd (.lst ((ss.map Sx.D).map .dat))) fun y u e => by
    rw [um_ne (fun z => by rw [z, hp] at e; cases e)]
    exact e
  have hh : um M hd (.lst ((ss.map Sx.D).map .dat)) hd = some (.lst (ss.map fun s => .dat s.D)) := by rw [um_same, List.map_map]; rfl
  unfold B_law_17
  refine ltM (sqM ?_)
  walk_at "mwv"
  refine w_law_due h2.hf h2.k (zz_no h.nm) h.nm hx (by omega) h6 hss ?_
  exact write_ok hz h2 h9 hx hh hss h6 hdo fun M3 bk3 t13 t14 t15 t16 t17 t18 h3 => pp _ _ _ _ _ _ _ _ _ _ _ _ h3
theorem loop_ok {M : Mem} {a w l o f v : Addr} {ms : List Int} {ns : List Str} {c : Cm} {D : MEd} {k : Nat} {s8 s9 s10 s11 s12 s13 s14 s15 s16 s17 s18 : Option DV} (hz : Sz ms) (hn6 : ns.length = 6) (hns : ∀ x ∈ ns, Nm8 x) (h : St (c.fa 0) M a w l o f v ms [] 0) (hk : k ≤ 9)
    (hD : ∀ M' bk n s8 s9 s10 s11 s12 s13 s14 s15 s16 s17 s18, St (c.fa 0) M' a w l o f v ms bk n → D.nx (env ms a o f v (some (.dat (.list (ns.map .str)))) s8 s9 s10 s11 s12 s13 s14 s15 s16 s17 s18) M') :
    forGoM c (tfName 8) B_law_20 D (rangeD 0 k) (env ms a o f v (some (.dat (.list (ns.map .str)))) s8 s9 s10 s11 s12 s13 s14 s15 s16 s17 s18) M := by
  refine forGoM_inv (fun j δ M' => ∃ bk s8 s9 s10 s11 s12 s13 s14 s15 s16 s17 s18, δ = env ms a o f v (some (.dat (.list (ns.map .str)))) s8 s9 s10 s11 s12 s13 s14 s15 s16 s17 s18 ∧ St (c.fa 0) M' a w l o f v ms bk j) ⟨_, _, _, _, _, _, _, _, _, _, _, _, rfl, h⟩ (fun j d δj Mj hdj hj N hN => ?_) (fun δn Mn hj => ?_)
  · obtain ⟨bk, t8, t9, t10, t11, t12, t13, t14, t15, t16, t17, t18, rfl, hS⟩ := hj
    obtain ⟨hj1, rfl⟩ := rangeD_at hdj
    refine ⟨_, rfl, ?_⟩
    exact turn_ok hz hn6 hns hS (by omega) fun M' bk' u9 u10 u11 u12 u13 u14 u15 u16 u17 u18 h' => hN _ _ ⟨_, _, _, _, _, _, _, _, _, _, _, _, rfl, h'⟩
  · obtain ⟨bk, t8, t9, t10, t11, t12, t13, t14, t15, t16, t17, t18, rfl, hS⟩ := hj
    exact hD _ _ _ _ _ _ _ _ _ _ _ _ _ _ hS
theorem law_holds (fa : Nat → Addr) : D_law ⟨fun _ _ _ => False, fa⟩ (none :: some .bag :: List.replicate 19 none) (fun _ => none) ⟨fun _ _ => False, fun r _ => r = dbl true, fun _ _ => False, fun _ _ => False⟩ := by
  unfold D_law B_law_25
  walk_at "mwv"
  refine w_any_sizes fun ms hz => ?_
  walk_at "mwv"
  unfold B_law_24
  walk_at "myv"
  refine w_law_names fun ns hn6 hns => ?_
  walk_at "mwv"
  unfold B_law_23
  walk_at "myv"
  intro a _
  refine w_book_init (c := ⟨fun _ _ _ => False, fa⟩) hz um_same fun M1 w l hB hw hl hf => ⟨rfl, fun q hq v hv o ho => ?_⟩
  have nq : ∀ {y u}, M1 y = some u → y ≠ q := fun e z => by rw [z, hq] at e; cases e
  have k1 : ∀ y u, M1 y = some u → um M1 q (.dic []) y = some u := fun y u e => by rw [um_ne (nq e)]; exact e
  have nv : ∀ {y u}, um M1 q (.dic []) y = some u → y ≠ v := fun e z => by rw [z, hv] at e; cases e
  have k2 : ∀ y u, um M1 q (.dic []) y = some u → um (um M1 q (.dic [])) v (.dic []) y = some u := fun y u e => by rw [um_ne (nv e)]; exact e
  have no : ∀ {y u}, um (um M1 q (.dic [])) v (.dic []) y = some u → y ≠ o := fun e z => by rw [z, ho] at e; cases e
  have k3 : ∀ y u, um (um M1 q (.dic [])) v (.dic []) y = some u → um (um (um M1 q (.dic [])) v (.dic [])) o (.lst []) y = some u := fun y u e => by rw [um_ne (no e)]; exact e
  have eq0 : um M1 q (.dic []) q = some (.dic []) := um_same
  have ev0 : um (um M1 q (.dic [])) v (.dic []) v = some (.dic []) := um_same
  have hS : St ((⟨fun _ _ _ => False, fa⟩ : Cm).fa 0) (um (um (um M1 q (.dic [])) v (.dic [])) o (.lst [])) a w l o q v ms [] 0 :=
    ⟨⟨hB.aw, hB.al, hB.wl, k3 _ _ (k2 _ _ (k1 _ _ hB.ha)), k3 _ _ (k2 _ _ (k1 _ _ hB.hw)), k3 _ _ (k2 _ _ (k1 _ _ hB.hl))⟩, ⟨List.nodup_nil, (fun r hr => by cases hr), (fun r hr => by cases hr)⟩, (fun r hr => by cases hr), (fun r hr => by cases hr), (fun r hr => by cases hr), k3 _ _ (k2 _ _ eq0), k3 _ _ ev0, um_same, Nat.le_refl _,
      (nq hB.hw).symm, (nq hB.hl).symm, (nv (k1 _ _ hB.hw)).symm, (nv (k1 _ _ hB.hl)).symm, nv eq0⟩
  unfold B_law_22
  refine ltM (sqM ?_)
  walk_at "mwv"
  refine w_take ⟨by omega, by omega⟩ fun i i0 i1 => ?_
  walk_at "mwv"
  refine ⟨⟨by omega, by omega⟩, ?_⟩
  refine loop_ok hz hn6 hns hS (by omega) fun M' bk n t8 t9 t10 t11 t12 t13 t14 t15 t16 t17 t18 h' => ?_
  refine nxM ?_
  unfold B_law_21
  walk_at "mwv"
  simp only [h'.b.ins]
  refine ⟨bkm (show (("sizes" : Str) == "held_sizes" || (("sizes" : Str) == "written" || ("sizes" : Str) == "laid")) = false by decide), ?_⟩
  unfold W_Book_sizes D_Book_sizes B_Book_sizes_0
  walk_at "mwv"
  simp only [h'.b.ins, bk_s]
  walk_at "mwv"
  have ln : Lay 1 (nums ms) := lay_list fun d hd => by
    obtain ⟨i, _, rfl⟩ := List.mem_map.mp hd
    exact lay_int
  refine ⟨⟨ln.sh (by decide), ln.sh (by decide)⟩, ?_⟩
  rw [eqv_self (n := 1) ln.1]
end Lw
namespace Lw
open PySem PySem.Spec PyProof.Rows L2 DL DW DM
section
variable {P : Program} {w : World} {K : PySem.W.Frag} {mg : Str → Option Value} {base : Heap}
def spLawT (K : PySem.W.Frag) (P : Addr) : Sp := fun vs H Q _ => ∃ (a : Addr) (ns : List Int), vs = [.ref a] ∧ SqL K H a (ns.map V.int) ∧ ns.length ≤ 63 ∧ H P = some (.tbl #[]) ∧ ∀ H', Q (.bl true) H'
theorem ok_law (T : Top K mg w) (TB : LamX.TabB base mg T.k_law T.P_law) : FnOk P w K mg base CX0 9 T.a_law T.fd_law ["_law_script"] (spLawT K T.P_law) := by
  have G_law_open := ok_law_open (P := P) (w := w) (base := base) T
  have G_law_any_sizes := ok_law_any_sizes (P := P) (w := w) (base := base) T
  have G_law_names := ok_law_names (P := P) (w := w) (base := base) T
  have G_law_take := ok_law_take (P := P) (w := w) (base := base) T
  have G_law_pick := ok_law_pick (P := P) (w := w) (base := base) T
  have G_law_due := ok_law_due (P := P) (w := w) (base := base) T
  have G_law_step := ok_law_step (P := P) (w := w) (base := base) T
  have G_law_same := ok_law_same (P := P) (w := w) (base := base) T 6
  have G_law_laid := ok_law_laid (P := P) (w := w) (base := base) T
  have G_Book_init := ok_Book_init (P := P) (w := w) (base := base) T
  have G_Book_sizes := ok_Book_sizes (P := P) (w := w) (base := base) T
  have G_Book_steps := ok_Book_steps (P := P) (w := w) (base := base) T
  have G_Book_flat := ok_Book_flat (P := P) (w := w) (base := base) T
  have G_Book_callers := ok_Book_callers (P := P) (w := w) (base := base) T
  have G_Book_names := ok_Book_names (P := P) (w := w) (base := base) T
  have G_Book_len := ok_Book_len (P := P) (w := w) (base := base) T
  have G_Book_repr := ok_Book_repr (P := P) (w := w) (base := base) T
  have G_Book_write := ok_Book_write (P := P) (w := w) (base := base) T
  obtain ⟨oc, od, kV, dc, pm, an, ct, osl, efd, lk, hcd⟩ := T.L_law
  rw [efd] at lk ⊢
  refine fn_of lk hcd sc_law (fun vs H Q E h => ?_) (fun A outer s H vs Q E hr h => ?_)
  · obtain ⟨a, ns, rfl, _⟩ := h
    rfl
  · obtain ⟨a, ns, rfl, hS, hlen, hP, q⟩ := h
    obtain ⟨u, j1, j2⟩ : XSs (cxOf CX0 P w K mg base N_law "law" (defScope s_law) T.a_law (.ref T.k_law) A outer s H E).nox ⟨21, fun _ _ _ => False, T.cls, T.fa, fun t => t = tabs_lam T⟩ (defBody s_law).tail (mSeq (mAsg 2 (mLft lftP (dCall W_law_any_sizes (dCons (dVar 1) dNil))))
    (mSeq (mAsg 3 (mLft lftP (dCall W_law_names (dCons (dVar 1) (dCons (dC (dint 6)) dNil)))))
    (mSeq (mParG [4, 5, 6, 7] (mCons (mMake 0 W_Book_init (mCons (mLft lftP (dVar 2)) mNil)) (mCons mDNew (mCons mDNew (mCons (mLstM mNil) mNil)))))
    (mSeq (mFor (mLftI (dIRg1 (dCons (dCall W_take (dCons (dVar 1) (dCons (dC (dint 10)) dNil))) dNil))) (tfName 8) (mSeq (mAsg 9 (mLft lftP (dCall W_law_pick (dCons (dVar 1) (dCons (dBin oAdd (dVar 3) (dLst (dCons (dCall W_law_pick (dCons (dVar 1) (dCons (dLst (dCons (dC (dstr "")) (dCons (dC (dstr "A")) (dCons (dC (dstr "abcdefghi")) (dCons (dC (dstr "a b")) dNil))))) dNil))) dNil))) dNil)))))
    (mSeq (mAsg 10 (mLc .dat (mLftI (dIRg1 (dCons (dCall W_take (dCons (dVar 1) (dCons (dC (dint 7)) dNil))) dNil))) (tfName 19) mYes (mLendT W_law_step (mCons (mLft lftP (dVar 1)) (mCons (mLft lftP (dVar 2)) (mCons (mVar 7) mNil)))) [19]))
    (mSeq (mAsg 11 (mLft alcP (dCb bList (dCons (dVar 10) dNil))))
    (mSeq (mAsg 12 (mCall W_law_due (mCons (mLft lftP (dVar 2)) (mCons (mVar 5) (mCons (mLft lftP (dVar 9)) (mCons (mLft lftP (dVar 10)) mNil))))))
    (mSeq (mIfS (mOr (mTst (mBin (mo lftP (oEq true)) (mToldP aft (mMeth 0 "write" W_Book_write (mVar 4) (mCons (mLft lftP (dVar 9)) (mCons (mVar 11) mNil)))) (mLft lftP (dTup (dCons (dC (.dat .none)) (dCons (dVar 12) dNil)))))) (mTst (mBin (mo lftP (oEq true)) (mVar 11) (mLft lftP (dVar 10))))) (mRet (mLft lftP (dC (dbl false)))) mNext)
    (mSeq (mExpr (mApp (mVar 11) (mLft lftP (dTup dNil))))
    (mSeq (mIfS (mLftT (dTst (dBin (oEq false) (dVar 12) (dC (dstr ""))))) (mSeq (mAsg 13 (mLstM mNil))
    (mSeq (mFor (mLftI (dISeq (dVar 10))) (tfName 14) (mExpr (mExtL (mVar 13) (mCall W_law_laid (mCons (mVar 5) (mCons (mLft lftP (dVar 14)) mNil))))))
    (mSeq (mFrz 13 (mAsgGs (mGPut (mVar 5) (mLft lftP (dVar 9)) :: (mGPut (mVar 6) (mLft lftP (dVar 9)) :: [])) (mCons (mLft lftP (dVar 13)) (mCons (mLft lftP (dVar 10)) mNil))))
    (mExpr (mApp (mVar 7) (mLft lftP (dVar 9))))))) mNext)
    (mSeq (mAsg 15 (mCb cLenD (mCons (mVar 7) mNil)))
    (mSeq (mIfS (mNot (mTst (mLendD (W_law_same 6) (mCons (mLstD (mCons (mMeth 0 "names" W_Book_names (mVar 4) mNil) (mCons (mLenO 0 W_Book_len (mCons (mVar 4) mNil)) (mCons (mTxtO 0 W_Book_repr (mCons (mVar 4) mNil)) mNil)))) (mCons (mLstM (mCons (mVar 7) (mCons (mLft lftP (dVar 15)) (mCons (mLft lftP (dBin oAdd (dBin oAdd (dC (dstr "Book(")) (dCb bStr (dCons (dVar 15) dNil))) (dC (dstr " rounds)")))) mNil)))) mNil))))) (mRet (mLft lftP (dC (dbl false)))) mNext)
    (mForL (mVar 7) 16 (mSeq (mFgt 14 (mAsg 17 (mLcL .dat (mVar 7) 20 (mTst (mBin (mo lftP (oIn false)) (mLft lftP (dTup (dCons (dC (dstr "call")) (dCons (dVar 16) dNil)))) (mLc .dat (mISeq (mBin oDGet (mVar 6) (mLft lftP (dVar 20)))) (tfName 14) mYes (mLft lftP (dSl (dVar 14) dNone (dSome (dC (dint 2))))) [14]))) (mLft lftP (dVar 20)) [20])))
    (mSeq (mAsg 18 (mLstD (mCons (mMeth 0 "steps" W_Book_steps (mVar 4) (mCons (mLft lftP (dVar 16)) mNil)) (mCons (mMethK 0 "flat" W_Book_flat [0, 1] (mVar 4) mNil (mCons (mLft lftP (dVar 16)) mNil)) (mCons (mMeth 0 "callers" W_Book_callers (mVar 4) (mCons (mLft lftP (dVar 16)) mNil)) mNil)))))
    (mIfS (mNot (mTst (mCallW lftP (W_law_same 6) (mCons (mLft lftP (dVar 18)) (mCons (mLstD (mCons (mBin oDGet (mVar 6) (mLft lftP (dVar 16))) (mCons (mBin oDGet (mVar 5) (mLft lftP (dVar 16))) (mCons (mLft lftP (dVar 17)) mNil)))) mNil))))) (mRet (mLft lftP (dC (dbl false)))) mNext))))))))))))))
    (mRet (mBin (mo lftP (oEq false)) (mMeth 0 "sizes" W_Book_sizes (mVar 4) mNil) (mLft lftP (dVar 2)))))))) := (xss_cons (xs_set sc_law.nd rfl (ltr rfl) (xe_lft (je_call G_law_any_sizes (hr.mono (by omega)) (by rfl) T.g_law_any_sizes T.F_law_any_sizes.kp T.b_law_any_sizes passE0 (ja_cons (je_var (pv 1)) ja_nil))) (fun _ h => ps_set (i := 2) sc_law.nd rfl (by first | exact Or.inl rfl | exact Or.inr rfl) h))
      (xss_cons (xs_set sc_law.nd rfl (ltr rfl) (xe_lft (je_call G_law_names (hr.mono (by omega)) (by rfl) T.g_law_names T.F_law_names.kp T.b_law_names passE0 (ja_cons (je_var (pv 1)) (ja_cons je_int ja_nil)))) (fun _ h => ps_set (i := 3) sc_law.nd rfl (by first | exact Or.inl rfl | exact Or.inr rfl) h))
      (xss_cons (xs_parG (is := [4, 5, 6, 7]) (by decide) (by simp) (xa_cons (xe_make T.Mk_Book_ G_Book_init (hr.mono (by omega)) (by rfl) T.g_Book_ T.b_Book_init passE0 (fun _ _ => True.intro) (xa_cons (xe_lft (je_var (pv 2))) xa_nil)) (xa_cons xe_dnew (xa_cons xe_dnew (xa_cons (xe_lstM xa_nil) xa_nil)))) (fun _ h => ps_asg (TF.pe_tupF h) (pg_tup rfl (pgs_cons (pg_name (i := 4) sc_law.nd rfl (by first | exact Or.inl rfl | exact Or.inr rfl)) (pgs_cons (pg_name (i := 5) sc_law.nd rfl (by first | exact Or.inl rfl | exact Or.inr rfl)) (pgs_cons (pg_name (i := 6) sc_law.nd rfl (by first | exact Or.inl rfl | exact Or.inr rfl)) (pgs_cons (pg_name (i := 7) sc_law.nd rfl (by first | exact Or.inl rfl | exact Or.inr rfl)) pgs_nil)))))))
      (xss_cons (xs_for (xi_lft (ji_rg1 (by rfl) T.m_range (ja_cons (je_call G_law_take (hr.mono (by omega)) (by rfl) T.g_law_take T.F_law_take.kp T.b_law_take passE0 (ja_cons (je_var (pv 1)) (ja_cons je_int ja_nil))) ja_nil))) to_name tm_name (jg_name (i := 8) (pg_name (i := 8) sc_law.nd rfl (by first | exact Or.inl rfl | exact Or.inr rfl)) (ltr rfl)) (xss_cons (xs_set sc_law.nd rfl (ltr rfl) (xe_lft (je_call G_law_pick (hr.mono (by omega)) (by rfl) T.g_law_pick T.F_law_pick.kp T.b_law_pick passE0 (ja_cons (je_var (pv 1)) (ja_cons (je_op (jo_add T.kl) (je_var (pv 3)) (je_lst (ja_cons (je_call G_law_pick (hr.mono (by omega)) (by rfl) T.g_law_pick T.F_law_pick.kp T.b_law_pick passE0 (ja_cons (je_var (pv 1)) (ja_cons (je_lst (ja_cons je_str (ja_cons je_str (ja_cons je_str (ja_cons je_str ja_nil))))) ja_nil))) ja_nil))) ja_nil)))) (fun _ h => ps_set (i := 9) sc_law.nd rfl (by first | exact Or.inl rfl | exact Or.inr rfl) h))
      (xss_cons (xs_setLc (i := 10) (own := [("_law_k", 19)]) rfl sc_law.nd rfl rfl (sw_true rfl rfl rfl (by decide +kernel)) (ltr rfl) (xi_lft (ji_rg1 (by rfl) T.m_range (ja_cons (je_call G_law_take (hr.mono (by omega)) (by rfl) T.g_law_take T.F_law_take.kp T.b_law_take passE0 (ja_cons (je_var (pv 1)) (ja_cons je_int ja_nil))) ja_nil))) (blkOk_by (own := [("_law_k", 19)]) (N := N_law) (sc := defScope s_law) (by decide +kernel)) to_name tm_name (fun _ => (jg_name (i := 19) (pg_name (i := 19) sc_law.nd rfl (by first | exact Or.inl rfl | exact Or.inr rfl)) (ltr rfl))) (by decide) (fun _ => xts_nil) (fun _ => (xe_lendT G_law_step (hr.mono (by omega)) (by rfl) T.g_law_step T.F_law_step.kp T.b_law_step passE0 (xa_cons (xe_lft (je_var (pv 1))) (xa_cons (xe_lft (je_var (pv 2))) (xa_cons (xe_var (pv 7)) xa_nil))))))
      (xss_cons (xs_set sc_law.nd rfl (ltr rfl) (xe_alc (je_callT (jb_list rfl) (by rfl) T.m_list (by decide +kernel) (ja_cons (je_var (pv 10)) ja_nil))) (fun _ h => ps_set (i := 11) sc_law.nd rfl (by first | exact Or.inl rfl | exact Or.inr rfl) h))
      (xss_cons (xs_set sc_law.nd rfl (ltr rfl) (xe_call G_law_due (hr.mono (by omega)) (by rfl) T.g_law_due T.F_law_due.kp T.b_law_due passE0 (fun _ _ => True.intro) (xa_cons (xe_lft (je_var (pv 2))) (xa_cons (xe_var (pv 5)) (xa_cons (xe_lft (je_var (pv 9))) (xa_cons (xe_lft (je_var (pv 10))) xa_nil))))) (fun _ h => ps_set (i := 12) sc_law.nd rfl (by first | exact Or.inl rfl | exact Or.inr rfl) h))
      (xss_cons (xs_if (xt_w (xw_or (xt_cmp (xop_of fin_lft (jo_ne hr.units)) (xe_lamP (k := 6) (fun t hb => pe_law_word (k := 6) T TB rfl rfl rfl rfl rfl (by rfl) (hr.mono (by omega)) (LamX.lamS_by (sc := defScope s_law) (by decide +kernel)) rfl (fun _ _ _ _ _ => rfl) hb) (fun _ h => h) (aft_ok T) (fun A outer s H E f c' hr2 => (xe_meth T.K_Book_ T.M_Book_write_ G_Book_write (hr2.mono (by omega)) T.b_Book_write passLamJ (fun _ _ => True.intro) (xe_var (pv 4)) (xa_cons (xe_lft (je_var (pv 9))) (xa_cons (xe_var (pv 11)) xa_nil))))) (xe_lft (je_tup (ja_cons je_non (ja_cons (je_var (pv 12)) ja_nil)))) (nomark _)) (xw_or1 (xt_cmp (xop_of fin_lft (jo_ne hr.units)) (xe_var (pv 11)) (xe_lft (je_var (pv 10))) (nomark _))))) (xss_one (xs_ret (xe_lft je_bl))) xss_nil)
      (xss_cons (xs_expr (xe_app (xe_var (pv 11)) (xe_lft (je_tup ja_nil)) (fun _ _ h1 h2 => pe_bm PySem.F.plainAttrs_list PySem.F.slot_list_append PySem.F.type_list_append mt_append h1 (pa_cons h2 pa_nil))))
      (xss_cons (xs_if (xt_lft (jt_cmp (jo_eq hr.units) (je_var (pv 12)) je_str (nomark _))) (xss_cons (xs_set sc_law.nd rfl (ltr rfl) (xe_lstM xa_nil) (fun _ h => ps_set (i := 13) sc_law.nd rfl (by first | exact Or.inl rfl | exact Or.inr rfl) h))
      (xss_cons (xs_for (xi_lft (ji_seq (je_var (pv 10)))) to_name tm_name (jg_name (i := 14) (pg_name (i := 14) sc_law.nd rfl (by first | exact Or.inl rfl | exact Or.inr rfl)) (ltr rfl)) (xss_one (xs_expr (xe_extL (xe_var (pv 13)) (xe_call G_law_laid (hr.mono (by omega)) (by rfl) T.g_law_laid T.F_law_laid.kp T.b_law_laid passE0 (fun _ _ => True.intro) (xa_cons (xe_var (pv 5)) (xa_cons (xe_lft (je_var (pv 14))) xa_nil))) (fun _ _ h1 h2 => pe_bm PySem.F.plainAttrs_list PySem.F.slot_list_extend PySem.F.type_list_extend TF.mt_extendL h1 (pa_cons h2 pa_nil))))) (fun _ _ _ h1 h2 h3 => ps_for PassesOwn.never rfl h1 h2 h3))
      (xss_cons (xs_frz 13 (xs_asgGs (by decide) (xgs_cons (xg_put (units1 hr) (xe_var (pv 5)) (xe_lft (je_var (pv 9)))) (xgs_cons (xg_put (units1 hr) (xe_var (pv 6)) (xe_lft (je_var (pv 9)))) xgs_nil)) rfl (xa_cons (xe_lft (je_var (pv 13))) (xa_cons (xe_lft (je_var (pv 10))) xa_nil)) (fun _ _ h h2 => ps_asg (TF.pe_tupF h) (pg_tup rfl h2))))
      (xss_one (xs_expr (xe_app (xe_var (pv 7)) (xe_lft (je_var (pv 9))) (fun _ _ h1 h2 => pe_bm PySem.F.plainAttrs_list PySem.F.slot_list_append PySem.F.type_list_append mt_append h1 (pa_cons h2 pa_nil)))))))) xss_nil)
      (xss_cons (xs_set sc_law.nd rfl (ltr rfl) (xe_callB xc_len (by rfl) T.m_len PySem.boot_len (xa_cons (xe_var (pv 7)) xa_nil)) (fun _ h => ps_set (i := 15) sc_law.nd rfl (by first | exact Or.inl rfl | exact Or.inr rfl) h))
      (xss_cons (xs_if (xt_not (xt_val (xe_lendD G_law_same (hr.mono (by omega)) (by rfl) T.g_law_same T.F_law_same.kp T.b_law_same passE0 (xa_cons (xe_lstD (xa_cons (xe_meth0 T.K_Book_ T.M_Book_names_ G_Book_names (hr.mono (by omega)) T.b_Book_names passE0 (fun _ _ => True.intro) (xe_var (pv 4))) (xa_cons (xe_lenO T.M_Book_len_ G_Book_len (hr.mono (by omega)) T.b_Book_len passE0 (fun _ _ => True.intro) (by rfl) T.m_len PySem.boot_len (xa_cons (xe_var (pv 4)) xa_nil)) (xa_cons (xe_reprO T.M_Book_repr_ G_Book_repr (hr.mono (by omega)) T.b_Book_repr passE0 (fun _ _ => True.intro) (by rfl) T.m_repr (by decide +kernel) (xa_cons (xe_var (pv 4)) xa_nil)) xa_nil)))) (xa_cons (xe_lstM (xa_cons (xe_var (pv 7)) (xa_cons (xe_lft (je_var (pv 15))) (xa_cons (xe_lft (je_op (jo_add T.kl) (je_op (jo_add T.kl) je_str (je_callT jb_str (by rfl) T.m_str (by decide +kernel) (ja_cons (je_var (pv 15)) ja_nil))) je_str)) xa_nil)))) xa_nil))))) (xss_one (xs_ret (xe_lft je_bl))) xss_nil)
      (xss_one (xs_forL (i := 16) (ltr rfl) (xe_var (pv 7)) (pg_name (i := 16) sc_law.nd rfl (by first | exact Or.inl rfl | exact Or.inr rfl)) (xss_cons (xs_fgt 14 (xs_setLcL (j := 17) (own := [("_law_there", 20)]) rfl sc_law.nd rfl rfl (sw_true rfl rfl rfl (by decide +kernel)) (ltr rfl) (xe_var (pv 7)) (blkOk_by (own := [("_law_there", 20)]) (N := N_law) (sc := defScope s_law) (by decide +kernel)) (ltr rfl) (by decide) (fun _ => (pg_name (i := 20) sc_law.nd rfl (by first | exact Or.inl rfl | exact Or.inr rfl))) (fun _ => (xts_one (xt_cmp (xop_of fin_lft (jo_in (units65 hr))) (xe_lft (je_tup (ja_cons je_str (ja_cons (je_var (pv 16)) ja_nil)))) (xe_lc (own := [("_law_mstep", 14)]) rfl sc_law.nd (xi_seq (xe_dget (units1 hr) (xe_var (pv 6)) (xe_lft (je_var (pv 20))) (fun _ _ => rfl))) (blkOk_by (own := [("_law_mstep", 14)]) (N := N_law) (by rfl)) to_name tm_name (fun _ => (jg_name (i := 14) (pg_name (i := 14) sc_law.nd rfl (by first | exact Or.inl rfl | exact Or.inr rfl)) (ltr rfl))) (by decide) (fun _ => xts_nil) (fun _ => (xe_lft (je_sl (je_var (pv 14)) jo_none (jo_some je_int))))) (by rfl)))) (fun _ => (xe_lft (je_var (pv 20))))))
      (xss_cons (xs_set sc_law.nd rfl (ltr rfl) (xe_lstD (xa_cons (xe_meth T.K_Book_ T.M_Book_steps_ G_Book_steps (hr.mono (by omega)) T.b_Book_steps passE0 (fun _ _ => True.intro) (xe_var (pv 4)) (xa_cons (xe_lft (je_var (pv 16))) xa_nil)) (xa_cons (xe_methK0 (is := [0, 1]) T.K_Book_ T.M_Book_flat_ G_Book_flat (hr.mono (by omega)) (B_Book_flat_1_name T) passE0 (fun _ _ => True.intro) (xe_var (pv 4)) (xk_cons (xe_lft (je_var (pv 16))) xk_nil)) (xa_cons (xe_meth T.K_Book_ T.M_Book_callers_ G_Book_callers (hr.mono (by omega)) T.b_Book_callers passE0 (fun _ _ => True.intro) (xe_var (pv 4)) (xa_cons (xe_lft (je_var (pv 16))) xa_nil)) xa_nil)))) (fun _ h => ps_set (i := 18) sc_law.nd rfl (by first | exact Or.inl rfl | exact Or.inr rfl) h))
      (xss_one (xs_if (xt_not (xt_val (xe_callW fin_lft G_law_same (hr.mono (by omega)) (by rfl) T.g_law_same T.F_law_same.kp T.b_law_same passE0 (xa_cons (xe_lft (je_var (pv 18))) (xa_cons (xe_lstD (xa_cons (xe_dget (units1 hr) (xe_var (pv 6)) (xe_lft (je_var (pv 16))) (fun _ _ => rfl)) (xa_cons (xe_dget (units1 hr) (xe_var (pv 5)) (xe_lft (je_var (pv 16))) (fun _ _ => rfl)) (xa_cons (xe_lft (je_var (pv 17))) xa_nil)))) xa_nil))))) (xss_one (xs_ret (xe_lft je_bl))) xss_nil)))) (fun _ _ _ h1 h2 h3 => ps_for PassesOwn.never rfl h1 h2 h3)))))))))))) (fun _ _ _ h1 h2 h3 => ps_for PassesOwn.never rfl h1 h2 h3))
      (xss_one (xs_ret (xe_cmp (xop_of fin_lft (jo_eq hr.units)) (xe_meth0 T.K_Book_ T.M_Book_sizes_ G_Book_sizes (hr.mono (by omega)) T.b_Book_sizes passE0 (fun _ _ => True.intro) (xe_var (pv 4))) (xe_lft (je_var (pv 2))) (nomark _))))))))
    refine ⟨_, PSs.nox (C8.pss_cut (ps_set (i := 1) sc_law.nd rfl (by first | exact Or.inl rfl | exact Or.inr rfl) (pe_call G_law_open (hr.mono (by omega)) (by rfl) T.g_law_open T.F_law_open.kp T.b_law_open .nil pass0 (pa_cons (pv 0) pa_nil))) j1), ?_⟩
    refine ⟨fun σ' H' => ∃ b l ms, σ' = [some (.ref a), some (.ref b), none, none, none, none, none, none, none, none, none, none, none, none, none, none, none, none, none, none, none] ∧ b ≠ l ∧ H' b = some (.lst [.ref l, .int 0, .int 0, .int 9465, .int 0]) ∧ H' l = some (.lst (ms.map V.int)) ∧ H' T.P_law = some (.tbl #[]), ⟨.ref a, rfl, a, ns, rfl, hS, fun b l ms H1 keep nbl hb hl => ⟨b, l, ms, rfl, nbl, hb, hl, keep _ _ hP⟩⟩, ?_⟩
    rintro σ1 H1 ⟨b, l, ms, rfl, nbl, hb, hl, hP⟩
    obtain ⟨I, k, n⟩ := bag_start (K := K) (n := 19) (T := tabs_lam T) nbl hb hl (fun p hp => by
      rcases List.mem_cons.mp hp with e | e
      · rw [e]
        exact LamX.TabS.nil hP
      · cases e) (σ := [some (.ref a), some (.ref b), none, none, none, none, none, none, none, none, none, none, none, none, none, none, none, none, none, none, none]) rfl rfl
    exact law_m j2 k n rfl rfl (c := ⟨fun _ _ _ => False, T.fa⟩) rfl (fun _ _ _ h => h) rfl (law_holds T.fa) q
end
theorem hfacts {l : PySem.W.OpenLaw} {w : World} {K : PySem.W.Frag} {h : Heap} {mg : Str → Option Value} {f : Addr} (X : K.In h) (G : h.Ns mainGlobals mg) (hfa0 : mg ("law" : Str) = some (.ref f)) (c : He.SaysX hfa hfn hts htf hex w h K) : LamX.LawAtS l w K CX0 9 63 "_law_script" mg f h := by
  have m0 : hex K = true := c.more
  unfold hex at m0
  obtain ⟨x0, m1⟩ := He.ba m0
  obtain ⟨x1, m2⟩ := He.ba m1
  obtain ⟨x2, m3⟩ := He.ba m2
  obtain ⟨x3, m4⟩ := He.ba m3
  obtain ⟨x4, m5⟩ := He.ba m4
  obtain ⟨x5, m6⟩ := He.ba m5
  obtain ⟨x6, m7⟩ := He.ba m6
  obtain ⟨x7, m8⟩ := He.ba m7
  obtain ⟨x8, m9⟩ := He.ba m8
  obtain ⟨x9, m10⟩ := He.ba m9
  obtain ⟨x10, m11⟩ := He.ba m10
  obtain ⟨fd_look_sizes, FD_look_sizes⟩ := c.t.d.def_ 0 (d := HX.dd "look_sizes" "look_sizes" s_look_sizes) rfl
  have F_look_sizes : Fun K "look_sizes" "look_sizes" s_look_sizes (He.ga K "look_sizes") fd_look_sizes := HX.fun_of FD_look_sizes
  obtain ⟨fd_fault_place, FD_fault_place⟩ := c.t.d.def_ 1 (d := HX.dd "fault_place" "fault_place" s_fault_place) rfl
  have F_fault_place : Fun K "fault_place" "fault_place" s_fault_place (He.ga K "fault_place") fd_fault_place := HX.fun_of FD_fault_place
  obtain ⟨fd_length_fits, FD_length_fits⟩ := c.t.d.def_ 2 (d := HX.dd "length_fits" "length_fits" s_length_fits) rfl
  have F_length_fits : Fun K "length_fits" "length_fits" s_length_fits (He.ga K "length_fits") fd_length_fits := HX.fun_of FD_length_fits
  obtain ⟨fd_swap_fault, FD_swap_fault⟩ := c.t.d.def_ 3 (d := HX.dd "swap_fault" "swap_fault" s_swap_fault) rfl
  have F_swap_fault : Fun K "swap_fault" "swap_fault" s_swap_fault (He.ga K "swap_fault") fd_swap_fault := HX.fun_of FD_swap_fault
  obtain ⟨fd_cask_fault, FD_cask_fault⟩ := c.t.d.def_ 4 (d := HX.dd "cask_fault" "cask_fault" s_cask_fault) rfl
  have F_cask_fault : Fun K "cask_fault" "cask_fault" s_cask_fault (He.ga K "cask_fault") fd_cask_fault := HX.fun_of FD_cask_fault
  obtain ⟨fd_Book_init, FD_Book_init⟩ := c.t.d.def_ 5 (d := dmth "Book" "__init__" "Book.__init__" s_Book_init) rfl
  have F_Book_init : Fun K "__init__" "Book.__init__" s_Book_init (He.ma K (He.ga K "Book") "__init__") fd_Book_init := HX.fun_of FD_Book_init
  obtain ⟨fd_is_name, FD_is_name⟩ := c.t.d.def_ 6 (d := HX.dd "is_name" "is_name" s_is_name) rfl
  have F_is_name : Fun K "is_name" "is_name" s_is_name (He.ga K "is_name") fd_is_name := HX.fun_of FD_is_name
  obtain ⟨fd_step_fault, FD_step_fault⟩ := c.t.d.def_ 7 (d := HX.dd "step_fault" "step_fault" s_step_fault) rfl
  have F_step_fault : Fun K "step_fault" "step_fault" s_step_fault (He.ga K "step_fault") fd_step_fault := HX.fun_of FD_step_fault
  obtain ⟨fd_calls, FD_calls⟩ := c.t.d.def_ 8 (d := HX.dd "calls" "calls" s_calls) rfl
  have F_calls : Fun K "calls" "calls" s_calls (He.ga K "calls") fd_calls := HX.fun_of FD_calls
  obtain ⟨fd_law_open, FD_law_open⟩ := c.t.d.def_ 9 (d := HX.dd "_law_open" "_law_open" s_law_open) rfl
  have F_law_open : Fun K "_law_open" "_law_open" s_law_open (He.ga K "_law_open") fd_law_open := HX.fun_of FD_law_open
  obtain ⟨fd_law_take, FD_law_take⟩ := c.t.d.def_ 10 (d := HX.dd "_law_take" "_law_take" s_law_take) rfl
  have F_law_take : Fun K "_law_take" "_law_take" s_law_take (He.ga K "_law_take") fd_law_take := HX.fun_of FD_law_take
  obtain ⟨fd_law_pick, FD_law_pick⟩ := c.t.d.def_ 11 (d := HX.dd "_law_pick" "_law_pick" s_law_pick) rfl
  have F_law_pick : Fun K "_law_pick" "_law_pick" s_law_pick (He.ga K "_law_pick") fd_law_pick := HX.fun_of FD_law_pick
  obtain ⟨fd_law_same, FD_law_same⟩ := c.t.d.def_ 12 (d := HX.dd "_law_same" "_law_same" s_law_same) rfl
  have F_law_same : Fun K "_law_same" "_law_same" s_law_same (He.ga K "_law_same") fd_law_same := HX.fun_of FD_law_same
  obtain ⟨fd_law_word, FD_law_word⟩ := c.t.d.def_ 13 (d := HX.dd "_law_word" "_law_word" s_law_word) rfl
  have F_law_word : Fun K "_law_word" "_law_word" s_law_word (He.ga K "_law_word") fd_law_word := HX.fun_of FD_law_word
  obtain ⟨fd_law_sizes, FD_law_sizes⟩ := c.t.d.def_ 14 (d := HX.dd "_law_sizes" "_law_sizes" s_law_sizes) rfl
  have F_law_sizes : Fun K "_law_sizes" "_law_sizes" s_law_sizes (He.ga K "_law_sizes") fd_law_sizes := HX.fun_of FD_law_sizes
  obtain ⟨fd_law_any_sizes, FD_law_any_sizes⟩ := c.t.d.def_ 15 (d := HX.dd "_law_any_sizes" "_law_any_sizes" s_law_any_sizes) rfl
  have F_law_any_sizes : Fun K "_law_any_sizes" "_law_any_sizes" s_law_any_sizes (He.ga K "_law_any_sizes") fd_law_any_sizes := HX.fun_of FD_law_any_sizes
  obtain ⟨fd_law_number, FD_law_number⟩ := c.t.d.def_ 16 (d := HX.dd "_law_number" "_law_number" s_law_number) rfl
  have F_law_number : Fun K "_law_number" "_law_number" s_law_number (He.ga K "_law_number") fd_law_number := HX.fun_of FD_law_number
  obtain ⟨fd_law_shuffled, FD_law_shuffled⟩ := c.t.d.def_ 17 (d := HX.dd "_law_shuffled" "_law_shuffled" s_law_shuffled) rfl
  have F_law_shuffled : Fun K "_law_shuffled" "_law_shuffled" s_law_shuffled (He.ga K "_law_shuffled") fd_law_shuffled := HX.fun_of FD_law_shuffled
  obtain ⟨fd_law_some_casks, FD_law_some_casks⟩ := c.t.d.def_ 18 (d := HX.dd "_law_some_casks" "_law_some_casks" s_law_some_casks) rfl
  have F_law_some_casks : Fun K "_law_some_casks" "_law_some_casks" s_law_some_casks (He.ga K "_law_some_casks") fd_law_some_casks := HX.fun_of FD_law_some_casks
  obtain ⟨fd_law_alike, FD_law_alike⟩ := c.t.d.def_ 19 (d := HX.dd "_law_alike" "_law_alike" s_law_alike) rfl
  have F_law_alike : Fun K "_law_alike" "_law_alike" s_law_alike (He.ga K "_law_alike") fd_law_alike := HX.fun_of FD_law_alike
  obtain ⟨fd_law_deed, FD_law_deed⟩ := c.t.d.def_ 20 (d := HX.dd "_law_deed" "_law_deed" s_law_deed) rfl
  have F_law_deed : Fun K "_law_deed" "_law_deed" s_law_deed (He.ga K "_law_deed") fd_law_deed := HX.fun_of FD_law_deed
  obtain ⟨fd_law_names, FD_law_names⟩ := c.t.d.def_ 21 (d := HX.dd "_law_names" "_law_names" s_law_names) rfl
  have F_law_names : Fun K "_law_names" "_law_names" s_law_names (He.ga K "_law_names") fd_law_names := HX.fun_of FD_law_names
  obtain ⟨fd_law_step, FD_law_step⟩ := c.t.d.def_ 22 (d := HX.dd "_law_step" "_law_step" s_law_step) rfl
  have F_law_step : Fun K "_law_step" "_law_step" s_law_step (He.ga K "_law_step") fd_law_step := HX.fun_of FD_law_step
  obtain ⟨fd_law_step_word, FD_law_step_word⟩ := c.t.d.def_ 23 (d := HX.dd "_law_step_word" "_law_step_word" s_law_step_word) rfl
  have F_law_step_word : Fun K "_law_step_word" "_law_step_word" s_law_step_word (He.ga K "_law_step_word") fd_law_step_word := HX.fun_of FD_law_step_word
  obtain ⟨fd_law_laid, FD_law_laid⟩ := c.t.d.def_ 24 (d := HX.dd "_law_laid" "_law_laid" s_law_laid) rfl
  have F_law_laid : Fun K "_law_laid" "_law_laid" s_law_laid (He.ga K "_law_laid") fd_law_laid := HX.fun_of FD_law_laid
  obtain ⟨fd_law_due, FD_law_due⟩ := c.t.d.def_ 25 (d := HX.dd "_law_due" "_law_due" s_law_due) rfl
  have F_law_due : Fun K "_law_due" "_law_due" s_law_due (He.ga K "_law_due") fd_law_due := HX.fun_of FD_law_due
  obtain ⟨fd_law, FD_law⟩ := c.t.d.def_ 26 (d := HX.dd "law" "law" s_law) rfl
  have F_law : Fun K "law" "law" s_law (He.ga K "law") fd_law := HX.fun_of FD_law
  obtain ⟨fd_Book_write, FD_Book_write⟩ := c.t.d.def_ 27 (d := dmth "Book" "write" "Book.write" s_Book_write) rfl
  have F_Book_write : Fun K "write" "Book.write" s_Book_write (He.ma K (He.ga K "Book") "write") fd_Book_write := HX.fun_of FD_Book_write
  obtain ⟨fd_Book_steps, FD_Book_steps⟩ := c.t.d.def_ 28 (d := dmth "Book" "steps" "Book.steps" s_Book_steps) rfl
  have F_Book_steps : Fun K "steps" "Book.steps" s_Book_steps (He.ma K (He.ga K "Book") "steps") fd_Book_steps := HX.fun_of FD_Book_steps
  obtain ⟨fd_Book_flat, FD_Book_flat⟩ := c.t.d.def_ 29 (d := dmth "Book" "flat" "Book.flat" s_Book_flat) rfl
  have F_Book_flat : Fun K "flat" "Book.flat" s_Book_flat (He.ma K (He.ga K "Book") "flat") fd_Book_flat := HX.fun_of FD_Book_flat
  obtain ⟨fd_Book_callers, FD_Book_callers⟩ := c.t.d.def_ 30 (d := dmth "Book" "callers" "Book.callers" s_Book_callers) rfl
  have F_Book_callers : Fun K "callers" "Book.callers" s_Book_callers (He.ma K (He.ga K "Book") "callers") fd_Book_callers := HX.fun_of FD_Book_callers
  obtain ⟨fd_Book_names, FD_Book_names⟩ := c.t.d.def_ 31 (d := dmth "Book" "names" "Book.names" s_Book_names) rfl
  have F_Book_names : Fun K "names" "Book.names" s_Book_names (He.ma K (He.ga K "Book") "names") fd_Book_names := HX.fun_of FD_Book_names
  obtain ⟨fd_Book_sizes, FD_Book_sizes⟩ := c.t.d.def_ 32 (d := dmth "Book" "sizes" "Book.sizes" s_Book_sizes) rfl
  have F_Book_sizes : Fun K "sizes" "Book.sizes" s_Book_sizes (He.ma K (He.ga K "Book") "sizes") fd_Book_sizes := HX.fun_of FD_Book_sizes
  obtain ⟨fd_Book_look_fresh, FD_Book_look_fresh⟩ := c.t.d.def_ 33 (d := dmth "Book" "look_fresh" "Book.look_fresh" s_Book_look_fresh) rfl
  have F_Book_look_fresh : Fun K "look_fresh" "Book.look_fresh" s_Book_look_fresh (He.ma K (He.ga K "Book") "look_fresh") fd_Book_look_fresh := HX.fun_of FD_Book_look_fresh
  obtain ⟨fd_Book_look_written, FD_Book_look_written⟩ := c.t.d.def_ 34 (d := dmth "Book" "look_written" "Book.look_written" s_Book_look_written) rfl
  have F_Book_look_written : Fun K "look_written" "Book.look_written" s_Book_look_written (He.ma K (He.ga K "Book") "look_written") fd_Book_look_written := HX.fun_of FD_Book_look_written
  obtain ⟨fd_Book_look_steps, FD_Book_look_steps⟩ := c.t.d.def_ 35 (d := dmth "Book" "look_steps" "Book.look_steps" s_Book_look_steps) rfl
  have F_Book_look_steps : Fun K "look_steps" "Book.look_steps" s_Book_look_steps (He.ma K (He.ga K "Book") "look_steps") fd_Book_look_steps := HX.fun_of FD_Book_look_steps
  obtain ⟨fd_Book_count_deeds, FD_Book_count_deeds⟩ := c.t.d.def_ 36 (d := dmth "Book" "count_deeds" "Book.count_deeds" s_Book_count_deeds) rfl
  have F_Book_count_deeds : Fun K "count_deeds" "Book.count_deeds" s_Book_count_deeds (He.ma K (He.ga K "Book") "count_deeds") fd_Book_count_deeds := HX.fun_of FD_Book_count_deeds
  obtain ⟨fd_Book_lay_out, FD_Book_lay_out⟩ := c.t.d.def_ 37 (d := dmth "Book" "lay_out" "Book.lay_out" s_Book_lay_out) rfl
  have F_Book_lay_out : Fun K "lay_out" "Book.lay_out" s_Book_lay_out (He.ma K (He.ga K "Book") "lay_out") fd_Book_lay_out := HX.fun_of FD_Book_lay_out
  obtain ⟨fd_Book_len, FD_Book_len⟩ := c.t.d.def_ 38 (d := dmth "Book" "__len__" "Book.__len__" s_Book_len) rfl
  have F_Book_len : Fun K "__len__" "Book.__len__" s_Book_len (He.ma K (He.ga K "Book") "__len__") fd_Book_len := HX.fun_of FD_Book_len
  obtain ⟨fd_Book_repr, FD_Book_repr⟩ := c.t.d.def_ 39 (d := dmth "Book" "__repr__" "Book.__repr__" s_Book_repr) rfl
  have F_Book_repr : Fun K "__repr__" "Book.__repr__" s_Book_repr (He.ma K (He.ga K "Book") "__repr__") fd_Book_repr := HX.fun_of FD_Book_repr
  obtain ⟨fdi_BadSizes, FDi_BadSizes⟩ := c.t.d.def_ 40 (d := HX.di "BadSizes" "BadSizes.__init__" si_BadSizes) rfl
  have Fi_BadSizes : Fun K "__init__" "BadSizes.__init__" si_BadSizes (He.ma K (He.ga K "BadSizes") "__init__") fdi_BadSizes := HX.fun_of FDi_BadSizes
  have W_BadSizes := HX.clsX_ok x3
  obtain ⟨fdi_BadRow, FDi_BadRow⟩ := c.t.d.def_ 41 (d := HX.di "BadRow" "BadRow.__init__" si_BadRow) rfl
  have Fi_BadRow : Fun K "__init__" "BadRow.__init__" si_BadRow (He.ma K (He.ga K "BadRow") "__init__") fdi_BadRow := HX.fun_of FDi_BadRow
  have W_BadRow := HX.clsX_ok x4
  obtain ⟨fdi_BadName, FDi_BadName⟩ := c.t.d.def_ 42 (d := HX.di "BadName" "BadName.__init__" si_BadName) rfl
  have Fi_BadName : Fun K "__init__" "BadName.__init__" si_BadName (He.ma K (He.ga K "BadName") "__init__") fdi_BadName := HX.fun_of FDi_BadName
  have W_BadName := HX.clsN_ok x5
  obtain ⟨fdi_Taken, FDi_Taken⟩ := c.t.d.def_ 43 (d := HX.di "Taken" "Taken.__init__" si_Taken) rfl
  have Fi_Taken : Fun K "__init__" "Taken.__init__" si_Taken (He.ma K (He.ga K "Taken") "__init__") fdi_Taken := HX.fun_of FDi_Taken
  have W_Taken := HX.clsX_ok x6
  obtain ⟨fdi_TooLong, FDi_TooLong⟩ := c.t.d.def_ 44 (d := HX.di "TooLong" "TooLong.__init__" si_TooLong) rfl
  have Fi_TooLong : Fun K "__init__" "TooLong.__init__" si_TooLong (He.ma K (He.ga K "TooLong") "__init__") fdi_TooLong := HX.fun_of FDi_TooLong
  have W_TooLong := HX.clsX_ok x7
  obtain ⟨fdi_TooMany, FDi_TooMany⟩ := c.t.d.def_ 45 (d := HX.di "TooMany" "TooMany.__init__" si_TooMany) rfl
  have Fi_TooMany : Fun K "__init__" "TooMany.__init__" si_TooMany (He.ma K (He.ga K "TooMany") "__init__") fdi_TooMany := HX.fun_of FDi_TooMany
  have W_TooMany := HX.clsX_ok x8
  obtain ⟨fdi_NoRound, FDi_NoRound⟩ := c.t.d.def_ 46 (d := HX.di "NoRound" "NoRound.__init__" si_NoRound) rfl
  have Fi_NoRound : Fun K "__init__" "NoRound.__init__" si_NoRound (He.ma K (He.ga K "NoRound") "__init__") fdi_NoRound := HX.fun_of FDi_NoRound
  have W_NoRound := HX.clsN_ok x9
  obtain ⟨fdi_NothingLeft, FDi_NothingLeft⟩ := c.t.d.def_ 47 (d := HX.di "NothingLeft" "NothingLeft.__init__" si_NothingLeft) rfl
  have Fi_NothingLeft : Fun K "__init__" "NothingLeft.__init__" si_NothingLeft (He.ma K (He.ga K "NothingLeft") "__init__") fdi_NothingLeft := HX.fun_of FDi_NothingLeft
  have W_NothingLeft := HX.clsN_ok x10
  have e := hfa0.symm.trans (He.glo_ok X G (c.t.d.fact 25 (f := .glo "law") rfl))
  cases e
  obtain ⟨oc_law, od_law, kV_law, doc_law, pm_law, an_law, cdv_law, ct_law, osl_law, efd_law, lk_law, hcd_law⟩ := F_law.ex
  obtain ⟨kc_law, ekc_law⟩ := He.codeIn_ref hcd_law
  subst ekc_law
  have ec_law : He.codeOf K ("law", none) = kc_law := He.codeOf_eq lk_law (by rw [efd_law])
  let T : Top K mg w := {
    a_look_sizes := (He.ga K "look_sizes"),
    fd_look_sizes := fd_look_sizes,
    F_look_sizes := F_look_sizes,
    g_look_sizes := He.glo_ok X G (c.t.d.fact 0 (f := .glo "look_sizes") rfl),
    b_look_sizes := F_look_sizes.binds (ps := ["sizes"]) (fun _ _ _ _ _ _ us hl => match us, hl with | [_], _ => rfl),
    a_fault_place := (He.ga K "fault_place"),
    fd_fault_place := fd_fault_place,
    F_fault_place := F_fault_place,
    g_fault_place := He.glo_ok X G (c.t.d.fact 1 (f := .glo "fault_place") rfl),
    b_fault_place := F_fault_place.binds (ps := ["sizes", "deed"]) (fun _ _ _ _ _ _ us hl => match us, hl with | [_, _], _ => rfl),
    a_length_fits := (He.ga K "length_fits"),
    fd_length_fits := fd_length_fits,
    F_length_fits := F_length_fits,
    g_length_fits := He.glo_ok X G (c.t.d.fact 2 (f := .glo "length_fits") rfl),
    b_length_fits := F_length_fits.binds (ps := ["sizes", "deed"]) (fun _ _ _ _ _ _ us hl => match us, hl with | [_, _], _ => rfl),
    a_swap_fault := (He.ga K "swap_fault"),
    fd_swap_fault := fd_swap_fault,
    F_swap_fault := F_swap_fault,
    g_swap_fault := He.glo_ok X G (c.t.d.fact 3 (f := .glo "swap_fault") rfl),
    b_swap_fault := F_swap_fault.binds (ps := ["sizes", "deed"]) (fun _ _ _ _ _ _ us hl => match us, hl with | [_, _], _ => rfl),
    a_cask_fault := (He.ga K "cask_fault"),
    fd_cask_fault := fd_cask_fault,
    F_cask_fault := F_cask_fault,
    g_cask_fault := He.glo_ok X G (c.t.d.fact 4 (f := .glo "cask_fault") rfl),
    b_cask_fault := F_cask_fault.binds (ps := ["sizes", "deed", "start"]) (fun _ _ _ _ _ _ us hl => match us, hl with | [_, _, _], _ => rfl),
    a_Book_init := (He.ma K (He.ga K "Book") "__init__"),
    fd_Book_init := fd_Book_init,
    F_Book_init := F_Book_init,
    b_Book_init := F_Book_init.binds (ps := ["self", "sizes"]) (fun _ _ _ _ _ _ us hl => match us, hl with | [_, _], _ => rfl),
    a_is_name := (He.ga K "is_name"),
    fd_is_name := fd_is_name,
    F_is_name := F_is_name,
    g_is_name := He.glo_ok X G (c.t.d.fact 5 (f := .glo "is_name") rfl),
    b_is_name := F_is_name.binds (ps := ["name"]) (fun _ _ _ _ _ _ us hl => match us, hl with | [_], _ => rfl),
    a_step_fault := (He.ga K "step_fault"),
    fd_step_fault := fd_step_fault,
    F_step_fault := F_step_fault,
    g_step_fault := He.glo_ok X G (c.t.d.fact 6 (f := .glo "step_fault") rfl),
    b_step_fault := F_step_fault.binds (ps := ["sizes", "step"]) (fun _ _ _ _ _ _ us hl => match us, hl with | [_, _], _ => rfl),
    a_calls := (He.ga K "calls"),
    fd_calls := fd_calls,
    F_calls := F_calls,
    g_calls := He.glo_ok X G (c.t.d.fact 7 (f := .glo "calls") rfl),
    b_calls := F_calls.binds (ps := ["steps", "name"]) (fun _ _ _ _ _ _ us hl => match us, hl with | [_, _], _ => rfl),
    a_law_open := (He.ga K "_law_open"),
    fd_law_open := fd_law_open,
    F_law_open := F_law_open,
    g_law_open := He.glo_ok X G (c.t.d.fact 8 (f := .glo "_law_open") rfl),
    b_law_open := F_law_open.binds (ps := ["_law_script"]) (fun _ _ _ _ _ _ us hl => match us, hl with | [_], _ => rfl),
    a_law_take := (He.ga K "_law_take"),
    fd_law_take := fd_law_take,
    F_law_take := F_law_take,
    g_law_take := He.glo_ok X G (c.t.d.fact 9 (f := .glo "_law_take") rfl),
    b_law_take := F_law_take.binds (ps := ["_law_bag", "_law_sides"]) (fun _ _ _ _ _ _ us hl => match us, hl with | [_, _], _ => rfl),
    a_law_pick := (He.ga K "_law_pick"),
    fd_law_pick := fd_law_pick,
    F_law_pick := F_law_pick,
    g_law_pick := He.glo_ok X G (c.t.d.fact 10 (f := .glo "_law_pick") rfl),
    b_law_pick := F_law_pick.binds (ps := ["_law_bag", "_law_row"]) (fun _ _ _ _ _ _ us hl => match us, hl with | [_, _], _ => rfl),
    a_law_same := (He.ga K "_law_same"),
    fd_law_same := fd_law_same,
    F_law_same := F_law_same,
    g_law_same := He.glo_ok X G (c.t.d.fact 11 (f := .glo "_law_same") rfl),
    b_law_same := F_law_same.binds (ps := ["_law_found", "_law_due_here"]) (fun _ _ _ _ _ _ us hl => match us, hl with | [_, _], _ => rfl),
    a_law_word := (He.ga K "_law_word"),
    fd_law_word := fd_law_word,
    F_law_word := F_law_word,
    g_law_word := He.glo_ok X G (c.t.d.fact 12 (f := .glo "_law_word") rfl),
    b_law_word := F_law_word.binds (ps := ["_law_ask"]) (fun _ _ _ _ _ _ us hl => match us, hl with | [_], _ => rfl),
    a_law_sizes := (He.ga K "_law_sizes"),
    fd_law_sizes := fd_law_sizes,
    F_law_sizes := F_law_sizes,
    g_law_sizes := He.glo_ok X G (c.t.d.fact 13 (f := .glo "_law_sizes") rfl),
    b_law_sizes := F_law_sizes.binds (ps := ["_law_bag", "_law_mcasks", "_law_most"]) (fun _ _ _ _ _ _ us hl => match us, hl with | [_, _, _], _ => rfl),
    a_law_any_sizes := (He.ga K "_law_any_sizes"),
    fd_law_any_sizes := fd_law_any_sizes,
    F_law_any_sizes := F_law_any_sizes,
    g_law_any_sizes := He.glo_ok X G (c.t.d.fact 14 (f := .glo "_law_any_sizes") rfl),
    b_law_any_sizes := F_law_any_sizes.binds (ps := ["_law_bag"]) (fun _ _ _ _ _ _ us hl => match us, hl with | [_], _ => rfl),
    a_law_number := (He.ga K "_law_number"),
    fd_law_number := fd_law_number,
    F_law_number := F_law_number,
    g_law_number := He.glo_ok X G (c.t.d.fact 15 (f := .glo "_law_number") rfl),
    b_law_number := F_law_number.binds (ps := ["_law_bag"]) (fun _ _ _ _ _ _ us hl => match us, hl with | [_], _ => rfl),
    a_law_shuffled := (He.ga K "_law_shuffled"),
    fd_law_shuffled := fd_law_shuffled,
    F_law_shuffled := F_law_shuffled,
    g_law_shuffled := He.glo_ok X G (c.t.d.fact 16 (f := .glo "_law_shuffled") rfl),
    b_law_shuffled := F_law_shuffled.binds (ps := ["_law_bag", "_law_row"]) (fun _ _ _ _ _ _ us hl => match us, hl with | [_, _], _ => rfl),
    a_law_some_casks := (He.ga K "_law_some_casks"),
    fd_law_some_casks := fd_law_some_casks,
    F_law_some_casks := F_law_some_casks,
    g_law_some_casks := He.glo_ok X G (c.t.d.fact 17 (f := .glo "_law_some_casks") rfl),
    b_law_some_casks := F_law_some_casks.binds (ps := ["_law_bag", "_law_mcasks", "_law_mmany"]) (fun _ _ _ _ _ _ us hl => match us, hl with | [_, _, _], _ => rfl),
    a_law_alike := (He.ga K "_law_alike"),
    fd_law_alike := fd_law_alike,
    F_law_alike := F_law_alike,
    g_law_alike := He.glo_ok X G (c.t.d.fact 18 (f := .glo "_law_alike") rfl),
    b_law_alike := F_law_alike.binds (ps := ["_law_msizes"]) (fun _ _ _ _ _ _ us hl => match us, hl with | [_], _ => rfl),
    a_law_deed := (He.ga K "_law_deed"),
    fd_law_deed := fd_law_deed,
    F_law_deed := F_law_deed,
    g_law_deed := He.glo_ok X G (c.t.d.fact 19 (f := .glo "_law_deed") rfl),
    b_law_deed := F_law_deed.binds (ps := ["_law_bag", "_law_msizes", "_law_number_here", "_law_taps"]) (fun _ _ _ _ _ _ us hl => match us, hl with | [_, _, _, _], _ => rfl),
    a_law_names := (He.ga K "_law_names"),
    fd_law_names := fd_law_names,
    F_law_names := F_law_names,
    g_law_names := He.glo_ok X G (c.t.d.fact 20 (f := .glo "_law_names") rfl),
    b_law_names := F_law_names.binds (ps := ["_law_bag", "_law_count"]) (fun _ _ _ _ _ _ us hl => match us, hl with | [_, _], _ => rfl),
    a_law_step := (He.ga K "_law_step"),
    fd_law_step := fd_law_step,
    F_law_step := F_law_step,
    g_law_step := He.glo_ok X G (c.t.d.fact 21 (f := .glo "_law_step") rfl),
    b_law_step := F_law_step.binds (ps := ["_law_bag", "_law_msizes", "_law_names_here"]) (fun _ _ _ _ _ _ us hl => match us, hl with | [_, _, _], _ => rfl),
    a_law_step_word := (He.ga K "_law_step_word"),
    fd_law_step_word := fd_law_step_word,
    F_law_step_word := F_law_step_word,
    g_law_step_word := He.glo_ok X G (c.t.d.fact 22 (f := .glo "_law_step_word") rfl),
    b_law_step_word := F_law_step_word.binds (ps := ["_law_msizes", "_law_flats", "_law_mstep"]) (fun _ _ _ _ _ _ us hl => match us, hl with | [_, _, _], _ => rfl),
    a_law_laid := (He.ga K "_law_laid"),
    fd_law_laid := fd_law_laid,
    F_law_laid := F_law_laid,
    g_law_laid := He.glo_ok X G (c.t.d.fact 23 (f := .glo "_law_laid") rfl),
    b_law_laid := F_law_laid.binds (ps := ["_law_flats", "_law_mstep"]) (fun _ _ _ _ _ _ us hl => match us, hl with | [_, _], _ => rfl),
    a_law_due := (He.ga K "_law_due"),
    fd_law_due := fd_law_due,
    F_law_due := F_law_due,
    g_law_due := He.glo_ok X G (c.t.d.fact 24 (f := .glo "_law_due") rfl),
    b_law_due := F_law_due.binds (ps := ["_law_msizes", "_law_flats", "_law_mname", "_law_msteps"]) (fun _ _ _ _ _ _ us hl => match us, hl with | [_, _, _, _], _ => rfl),
    a_law := (He.ga K "law"),
    fd_law := fd_law,
    F_law := F_law,
    g_law := He.glo_ok X G (c.t.d.fact 25 (f := .glo "law") rfl),
    b_law := F_law.binds (ps := ["_law_script"]) (fun _ _ _ _ _ _ us hl => match us, hl with | [_], _ => rfl),
    a_Book_write := (He.ma K (He.ga K "Book") "write"),
    fd_Book_write := fd_Book_write,
    F_Book_write := F_Book_write,
    b_Book_write := F_Book_write.binds (ps := ["self", "name", "steps"]) (fun _ _ _ _ _ _ us hl => match us, hl with | [_, _, _], _ => rfl),
    a_Book_steps := (He.ma K (He.ga K "Book") "steps"),
    fd_Book_steps := fd_Book_steps,
    F_Book_steps := F_Book_steps,
    b_Book_steps := F_Book_steps.binds (ps := ["self", "name"]) (fun _ _ _ _ _ _ us hl => match us, hl with | [_, _], _ => rfl),
    a_Book_flat := (He.ma K (He.ga K "Book") "flat"),
    fd_Book_flat := fd_Book_flat,
    F_Book_flat := F_Book_flat,
    b_Book_flat := F_Book_flat.binds (ps := ["self", "name"]) (fun _ _ _ _ _ _ us hl => match us, hl with | [_, _], _ => rfl),
    a_Book_callers := (He.ma K (He.ga K "Book") "callers"),
    fd_Book_callers := fd_Book_callers,
    F_Book_callers := F_Book_callers,
    b_Book_callers := F_Book_callers.binds (ps := ["self", "name"]) (fun _ _ _ _ _ _ us hl => match us, hl with | [_, _], _ => rfl),
    a_Book_names := (He.ma K (He.ga K "Book") "names"),
    fd_Book_names := fd_Book_names,
    F_Book_names := F_Book_names,
    b_Book_names := F_Book_names.binds (ps := ["self"]) (fun _ _ _ _ _ _ us hl => match us, hl with | [_], _ => rfl),
    a_Book_sizes := (He.ma K (He.ga K "Book") "sizes"),
    fd_Book_sizes := fd_Book_sizes,
    F_Book_sizes := F_Book_sizes,
    b_Book_sizes := F_Book_sizes.binds (ps := ["self"]) (fun _ _ _ _ _ _ us hl => match us, hl with | [_], _ => rfl),
    a_Book_look_fresh := (He.ma K (He.ga K "Book") "look_fresh"),
    fd_Book_look_fresh := fd_Book_look_fresh,
    F_Book_look_fresh := F_Book_look_fresh,
    b_Book_look_fresh := F_Book_look_fresh.binds (ps := ["self", "name"]) (fun _ _ _ _ _ _ us hl => match us, hl with | [_, _], _ => rfl),
    a_Book_look_written := (He.ma K (He.ga K "Book") "look_written"),
    fd_Book_look_written := fd_Book_look_written,
    F_Book_look_written := F_Book_look_written,
    b_Book_look_written := F_Book_look_written.binds (ps := ["self", "name"]) (fun _ _ _ _ _ _ us hl => match us, hl with | [_, _], _ => rfl),
    a_Book_look_steps := (He.ma K (He.ga K "Book") "look_steps"),
    fd_Book_look_steps := fd_Book_look_steps,
    F_Book_look_steps := F_Book_look_steps,
    b_Book_look_steps := F_Book_look_steps.binds (ps := ["self", "steps"]) (fun _ _ _ _ _ _ us hl => match us, hl with | [_, _], _ => rfl),
    a_Book_count_deeds := (He.ma K (He.ga K "Book") "count_deeds"),
    fd_Book_count_deeds := fd_Book_count_deeds,
    F_Book_count_deeds := F_Book_count_deeds,
    b_Book_count_deeds := F_Book_count_deeds.binds (ps := ["self", "step"]) (fun _ _ _ _ _ _ us hl => match us, hl with | [_, _], _ => rfl),
    a_Book_lay_out := (He.ma K (He.ga K "Book") "lay_out"),
    fd_Book_lay_out := fd_Book_lay_out,
    F_Book_lay_out := F_Book_lay_out,
    b_Book_lay_out := F_Book_lay_out.binds (ps := ["self", "steps"]) (fun _ _ _ _ _ _ us hl => match us, hl with | [_, _], _ => rfl),
    a_Book_len := (He.ma K (He.ga K "Book") "__len__"),
    fd_Book_len := fd_Book_len,
    F_Book_len := F_Book_len,
    b_Book_len := F_Book_len.binds (ps := ["self"]) (fun _ _ _ _ _ _ us hl => match us, hl with | [_], _ => rfl),
    a_Book_repr := (He.ma K (He.ga K "Book") "__repr__"),
    fd_Book_repr := fd_Book_repr,
    F_Book_repr := F_Book_repr,
    b_Book_repr := F_Book_repr.binds (ps := ["self"]) (fun _ _ _ _ _ _ us hl => match us, hl with | [_], _ => rfl),
    C_Book := He.ga K "Book",
    g_Book := He.glo_ok X G (c.t.d.fact 26 (f := .glo "Book") rfl),
    K_Book := He.cls_ok (c.t.d.fact 27 (f := .cls "Book") rfl),
    N_Book_held_sizes := He.noat_ok (c.t.d.fact 28 (f := .noat "Book" "held_sizes") rfl),
    N_Book_written := He.noat_ok (c.t.d.fact 29 (f := .noat "Book" "written") rfl),
    N_Book_laid := He.noat_ok (c.t.d.fact 30 (f := .noat "Book" "laid") rfl),
    M_Book_init := He.meth_ok (c.t.d.fact 31 (f := .meth "Book" "__init__") rfl),
    Mk_Book := He.mkr_ok (c.t.d.fact 32 (f := .mkr "Book") rfl),
    M_Book_write := He.meth_ok (c.t.d.fact 33 (f := .meth "Book" "write") rfl),
    M_Book_steps := He.meth_ok (c.t.d.fact 34 (f := .meth "Book" "steps") rfl),
    M_Book_flat := He.meth_ok (c.t.d.fact 35 (f := .meth "Book" "flat") rfl),
    M_Book_callers := He.meth_ok (c.t.d.fact 36 (f := .meth "Book" "callers") rfl),
    M_Book_names := He.meth_ok (c.t.d.fact 37 (f := .meth "Book" "names") rfl),
    M_Book_sizes := He.meth_ok (c.t.d.fact 38 (f := .meth "Book" "sizes") rfl),
    M_Book_look_fresh := He.meth_ok (c.t.d.fact 39 (f := .meth "Book" "look_fresh") rfl),
    M_Book_look_written := He.meth_ok (c.t.d.fact 40 (f := .meth "Book" "look_written") rfl),
    M_Book_look_steps := He.meth_ok (c.t.d.fact 41 (f := .meth "Book" "look_steps") rfl),
    M_Book_count_deeds := He.meth_ok (c.t.d.fact 42 (f := .meth "Book" "count_deeds") rfl),
    M_Book_lay_out := He.meth_ok (c.t.d.fact 43 (f := .meth "Book" "lay_out") rfl),
    M_Book_len := He.meth_ok (c.t.d.fact 44 (f := .meth "Book" "__len__") rfl),
    M_Book_repr := He.meth_ok (c.t.d.fact 45 (f := .meth "Book" "__repr__") rfl),
    kt := kt_by x0,
    kl := kl_by x1,
    m_enumerate := He.free_ok X G (c.t.d.fact 46 (f := .free "enumerate") rfl),
    m_len := He.free_ok X G (c.t.d.fact 47 (f := .free "len") rfl),
    m_range := He.free_ok X G (c.t.d.fact 48 (f := .free "range") rfl),
    m_all := He.free_ok X G (c.t.d.fact 49 (f := .free "all") rfl),
    m_any := He.free_ok X G (c.t.d.fact 50 (f := .free "any") rfl),
    m_list := He.free_ok X G (c.t.d.fact 51 (f := .free "list") rfl),
    m_isinstance := He.free_ok X G (c.t.d.fact 52 (f := .free "isinstance") rfl),
    m_bool := He.free_ok X G (c.t.d.fact 53 (f := .free "bool") rfl),
    m_int := He.free_ok X G (c.t.d.fact 54 (f := .free "int") rfl),
    m_str := He.free_ok X G (c.t.d.fact 55 (f := .free "str") rfl),
    m_tuple := He.free_ok X G (c.t.d.fact 56 (f := .free "tuple") rfl),
    m_sum := He.free_ok X G (c.t.d.fact 57 (f := .free "sum") rfl),
    m_repr := He.free_ok X G (c.t.d.fact 58 (f := .free "repr") rfl),
    c_MOST_CASKS := He.int_ok X G (c.t.d.fact 59 (f := .int "MOST_CASKS" (6)) rfl),
    c_MOST_SIZE := He.int_ok X G (c.t.d.fact 60 (f := .int "MOST_SIZE" (40)) rfl),
    c_GREAT := He.int_ok X G (c.t.d.fact 61 (f := .int "GREAT" (1000000000000000000000000000000)) rfl),
    a_WORDS := He.ga K "WORDS",
    c_WORDS := He.glo_ok X G (c.t.d.fact 62 (f := .glo "WORDS") rfl),
    d_WORDS := strTup_ok x2,
    c_MOST_ROUNDS := He.int_ok X G (c.t.d.fact 63 (f := .int "MOST_ROUNDS" (12)) rfl),
    c_MOST_FLAT := He.int_ok X G (c.t.d.fact 64 (f := .int "MOST_FLAT" (200)) rfl),
    c_MOST_CALLS := He.int_ok X G (c.t.d.fact 65 (f := .int "MOST_CALLS" (9)) rfl),
    c_MOST_LETTERS := He.int_ok X G (c.t.d.fact 66 (f := .int "MOST_LETTERS" (8)) rfl),
    c_LETTERS := He.str_ok X G (c.t.d.fact 67 (f := .str "LETTERS" "abcdefghijklmnopqrstuvwxyz") rfl),
    C_BadSizes := He.ga K "BadSizes",
    g_BadSizes := He.glo_ok X G (c.t.d.fact 68 (f := .glo "BadSizes") rfl),
    o_BadSizes := W_BadSizes.o,
    f_BadSizes := W_BadSizes.f,
    fi_BadSizes := He.ma K (He.ga K "BadSizes") "__init__",
    fdi_BadSizes := fdi_BadSizes,
    Fi_BadSizes := Fi_BadSizes,
    ii_BadSizes := W_BadSizes.ii,
    ti_BadSizes := W_BadSizes.ti,
    bi_BadSizes := Fi_BadSizes.binds (ps := ["self", "cask"]) (fun _ _ _ _ _ _ us hl => match us, hl with | [_, _], _ => rfl),
    n_BadSizes_word := W_BadSizes.nf _ (List.mem_cons_self ..),
    n_BadSizes_cask := W_BadSizes.nf _ (List.mem_cons_of_mem _ (List.mem_cons_self ..)),
    C_BadRow := He.ga K "BadRow",
    g_BadRow := He.glo_ok X G (c.t.d.fact 69 (f := .glo "BadRow") rfl),
    o_BadRow := W_BadRow.o,
    f_BadRow := W_BadRow.f,
    fi_BadRow := He.ma K (He.ga K "BadRow") "__init__",
    fdi_BadRow := fdi_BadRow,
    Fi_BadRow := Fi_BadRow,
    ii_BadRow := W_BadRow.ii,
    ti_BadRow := W_BadRow.ti,
    bi_BadRow := Fi_BadRow.binds (ps := ["self", "step", "place"]) (fun _ _ _ _ _ _ us hl => match us, hl with | [_, _, _], _ => rfl),
    n_BadRow_word := W_BadRow.nf _ (List.mem_cons_self ..),
    n_BadRow_step := W_BadRow.nf _ (List.mem_cons_of_mem _ (List.mem_cons_self ..)),
    n_BadRow_place := W_BadRow.nf _ (List.mem_cons_of_mem _ (List.mem_cons_of_mem _ (List.mem_cons_self ..))),
    C_BadName := He.ga K "BadName",
    g_BadName := He.glo_ok X G (c.t.d.fact 70 (f := .glo "BadName") rfl),
    o_BadName := W_BadName.o,
    f_BadName := W_BadName.f,
    fi_BadName := He.ma K (He.ga K "BadName") "__init__",
    fdi_BadName := fdi_BadName,
    Fi_BadName := Fi_BadName,
    ii_BadName := W_BadName.ii,
    ti_BadName := W_BadName.ti,
    bi_BadName := Fi_BadName.binds (ps := ["self"]) (fun _ _ _ _ _ _ us hl => match us, hl with | [_], _ => rfl),
    n_BadName_word := W_BadName.nf _ (List.mem_cons_self ..),
    C_Taken := He.ga K "Taken",
    g_Taken := He.glo_ok X G (c.t.d.fact 71 (f := .glo "Taken") rfl),
    o_Taken := W_Taken.o,
    f_Taken := W_Taken.f,
    fi_Taken := He.ma K (He.ga K "Taken") "__init__",
    fdi_Taken := fdi_Taken,
    Fi_Taken := Fi_Taken,
    ii_Taken := W_Taken.ii,
    ti_Taken := W_Taken.ti,
    bi_Taken := Fi_Taken.binds (ps := ["self", "name"]) (fun _ _ _ _ _ _ us hl => match us, hl with | [_, _], _ => rfl),
    n_Taken_word := W_Taken.nf _ (List.mem_cons_self ..),
    n_Taken_name := W_Taken.nf _ (List.mem_cons_of_mem _ (List.mem_cons_self ..)),
    C_TooLong := He.ga K "TooLong",
    g_TooLong := He.glo_ok X G (c.t.d.fact 72 (f := .glo "TooLong") rfl),
    o_TooLong := W_TooLong.o,
    f_TooLong := W_TooLong.f,
    fi_TooLong := He.ma K (He.ga K "TooLong") "__init__",
    fdi_TooLong := fdi_TooLong,
    Fi_TooLong := Fi_TooLong,
    ii_TooLong := W_TooLong.ii,
    ti_TooLong := W_TooLong.ti,
    bi_TooLong := Fi_TooLong.binds (ps := ["self", "most"]) (fun _ _ _ _ _ _ us hl => match us, hl with | [_, _], _ => rfl),
    n_TooLong_word := W_TooLong.nf _ (List.mem_cons_self ..),
    n_TooLong_most := W_TooLong.nf _ (List.mem_cons_of_mem _ (List.mem_cons_self ..)),
    C_TooMany := He.ga K "TooMany",
    g_TooMany := He.glo_ok X G (c.t.d.fact 73 (f := .glo "TooMany") rfl),
    o_TooMany := W_TooMany.o,
    f_TooMany := W_TooMany.f,
    fi_TooMany := He.ma K (He.ga K "TooMany") "__init__",
    fdi_TooMany := fdi_TooMany,
    Fi_TooMany := Fi_TooMany,
    ii_TooMany := W_TooMany.ii,
    ti_TooMany := W_TooMany.ti,
    bi_TooMany := Fi_TooMany.binds (ps := ["self", "most"]) (fun _ _ _ _ _ _ us hl => match us, hl with | [_, _], _ => rfl),
    n_TooMany_word := W_TooMany.nf _ (List.mem_cons_self ..),
    n_TooMany_most := W_TooMany.nf _ (List.mem_cons_of_mem _ (List.mem_cons_self ..)),
    C_NoRound := He.ga K "NoRound",
    g_NoRound := He.glo_ok X G (c.t.d.fact 74 (f := .glo "NoRound") rfl),
    o_NoRound := W_NoRound.o,
    f_NoRound := W_NoRound.f,
    fi_NoRound := He.ma K (He.ga K "NoRound") "__init__",
    fdi_NoRound := fdi_NoRound,
    Fi_NoRound := Fi_NoRound,
    ii_NoRound := W_NoRound.ii,
    ti_NoRound := W_NoRound.ti,
    bi_NoRound := Fi_NoRound.binds (ps := ["self", "name"]) (fun _ _ _ _ _ _ us hl => match us, hl with | [_, _], _ => rfl),
    n_NoRound_word := W_NoRound.nf _ (List.mem_cons_self ..),
    n_NoRound_name := W_NoRound.nf _ (List.mem_cons_of_mem _ (List.mem_cons_self ..)),
    C_NothingLeft := He.ga K "NothingLeft",
    g_NothingLeft := He.glo_ok X G (c.t.d.fact 75 (f := .glo "NothingLeft") rfl),
    o_NothingLeft := W_NothingLeft.o,
    f_NothingLeft := W_NothingLeft.f,
    fi_NothingLeft := He.ma K (He.ga K "NothingLeft") "__init__",
    fdi_NothingLeft := fdi_NothingLeft,
    Fi_NothingLeft := Fi_NothingLeft,
    ii_NothingLeft := W_NothingLeft.ii,
    ti_NothingLeft := W_NothingLeft.ti,
    bi_NothingLeft := Fi_NothingLeft.binds (ps := ["self"]) (fun _ _ _ _ _ _ us hl => match us, hl with | [_], _ => rfl),
    n_NothingLeft_word := W_NothingLeft.nf _ (List.mem_cons_self ..),
    B_HideError := He.ga K "HideError",
    gB_HideError := He.glo_ok X G (c.t.d.fact 76 (f := .glo "HideError") rfl),
    eB_BadSizes_HideError := He.exm_ok (c.t.d.fact 77 (f := .exm "BadSizes" "HideError" true) rfl),
    eB_BadRow_HideError := He.exm_ok (c.t.d.fact 78 (f := .exm "BadRow" "HideError" true) rfl),
    eB_BadName_HideError := He.exm_ok (c.t.d.fact 79 (f := .exm "BadName" "HideError" true) rfl),
    eB_Taken_HideError := He.exm_ok (c.t.d.fact 80 (f := .exm "Taken" "HideError" true) rfl),
    eB_TooLong_HideError := He.exm_ok (c.t.d.fact 81 (f := .exm "TooLong" "HideError" true) rfl),
    eB_TooMany_HideError := He.exm_ok (c.t.d.fact 82 (f := .exm "TooMany" "HideError" true) rfl),
    eB_NoRound_HideError := He.exm_ok (c.t.d.fact 83 (f := .exm "NoRound" "HideError" false) rfl),
    eB_NothingLeft_HideError := He.exm_ok (c.t.d.fact 84 (f := .exm "NothingLeft" "HideError" false) rfl),
    B_Missing := He.ga K "Missing",
    gB_Missing := He.glo_ok X G (c.t.d.fact 85 (f := .glo "Missing") rfl),
    eB_BadSizes_Missing := He.exm_ok (c.t.d.fact 86 (f := .exm "BadSizes" "Missing" false) rfl),
    eB_BadRow_Missing := He.exm_ok (c.t.d.fact 87 (f := .exm "BadRow" "Missing" false) rfl),
    eB_BadName_Missing := He.exm_ok (c.t.d.fact 88 (f := .exm "BadName" "Missing" false) rfl),
    eB_Taken_Missing := He.exm_ok (c.t.d.fact 89 (f := .exm "Taken" "Missing" false) rfl),
    eB_TooLong_Missing := He.exm_ok (c.t.d.fact 90 (f := .exm "TooLong" "Missing" false) rfl),
    eB_TooMany_Missing := He.exm_ok (c.t.d.fact 91 (f := .exm "TooMany" "Missing" false) rfl),
    eB_NoRound_Missing := He.exm_ok (c.t.d.fact 92 (f := .exm "NoRound" "Missing" true) rfl),
    eB_NothingLeft_Missing := He.exm_ok (c.t.d.fact 93 (f := .exm "NothingLeft" "Missing" false) rfl),
    B_NothingLeft := He.ga K "NothingLeft",
    gB_NothingLeft := He.glo_ok X G (c.t.d.fact 94 (f := .glo "NothingLeft") rfl),
    eB_BadSizes_NothingLeft := He.exm_ok (c.t.d.fact 95 (f := .exm "BadSizes" "NothingLeft" false) rfl),
    eB_BadRow_NothingLeft := He.exm_ok (c.t.d.fact 96 (f := .exm "BadRow" "NothingLeft" false) rfl),
    eB_BadName_NothingLeft := He.exm_ok (c.t.d.fact 97 (f := .exm "BadName" "NothingLeft" false) rfl),
    eB_Taken_NothingLeft := He.exm_ok (c.t.d.fact 98 (f := .exm "Taken" "NothingLeft" false) rfl),
    eB_TooLong_NothingLeft := He.exm_ok (c.t.d.fact 99 (f := .exm "TooLong" "NothingLeft" false) rfl),
    eB_TooMany_NothingLeft := He.exm_ok (c.t.d.fact 100 (f := .exm "TooMany" "NothingLeft" false) rfl),
    eB_NoRound_NothingLeft := He.exm_ok (c.t.d.fact 101 (f := .exm "NoRound" "NothingLeft" false) rfl),
    eB_NothingLeft_NothingLeft := He.exm_ok (c.t.d.fact 102 (f := .exm "NothingLeft" "NothingLeft" true) rfl),
    e_BadSizes_NothingLeft := He.exm_ok (c.t.d.fact 103 (f := .exm "BadSizes" "NothingLeft" false) rfl),
    e_BadRow_NothingLeft := He.exm_ok (c.t.d.fact 104 (f := .exm "BadRow" "NothingLeft" false) rfl),
    e_BadName_NothingLeft := He.exm_ok (c.t.d.fact 105 (f := .exm "BadName" "NothingLeft" false) rfl),
    e_Taken_NothingLeft := He.exm_ok (c.t.d.fact 106 (f := .exm "Taken" "NothingLeft" false) rfl),
    e_TooLong_NothingLeft := He.exm_ok (c.t.d.fact 107 (f := .exm "TooLong" "NothingLeft" false) rfl),
    e_TooMany_NothingLeft := He.exm_ok (c.t.d.fact 108 (f := .exm "TooMany" "NothingLeft" false) rfl),
    e_NoRound_NothingLeft := He.exm_ok (c.t.d.fact 109 (f := .exm "NoRound" "NothingLeft" false) rfl),
    e_NothingLeft_NothingLeft := He.exm_ok (c.t.d.fact 110 (f := .exm "NothingLeft" "NothingLeft" true) rfl),
    k_law := kc_law,
    P_law := (He.cT K ("law", none)).2,
    L_law := ⟨oc_law, od_law, kV_law, doc_law, pm_law, an_law, ct_law, osl_law, efd_law, lk_law, hcd_law⟩ }
  have hm_law : (("law", none) : He.Defn) ∈ htf := (List.mem_cons_self ..)
  have hhd_law : PySem.W.codeHdIn K kc_law (He.cT K ("law", none)).2 = true := by
    have z := c.hd _ hm_law
    rw [show (He.cT K ("law", none)).1 = kc_law from ec_law] at z
    exact z
  have one : ∀ {q : Addr × Addr → Prop}, q (kc_law, (He.cT K ("law", none)).2) → ∀ p ∈ [(kc_law, (He.cT K ("law", none)).2)], q p := fun h0 p hp => by
    rcases List.mem_cons.mp hp with e | hp
    · rw [e]; exact h0
    · cases hp
  have bnd := F_law.binds (ps := ["_law_script"]) (fun _ _ _ _ _ _ us hl => match us, hl with | [_], _ => rfl)
  exact ⟨fd_law, [(kc_law, (He.cT K ("law", none)).2)], (spLawT K (He.cT K ("law", none)).2), one (c.empty _ hm_law), one (c.out _ hm_law), one (PySem.W.codeHd_of_K X hhd_law), fun s v => by rw [efd_law]; exact .of_eq rfl, fun H a ns hl _ hH hS => ⟨a, ns, rfl, hS, hl, hH (kc_law, (He.cT K ("law", none)).2) (List.mem_cons_self ..), fun _ => rfl⟩, fun base _ _ TB => ok_law T (TB _ (List.mem_cons_self ..))⟩
end Lw
open PySem PySem.W PyProof.Rows
set_option maxHeartbeats 0 in
theorem PySem.Challenge.cw_hidelater_k25_rounds_written_in_a_book_holds : PySem.Challenge.rw_hidelater_k25_rounds_written_in_a_book.Holds := by
  w_on; o_law
  refine Lw.hhead ?hc
  case hc =>
    refine LamX.walk_ofTsE (l := PySem.Challenge.rw_hidelater_k25_rounds_written_in_a_book) (n := 63) (k := 9) (x := "_law_script") (CX := fun _ => L2.CX0) rfl (by decide) (by kernel_rfl) ⟨rfl, by decide, by decide⟩ ?F (fun _ _ _ _ _ z => z)
    intro w mg fa h Y G hmg0
    obtain ⟨K, KX, c⟩ := Y
    have hmg : mg ("law" : PySem.Str) = some (.ref fa) := by
      have e : (HandSHeadRun.topDef (OpenLaw.row PySem.Challenge.rw_hidelater_k25_rounds_written_in_a_book).prog 51).name = ("law" : PySem.Str) := by kernel_rfl
      rw [← e]
      exact hmg0
    exact ⟨K, KX, Lw.hfacts KX G hmg c⟩
