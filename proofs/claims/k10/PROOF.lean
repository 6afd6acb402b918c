import PyProof.Rows.All
import Wide.All
import OpenK.AllK
import Wide.FinOn
import HandS.ForMost
import HandS.Deep
import HandS.TupAny
import HandS.IsInst
import HandS.SortKw
import HandS.Zip
import HandS.Rev
import HandS.SetFor
import KE.KTupSum
import HandS.SortRule
import HandS.Style
import HandS.TupLe
import HandS.TupMul
import HandS.ForExc
import HandS.ExcInit
import HandS.ExcField
import KE.SortData
import HandS.ExcValue
import KE.GoesNew
import HandS.Defaults
import KE.GoesEnum
import KE.DataMinMax
import PyProof.EnumMake
import PyProof.Rows.SeqMore
import KE.KDictKeyed
import HandS.CallSlots
import HandS.Dict
import PyProof.Rows.TupDisplay
import KE.KDictDisplayH
import HandS.Flow
import HandS.Flt
import HandS.Iter
import KE.KSortTupAny
import HandS.TryOnly
import HandS.Conv
import HandS.Gcd
import HandS.Codes
import HandS.OwnEq
import OpenK.KMeth
import HandS.Lambda
import KE.SortKeyHeap
import KE.KSortKey
import HandS.DictComp
import KE.KIndexOf
import HandS.More
import PyProof.InstNe
import KE.GoesMore
import KE.GoesZip
import KE.KDictList
import HandS.Star
import PyProof.DictMoreH
import HandS.DictEq
import HandS.ExcOwn
import HandS.TryMany
import HandS.ExcIs
import HandS.WideBits
import HandS.EndBits
import PyProof.FString3
import PyProof.Rows.StrIntSpec
import HandS.FStr
import KE.KOpsOwn
import HandS.Property
import HandS.Strs
import HandS.SortInts
import HandS.Text
import HandS.StrMore
import KE.IntTextLaws
import Wide.Txt
import PyProof.Rows.StrAscii
import KE.KCallOwn
import KE.KDictSum
import PyProof.Transfer
import HandS.TupLen
import KE.KDictOf
import KE.KDictCopyH
import PyProof.NeKinds
import PySem.Challenge.RW_fivebases_k10_symmetry_of_polynomials
set_option Elab.async false
set_option linter.all false
set_option maxRecDepth 100000
namespace Pd
open PySem L2
def sE (X : Cx) (e : Expr) : TE := fun σ H Q => ∀ pins s, Inv X pins σ H s → wpAny (model X.prog X.w) X.A (eval e X.env) (EP X pins σ Q) X.xe s
def sT (X : Cx) (e : Expr) : TT := fun σ H Q => ∀ pins s, Inv X pins σ H s → wpAny (model X.prog X.w) X.A (isTrue e X.env (eval e X.env)) (TP X pins σ Q) X.xe s
def sA (X : Cx) (es : List Expr) : TA := fun σ H Q => ∀ pos pins s, Inv X pins σ H s → wpAny (model X.prog X.w) X.A (spliced (backTo pos (starEach es X.env))) (AP X pins σ Q) X.xe s
def sSs (X : Cx) (st : List Stmt) : TS := fun D σ H => ∀ pins s, Inv X pins σ H s → wpAny (model X.prog X.w) X.A (execs st X.env) (SP X pins D) X.xe s
section
variable {X : Cx} {e : Expr} {es : List Expr} {st : Stmt} {sts : List Stmt}
theorem pe_s : PE X e (sE X e) := ⟨fun pins s _ _ _ I h => h pins s I⟩
theorem pt_s : PT X e (sT X e) := ⟨fun pins s _ _ _ I h => h pins s I⟩
theorem pa_s : PA X es (sA X es) := ⟨fun pos pins s _ _ _ I h => h pos pins s I⟩
theorem pss_s : PSs X sts (sSs X sts) := ⟨fun pins s _ _ _ I h => h pins s I⟩
theorem sE_of {t : TE} {σ : L2.St} {H : Hp} {Q : VK} (h : PE X e t) (q : t σ H Q) : sE X e σ H Q := fun pins s I => h.run pins s σ H Q I q
theorem sT_of {t : TT} {σ : L2.St} {H : Hp} {Q : Bool → Hp → Prop} (h : PT X e t) (q : t σ H Q) : sT X e σ H Q := fun pins s I => h.run pins s σ H Q I q
theorem sA_of {t : TA} {σ : L2.St} {H : Hp} {Q : List V → Hp → Prop} (h : PA X es t) (q : t σ H Q) : sA X es σ H Q := fun pos pins s I => h.run pos pins s σ H Q I q
theorem sSs_of {t : TS} {σ : L2.St} {H : Hp} {D : Ends} (h : PSs X sts t) (q : t D σ H) : sSs X sts D σ H := fun pins s I => h.run pins s σ H D I q
end
section
variable {K : PySem.W.Frag} {H H' : Hp}
theorem same_rd {a : Addr} {u : HO} (e : Same H H') (h : Rd H a u) : Rd H' a u := by
  rcases h with h | ⟨o, h⟩
  · exact .inl (e a _ h)
  · exact .inr ⟨o, e a _ h⟩
theorem same_t {a : Addr} {xs : List V} (e : Same H H') (h : SqT K H a xs) : SqT K H' a xs := by
  rcases h with h | h
  · exact .inl (same_rd e h)
  · exact .inr h
theorem same_l {a : Addr} {xs : List V} (e : Same H H') (h : SqL K H a xs) : SqL K H' a xs := by
  rcases h with h | h
  · exact .inl (same_rd e h)
  · exact .inr h
mutual
theorem Dp.mono (e : Same H H') : ∀ {v : V} (d : PyData), Dp K H v d → Dp K H' v d
  | _, .none, h => by cases h; exact .non
  | _, .bool b, h => by cases h; exact .bl b
  | _, .int i, h => by cases h; exact .int i
  | _, .str s, h => by cases h; exact .str s
  | _, .list ds, h => by
    cases h with
    | lst hs ha => exact .lst (same_l e hs) (DpAll.mono e ds ha)
  | _, .tuple ds, h => by
    cases h with
    | tup hs ha => exact .tup (same_t e hs) (DpAll.mono e ds ha)
  | _, .dict _, h => by cases h
theorem DpAll.mono (e : Same H H') : ∀ {vs : List V} (ds : List PyData), DpAll K H vs ds → DpAll K H' vs ds
  | _, [], h => by cases h; exact .nil
  | _, d :: ds, h => by
    cases h with
    | cons h1 h2 => exact .cons (Dp.mono e d h1) (DpAll.mono e ds h2)
end
theorem DpAll.len : ∀ {vs : List V} {ds : List PyData}, DpAll K H vs ds → vs.length = ds.length
  | _, [], h => by cases h; rfl
  | _, d :: ds, h => by
    cases h with
    | cons h1 h2 => simp [DpAll.len h2]
theorem DpAll.get : ∀ {vs : List V} {ds : List PyData} {i : Nat} {d : PyData}, DpAll K H vs ds → ds[i]? = some d → ∃ v, vs[i]? = some v ∧ Dp K H v d
  | _, [], i, d, h, g => by simp at g
  | _, e :: ds, 0, d, h, g => by
    cases h with
    | cons h1 h2 =>
      simp at g
      subst g
      exact ⟨_, rfl, h1⟩
  | _, e :: ds, i + 1, d, h, g => by
    cases h with
    | cons h1 h2 =>
      obtain ⟨v, q1, q2⟩ := DpAll.get h2 (by simpa using g)
      exact ⟨v, by simpa using q1, q2⟩
theorem DpAll.app : ∀ {vs ws : List V} {ds es : List PyData}, DpAll K H vs ds → DpAll K H ws es → DpAll K H (vs ++ ws) (ds ++ es)
  | _, _, [], _, h, g => by cases h; exact g
  | _, _, d :: ds, _, h, g => by
    cases h with
    | cons h1 h2 => exact .cons h1 (DpAll.app h2 g)
theorem DpAll.take : ∀ {vs : List V} {ds : List PyData} (n : Nat), DpAll K H vs ds → DpAll K H (vs.take n) (ds.take n)
  | _, [], n, h => by cases h; simp; exact .nil
  | _, d :: ds, 0, h => by simp; exact .nil
  | _, d :: ds, n + 1, h => by
    cases h with
    | cons h1 h2 => exact .cons h1 (DpAll.take n h2)
theorem DpAll.drop : ∀ {vs : List V} {ds : List PyData} (n : Nat), DpAll K H vs ds → DpAll K H (vs.drop n) (ds.drop n)
  | _, [], n, h => by cases h; simp; exact .nil
  | _, d :: ds, 0, h => h
  | _, d :: ds, n + 1, h => by
    cases h with
    | cons h1 h2 => exact DpAll.drop n h2
theorem DpAll.set : ∀ {vs : List V} {ds : List PyData} {v : V} {d : PyData} (i : Nat), DpAll K H vs ds → Dp K H v d → DpAll K H (vs.set i v) (ds.set i d)
  | _, [], _, _, i, h, g => by cases h; simp; exact .nil
  | _, e :: ds, _, _, 0, h, g => by
    cases h with
    | cons h1 h2 => exact .cons g h2
  | _, e :: ds, _, _, i + 1, h, g => by
    cases h with
    | cons h1 h2 => exact .cons h1 (DpAll.set i h2 g)
theorem DpAll.ints : ∀ {vs : List V} {ns : List Int}, DpAll K H vs (ns.map PyData.int) → vs = ns.map V.int
  | _, [], h => by cases h; rfl
  | _, n :: ns, h => by
    cases h with
    | cons h1 h2 =>
      cases h1
      simp [DpAll.ints h2]
theorem DpAll.of_ints : ∀ (ns : List Int), DpAll K H (ns.map V.int) (ns.map PyData.int)
  | [] => .nil
  | n :: ns => .cons (.int n) (DpAll.of_ints ns)
end
/-- what stands in a slot: nothing that is known; data that never changes; a list that the def owns (only this slot names it) -/
inductive Ce where
  | dat (d : PyData) | own (ds : List PyData)
/-- a thing of one's own that other things stand in: a list, a dict (its keys: tuples, or numbers and texts) -/
inductive Bx where
  | A (c : Addr) (j : Nat) | L (c : Addr) (cs : List Ce) | T (kvs : List (List L2.Key × Ce)) | K (kvs : List (L2.Key × Ce))
inductive Sl where
  | no | val (d : PyData) | own (ds : List PyData) | box (b : Bx)
def Bx.cells : Bx → List Ce
  | .A _ _ => []
  | .L _ cs => cs
  | .T kvs => kvs.map (·.2)
  | .K kvs => kvs.map (·.2)
def Bx.ho : Bx → List V → HO
  | .A _ _, vs => .lst vs
  | .L _ _, vs => .lst vs
  | .T kvs, vs => .dT ((kvs.map (·.1)).zip vs)
  | .K kvs, vs => .dK ((kvs.map (·.1)).zip vs)
/-- a cell by its value; its own address, if it has one -/
def CeAt (K : PySem.W.Frag) (Hk Z : Hp) (v : V) : Ce → List Addr → Prop
  | .dat d, fp => Dp K Hk v d ∧ fp = []
  | .own ds, fp => ∃ b us, v = .ref b ∧ Z b = some (.lst us) ∧ DpAll K Hk us ds ∧ fp = [b]
inductive CesAt (K : PySem.W.Frag) (Hk Z : Hp) : List V → List Ce → List Addr → Prop
  | nil : CesAt K Hk Z [] [] []
  | cons {v : V} {vs : List V} {c : Ce} {cs : List Ce} {f fs : List Addr} : CeAt K Hk Z v c f → CesAt K Hk Z vs cs fs → CesAt K Hk Z (v :: vs) (c :: cs) (f ++ fs)
/-- a thing of one's own at an address that the slot names; a slot that names an item of such a thing has no cells of its own -/
def Bx.at_ : Bx → Addr → Prop
  | .A _ _, _ => False
  | .L c _, a => a = c
  | _, _ => True
def BxAt (K : PySem.W.Frag) (Hk Z : Hp) (v : V) (b : Bx) (fp : List Addr) : Prop := (∃ (a : Addr) (vs : List V) (fs : List Addr), v = .ref a ∧ Z a = some (b.ho vs) ∧ CesAt K Hk Z vs b.cells fs ∧ fp = a :: fs ∧ fp.Nodup ∧ b.at_ a) ∨ ∃ (c : Addr) (j : Nat) (vs : List V), b = .A c j ∧ Z c = some (.lst vs) ∧ vs[j]? = some v ∧ fp = []
theorem CeAt.mono {K : PySem.W.Frag} {Hk Hk' Z : Hp} (e : Same Hk Hk') {v : V} {c : Ce} {f : List Addr} (h : CeAt K Hk Z v c f) : CeAt K Hk' Z v c f := by
  cases c with
  | dat d => exact ⟨Dp.mono e d h.1, h.2⟩
  | own ds =>
    obtain ⟨b, us, h1, h2, h3, h4⟩ := h
    exact ⟨b, us, h1, h2, DpAll.mono e ds h3, h4⟩
theorem CesAt.mono {K : PySem.W.Frag} {Hk Hk' Z : Hp} (e : Same Hk Hk') {vs : List V} {cs : List Ce} {f : List Addr} (h : CesAt K Hk Z vs cs f) : CesAt K Hk' Z vs cs f := by
  induction h with
  | nil => exact .nil
  | cons a b ih => exact .cons (a.mono e) ih
theorem BxAt.mono {K : PySem.W.Frag} {Hk Hk' Z : Hp} (e : Same Hk Hk') {v : V} {b : Bx} {fp : List Addr} (h : BxAt K Hk Z v b fp) : BxAt K Hk' Z v b fp := by
  rcases h with ⟨a, vs, fs, h1, h2, h3, h4⟩ | h
  · exact .inl ⟨a, vs, fs, h1, h2, h3.mono e, h4⟩
  · exact .inr h
/-- what is not ours to change in an expression: h; of it the things of one's own that a statement may change: z -/
structure Fr where
  h : Hp
  z : Hp
/-- what was known at the entry; all that stood at the def's entry: e -/
structure Be where
  b : Hp
  e : Hp
instance : CoeFun Be (fun _ => Addr → Option HO) := ⟨Be.b⟩
instance : Coe Be Hp := ⟨Be.b⟩
def inB (h : Hp) : Be := ⟨h, fun _ => none⟩
instance : CoeFun Fr (fun _ => Addr → Option HO) := ⟨Fr.h⟩
instance : Coe Fr Hp := ⟨Fr.h⟩
def Bxs (K : PySem.W.Frag) (Z : Hp) (ρ : List Sl) (σ : L2.St) (Hk : Hp) : Prop := ∃ F : Nat → List Addr, (∀ (i : Nat) (b : Bx), ρ[i]? = some (.box b) → ∃ v, σ[i]? = some (some v) ∧ BxAt K Hk Z v b (F i)) ∧
  ∀ (i j : Nat) (b c : Bx), ρ[i]? = some (.box b) → ρ[j]? = some (.box c) → i ≠ j → ∀ a ∈ F i, a ∉ F j
theorem Bxs.sub {K : PySem.W.Frag} {Z Hk Hk' : Hp} {ρ ρ' : List Sl} {σ σ' : L2.St} (h : Bxs K Z ρ σ Hk) (e : Same Hk Hk') (s : ∀ (i : Nat) (b : Bx), ρ'[i]? = some (.box b) → ρ[i]? = some (.box b) ∧ σ'[i]? = σ[i]?) : Bxs K Z ρ' σ' Hk' := by
  obtain ⟨F, h1, h2⟩ := h
  refine ⟨F, fun i b q => ?_, fun i j b c q r => h2 i j b c (s i b q).1 (s j c r).1⟩
  obtain ⟨q1, q2⟩ := s i b q
  obtain ⟨v, q3, q4⟩ := h1 i b q1
  exact ⟨v, q2.trans q3, q4.mono e⟩
theorem Bxs.mono {K : PySem.W.Frag} {Z Hk Hk' : Hp} {ρ : List Sl} {σ : L2.St} (h : Bxs K Z ρ σ Hk) (e : Same Hk Hk') : Bxs K Z ρ σ Hk' := h.sub e fun _ _ q => ⟨q, rfl⟩
theorem set_box {ρ : List Sl} {i j : Nat} {s : Sl} {b : Bx} (hs : ∀ c, s ≠ .box c) (h : (ρ.set i s)[j]? = some (.box b)) : i ≠ j ∧ ρ[j]? = some (.box b) := by
  by_cases q : i = j
  · subst q
    have hl : i < ρ.length := by simpa using (List.getElem?_eq_some_iff.mp h).1
    rw [List.getElem?_set_self hl] at h
    exact absurd (Option.some.inj h) (hs b)
  · rw [List.getElem?_set_ne q] at h
    exact ⟨q, h⟩
/-- a slot gets what is no box -/
theorem Bxs.set {K : PySem.W.Frag} {Z Hk Hk' : Hp} {ρ : List Sl} {σ : L2.St} {i : Nat} {s : Sl} {v : Option V} (h : Bxs K Z ρ σ Hk) (e : Same Hk Hk') (hs : ∀ c, s ≠ .box c) : Bxs K Z (ρ.set i s) (σ.set i v) Hk' := h.sub e fun j b q => by
  obtain ⟨q1, q2⟩ := set_box hs q
  exact ⟨q2, List.getElem?_set_ne q1⟩
theorem Bxs.set0 {K : PySem.W.Frag} {Z Hk Hk' : Hp} {ρ : List Sl} {σ : L2.St} {i : Nat} {s : Sl} (h : Bxs K Z ρ σ Hk) (e : Same Hk Hk') (hs : ∀ c, s ≠ .box c) : Bxs K Z (ρ.set i s) σ Hk' := h.sub e fun j b q => ⟨(set_box hs q).2, rfl⟩
/-- B: what was known at the entry, H0: what stood at the entry and is not ours to change; Hk: the data known now; Hr: all that stands now -/
structure Ok (K : PySem.W.Frag) (bi : List Nat) (σ0 : L2.St) (B : Be) (H0 : Fr) (ρ : List Sl) (σ : L2.St) (Hk Hr : Hp) : Prop where
  base : Same B Hk
  real : Same H0 Hr
  kr : Same Hk Hr
  old : ∀ (b : Addr) (o : HO), Hk b = some o → H0 b ≠ none → B b = some o
  bor : ∀ i ∈ bi, σ[i]? = σ0[i]?
  len : ρ.length = σ.length
  val : ∀ (i : Nat) (d : PyData), ρ[i]? = some (Sl.val d) → ∃ v, σ[i]? = some (some v) ∧ Dp K Hk v d
  own : ∀ (i : Nat) (ds : List PyData), ρ[i]? = some (Sl.own ds) → ∃ (a : Addr) (vs : List V), σ[i]? = some (some (V.ref a)) ∧ Hr a = some (.lst vs) ∧ Hk a = none ∧ H0 a = none ∧ DpAll K Hk vs ds
  dis : ∀ (i j : Nat) (ds es : List PyData), ρ[i]? = some (Sl.own ds) → ρ[j]? = some (Sl.own es) → i ≠ j → σ[i]? ≠ σ[j]?
  zh : Same H0.z H0.h
  zb : ∀ (b : Addr) (o : HO), H0.z b = some o → B b = none
  bxs : Bxs K H0.z ρ σ Hk
  eh : Same B.e H0.h
  ze : ∀ (b : Addr) (o : HO), H0.z b = some o → B.e b = none
/-- .. whatever may be ours to change -/
def OkE (K : PySem.W.Frag) (bi : List Nat) (σ0 : L2.St) (B : Be) (ρ : List Sl) (σ : L2.St) (Hk Hr : Hp) : Prop := ∃ H0 : Fr, Ok K bi σ0 B H0 ρ σ Hk Hr
/-- known, with all that is new -/
def gro (Hk Hr H2 : Hp) : Hp := fun b => match Hr b with | none => H2 b | some _ => Hk b
theorem gro_new {Hk Hr H2 : Hp} {b : Addr} (h : Hr b = none) : gro Hk Hr H2 b = H2 b := by unfold gro; rw [h]
theorem gro_old {Hk Hr H2 : Hp} {b : Addr} {o : HO} (h : Hr b = some o) : gro Hk Hr H2 b = Hk b := by unfold gro; rw [h]
theorem gro_same {Hk Hr H2 : Hp} (kr : Same Hk Hr) : Same Hk (gro Hk Hr H2) := fun b o h => by rw [gro_old (kr _ _ h)]; exact h
theorem gro_in {Hk Hr H2 : Hp} (kr : Same Hk Hr) (e : Same Hr H2) : Same (gro Hk Hr H2) H2 := fun b o h => by
  cases q : Hr b with
  | none => rw [gro_new q] at h; exact h
  | some u =>
    rw [gro_old q] at h
    exact e _ _ (kr _ _ h)
section
variable {K : PySem.W.Frag} {bi : List Nat} {σ0 σ : L2.St} {Hk Hr : Hp} {B : Be} {H0 : Fr} {ρ : List Sl}
theorem Ok.gro (I : Ok K bi σ0 B H0 ρ σ Hk Hr) {H2 : Hp} (e : Same Hr H2) : Ok K bi σ0 B H0 ρ σ (gro Hk Hr H2) H2 where
  base := I.base.trans (gro_same I.kr)
  real := I.real.trans e
  kr := gro_in I.kr e
  old := fun b o h h0 => by
    cases q : Hr b with
    | none =>
      cases q0 : H0 b with
      | none => exact absurd q0 h0
      | some u =>
        rw [I.real _ _ q0] at q
        cases q
    | some u =>
      rw [gro_old q] at h
      exact I.old b o h h0
  bor := I.bor
  len := I.len
  val := fun i d h => by
    obtain ⟨v, q1, q2⟩ := I.val i d h
    exact ⟨v, q1, Dp.mono (gro_same I.kr) d q2⟩
  own := fun i ds h => by
    obtain ⟨a, vs, q1, q2, q3, q4, q5⟩ := I.own i ds h
    exact ⟨a, vs, q1, e _ _ q2, by rw [gro_old q2]; exact q3, q4, DpAll.mono (gro_same I.kr) ds q5⟩
  dis := I.dis
  zh := I.zh
  zb := I.zb
  bxs := I.bxs.mono (gro_same I.kr)
  eh := I.eh
  ze := I.ze
/-- a slot gets data -/
theorem Ok.set (I : Ok K bi σ0 B H0 ρ σ Hk Hr) {i : Nat} {v : V} {d : PyData} (hi : i ∉ bi) (h : Dp K Hk v d) : Ok K bi σ0 B H0 (ρ.set i (.val d)) (σ.set i (some v)) Hk Hr where
  base := I.base
  real := I.real
  kr := I.kr
  old := I.old
  bor := fun j hj => by
    have : i ≠ j := fun q => hi (q ▸ hj)
    rw [List.getElem?_set_ne this]
    exact I.bor j hj
  len := by simp [I.len]
  val := fun j e hj => by
    by_cases q : i = j
    · subst q
      have hl : i < ρ.length := by
        have := (List.getElem?_eq_some_iff.mp hj).1
        simpa using this
      rw [List.getElem?_set_self hl] at hj
      injection hj with hj; injection hj with hj; subst hj
      exact ⟨v, by rw [List.getElem?_set_self (by rw [← I.len]; exact hl)], h⟩
    · rw [List.getElem?_set_ne q] at hj ⊢
      exact I.val j e hj
  own := fun j ds hj => by
    by_cases q : i = j
    · subst q
      have hl : i < ρ.length := by
        have := (List.getElem?_eq_some_iff.mp hj).1
        simpa using this
      rw [List.getElem?_set_self hl] at hj
      cases hj
    · rw [List.getElem?_set_ne q] at hj ⊢
      exact I.own j ds hj
  zh := I.zh
  zb := I.zb
  bxs := I.bxs.set (Same.refl _) (fun _ z => nomatch z)
  eh := I.eh
  ze := I.ze
  dis := fun j l ds es hj hl n => by
    have g : ∀ {m : Nat} {zs : List PyData}, (ρ.set i (.val d))[m]? = some (.own zs) → i ≠ m ∧ ρ[m]? = some (.own zs) := fun {m zs} hm => by
      by_cases q : i = m
      · subst q
        have hl : i < ρ.length := by
          have := (List.getElem?_eq_some_iff.mp hm).1
          simpa using this
        rw [List.getElem?_set_self hl] at hm
        cases hm
      · rw [List.getElem?_set_ne q] at hm
        exact ⟨q, hm⟩
    obtain ⟨a1, a2⟩ := g hj
    obtain ⟨b1, b2⟩ := g hl
    rw [List.getElem?_set_ne a1, List.getElem?_set_ne b1]
    exact I.dis j l ds es a2 b2 n
/-- a slot is forgotten -/
theorem Ok.drop (I : Ok K bi σ0 B H0 ρ σ Hk Hr) {i : Nat} : Ok K bi σ0 B H0 (ρ.set i .no) σ Hk Hr where
  base := I.base
  real := I.real
  kr := I.kr
  old := I.old
  bor := I.bor
  len := by simp [I.len]
  val := fun j e hj => by
    by_cases q : i = j
    · subst q
      have hl : i < ρ.length := by
        have := (List.getElem?_eq_some_iff.mp hj).1
        simpa using this
      rw [List.getElem?_set_self hl] at hj
      cases hj
    · rw [List.getElem?_set_ne q] at hj
      exact I.val j e hj
  own := fun j ds hj => by
    by_cases q : i = j
    · subst q
      have hl : i < ρ.length := by
        have := (List.getElem?_eq_some_iff.mp hj).1
        simpa using this
      rw [List.getElem?_set_self hl] at hj
      cases hj
    · rw [List.getElem?_set_ne q] at hj
      exact I.own j ds hj
  zh := I.zh
  zb := I.zb
  bxs := I.bxs.set0 (Same.refl _) (fun _ z => nomatch z)
  eh := I.eh
  ze := I.ze
  dis := fun j l ds es hj hl n => by
    have g : ∀ {m : Nat} {zs : List PyData}, (ρ.set i .no)[m]? = some (.own zs) → ρ[m]? = some (.own zs) := fun {m zs} hm => by
      by_cases q : i = m
      · subst q
        have hl : i < ρ.length := by
          have := (List.getElem?_eq_some_iff.mp hm).1
          simpa using this
        rw [List.getElem?_set_self hl] at hm
        cases hm
      · rw [List.getElem?_set_ne q] at hm
        exact hm
    exact I.dis j l ds es (g hj) (g hl) n
/-- an owned list is changed -/
theorem Ok.mut (I : Ok K bi σ0 B H0 ρ σ Hk Hr) {i : Nat} {ds es : List PyData} {a : Addr} {ws : List V} (h : ρ[i]? = some (.own ds)) (s : σ[i]? = some (some (.ref a))) (hw : DpAll K Hk ws es) : Ok K bi σ0 B H0 (ρ.set i (.own es)) σ Hk (upd Hr a (.lst ws)) := by
  obtain ⟨a', vs, s1, s2, s3, s4, s5⟩ := I.own i ds h
  rw [s] at s1
  injection s1 with s1; injection s1 with s1; injection s1 with s1; subst s1
  have hl : i < ρ.length := (List.getElem?_eq_some_iff.mp h).1
  have g : ∀ {m : Nat} {zs : List PyData}, (ρ.set i (.own es))[m]? = some (.own zs) → ∃ us, ρ[m]? = some (.own us) := fun {m zs} hm => by
    by_cases q : i = m
    · subst q
      exact ⟨ds, h⟩
    · rw [List.getElem?_set_ne q] at hm
      exact ⟨_, hm⟩
  refine ⟨I.base, fun b o q => ?_, fun b o q => ?_, I.old, I.bor, by simp [I.len], fun j d hj => ?_, fun j zs hj => ?_, fun j l xs ys hj hl n => ?_, I.zh, I.zb, I.bxs.set0 (Same.refl _) (fun _ z => nomatch z), I.eh, I.ze⟩
  · rw [upd_ne (ne_of_none q s4)]
    exact I.real _ _ q
  · rw [upd_ne (ne_of_none q s3)]
    exact I.kr _ _ q
  · by_cases q : i = j
    · subst q
      rw [List.getElem?_set_self hl] at hj
      cases hj
    · rw [List.getElem?_set_ne q] at hj
      exact I.val j d hj
  · by_cases q : i = j
    · subst q
      rw [List.getElem?_set_self hl] at hj
      injection hj with hj; injection hj with hj; subst hj
      exact ⟨a, ws, s, upd_same, s3, s4, hw⟩
    · rw [List.getElem?_set_ne q] at hj
      obtain ⟨b, us, t1, t2, t3, t4, t5⟩ := I.own j zs hj
      refine ⟨b, us, t1, ?_, t3, t4, t5⟩
      rw [upd_ne (fun z => ?_)]
      · exact t2
      · subst z
        exact I.dis i j ds zs h hj q (s.trans t1.symm)
  · obtain ⟨us, q1⟩ := g hj
    obtain ⟨ws', q2⟩ := g hl
    exact I.dis j l us ws' q1 q2 n
end
end Pd
namespace Pd
open PySem L2
/-- in slots ρ the expression gives d and leaves slots ρ' (owned lists may have changed) -/
def EE (X : Cx) (e : Expr) (ρ : List Sl) (d : PyData) (ρ' : List Sl) : Prop :=
  ∀ (bi : List Nat) (σ0 : L2.St) (B : Be) (H0 : Fr) (σ : L2.St) (Hk Hr : Hp), Ok X.K bi σ0 B H0 ρ σ Hk Hr → ∀ Q : VK, (∀ v Hk' Hr', Ok X.K bi σ0 B H0 ρ' σ Hk' Hr' → Same Hk Hk' → Dp X.K Hk' v d → Q v Hr') → sE X e σ Hr Q
def EA (X : Cx) (es : List Expr) (ρ : List Sl) (ds : List PyData) (ρ' : List Sl) : Prop :=
  ∀ (bi : List Nat) (σ0 : L2.St) (B : Be) (H0 : Fr) (σ : L2.St) (Hk Hr : Hp), Ok X.K bi σ0 B H0 ρ σ Hk Hr → ∀ Q : List V → Hp → Prop, (∀ vs Hk' Hr', Ok X.K bi σ0 B H0 ρ' σ Hk' Hr' → Same Hk Hk' → DpAll X.K Hk' vs ds → Q vs Hr') → sA X es σ Hr Q
def ET (X : Cx) (e : Expr) (ρ : List Sl) (b : Bool) (ρ' : List Sl) : Prop :=
  ∀ (bi : List Nat) (σ0 : L2.St) (B : Be) (H0 : Fr) (σ : L2.St) (Hk Hr : Hp), Ok X.K bi σ0 B H0 ρ σ Hk Hr → ∀ Q : Bool → Hp → Prop, (∀ Hk' Hr', Ok X.K bi σ0 B H0 ρ' σ Hk' Hr' → Same Hk Hk' → Q b Hr') → sT X e σ Hr Q
/-- an operation on values, on arguments -/
def RD (K : PySem.W.Frag) (r : R2) (d1 d2 d : PyData) : Prop := ∀ x y Hk Hr, Same Hk Hr → Dp K Hk x d1 → Dp K Hk y d2 → ∀ Q : VK, (∀ v H2, Same Hr H2 → Dp K (gro Hk Hr H2) v d → Q v H2) → r x y Hr Q
def RA (K : PySem.W.Frag) (r : List V → Hp → VK → Prop) (ds : List PyData) (d : PyData) : Prop := ∀ vs Hk Hr, Same Hk Hr → DpAll K Hk vs ds → ∀ Q : VK, (∀ v H2, Same Hr H2 → Dp K (gro Hk Hr H2) v d → Q v H2) → r vs Hr Q
section
variable {X : Cx} {a b e : Expr} {es : List Expr} {ρ ρ1 ρ2 : List Sl} {d d1 d2 d3 : PyData} {ds : List PyData} {pos : Pos} {i j : Int}
theorem ee_var {x : Str} {n : Nat} (hN : X.N[n]? = some x) (hr : ρ[n]? = some (.val d)) (hv : Vis X.env.scope x := by first | exact Or.inl rfl | exact Or.inr (Or.inl rfl) | exact Or.inr (Or.inr rfl)) (hd : (x == ("__debug__" : Str)) = false := by decide)
    (hcd : (x == ("__classdict__" : Str)) = false := by decide) : EE X (.Name x pos) ρ d ρ := fun bi σ0 B H0 σ Hk Hr I Q q => by
  obtain ⟨v, s, h⟩ := I.val n d hr
  exact sE_of (pe_var hN hv hd hcd) ⟨v, s, q v Hk Hr I (Same.refl _) h⟩
theorem ee_c {v : V} (h : PE X e (tC v)) (hv : ∀ H, Dp X.K H v d) : EE X e ρ d ρ := fun bi σ0 B H0 σ Hk Hr I Q q =>
  sE_of h (q v Hk Hr I (Same.refl _) (hv _))
theorem ee_int {n : Nat} : EE X (.Constant (.int i) n pos) ρ (.int i) ρ := ee_c pe_int fun _ => .int i
theorem ea_nil : EA X [] ρ [] ρ := fun bi σ0 B H0 σ Hk Hr I Q q => sA_of pa_nil (q [] Hk Hr I (Same.refl _) .nil)
theorem ea_cons (ha : EE X e ρ d ρ1) (hr : EA X es ρ1 ds ρ2) (hs : starEach (e :: es) X.env = (false, eval e X.env) :: starEach es X.env := by rfl) : EA X (e :: es) ρ (d :: ds) ρ2 := fun bi σ0 B H0 σ Hk Hr I Q q =>
  sA_of (pa_cons pe_s pa_s hs) (ha bi σ0 B H0 σ Hk Hr I _ fun v Hk1 Hr1 I1 m1 h1 => hr bi σ0 B H0 σ Hk1 Hr1 I1 _ fun vs Hk2 Hr2 I2 m2 h2 => q (v :: vs) Hk2 Hr2 I2 (m1.trans m2) (.cons (Dp.mono m2 d h1) h2))
theorem ee_op2 {r : R2} (h : PE X e (tOp r (sE X a) (sE X b))) (ha : EE X a ρ d1 ρ1) (hb : EE X b ρ1 d2 ρ2) (hr : RD X.K r d1 d2 d) : EE X e ρ d ρ2 := fun bi σ0 B H0 σ Hk Hr I Q q =>
  sE_of h (ha bi σ0 B H0 σ Hk Hr I _ fun x Hk1 Hr1 I1 m1 h1 => hb bi σ0 B H0 σ Hk1 Hr1 I1 _ fun y Hk2 Hr2 I2 m2 h2 =>
    hr x y Hk2 Hr2 I2.kr (Dp.mono m2 _ h1) h2 Q fun v H2 e2 hv => q v _ H2 (I2.gro e2) (m1.trans (m2.trans (gro_same I2.kr))) hv)
theorem ee_op {op : Operator} {r : R2} (ho : OpR X (binaryOp op) r) (ha : EE X a ρ d1 ρ1) (hb : EE X b ρ1 d2 ρ2) (hr : RD X.K r d1 d2 d) : EE X (.BinOp a op b pos) ρ d ρ2 := ee_op2 (pe_op ho pe_s pe_s) ha hb hr
theorem gro_refl {K : PySem.W.Frag} {Hk Hr : Hp} {v : V} (kr : Same Hk Hr) (h : Dp K Hk v d) : Dp K (gro Hk Hr Hr) v d := Dp.mono (gro_same kr) d h
theorem rd_int {K : PySem.W.Frag} {C : Int → Int → Prop} {g : Int → Int → Int} (hc : C i j) : RD K (rI C fun i j => .int (g i j)) (.int i) (.int j) (.int (g i j)) := fun x y Hk Hr kr hx hy Q q => by
  cases hx; cases hy
  exact ⟨i, j, rfl, rfl, hc, q _ Hr (Same.refl _) (.int _)⟩
theorem rd_int0 {K : PySem.W.Frag} {g : Int → Int → Int} : RD K (rI0 fun i j => .int (g i j)) (.int i) (.int j) (.int (g i j)) := fun x y Hk Hr kr hx hy Q q => by
  cases hx; cases hy
  exact ⟨i, j, rfl, rfl, q _ Hr (Same.refl _) (.int _)⟩
theorem rd_cmp {K : PySem.W.Frag} {g : Int → Int → Bool} : RD K (rI0 fun i j => .bl (g i j)) (.int i) (.int j) (.bool (g i j)) := fun x y Hk Hr kr hx hy Q q => by
  cases hx; cases hy
  exact ⟨i, j, rfl, rfl, q _ Hr (Same.refl _) (.bl _)⟩
theorem rd_eqD {K : PySem.W.Frag} (h1 : SeqAt.shaped d1 = true) (h2 : SeqAt.shaped d2 = true) : RD K (rEqD K) d1 d2 (.bool (PyData.eqv d1 d2)) := fun x y Hk Hr kr hx hy Q q =>
  ⟨d1, d2, Dp.mono kr _ hx, Dp.mono kr _ hy, h1, h2, q _ Hr (Same.refl _) (.bl _)⟩
theorem rd_neD {K : PySem.W.Frag} (h1 : SeqAt.shaped d1 = true) (h2 : SeqAt.shaped d2 = true) : RD K (rNeD K) d1 d2 (.bool (!PyData.eqv d1 d2)) := fun x y Hk Hr kr hx hy Q q =>
  ⟨d1, d2, Dp.mono kr _ hx, Dp.mono kr _ hy, h1, h2, q _ Hr (Same.refl _) (.bl _)⟩
theorem atI_all {K : PySem.W.Frag} {H : Hp} {vs : List V} (h : DpAll K H vs ds) (g : atI ds i = some d) : ∃ v, atI vs i = some v ∧ Dp K H v d := by
  obtain ⟨j, q1, q2, q3, q4, q5⟩ := atI_get g
  have hl := DpAll.len h
  obtain ⟨v, s1, s2⟩ := DpAll.get h q2
  refine ⟨v, ?_, s2⟩
  unfold atI at g ⊢
  rw [hl]
  cases z : ixN ds.length i with
  | none => rw [z] at g; cases g
  | some m =>
    rw [z] at g
    show vs[m]? = some v
    have g' : ds[m]? = some d := g
    have : m = j := by
      unfold ixN at z
      have e1 : seqIndex? i ds.length = some j := q1
      first
        | (rw [e1] at z; exact (Option.some.inj z).symm)
        | (unfold seqIndex? at e1; split at z <;> split at e1 <;> simp_all <;> omega)
    rw [this]; exact s1
theorem new_same {H : Hp} {p : Addr} (h : H p = none) (o : HO) : Same H (upd H p o) := fun b u q => by rw [upd_ne (ne_of_none q h)]; exact q
theorem gro_tup {K : PySem.W.Frag} {Hk Hr : Hp} {p : Addr} {vs : List V} (kr : Same Hk Hr) (hp : Hr p = none) (h : DpAll K Hk vs ds) : Dp K (gro Hk Hr (upd Hr p (.tup vs))) (.ref p) (.tuple ds) :=
  .tup (.inl (.inl (by rw [gro_new hp, upd_same]))) (DpAll.mono (gro_same kr) ds h)
theorem gro_lst {K : PySem.W.Frag} {Hk Hr : Hp} {p : Addr} {vs : List V} (kr : Same Hk Hr) (hp : Hr p = none) (h : DpAll K Hk vs ds) : Dp K (gro Hk Hr (upd Hr p (.lst vs))) (.ref p) (.list ds) :=
  .lst (.inl (.inl (by rw [gro_new hp, upd_same]))) (DpAll.mono (gro_same kr) ds h)
theorem le_line {n : Nat} (h : n ≤ 100000) : n ≤ sizeLine := Nat.le_trans h (by decide)
theorem lt_line {n : Nat} (h : n < 100000) : n < sizeLine := Nat.lt_of_lt_of_le h (by decide)
theorem rd_cat {K : PySem.W.Frag} {es : List PyData} (h : ds.length + es.length ≤ 100000) : RD K (rCatA K) (.tuple ds) (.tuple es) (.tuple (ds ++ es)) := fun x y Hk Hr kr hx hy Q q => by
  cases hx with
  | tup hs ha =>
    cases hy with
    | tup ht hb =>
      have l1 := DpAll.len ha
      have l2 := DpAll.len hb
      refine ⟨_, _, _, _, rfl, rfl, same_t kr hs, same_t kr ht, by rw [l1, l2]; exact le_line h, fun e0 => ?_, fun n1 e0 => ?_, fun n1 n2 p hp => ?_⟩
      · have : ds = [] := List.length_eq_zero_iff.mp (by rw [← l1, e0]; rfl)
        subst this
        exact q _ Hr (Same.refl _) (gro_refl kr (.tup ht hb))
      · have : es = [] := List.length_eq_zero_iff.mp (by rw [← l2, e0]; rfl)
        subst this
        rw [List.append_nil] at q
        exact q _ Hr (Same.refl _) (gro_refl kr (.tup hs ha))
      · exact q _ _ (new_same hp _) (gro_tup kr hp (DpAll.app ha hb))
theorem et_cmp {op : CmpOp} {r : R2} {k : Bool} (ho : OpR X (compareOp op) r) (ha : EE X a ρ d1 ρ1) (hb : EE X b ρ1 d2 ρ2) (hr : RD X.K r d1 d2 (.bool k)) (hm : behindInMarks op b = false := by rfl) : ET X (.Compare a [op] [b] pos) ρ k ρ2 := fun bi σ0 B H0 σ Hk Hr I Q q =>
  sT_of (pt_cmpR ho pe_s pe_s hm) (ha bi σ0 B H0 σ Hk Hr I _ fun x Hk1 Hr1 I1 m1 h1 => hb bi σ0 B H0 σ Hk1 Hr1 I1 _ fun y Hk2 Hr2 I2 m2 h2 =>
    hr x y Hk2 Hr2 I2.kr (Dp.mono m2 _ h1) h2 _ fun v H2 e2 hv => by
      cases hv
      exact ⟨k, rfl, q _ H2 (I2.gro e2) (m1.trans (m2.trans (gro_same I2.kr)))⟩)
end
/-- a test whatever its whole is -/
def sW (X : Cx) (e : Expr) : TT := fun σ H Q => ∀ whole pins s, Inv X pins σ H s → wpAny (model X.prog X.w) X.A (isTrue e X.env whole) (TP X pins σ Q) X.xe s
section
variable {X : Cx} {a b e : Expr} {rest : List Expr} {ρ ρ1 ρ2 : List Sl} {k m : Bool} {pos : Pos}
theorem pw_s : PW X e (sW X e) := ⟨fun whole pins s _ _ _ I h => h whole pins s I⟩
end
section
variable {X : Cx} {a b e c : Expr} {es : List Expr} {ρ ρ1 ρ2 : List Sl} {d d1 d2 : PyData} {ds cs : List PyData} {pos p0 : Pos} {i j : Int} {x : Str}
theorem ee_tCB {r : List V → Hp → VK → Prop} (h : PE X c (tCB r (sA X es))) (ha : EA X es ρ ds ρ1) (hr : RA X.K r ds d) : EE X c ρ d ρ1 := fun bi σ0 B H0 σ Hk Hr I Q q =>
  sE_of h (ha bi σ0 B H0 σ Hk Hr I _ fun vs Hk1 Hr1 I1 m1 h1 => hr vs Hk1 Hr1 I1.kr h1 Q fun v H2 e2 hv => q v _ H2 (I1.gro e2) (m1.trans (gro_same I1.kr)) hv)
end
end Pd
namespace Pd
open PySem L2 PySem.Spec PyProof.Rows
/-- a block in slots ρ: falls through with slots of which N, or hands back d with slots ρ' of which R d ρ' -/
abbrev RTy := Hp → V → List Sl → Hp → Hp → Prop
/-- the answer by its data -/
def RDt (K : PySem.W.Frag) (R : PyData → List Sl → Prop) : RTy := fun _ v ρ' Hk' _ => ∃ d, R d ρ' ∧ Dp K Hk' v d
/-- a new list of ints -/
def RNew (P : List Int → Prop) : RTy := fun H0 v _ _ Hr' => ∃ p ns, v = .ref p ∧ H0 p = none ∧ Hr' p = some (.lst (ns.map V.int)) ∧ P ns
def SS (X : Cx) (bi : List Nat) (sts : List Stmt) (ρ : List Sl) (N : List Sl → Prop) (R : RTy) : Prop :=
  ∀ (σ0 : L2.St) (B : Be) (H0 : Fr), (bi = [] → Same X.H_0 B.e) → ∀ (σ : L2.St) (Hk Hr : Hp) (D : Ends), Ok X.K bi σ0 B H0 ρ σ Hk Hr →
    (∀ ρ' σ' Hk' Hr', N ρ' → OkE X.K bi σ0 B ρ' σ' Hk' Hr' → Same Hk Hk' → D.nx σ' Hr') →
    (∀ v ρ' σ' Hk' Hr', R B.e v ρ' Hk' Hr' → OkE X.K bi σ0 B ρ' σ' Hk' Hr' → D.rt v Hr') → sSs X sts D σ Hr
/-- what is walked: the items ds -/
def Wk (K : PySem.W.Frag) (J : It) (ds : List PyData) (Hk : Hp) : Prop := ∀ i Hr, Same Hk Hr →
  (i < ds.length → J.go i Hr) ∧ (i = ds.length → J.stop i Hr) ∧ ∀ x H', J.yld i Hr x H' → Same Hr H' ∧ ∀ d, ds[i]? = some d → Dp K (gro Hk Hr H') x d
theorem Wk.of {K : PySem.W.Frag} {J : It} {ds : List PyData} {Hk : Hp} (h : ∀ i Hr, Same Hk Hr → (i < ds.length → J.go i Hr) ∧ (ds.length ≤ i → J.stop i Hr) ∧ ∀ x H', J.yld i Hr x H' → Same Hr H' ∧ ∀ d, ds[i]? = some d → Dp K (gro Hk Hr H') x d) : Wk K J ds Hk := fun i Hr e => ⟨(h i Hr e).1, fun q => (h i Hr e).2.1 (Nat.le_of_eq q.symm), (h i Hr e).2.2⟩
def EI (X : Cx) (tg iter : Expr) (ρ : List Sl) (ds : List PyData) (ρ' : List Sl) : Prop := ∃ wi, PI X tg iter wi ∧
  ∀ (bi : List Nat) (σ0 : L2.St) (B : Be) (H0 : Fr) (σ : L2.St) (Hk Hr : Hp), Ok X.K bi σ0 B H0 ρ σ Hk Hr → ∀ R : It → Hp → Prop, (∀ J Hk' Hr', Ok X.K bi σ0 B H0 ρ' σ Hk' Hr' → Same Hk Hk' → Wk X.K J ds Hk' → R J Hr') → wi σ Hr R
/-- a target's reading -/
def EG (K : PySem.W.Frag) (bi : List Nat) (g : TG) (ρ : List Sl) (d : PyData) (ρ' : List Sl) : Prop :=
  ∀ (σ0 : L2.St) (B : Be) (H0 : Fr) (σ : L2.St) (Hk Hr : Hp) (v : V), Ok K bi σ0 B H0 ρ σ Hk Hr → Dp K Hk v d → ∀ Q : L2.St → Hp → Prop, (∀ σ', Ok K bi σ0 B H0 ρ' σ' Hk Hr → Q σ' Hr) → g v σ Hr Q
theorem gro_le {Hk Hk' Hr H2 : Hp} (e : Same Hk Hk') : Same (gro Hk Hr H2) (gro Hk' Hr H2) := fun b o h => by
  cases q : Hr b with
  | none => rw [gro_new q] at h ⊢; exact h
  | some u => rw [gro_old q] at h ⊢; exact e _ _ h
section
variable {X : Cx} {bi : List Nat} {a b e c tg iter : Expr} {es : List Expr} {rest body sts : List Stmt} {ρ ρ1 ρ2 : List Sl} {N : List Sl → Prop} {R : RTy} {d d1 d2 : PyData} {ds : List PyData} {pos p0 p1 : Pos} {x y : Str} {n m : Nat} {k : Bool}
theorem ss_nil (h : N ρ) : SS X bi [] ρ N R := fun σ0 B H0 hz σ Hk Hr D I nx rt => sSs_of pss_nil (nx ρ σ Hk Hr h ⟨H0, I⟩ (Same.refl _))
/-- name = e -/
theorem ss_set (hN : X.N.Nodup) (hi : X.N[n]? = some x) (hb : n ∉ bi) (he : EE X e ρ d ρ1) (hr : SS X bi rest (ρ1.set n (.val d)) N R) (hx : Loc X.env.scope x := by first | exact Or.inl rfl | exact Or.inr rfl)
    (hs : swapsWith e (some (.Name x p0)) pos.line X.env = pure false := by rfl) (hf : X.fn x = true ∨ X.env.scope.names.lookup x = some .local := by first | exact .inl rfl | exact .inr rfl) : SS X bi (.Assign [.Name x p0] e pos :: rest) ρ N R := fun σ0 B H0 hz σ Hk Hr D I nx rt =>
  sSs_of (pss_cons (ps_set hN hi hx pe_s hs hf) pss_s) (he bi σ0 B H0 σ Hk Hr I _ fun v Hk1 Hr1 I1 m1 h1 =>
    hr σ0 B H0 hz _ Hk1 Hr1 D (I1.set hb h1) (fun ρ' σ' Hk' Hr' q I' m' => nx ρ' σ' Hk' Hr' q I' (m1.trans m')) rt)
/-- name[i] = e, the list one's own -/
theorem ss_put {ix : Expr} {j : Int} {w : Nat} (hi : X.N[n]? = some x) (h : ρ1[n]? = some (.own ds)) (he : EE X e ρ d ρ1) (hj : EE X ix ρ1 (.int j) ρ1) (hw : ixN ds.length j = some w) (hr : SS X bi rest (ρ1.set n (.own (ds.set w d))) N R)
    (hp : PS X (.Assign [.Subscript (.Name x p0) ix p1] e pos) (tAsg (sE X e) (gSub (tVar n) (sE X ix) rSetL))) : SS X bi (.Assign [.Subscript (.Name x p0) ix p1] e pos :: rest) ρ N R := fun σ0 B H0 hz σ Hk Hr D I nx rt => by
  refine sSs_of (pss_cons hp pss_s) (he bi σ0 B H0 σ Hk Hr I _ fun v Hk1 Hr1 I1 m1 h1 => ?_)
  obtain ⟨a0, vs0, t1, t2, t3, t4, t5⟩ := I1.own n ds h
  refine ⟨.ref a0, t1, hj bi σ0 B H0 σ Hk1 Hr1 I1 _ fun w2 Hk2 Hr2 I2 m2 h2 => ?_⟩
  cases h2
  obtain ⟨a1, vs1, u1, u2, u3, u4, u5⟩ := I2.own n ds h
  have ea : a0 = a1 := by
    rw [t1] at u1
    injection u1 with u1; injection u1 with u1; injection u1
  subst ea
  refine ⟨a0, vs1, j, w, rfl, rfl, u2, by rw [DpAll.len u5]; exact hw, ?_⟩
  exact hr σ0 B H0 hz σ Hk2 _ D (I2.mut h u1 (DpAll.set w u5 (Dp.mono m2 d h1))) (fun ρ' σ' Hk' Hr' q I' m' => nx ρ' σ' Hk' Hr' q I' (m1.trans (m2.trans m'))) rt
theorem ss_if {N1 : List Sl → Prop} {tb eb : List Stmt} (hc : ET X c ρ k ρ1) (ha : k = true → SS X bi tb ρ1 N1 R) (hb : k = false → SS X bi eb ρ1 N1 R) (hr : ∀ ρ2, N1 ρ2 → SS X bi rest ρ2 N R) : SS X bi (.If c tb eb pos :: rest) ρ N R := fun σ0 B H0 hz σ Hk Hr D I nx rt =>
  sSs_of (pss_cons (ps_if pt_s pss_s pss_s) pss_s) (hc bi σ0 B H0 σ Hk Hr I _ fun Hk1 Hr1 I1 m1 => by
    cases k with
    | true => exact iteT (ha rfl σ0 B H0 hz σ Hk1 Hr1 _ I1 (fun ρ' σ' Hk' Hr' q ⟨H1, I'⟩ m' => hr ρ' q σ0 B H1 hz σ' Hk' Hr' D I' (fun ρ2 σ2 Hk2 Hr2 q2 I2 m2 => nx ρ2 σ2 Hk2 Hr2 q2 I2 (m1.trans (m'.trans m2))) rt) rt)
    | false => exact iteF (hb rfl σ0 B H0 hz σ Hk1 Hr1 _ I1 (fun ρ' σ' Hk' Hr' q ⟨H1, I'⟩ m' => hr ρ' q σ0 B H1 hz σ' Hk' Hr' D I' (fun ρ2 σ2 Hk2 Hr2 q2 I2 m2 => nx ρ2 σ2 Hk2 Hr2 q2 I2 (m1.trans (m'.trans m2))) rt) rt))
/-- an if without else whose suite hands back -/
theorem ss_ifR {tb : List Stmt} (hc : ET X c ρ k ρ1) (ha : k = true → SS X bi tb ρ1 (fun _ => False) R) (hr : k = false → SS X bi rest ρ1 N R) : SS X bi (.If c tb [] pos :: rest) ρ N R :=
  ss_if (N1 := fun ρ2 => k = false ∧ ρ2 = ρ1) hc (fun h σ0 B H0 hz σ Hk Hr D I nx rt => ha h σ0 B H0 hz σ Hk Hr D I (fun _ _ _ _ q _ _ => q.elim) rt) (fun h => ss_nil ⟨h, rfl⟩) (fun ρ2 q => by obtain ⟨q1, q2⟩ := q; subst q2; exact hr q1)
theorem ss_ret {R : PyData → List Sl → Prop} (he : EE X e ρ d ρ1) (h : R d ρ1) : SS X bi (.Return (some e) pos :: rest) ρ N (RDt X.K R) := fun σ0 B H0 hz σ Hk Hr D I nx rt =>
  sSs_of (pss_cons (ps_ret pe_s) pss_s) (he bi σ0 B H0 σ Hk Hr I _ fun v Hk1 Hr1 I1 m1 h1 => rt v ρ1 σ Hk1 Hr1 ⟨d, h, h1⟩ ⟨H0, I1⟩)
theorem ss_retNew {ns : List Int} {P : List Int → Prop} (he : EA X es ρ (ns.map PyData.int) ρ1) (h : P ns) (hl : ns.length ≤ 100000 := by first | decide | simp) : SS X bi (.Return (some (.List es p0)) pos :: rest) ρ N (RNew P) := fun σ0 B H0 hz σ Hk Hr D I nx rt =>
  sSs_of (pss_cons (ps_ret (pe_lst pa_s)) pss_s) (he bi σ0 B H0 σ Hk Hr I _ fun vs Hk1 Hr1 I1 m1 h1 => by
    have e := DpAll.ints h1
    subst e
    refine ⟨by rw [List.length_map]; exact le_line hl, fun p hp => rt (.ref p) ρ1 σ _ _ ⟨p, ns, rfl, ?_, upd_same, h⟩ ⟨H0, I1.gro (new_same hp _)⟩⟩
    cases z : B.e p with
    | none => rfl
    | some u =>
      rw [I1.real _ _ (I1.eh _ _ z)] at hp
      cases hp)
theorem ei_list (he : EE X iter ρ (.list ds) ρ1) : EI X tg iter ρ ds ρ1 := ⟨_, pi_list pe_s, fun bi σ0 B H0 σ Hk Hr I R q => he bi σ0 B H0 σ Hk Hr I _ fun v Hk1 Hr1 I1 m1 h1 => by
  cases h1 with
  | lst hs ha =>
    refine ⟨_, rfl, ⟨_, same_l I1.kr hs⟩, q _ Hk1 Hr1 I1 m1 fun i Hr2 e2 => ⟨fun hi => ?_, fun hi => ⟨_, same_l e2 hs, by rw [DpAll.len ha]; exact Nat.le_of_eq hi.symm⟩, fun x H' hy => ?_⟩⟩
    · obtain ⟨v, s1, s2⟩ := DpAll.get ha (List.getElem?_eq_getElem hi)
      exact ⟨_, v, same_l e2 hs, s1⟩
    · obtain ⟨rfl, f⟩ := hy
      refine ⟨Same.refl _, fun d hd => ?_⟩
      obtain ⟨v, s1, s2⟩ := DpAll.get ha hd
      have := f _ (same_l e2 hs)
      rw [s1] at this
      injection this with this; subst this
      exact Dp.mono (gro_same e2) d s2⟩
/-- lo, lo + 1, .. : n ints -/
def rngD (lo : Int) (n : Nat) : List PyData := (List.range n).map fun i => .int (lo + (i : Nat))
theorem rngD_len {lo : Int} {n : Nat} : (rngD lo n).length = n := by unfold rngD; simp
theorem rngD_get {lo : Int} {n i : Nat} {d : PyData} (h : (rngD lo n)[i]? = some d) : i < n ∧ d = .int (lo + (i : Nat)) := by
  unfold rngD at h
  rw [List.getElem?_map] at h
  by_cases q : i < n
  · rw [List.getElem?_range q] at h
    exact ⟨q, (Option.some.inj h).symm⟩
  · rw [List.getElem?_eq_none (by simp; omega)] at h
    cases h
theorem wk_rng {K : PySem.W.Frag} {Hk : Hp} {lo : Int} {n : Nat} : Wk K (Itr lo n) (rngD lo n) Hk := Wk.of fun i Hr e => ⟨fun hi => by rw [rngD_len] at hi; exact hi, fun hi => by rw [rngD_len] at hi; exact hi, fun x H' hy => by
  obtain ⟨rfl, rfl⟩ := hy
  refine ⟨Same.refl _, fun d hd => ?_⟩
  obtain ⟨_, rfl⟩ := rngD_get hd
  exact .int _⟩
theorem eg_name {K : PySem.W.Frag} (hb : n ∉ bi) : EG K bi (gName n) ρ d (ρ.set n (.val d)) := fun σ0 B H0 σ Hk Hr v I h Q q => q _ (I.set hb h)
theorem ss_for {g : TG} (J : Nat → List Sl → Prop) (hi : EI X tg iter ρ ds ρ1) (hg : PG X tg g) (h0 : J 0 ρ1)
    (ht : ∀ i d ρi, ds[i]? = some d → J i ρi → ∃ ρj, EG X.K bi g ρi d ρj ∧ SS X bi body ρj (J (i + 1)) R) (hr : ∀ ρ', J ds.length ρ' → SS X bi rest ρ' N R)
    (hp : PassesOwn (model X.prog X.w) X.A X.env X.xe := by exact PassesOwn.never) (hc : X.calm = true := by rfl) (hs : ∀ x, foldedSetIterable iter X.env x = pure x := by intro _; rfl) : SS X bi (.For tg iter body [] pos :: rest) ρ N R := fun σ0 B H0 hz σ Hk Hr D I nx rt => by
  obtain ⟨wi, pi, q⟩ := hi
  refine sSs_of (pss_cons (ps_for hp hc pi hg pss_s hs) pss_s) (q bi σ0 B H0 σ Hk Hr I _ fun Jt Hk1 Hr1 I1 m1 wk => ?_)
  refine ⟨fun i m σ' Hr' => i + m = ds.length ∧ ∃ ρ' Hk', J i ρ' ∧ OkE X.K bi σ0 B ρ' σ' Hk' Hr' ∧ Same Hk1 Hk', ⟨ds.length, by omega, ρ1, Hk1, h0, ⟨H0, I1⟩, Same.refl _⟩, fun i m σ' Hr' hW => ?_⟩
  obtain ⟨em, ρ', Hk', jj, ⟨H1, I'⟩, m'⟩ := hW
  obtain ⟨w1, w2, w3⟩ := wk i Hr' (m'.trans I'.kr)
  by_cases hi : i < ds.length
  · refine .inr ⟨w1 hi, fun σ2 H2 => ∃ ρ2 Hk2, J (i + 1) ρ2 ∧ OkE X.K bi σ0 B ρ2 σ2 Hk2 H2 ∧ Same Hk1 Hk2, fun σ2 H2 hN => ⟨m - 1, by omega, by omega, hN⟩, fun xv H2 hy => ?_⟩
    obtain ⟨e2, fd⟩ := w3 xv H2 hy
    have hd := List.getElem?_eq_getElem hi
    obtain ⟨ρj, eg, ss⟩ := ht i _ ρ' hd jj
    have I2 := I'.gro e2
    refine eg σ0 B H1 σ' _ H2 xv I2 (Dp.mono (gro_le m') _ (fd _ hd)) _ fun σ3 I3 => ?_
    exact ss σ0 B H1 hz σ3 _ H2 _ I3 (fun ρ4 σ4 Hk4 Hr4 q4 I4 m4 => ⟨ρ4, Hk4, q4, I4, m'.trans ((gro_same I'.kr).trans m4)⟩) rt
  · have : i = ds.length := by omega
    subst this
    refine .inl ⟨w2 rfl, hr ρ' jj σ0 B H1 hz σ' Hk' Hr' D I' (fun ρ2 σ2 Hk2 Hr2 q2 I2 m2 => nx ρ2 σ2 Hk2 Hr2 q2 I2 (m1.trans (m'.trans m2))) rt⟩
end
/-- .. that may change the list which is its first argument: what it holds before, the other arguments, the answer, what it holds behind -/
def spB (K : PySem.W.Frag) (n : Nat) (φ : List PyData → List PyData → PyData → List PyData → Prop) : Sp := fun vs H Q _ => ∃ (B : Hp) (a : Addr) (ws us : List V) (cs ds : List PyData) (d : PyData) (cs' : List PyData), φ cs ds d cs' ∧ ds.length = n ∧ vs = .ref a :: ws ∧ H a = some (.lst us) ∧ B a = none ∧
  Same B H ∧ DpAll K B us cs ∧ DpAll K B ws ds ∧ ∀ v H' us', (∀ b o, b ≠ a → H b = some o → H' b = some o) → H' a = some (.lst us') → DpAll K (gro B H H') us' cs' → Dp K (gro B H H') v d → Q v H'
/-- .. that hands back a new list of ints -/
def spN (K : PySem.W.Frag) (n : Nat) (φ : List PyData → List Int → Prop) : Sp := fun vs H Q _ => ∃ (B : Hp) (ds : List PyData) (ns : List Int), φ ds ns ∧ ds.length = n ∧ Same B H ∧ DpAll K B vs ds ∧ ∀ p H', Same H H' → H p = none → H' p = some (.lst (ns.map V.int)) → Q (.ref p) H'
/-- the slots at a def's entry -/
def rho (ds : List PyData) (m : Nat) : List Sl := ds.map Sl.val ++ List.replicate m .no
theorem Bxs.none {K : PySem.W.Frag} {Z Hk : Hp} {ρ : List Sl} {σ : L2.St} (h : ∀ (i : Nat) (b : Bx), ρ[i]? ≠ some (.box b)) : Bxs K Z ρ σ Hk := ⟨fun _ => [], fun i b q => absurd q (h i b), fun i j b c q _ _ => absurd q (h i b)⟩
theorem rho_nobox {ds : List PyData} {m : Nat} : ∀ (i : Nat) (b : Bx), (rho ds m)[i]? ≠ some (.box b) := fun i b h => by
  have := List.mem_of_getElem? h
  unfold rho at this
  rcases List.mem_append.mp this with q | q
  · obtain ⟨d, _, e⟩ := List.mem_map.mp q
    cases e
  · have := List.eq_of_mem_replicate q
    cases this
theorem rho_nobox1 {cs ds : List PyData} {m : Nat} : ∀ (i : Nat) (b : Bx), (Sl.own cs :: rho ds m)[i]? ≠ some (.box b) := fun i b h => by
  cases i with
  | zero => cases h
  | succ i => exact rho_nobox i b (by simpa using h)
section
variable {P : Program} {w : World} {K : PySem.W.Frag} {mg : Str → Option Value} {base : Heap} {x qual : Str} {st : Stmt} {f : Addr} {fd : FuncData} {N ps : List Str} {k : Nat}
theorem start_get {vs : List V} {i : Nat} {v : V} (h : vs[i]? = some v) : (L2.start N vs)[i]? = some (some v) := by
  unfold L2.start
  rw [List.getElem?_append_left (by have := (List.getElem?_eq_some_iff.mp h).1; simpa using this), List.getElem?_map, h]
  rfl
theorem fdN_of {φ : List PyData → List Int → Prop} (F : Fun K x qual st f fd) (S : FnScope N ps (defScope st)) (hl : ps.length ≤ N.length)
    (body : ∀ (cdv : Value) (A : Around) (outer : List Env) (s : Shared) (H : Hp) (E : XK), Room k (A.deeper (envOfC qual (defScope st) s.heap.objs.size f cdv)) → ∀ ds ns, φ ds ns → ds.length = ps.length →
      SS (cxOf CX0 P w K mg base N qual (defScope st) f cdv A outer s H E).nox [] (defBody st) (rho ds (N.length - ps.length)) (fun _ => False) (RNew fun ms => ms = ns)) :
    FnOk P w K mg base CX0 (k + 1) f fd ps (spN K ps.length φ) := by
  refine F.ok S (fun vs H Q E h => ?_) (fun cdv A outer s H vs Q E hr h => ?_)
  · obtain ⟨B, ds, ns, _, h1, _, h2, _⟩ := h
    rw [DpAll.len h2, h1]
  · obtain ⟨B, ds, ns, hφ, h1, kr, ha, q⟩ := h
    have lv : vs.length = ps.length := by rw [DpAll.len ha, h1]
    refine ⟨_, pss_s, body cdv A outer s H E hr ds ns hφ h1 (L2.start N vs) ⟨B, H⟩ ⟨H, fun _ => none⟩ (fun _ _ _ h => h) (L2.start N vs) B H _ ?_ ?_ ?_⟩
    · refine ⟨Same.refl _, Same.refl _, kr, fun b o h _ => h, fun i hi => (nomatch hi), ?_, fun i e hi => ?_, fun i e hi => ?_, fun i j e1 e2 hi _ => ?_, (fun _ _ z => nomatch z), (fun _ _ z => nomatch z), Bxs.none rho_nobox, Same.refl _, (fun _ _ z => nomatch z)⟩
      · unfold rho L2.start
        simp [h1, lv]
      · unfold rho at hi
        by_cases q : i < ds.length
        · rw [List.getElem?_append_left (by simpa using q), List.getElem?_map, List.getElem?_eq_getElem q] at hi
          have hi := Option.some.inj hi
          injection hi with hi
          obtain ⟨v, s1, s2⟩ := DpAll.get ha (List.getElem?_eq_getElem q)
          subst hi
          exact ⟨v, start_get s1, s2⟩
        · rw [List.getElem?_append_right (by simpa using q), List.getElem?_replicate] at hi
          split at hi
          · cases Option.some.inj hi
          · cases hi
      all_goals
        exfalso
        unfold rho at hi
        by_cases q : i < ds.length
        · rw [List.getElem?_append_left (by simpa using q), List.getElem?_map, List.getElem?_eq_getElem q] at hi
          cases Option.some.inj hi
        · rw [List.getElem?_append_right (by simpa using q), List.getElem?_replicate] at hi
          split at hi
          · cases Option.some.inj hi
          · cases hi
    · intro ρ' σ' Hk' Hr' e I' _
      exact e.elim
    · rintro v ρ' σ' Hk' Hr' ⟨p, ms, rfl, hp, hl, rfl⟩ ⟨H1, I'⟩
      exact q p Hr' (I'.eh.trans I'.real) hp hl
theorem fdB_of {n : Nat} {φ : List PyData → List PyData → PyData → List PyData → Prop} (F : Fun K x qual st f fd) (S : FnScope N ps (defScope st)) (hn : ps.length = n + 1) (hl : ps.length ≤ N.length)
    (body : ∀ (cdv : Value) (A : Around) (outer : List Env) (s : Shared) (H : Hp) (E : XK), Room k (A.deeper (envOfC qual (defScope st) s.heap.objs.size f cdv)) → ∀ cs ds d cs', φ cs ds d cs' → ds.length = n →
      SS (cxOf CX0 P w K mg base N qual (defScope st) f cdv A outer s H E).nox [0] (defBody st) (.own cs :: rho ds (N.length - ps.length)) (fun ρ' => d = .none ∧ ρ'[0]? = some (.own cs')) (RDt K fun d' ρ' => d' = d ∧ ρ'[0]? = some (.own cs'))) :
    FnOk P w K mg base CX0 (k + 1) f fd ps (spB K n φ) := by
  refine F.ok S (fun vs H Q E h => ?_) (fun cdv A outer s H vs Q E hr h => ?_)
  · obtain ⟨B, a, ws, us, cs, ds, d, cs', _, h1, rfl, _, _, _, _, h2, _⟩ := h
    rw [List.length_cons, DpAll.len h2, h1, hn]
  · obtain ⟨B, a, ws, us, cs, ds, d, cs', hφ, h1, rfl, ua, ba, kr, hcs, ha, q⟩ := h
    have lv : ws.length = n := by rw [DpAll.len ha, h1]
    have fin : ∀ ρ' σ' Hk' Hr' v, ρ'[0]? = some (.own cs') → OkE K [0] (L2.start N (.ref a :: ws)) ⟨B, fun b => if b = a then none else H b⟩ ρ' σ' Hk' Hr' → Dp K Hk' v d → Q v Hr' := fun ρ' σ' Hk' Hr' v e ⟨H1, I'⟩ hv => by
      obtain ⟨a', us', t1, t2, t3, t4, t5⟩ := I'.own 0 cs' e
      have b0 := I'.bor 0 (by simp)
      rw [t1, start_get (v := .ref a) rfl] at b0
      injection b0 with b0; injection b0 with b0; injection b0 with b0; subst b0
      have up : Same Hk' (gro B H Hr') := fun b o h => by
        cases z : H b with
        | none => rw [gro_new z]; exact I'.kr _ _ h
        | some u =>
          rw [gro_old z]
          refine I'.old b o h ?_
          by_cases ba : b = a'
          · subst ba
            rw [t3] at h
            cases h
          · have : H1.h b = some u := I'.eh b u (by show (if b = a' then none else H b) = some u; rw [if_neg ba]; exact z)
            rw [this]
            exact fun z => nomatch z
      refine q v Hr' us' (fun b o hb h => I'.real b o (I'.eh b o ?_)) t2 (DpAll.mono up _ t5) (Dp.mono up _ hv)
      show (if b = a' then none else H b) = some o
      rw [if_neg hb]
      exact h
    refine ⟨_, pss_s, body cdv A outer s H E hr cs ds d cs' hφ h1 (L2.start N (.ref a :: ws)) ⟨B, fun b => if b = a then none else H b⟩ ⟨fun b => if b = a then none else H b, fun _ => none⟩ (fun h => nomatch h) (L2.start N (.ref a :: ws)) B H _ ?_ ?_ ?_⟩
    · refine ⟨Same.refl _, fun b o h => ?_, kr, fun b o h _ => h, fun i hi => rfl, ?_, fun i e hi => ?_, fun i e hi => ?_, fun i j e1 e2 hi hj hn => ?_, (fun _ _ z => nomatch z), (fun _ _ z => nomatch z), Bxs.none rho_nobox1, (fun _ _ h => h), (fun _ _ z => nomatch z)⟩
      · have h' : (if b = a then none else H b) = some o := h
        split at h'
        · cases h'
        · exact h'
      · unfold rho L2.start
        simp [h1, lv, hn]
      · cases i with
        | zero => cases hi
        | succ i =>
          have hi : (rho ds (N.length - ps.length))[i]? = some (.val e) := by simpa using hi
          unfold rho at hi
          by_cases q : i < ds.length
          · rw [List.getElem?_append_left (by simpa using q), List.getElem?_map, List.getElem?_eq_getElem q] at hi
            have hi := Option.some.inj hi
            injection hi with hi
            obtain ⟨v, s1, s2⟩ := DpAll.get ha (List.getElem?_eq_getElem q)
            subst hi
            exact ⟨v, start_get (by simpa using s1), s2⟩
          · rw [List.getElem?_append_right (by simpa using q), List.getElem?_replicate] at hi
            split at hi
            · cases Option.some.inj hi
            · cases hi
      · cases i with
        | zero =>
          have hi := Option.some.inj hi
          injection hi with hi
          subst hi
          exact ⟨a, us, start_get rfl, ua, ba, if_pos rfl, hcs⟩
        | succ i =>
          exfalso
          have hi : (rho ds (N.length - ps.length))[i]? = some (.own e) := by simpa using hi
          unfold rho at hi
          by_cases q : i < ds.length
          · rw [List.getElem?_append_left (by simpa using q), List.getElem?_map, List.getElem?_eq_getElem q] at hi
            cases Option.some.inj hi
          · rw [List.getElem?_append_right (by simpa using q), List.getElem?_replicate] at hi
            split at hi
            · cases Option.some.inj hi
            · cases hi
      · exfalso
        have key : ∀ {i : Nat} {e : List PyData}, (Sl.own cs :: rho ds (N.length - ps.length))[i + 1]? = some (.own e) → False := fun {i e} hi => by
          have hi : (rho ds (N.length - ps.length))[i]? = some (.own e) := by simpa using hi
          unfold rho at hi
          by_cases q : i < ds.length
          · rw [List.getElem?_append_left (by simpa using q), List.getElem?_map, List.getElem?_eq_getElem q] at hi
            cases Option.some.inj hi
          · rw [List.getElem?_append_right (by simpa using q), List.getElem?_replicate] at hi
            split at hi
            · cases Option.some.inj hi
            · cases hi
        cases i with
        | zero =>
          cases j with
          | zero => exact hn rfl
          | succ j => exact key hj
        | succ i => exact key hi
    · intro ρ' σ' Hk' Hr' e I' _
      obtain ⟨e1, e2⟩ := e
      subst e1
      exact fin ρ' σ' Hk' Hr' .non e2 I' .non
    · rintro v ρ' σ' Hk' Hr' ⟨d', ⟨e1, e2⟩, hv⟩ I'
      subst e1
      exact fin ρ' σ' Hk' Hr' v e2 I' hv
end
section
end
section
end
end Pd
namespace Pd
open PySem L2 PySem.Spec PyProof.Rows
def GE (K : PySem.W.Frag) (te : TE) (ρ : List Sl) (d : PyData) (ρ' : List Sl) : Prop :=
  ∀ (bi : List Nat) (σ0 : L2.St) (B : Be) (H0 : Fr) (σ : L2.St) (Hk Hr : Hp), Ok K bi σ0 B H0 ρ σ Hk Hr → ∀ Q : VK, (∀ v Hk' Hr', Ok K bi σ0 B H0 ρ' σ Hk' Hr' → Same Hk Hk' → Dp K Hk' v d → Q v Hr') → te σ Hr Q
def GT (K : PySem.W.Frag) (tt : TT) (ρ : List Sl) (b : Bool) (ρ' : List Sl) : Prop :=
  ∀ (bi : List Nat) (σ0 : L2.St) (B : Be) (H0 : Fr) (σ : L2.St) (Hk Hr : Hp), Ok K bi σ0 B H0 ρ σ Hk Hr → ∀ Q : Bool → Hp → Prop, (∀ Hk' Hr', Ok K bi σ0 B H0 ρ' σ Hk' Hr' → Same Hk Hk' → Q b Hr') → tt σ Hr Q
/-- a target that writes the slots vs alone -/
def GW (g : TG) (vs : List Nat) : Prop := ∀ v σ H (Q : L2.St → Hp → Prop), (g v (wipe σ vs) H fun σ2 H2 => wipe σ2 vs = wipe σ vs → Q σ2 H2) → g v (wipe σ vs) H fun σ2 H2 => wipe σ2 vs = wipe σ vs ∧ Q σ2 H2
section
variable {K : PySem.W.Frag} {bi bi' : List Nat} {σ0 σ0' σ σ' : L2.St} {Hk Hr : Hp} {B : Be} {H0 : Fr} {ρ ρ' : List Sl}
/-- other slots' values -/
theorem Ok.swap (I : Ok K bi σ0 B H0 ρ σ Hk Hr) (hb : ∀ i ∈ bi', σ'[i]? = σ0'[i]?) (hl : ρ'.length = σ'.length) (h : ∀ (i : Nat) (x : Sl), ρ'[i]? = some x → x = .no ∨ (ρ[i]? = some x ∧ σ'[i]? = σ[i]?)) : Ok K bi' σ0' B H0 ρ' σ' Hk Hr where
  base := I.base
  real := I.real
  kr := I.kr
  old := I.old
  bor := hb
  len := hl
  val := fun i d hi => by
    rcases h i _ hi with e | ⟨e1, e2⟩
    · cases e
    · rw [e2]; exact I.val i d e1
  own := fun i ds hi => by
    rcases h i _ hi with e | ⟨e1, e2⟩
    · cases e
    · rw [e2]; exact I.own i ds e1
  dis := fun i j ds es hi hj n => by
    rcases h i _ hi with e | ⟨e1, e2⟩
    · cases e
    · rcases h j _ hj with e | ⟨e3, e4⟩
      · cases e
      · rw [e2, e4]; exact I.dis i j ds es e1 e3 n
  zh := I.zh
  zb := I.zb
  bxs := I.bxs.sub (Same.refl _) fun i b q => by
    rcases h i _ q with e | e
    · cases e
    · exact e
  eh := I.eh
  ze := I.ze
/-- an address of a list of the def's own -/
def Ow (ρ : List Sl) (σ : L2.St) (b : Addr) : Prop := ∃ (i : Nat) (ds : List PyData), ρ[i]? = some (Sl.own ds) ∧ σ[i]? = some (some (V.ref b))
/-- what stands, the def's own lists left out -/
noncomputable def fen (ρ : List Sl) (σ : L2.St) (Hr : Hp) : Hp := by
  classical
  exact fun b => if Ow ρ σ b then none else Hr b
noncomputable def fenF (H0 : Fr) (ρ : List Sl) (σ : L2.St) (Hr : Hp) : Fr := ⟨fen ρ σ Hr, H0.z⟩
theorem fen_not {b : Addr} (h : ¬ Ow ρ σ b) : fen ρ σ Hr b = Hr b := by
  unfold fen
  exact if_neg h
theorem Ok.outer {Hk' Hr' : Hp} {bi2 : List Nat} {σ02 : L2.St} (I : Ok K bi σ0 B H0 ρ σ Hk Hr) (I' : Ok K bi2 σ02 (inB Hk) (fenF H0 ρ σ Hr) ρ' σ' Hk' Hr') : Ok K bi2 σ02 B H0 ρ' σ' Hk' Hr' where
  base := I.base.trans I'.base
  real := fun b o h => by
    have h1 := I.real b o h
    refine I'.real b o ?_
    show fen ρ σ Hr b = some o
    rw [fen_not]
    · exact h1
    · rintro ⟨i, ds, q1, q2⟩
      obtain ⟨a, vs, s1, s2, s3, s4, s5⟩ := I.own i ds q1
      rw [q2] at s1
      injection s1 with s1; injection s1 with s1; injection s1 with s1; subst s1
      rw [h] at s4
      cases s4
  kr := I'.kr
  old := fun b o h h0 => by
    have h1 : Hk b = some o := by
      refine I'.old b o h ?_
      cases z : H0 b with
      | none => exact absurd z h0
      | some u =>
        show fen ρ σ Hr b ≠ none
        rw [fen_not]
        · rw [I.real _ _ z]; exact fun z => nomatch z
        · rintro ⟨i, ds, q1, q2⟩
          obtain ⟨a, vs, s1, s2, s3, s4, s5⟩ := I.own i ds q1
          rw [q2] at s1
          injection s1 with s1; injection s1 with s1; injection s1 with s1; subst s1
          rw [z] at s4
          cases s4
    exact I.old b o h1 h0
  bor := I'.bor
  len := I'.len
  val := I'.val
  own := fun i ds h => by
    obtain ⟨a, vs, q1, q2, q3, q4, q5⟩ := I'.own i ds h
    refine ⟨a, vs, q1, q2, q3, ?_, q5⟩
    cases z : H0 a with
    | none => rfl
    | some u =>
      have h1 := I.real _ _ z
      by_cases w : Ow ρ σ a
      · obtain ⟨i2, ds2, r1, r2⟩ := w
        obtain ⟨a2, vs2, s1, s2, s3, s4, s5⟩ := I.own i2 ds2 r1
        rw [r2] at s1
        injection s1 with s1; injection s1 with s1; injection s1 with s1; subst s1
        rw [z] at s4
        cases s4
      · have q4 : fen ρ σ Hr a = none := q4
        rw [fen_not w, h1] at q4
        cases q4
  dis := I'.dis
  zh := I.zh
  zb := I.zb
  bxs := I'.bxs
  eh := I.eh
  ze := I.ze
theorem Ok.put (I : Ok K bi σ0 B H0 ρ σ Hk Hr) {D : Addr} {o : HO} (hk : Hk D = none) (h0 : H0 D = none) (hn : ¬ Ow ρ σ D) : Ok K bi σ0 B H0 ρ σ Hk (upd Hr D o) where
  base := I.base
  real := fun b u h => by rw [upd_ne (ne_of_none h h0)]; exact I.real _ _ h
  kr := fun b u h => by rw [upd_ne (ne_of_none h hk)]; exact I.kr _ _ h
  old := I.old
  bor := I.bor
  len := I.len
  val := I.val
  own := fun i ds h => by
    obtain ⟨a, vs, q1, q2, q3, q4, q5⟩ := I.own i ds h
    refine ⟨a, vs, q1, ?_, q3, q4, q5⟩
    rw [upd_ne (show a ≠ D from fun z => hn ⟨i, ds, h, by rw [← z]; exact q1⟩)]
    exact q2
  dis := I.dis
  zh := I.zh
  zb := I.zb
  bxs := I.bxs
  eh := I.eh
  ze := I.ze
end
section
variable {X : Cx} {elt tg iter c : Expr} {scope : Scope} {own : List (Str × Nat)} {ρ ρ1 : List Sl} {ds : List PyData} {pos : Pos}
def bE (X : Cx) (scope : Scope) (e : Expr) : TE := fun σ H Q => ∀ (s : Shared) (H1 : Hp) (C : Addr) (cl : List (Str × Addr)) (fp : List Addr), sE (X.blk s H1 scope (compEnvC scope cl C X.env) fp) e σ H Q
def bT (X : Cx) (scope : Scope) (e : Expr) : TT := fun σ H Q => ∀ (s : Shared) (H1 : Hp) (C : Addr) (cl : List (Str × Addr)) (fp : List Addr), sT (X.blk s H1 scope (compEnvC scope cl C X.env) fp) e σ H Q
theorem pe_b (s : Shared) (H : Hp) (C : Addr) (cl : List (Str × Addr)) (fp : List Addr) : PE (X.blk s H scope (compEnvC scope cl C X.env) fp) elt (bE X scope elt) := ⟨fun pins s' _ _ _ I h => h s H C cl fp pins s' I⟩
theorem pt_b (s : Shared) (H : Hp) (C : Addr) (cl : List (Str × Addr)) (fp : List Addr) : PT (X.blk s H scope (compEnvC scope cl C X.env) fp) c (bT X scope c) := ⟨fun pins s' _ _ _ I h => h s H C cl fp pins s' I⟩
/-- in each block of the comprehension -/
def BE (X : Cx) (scope : Scope) (e : Expr) (ρ : List Sl) (d : PyData) (ρ' : List Sl) : Prop := ∀ (s : Shared) (H : Hp) (C : Addr) (cl : List (Str × Addr)) (fp : List Addr), EE (X.blk s H scope (compEnvC scope cl C X.env) fp) e ρ d ρ'
def BT (X : Cx) (scope : Scope) (e : Expr) (ρ : List Sl) (b : Bool) (ρ' : List Sl) : Prop := ∀ (s : Shared) (H : Hp) (C : Addr) (cl : List (Str × Addr)) (fp : List Addr), ET (X.blk s H scope (compEnvC scope cl C X.env) fp) e ρ b ρ'
theorem BE.ge {e : Expr} {d : PyData} (h : BE X scope e ρ d ρ1) : GE X.K (bE X scope e) ρ d ρ1 := fun bi σ0 B H0 σ Hk Hr I Q q s H C cl fp => h s H C cl fp bi σ0 B H0 σ Hk Hr I Q q
theorem BT.gt {e : Expr} {b : Bool} (h : BT X scope e ρ b ρ1) : GT X.K (bT X scope e) ρ b ρ1 := fun bi σ0 B H0 σ Hk Hr I Q q s H C cl fp => h s H C cl fp bi σ0 B H0 σ Hk Hr I Q q
end
section
variable {X : Cx} {a b e : Expr} {ρ ρ1 : List Sl} {d : PyData} {ds : List PyData} {pos p0 p1 : Pos} {x : Str} {n : Nat}
theorem own_ix {j : Int} (hN : X.N[n]? = some x) (ho : ρ[n]? = some (.own ds)) (hb : EE X b ρ (.int j) ρ) (h : atI ds j = some d) (hs : PlainIx b := by exact fun _ _ => rfl) (hv : Vis X.env.scope x := by first | exact Or.inl rfl | exact Or.inr (Or.inl rfl) | exact Or.inr (Or.inr rfl)) (hd : (x == ("__debug__" : Str)) = false := by decide)
    (hcd : (x == ("__classdict__" : Str)) = false := by decide) : EE X (.Subscript (.Name x p0) b pos) ρ d ρ := fun bi σ0 B H0 σ Hk Hr I Q q => by
  obtain ⟨a0, vs0, t1, t2, t3, t4, t5⟩ := I.own n ds ho
  refine sE_of (pe_ix ix_list (pe_var hN hv hd hcd) pe_s hs) ⟨.ref a0, t1, hb bi σ0 B H0 σ Hk Hr I _ fun y Hk1 Hr1 I1 m1 h1 => ?_⟩
  cases h1
  obtain ⟨a1, vs1, u1, u2, u3, u4, u5⟩ := I1.own n ds ho
  have ea : a0 = a1 := by
    rw [t1] at u1
    injection u1 with u1; injection u1 with u1; injection u1
  subst ea
  obtain ⟨v, s1, s2⟩ := atI_all u5 h
  exact ⟨a0, vs1, j, v, rfl, rfl, .inl (.inl u2), s1, q v Hk1 Hr1 I1 m1 s2⟩
end
section
variable {K : PySem.W.Frag} {ds : List PyData} {d : PyData} {i j : Int} {X : Cx}
theorem ra_abs : RA K (fun xs H Q => ∃ i, xs = [.int i] ∧ Q (.int (if i < 0 then -i else i)) H) [.int i] (.int (if i < 0 then -i else i)) := fun vs Hk Hr kr h Q q => by
  cases h with
  | cons h1 h2 =>
    cases h2
    cases h1
    exact ⟨i, rfl, q _ Hr (Same.refl _) (.int _)⟩
theorem ra_int : RA K (fun xs H Q => (∃ i, xs = [.int i] ∧ Q (.int i) H) ∨ ∃ k, xs = [.bl k] ∧ Q (.int (if k then 1 else 0)) H) [.int i] (.int i) := fun vs Hk Hr kr h Q q => by
  cases h with
  | cons h1 h2 =>
    cases h2
    cases h1
    exact .inl ⟨i, rfl, q _ Hr (Same.refl _) (.int _)⟩
end
def cutD (ds : List PyData) (lo hi : Option Int) : List PyData := (ds.drop (HT.sIx ds.length 0 lo)).take (HT.sIx ds.length ds.length hi - HT.sIx ds.length 0 lo)
def EO (X : Cx) (e : Option Expr) (ρ : List Sl) (o : Option Int) (ρ' : List Sl) : Prop := ∃ t, PO X e t ∧
  ∀ (bi : List Nat) (σ0 : L2.St) (B : Be) (H0 : Fr) (σ : L2.St) (Hk Hr : Hp), Ok X.K bi σ0 B H0 ρ σ Hk Hr → ∀ Q : Option Int → Hp → Prop, (∀ Hk' Hr', Ok X.K bi σ0 B H0 ρ' σ Hk' Hr' → Same Hk Hk' → Q o Hr') → t σ Hr Q
section
variable {X : Cx} {e : Expr} {lo hi : Option Expr} {ρ ρ1 ρ2 ρ3 : List Sl} {ds : List PyData} {pos p2 : Pos} {l u : Option Int} {i : Int}
theorem eo_none : EO X none ρ none ρ := ⟨_, po_none, fun bi σ0 B H0 σ Hk Hr I Q q => q Hk Hr I (Same.refl _)⟩
theorem eo_some (h : EE X e ρ (.int i) ρ1) : EO X (some e) ρ (some i) ρ1 := ⟨_, po_some pe_s, fun bi σ0 B H0 σ Hk Hr I Q q => h bi σ0 B H0 σ Hk Hr I _ fun v Hk1 Hr1 I1 m1 h1 => by
  cases h1
  exact ⟨i, rfl, q Hk1 Hr1 I1 m1⟩⟩
theorem cut_all {K : PySem.W.Frag} {H : Hp} {vs : List V} (h : DpAll K H vs ds) : DpAll K H (cutV vs l u) (cutD ds l u) := by
  unfold cutV cutD
  rw [DpAll.len h]
  exact DpAll.take _ (DpAll.drop _ h)
theorem ee_sliceL (he : EE X e ρ (.list ds) ρ1) (hl : EO X lo ρ1 l ρ2) (hu : EO X hi ρ2 u ρ3) : EE X (.Subscript e (.Slice lo hi none p2) pos) ρ (.list (cutD ds l u)) ρ3 := fun bi σ0 B H0 σ Hk Hr I Q q => by
  obtain ⟨tl, pl, hl⟩ := hl
  obtain ⟨tu, pu, hu⟩ := hu
  refine sE_of (pe_slice sl_list pe_s pl pu) (he bi σ0 B H0 σ Hk Hr I _ fun v Hk1 Hr1 I1 m1 h1 => hl bi σ0 B H0 σ Hk1 Hr1 I1 _ fun Hk2 Hr2 I2 m2 => hu bi σ0 B H0 σ Hk2 Hr2 I2 _ fun Hk3 Hr3 I3 m3 => ?_)
  cases h1 with
  | lst hs ha =>
    have m := m2.trans m3
    exact ⟨_, _, rfl, same_l I3.kr (same_l m hs), fun p hp => q _ _ _ (I3.gro (new_same hp _)) ((m1.trans m).trans (gro_same I3.kr)) (gro_lst I3.kr hp (cut_all (DpAll.mono m _ ha)))⟩
end
end Pd
namespace Pd
open PySem L2 PySem.Spec PyProof.Rows
section
variable {X : Cx} {e a b : Expr} {es : List Expr} {ρ ρ1 : List Sl} {ds : List PyData} {d : PyData} {p0 p1 pos : Pos} {i j : Int}
theorem ee_abs (hm : X.mg "abs" = none) (ha : EE X e ρ (.int i) ρ1) (hg : Gl X "abs" := by rfl) (he : starEach [e] X.env = [(false, eval e X.env)] := by rfl) (hpl : (backTo pos (starEach ([] : List Expr) X.env)).any (·.1) = false := by rfl) : EE X (.Call (.Name "abs" p0) [e] [] pos) ρ (.int (if i < 0 then -i else i)) ρ1 :=
  ee_tCB (pe_callB call_abs hg hm (by decide +kernel) pa_s (by decide) (by decide) he hpl) (ea_cons ha ea_nil he) ra_abs
theorem ee_toInt (hm : X.mg "int" = none) (ha : EE X e ρ (.int i) ρ1) (hg : Gl X "int" := by rfl) (he : starEach [e] X.env = [(false, eval e X.env)] := by rfl) (hpl : (backTo pos (starEach ([] : List Expr) X.env)).any (·.1) = false := by rfl) : EE X (.Call (.Name "int" p0) [e] [] pos) ρ (.int i) ρ1 :=
  ee_tCB (pe_callTy call_int1 hg hm (by decide +kernel) pa_s (by decide) (by decide) he hpl) (ea_cons ha ea_nil he) ra_int
end
def insD (x : Int) : List Int → List Int
  | [] => [x]
  | y :: r => if y ≤ x then x :: y :: r else y :: insD x r
theorem insD_perm (x : Int) : ∀ l, (insD x l).Perm (x :: l)
  | [] => .refl _
  | y :: r => by
    unfold insD
    split
    · exact .refl _
    · exact ((insD_perm x r).cons y).trans (List.Perm.swap x y r)
section
variable {X : Cx} {e : Expr} {ρ ρ1 : List Sl} {ns : List Int} {p0 p1 pos kp : Pos} {kn : Nat}
def tyN : PyData → String
  | .none => "NoneType" | .bool _ => "bool" | .int _ => "int" | .str _ => "str" | .list _ => "list" | .tuple _ => "tuple" | .dict _ => "dict"
def isScal : PyData → Bool
  | .none | .bool _ | .int _ | .str _ => true
  | _ => false
theorem ty_scal {K : PySem.W.Frag} {H : Hp} {v : V} {d : PyData} (h : Dp K H v d) (s : isScal d = true) : TyX K H v (.type (tyN d)) := by
  cases h with
  | non => exact .base .non
  | bl b => exact .base (.bl b)
  | int i => exact .base (.int i)
  | str x => exact .base (.str x)
  | lst _ _ => cases s
  | tup _ _ => cases s
end
theorem shaped_int (i : Int) : SeqAt.shaped (.int i) = true := by simp [SeqAt.shaped, PyData.canLay0, PyData.depth]
/-- lists of tuples of ints -/
def dT (xs : List Int) : PyData := .tuple (xs.map .int)
end Pd
namespace Pd
open PySem L2 PySem.Spec PyProof.Rows RZ RT
section
end
end Pd
namespace Pd
open PySem L2 PySem.Spec PyProof.Rows
section
end
section
variable {X : Cx} {e a b : Expr} {es : List Expr} {ρ ρ1 ρ2 : List Sl} {ds : List PyData} {d : PyData} {p0 p1 pos : Pos} {ns ms : List Int} {bs : List Bool} {k m : Bool}
theorem DpAll.bools {K : PySem.W.Frag} {H : Hp} : ∀ {vs : List V} {bs : List Bool}, DpAll K H vs (bs.map PyData.bool) → vs = bs.map V.bl
  | _, [], h => by cases h; rfl
  | _, n :: ns, h => by
    cases h with
    | cons h1 h2 =>
      cases h1
      simp [DpAll.bools h2]
/-- x < y, tuples of ints -/
theorem rd_ltT {K : PySem.W.Frag} : RD K (rLtT K) (.tuple (ns.map .int)) (.tuple (ms.map .int)) (.bool (HT.lexLt ns ms)) := fun x y Hk Hr kr hx hy Q q => by
  cases hx with
  | tup hs ha =>
    cases hy with
    | tup ht hb =>
      have := DpAll.ints ha
      subst this
      have := DpAll.ints hb
      subst this
      exact ⟨_, _, ns, ms, rfl, rfl, same_t kr hs, same_t kr ht, q _ Hr (Same.refl _) (.bl _)⟩
/-- isinstance(a tuple, T) -/
theorem ty_tup {K : PySem.W.Frag} {H : Hp} {v : V} (h : Dp K H v (.tuple ds)) : TyX K H v (.type "tuple") := by
  cases h with
  | tup hs ha =>
    rcases hs with (h | ⟨o, h⟩) | h
    · exact .base (.tup h)
    · exact .fTuple h
    · obtain ⟨o, its, n, ho, hc, _⟩ := h
      exact .kTuple ho hc
end
section
variable {X : Cx} {bi : List Nat} {a b e : Expr} {es : List Expr} {rest : List Stmt} {ρ ρ1 ρ2 : List Sl} {N : List Sl → Prop} {R : RTy} {d1 d2 : PyData} {ds cs : List PyData} {pos epos bpos lpos p0 p1 p2 p3 p4 : Pos} {x y : Str} {n i j : Nat} {k : Int} {kk k2 : Nat}
theorem rep_all {K : PySem.W.Frag} {H : Hp} {vs : List V} (h : DpAll K H vs ds) : ∀ m : Nat, DpAll K H (List.replicate m vs).flatten (List.replicate m ds).flatten
  | 0 => .nil
  | m + 1 => by
    rw [List.replicate_succ, List.replicate_succ, List.flatten_cons, List.flatten_cons]
    exact DpAll.app h (rep_all h m)
end
end Pd
namespace L2
open PySem PySem.Spec PyProof.Rows
section
end
end L2
namespace Pd
open PySem L2 PySem.Spec PyProof.Rows
section
end
end Pd
namespace Pd
open PySem L2 PySem.Spec PyProof.Rows
theorem eqv_int (i j : Int) : PyData.eqv (.int i) (.int j) = decide (i = j) := by
  show (i == j) = _
  exact Bool.beq_eq_decide_eq i j
section
end
section
end
section
end
/-- the law's promise, from a promise on data -/
def spLaw (K : PySem.W.Frag) : Sp := fun vs H Q _ => ∃ (a : Addr) (ns : List Int), vs = [.ref a] ∧ SqL K H a (ns.map V.int) ∧ ns.length ≤ 63 ∧ ∀ H', Q (.bl true) H'
end Pd
namespace L2
open PySem PySem.Spec PyProof.Rows
/-- a tuple once: the tuple itself -/
theorem mul_once (l : Addr) (items : Array Value) (n : Nat) (dd : Option Addr) (sl : Array (Option Value)) (u : Tok) :
    Meets (Builtin.«tuple.__mul__» ⟨[.ref l, .int 1 u], []⟩) (fun _ R s => s.heap.get? l = some { cls := .type "tuple", dict := dd, data := .seq items n, slots := sl } ∧ R (.ok (.ret (Value.ref l))) s) :=
  .of_wp fun prog w A R s h => by
    obtain ⟨hp, g, d, tk, os⟩ := s
    obtain ⟨hl, h⟩ := h
    have f1 := AutoSeq1.idx_int
    wp_walk using wpAny_loadPart' hl
    repeat (first
      | (refine wpAny_ite_false (by decide) ?_; wp_walk using wpAny_loadPart' hl)
      | (refine wpAny_ite_true (by simp) ?_; wp_walk using wpAny_loadPart' hl))
    exact ⟨_, rfl, h⟩
/-- a tuple with items, not at all: the empty one -/
theorem mul_none (l : Addr) (items : Array Value) (n : Nat) (dd : Option Addr) (sl : Array (Option Value)) (x : Int) (u : Tok) (h0 : (decide (x < -(2 ^ 63)) || decide (x ≥ 2 ^ 63)) = false) (h1 : (items.isEmpty || x == 1) = false) (h2 : (decide (x ≤ 0) || items.isEmpty) = true) :
    Meets (Builtin.«tuple.__mul__» ⟨[.ref l, .int x u], []⟩) (fun _ R s => s.heap.get? l = some { cls := .type "tuple", dict := dd, data := .seq items n, slots := sl } ∧
      R (.ok (.ret (Value.ref s.heap.objs.size))) { s with heap := s.heap.push { cls := Value.type "tuple", data := Data.seq #[] }, toks := s.toks }) :=
  .of_wp fun prog w A R s h => by
    obtain ⟨hp, g, d, tk, os⟩ := s
    obtain ⟨hl, h⟩ := h
    have f1 := AutoSeq1.idx_int
    wp_walk using wpAny_loadPart' hl
    repeat (first
      | (refine wpAny_ite_false (decide_eq_false (by rw [h0]; exact Bool.false_ne_true)) ?_; wp_walk using wpAny_loadPart' hl)
      | (refine wpAny_ite_false (decide_eq_false (by rw [h1]; exact Bool.false_ne_true)) ?_; wp_walk using wpAny_loadPart' hl)
      | (refine wpAny_ite_true (decide_eq_true h2) ?_; wp_walk using wpAny_loadPart' hl))
    exact ⟨_, rfl, h⟩
def rTimes (K : PySem.W.Frag) : R2 := fun x y H Q => ∃ (l : Addr) (k : Int) (xs : List V), x = .ref l ∧ y = .int k ∧ SqT K H l xs ∧ xs ≠ [] ∧ -1000 ≤ k ∧ k ≤ 1 ∧ (k ≤ 0 → ∀ p, H p = none → Q (.ref p) (upd H p (.tup []))) ∧ (k = 1 → Q (.ref l) H)
theorem op_times {X : Cx} : OpR X (binaryOp .Mult) (rTimes X.K) := by
  intro pins s σ H x y v u Q I rx ry h
  obtain ⟨l, k, vals, rfl, rfl, ht, ne, lo, hi, q0, q1⟩ := h
  cases rx
  obtain ⟨tk, rfl⟩ := ry
  obtain ⟨conc, rel, ⟨⟨cls, dd, data, sl⟩, g1, g2, cap, g3⟩, fit⟩ := I.tuple ht
  simp only at g2 g3
  subst g2 g3
  have ne2 : conc.toArray.isEmpty = false := by
    cases conc with
    | nil =>
      have := rel.length
      exact absurd (List.eq_nil_of_length_eq_zero this) ne
    | cons a b => rfl
  by_cases k1 : k = 1
  · subst k1
    refine wpAny_binaryOp_repeat_ref (T := "tuple") (U := "int") (by decide) ⟨_, g1, rfl⟩ (fun s' => typeIs_int s' 1 tk) noFill_tuple_mul F.fills_int_mul F.slot_int_rmul repeat_tuple F.slot_int_index.lookup
      (call_meets F.slot_int_rmul (typeIs_int s 1 tk) F.entry_int_rmul (F.args_int_rmul_2 _ _) (int_rmul_tuple 1 tk l conc.toArray cap dd sl)
        ⟨g1, rfl, ⟨_, g1, rfl⟩, call_meets F.slot_tuple_mul ⟨_, g1, rfl⟩ F.entry_tuple_mul (F.args_tuple_mul_2 _ _) (mul_once l conc.toArray cap dd sl tk) ⟨g1, ?_⟩⟩)
    exact ⟨.ref l, H, I, rfl, q1 rfl⟩
  · have k0 : k ≤ 0 := by omega
    have e1 : (k == 1) = false := beq_eq_false_iff_ne.mpr k1
    refine wpAny_binaryOp_repeat_ref (T := "tuple") (U := "int") (by decide) ⟨_, g1, rfl⟩ (fun s' => typeIs_int s' k tk) noFill_tuple_mul F.fills_int_mul F.slot_int_rmul repeat_tuple F.slot_int_index.lookup
      (call_meets F.slot_int_rmul (typeIs_int s k tk) F.entry_int_rmul (F.args_int_rmul_2 _ _) (int_rmul_tuple k tk l conc.toArray cap dd sl)
        ⟨g1, rfl, ⟨_, g1, rfl⟩, call_meets F.slot_tuple_mul ⟨_, g1, rfl⟩ F.entry_tuple_mul (F.args_tuple_mul_2 _ _) (mul_none l conc.toArray cap dd sl k tk
          (by rw [decide_eq_false (by omega), decide_eq_false (by omega)] <;> rfl) (by rw [ne2, e1] <;> rfl) (by rw [decide_eq_true k0] <;> rfl)) ⟨g1, ?_⟩⟩)
    refine ⟨.ref s.heap.objs.size, _, I.laid (t' := s.toks) (o := .tup []) (fun b ob q => Heap.get?_push_of_some _ q) (Nat.le_refl _) ⟨Nat.zero_le _, [], .nil, IsTup.new _ _⟩, rfl, q0 k0 _ (I.hok.fresh (Nat.le_refl _))⟩
end L2
namespace Pd
open PySem L2 PySem.Spec PyProof.Rows
section
variable {K : PySem.W.Frag} {ds : List PyData} {k : Int}
theorem rd_times (hn : ds ≠ []) (h : -1000 ≤ k ∧ k ≤ 1) : RD K (rTimes K) (.tuple ds) (.int k) (.tuple (List.replicate k.toNat ds).flatten) := fun x y Hk Hr kr hx hy Q q => by
  cases hy
  cases hx with
  | tup hs ha =>
    have l1 := DpAll.len ha
    refine ⟨_, k, _, rfl, rfl, same_t kr hs, fun z => hn (List.length_eq_zero_iff.mp (by rw [← l1, z]; rfl)), h.1, h.2, fun k0 p hp => q _ _ (new_same hp _) ?_, fun k1 => q _ Hr (Same.refl _) ?_⟩
    · have : k.toNat = 0 := by omega
      rw [this]
      exact gro_tup kr hp .nil
    · subst k1
      have : (List.replicate (1 : Int).toNat ds).flatten = ds := by simp
      rw [this]
      exact gro_refl kr (.tup hs ha)
theorem rd_rep (hn : ds ≠ []) (h : 2 ≤ k ∧ k ≤ 1000 ∧ ds.length ≤ 1000) : RD K (rRepT K) (.tuple ds) (.int k) (.tuple (List.replicate k.toNat ds).flatten) := fun x y Hk Hr kr hx hy Q q => by
  cases hy
  cases hx with
  | tup hs ha =>
    have l1 := DpAll.len ha
    exact ⟨_, k, _, rfl, rfl, same_t kr hs, fun z => hn (List.length_eq_zero_iff.mp (by rw [← l1, z]; rfl)), h.1, h.2.1, by rw [l1]; exact h.2.2, fun p hp => q _ _ (new_same hp _) (gro_tup kr hp (rep_all ha _))⟩
end
end Pd
namespace Pd
open PySem L2 PySem.Spec PyProof.Rows
section
variable {K : PySem.W.Frag} {bi : List Nat} {σ0 σ : L2.St} {Hk Hr : Hp} {B : Be} {H0 : Fr} {ρ : List Sl}
theorem Ok.nk (I : Ok K bi σ0 B H0 ρ σ Hk Hr) {p : Addr} (h : Hr p = none) : Hk p = none := by
  cases z : Hk p with
  | none => rfl
  | some u => rw [I.kr _ _ z] at h; cases h
theorem Ok.no (I : Ok K bi σ0 B H0 ρ σ Hk Hr) {p : Addr} (h : Hr p = none) : ¬ Ow ρ σ p := by
  rintro ⟨i, ds, q1, q2⟩
  obtain ⟨a, vs, s1, s2, _⟩ := I.own i ds q1
  rw [q2] at s1
  injection s1 with s1; injection s1 with s1; injection s1 with s1; subst s1
  rw [h] at s2
  cases s2
end
section
end
section
end
section
end
section
end
end Pd
namespace Pd
open PySem L2 PySem.Spec PyProof.Rows
theorem wipe_set {σ : L2.St} {i : Nat} {x : Option V} : ∀ {vs : List Nat}, i ∈ vs → wipe (σ.set i x) vs = wipe σ vs
  | [], h => by cases h
  | v :: vs, h => by
    unfold wipe
    by_cases q : i ∈ vs
    · rw [wipe_set q]
    · have e : i = v := by
        rcases List.mem_cons.mp h with e | e
        · exact e
        · exact absurd e q
      subst e
      have aux : ∀ (ws : List Nat) (τ : L2.St), i ∉ ws → wipe (τ.set i x) ws = (wipe τ ws).set i x := fun ws => by
        induction ws with
        | nil => intro τ _; rfl
        | cons w ws ih =>
          intro τ hw
          have hw : ¬ i = w ∧ i ∉ ws := ⟨fun e => hw (by simp [e]), fun e => hw (by simp [e])⟩
          unfold wipe
          rw [ih τ hw.2, List.set_comm _ _ hw.1]
      rw [aux vs σ q, List.set_set]
theorem wipe_twice {σ : L2.St} {vs : List Nat} : wipe (wipe σ vs) vs = wipe σ vs := by
  have : ∀ ws : List Nat, (∀ i ∈ ws, i ∈ vs) → wipe (wipe σ ws) vs = wipe σ vs := fun ws => by
    induction ws with
    | nil => intro _; rfl
    | cons w ws ih =>
      intro h
      show wipe ((wipe σ ws).set w none) vs = _
      rw [wipe_set (h w (by simp)), ih fun i hi => h i (by simp [hi])]
  exact this vs fun i hi => hi
section
end
section
end
end Pd
namespace Pd
open PySem L2 PySem.Spec PyProof.Rows
/-- an exception class of the program's own with an __init__ that stores its one argument as fld -/
structure XCls (K : PySem.W.Frag) (mg : Str → Option Value) (x fld : Str) (C fI : Addr) : Prop where
  T : OexC K C
  xf : XfC K C
  noN : PySem.W.findIn K (.ref C) fld = some none
  iC : PySem.W.findIn K (.ref C) "__init__" = some (some (.ref fI))
  tI : PySem.W.typeIn K (.ref fI) = some (.type "function")
  gC : mg x = some (.ref C)
  te : PySem.W.exmOne K (.ref C) (.ref C) = some true
def spI (K : PySem.W.Frag) (C : Addr) (fld : Str) : Sp := fun vs H Q _ => ∃ (a : Addr) (v : V), vs = [.ref a, v] ∧ H a = some (exo a C none) ∧ ∀ dx, H dx = none → dx ≠ a → Q .non (upd (upd H dx (exd dx [(fld, v)])) a (exo a C (some dx)))
section
variable {P : Program} {w : World} {K : PySem.W.Frag} {mg : Str → Option Value} {base : Heap} {qual p fld : Str} {st : Stmt} {f C : Addr} {fd : FuncData} {q1 q2 q3 q4 : Pos}
theorem init_ok (F : Fun K "__init__" qual st f fd) (S : FnScope [Str.ofString "self", p] [Str.ofString "self", p] (defScope st)) (T : OexC K C) (noN : PySem.W.findIn K (.ref C) fld = some none)
    (hb : ∀ X : Cx, X.N = [Str.ofString "self", p] → X.env.scope = defScope st → PSs X (defBody st) (tOst X.K fld (tVar 0) (tVar 1))) : FnOk P w K mg base CX0 1 f fd [Str.ofString "self", p] (spI K C fld) := by
  refine F.ok S (fun vs H Q E h => ?_) (fun cdv A outer s H vs Q E hr h => ?_)
  · obtain ⟨a, v, rfl, _⟩ := h
    rfl
  · obtain ⟨a, v, rfl, ha, k⟩ := h
    exact ⟨_, hb _ rfl rfl, v, rfl, .ref a, rfl, a, C, rfl, T, noN, .inl ⟨ha, fun dx n ne => k dx n ne⟩⟩
end
section
end
section
end
section
end
section
end
end Pd
namespace Pd
open PySem L2 PySem.Spec PyProof.Rows
theorem swo_none : SrtO.Swo fun (_ _ : Value) => false := ⟨fun _ _ h => (nomatch h), fun _ _ _ _ _ => rfl⟩
section
end
end Pd
namespace Pd
open PySem L2 PySem.Spec PyProof.Rows
theorem ty_lst {K : PySem.W.Frag} {H : Hp} {v : V} {ds : List PyData} (h : Dp K H v (.list ds)) : TyX K H v (.type "list") := by
  cases h with
  | lst hs ha =>
    rcases hs with (h | ⟨o, h⟩) | h
    · exact .base (.lst h)
    · exact .base (.frz h)
    · obtain ⟨o, its, n, ho, hc, _⟩ := h
      exact .kList ho hc
section
end
end Pd
namespace Gn
open PySem L2 Pd PySem.Spec PyProof.Rows
inductive Res (β α : Type) where
  | ret (b : β) | nxt (a : α)
def TO (X : Cx) (e : Expr) (ρ : List Sl) (o : Option Bool) : Prop := ∀ b, o = some b → ET X e ρ b ρ
theorem bnd {α β : Type} {o : Option α} {k : α → Option β} {b : β} (h : o.bind k = some b) : ∃ a, o = some a ∧ k a = some b := Option.bind_eq_some_iff.mp h
theorem mpd {α β : Type} {o : Option α} {k : α → β} {b : β} (h : o.map k = some b) : ∃ a, o = some a ∧ k a = b := Option.map_eq_some_iff.mp h
def intsOf : List PyData → Option (List Int)
  | [] => some []
  | .int i :: r => (intsOf r).map (i :: ·)
  | _ :: _ => none
theorem intsOf_eq : ∀ {ds : List PyData} {ns : List Int}, intsOf ds = some ns → ds = ns.map .int
  | [], ns, h => by cases h; rfl
  | d :: r, ns, h => by
    cases d <;> simp only [intsOf, reduceCtorEq] at h
    obtain ⟨m, h1, h2⟩ := mpd h
    subst h2
    rw [intsOf_eq h1]
    rfl
def boolsOf : List PyData → Option (List Bool)
  | [] => some []
  | .bool i :: r => (boolsOf r).map (i :: ·)
  | _ :: _ => none
theorem boolsOf_eq : ∀ {ds : List PyData} {ns : List Bool}, boolsOf ds = some ns → ds = ns.map .bool
  | [], ns, h => by cases h; rfl
  | d :: r, ns, h => by
    cases d <;> simp only [boolsOf, reduceCtorEq] at h
    obtain ⟨m, h1, h2⟩ := mpd h
    subst h2
    rw [boolsOf_eq h1]
    rfl
def asI : PyData → Option Int
  | .int b => some b
  | _ => none
theorem asI_eq {d : PyData} {b : Int} (h : asI d = some b) : d = .int b := by cases d <;> simp only [asI, reduceCtorEq] at h; cases h; rfl
def short (n : Nat) : Bool := Nat.ble n 100000
theorem short_le {n : Nat} (h : short n = true) : n ≤ 100000 := Nat.le_of_ble_eq_true h
def gd {α : Type} (b : Bool) (o : Option α) : Option α := match b with | true => o | false => none
theorem gd_some {α : Type} {b : Bool} {o : Option α} {a : α} (h : gd b o = some a) : b = true ∧ o = some a := by
  cases b
  · cases h
  · exact ⟨rfl, h⟩
def pAdd : PyData → PyData → Option PyData
  | .int i, .int j => some (.int (i + j))
  | .tuple a, .tuple b => gd (short (a.length + b.length)) (some (.tuple (a ++ b)))
  | _, _ => none
def pSub : PyData → PyData → Option PyData
  | .int i, .int j => some (.int (i - j))
  | _, _ => none
def inR (lo hi i : Int) : Bool := decide (lo ≤ i) && decide (i ≤ hi)
theorem inR_at {lo hi i : Int} (h : inR lo hi i = true) : lo ≤ i ∧ i ≤ hi := by
  unfold inR at h
  rw [Bool.and_eq_true] at h
  exact ⟨of_decide_eq_true h.1, of_decide_eq_true h.2⟩
/-- comparisons of numbers, of tuples of numbers -/
def cLt : PyData → PyData → Option Bool
  | .int i, .int j => some (decide (i < j))
  | .tuple a, .tuple b => (intsOf a).bind fun ns => (intsOf b).bind fun ms => some (HT.lexLt ns ms)
  | _, _ => none
def cGt : PyData → PyData → Option Bool
  | .int i, .int j => some (decide (i > j))
  | _, _ => none
def cGe : PyData → PyData → Option Bool
  | .int i, .int j => some (decide (i ≥ j))
  | _, _ => none
def cEq (a b : PyData) : Option Bool := match a, b with
  | .int i, .int j => some (decide (i = j))
  | a, b => gd (SeqAt.shaped a && SeqAt.shaped b) (some (PyData.eqv a b))
theorem cEq_eqv {a b : PyData} {k : Bool} (h : cEq a b = some k) : SeqAt.shaped a = true ∧ SeqAt.shaped b = true ∧ k = PyData.eqv a b := by
  unfold cEq at h
  split at h
  · injection h with h
    exact ⟨shaped_int _, shaped_int _, by rw [eqv_int]; exact h.symm⟩
  · obtain ⟨h1, h2⟩ := gd_some h
    rw [Bool.and_eq_true] at h1
    injection h2 with h2
    exact ⟨h1.1, h1.2, h2.symm⟩
section
end
end Gn
namespace Gn
open PySem L2 Pd PySem.Spec PyProof.Rows
def truth : PyData → Option Bool
  | .bool b => some b
  | .list ds => some (!ds.isEmpty)
  | .tuple ds => some (!ds.isEmpty)
  | .int i => some (i != 0)
  | .none => some false
  | _ => none
def pAll : PyData → Option Bool
  | .list ds => (boolsOf ds).map fun ns => ns.all id
  | _ => none
section
variable {X : Cx} {a b e c elt tg iter : Expr} {es : List Expr} {ρ ρ1 : List Sl} {o o1 o2 : Option PyData} {oc ob : Option Bool} {n k : Nat} {pos p0 p1 p2 : Pos} {x y : Str} {d : PyData}
theorem lt_f (hr : Room k X.A) : ∀ d1 d2 r, cLt d1 d2 = some r → ∃ q : R2, OpR X (compareOp .Lt) q ∧ RD X.K q d1 d2 (.bool r) := fun d1 d2 r h => by
  unfold cLt at h
  split at h
  · cases h; exact ⟨_, op_lt, rd_cmp⟩
  · obtain ⟨ns, h1, h⟩ := bnd h
    obtain ⟨ms, h2, h⟩ := bnd h
    cases h
    rw [intsOf_eq h1, intsOf_eq h2]
    exact ⟨_, op_ltT hr.units0, rd_ltT⟩
  · cases h
theorem gt_f : ∀ d1 d2 r, cGt d1 d2 = some r → ∃ q : R2, OpR X (compareOp .Gt) q ∧ RD X.K q d1 d2 (.bool r) := fun d1 d2 r h => by
  unfold cGt at h
  split at h
  · cases h; exact ⟨_, op_gt, rd_cmp⟩
  · cases h
theorem ge_f : ∀ d1 d2 r, cGe d1 d2 = some r → ∃ q : R2, OpR X (compareOp .GtE) q ∧ RD X.K q d1 d2 (.bool r) := fun d1 d2 r h => by
  unfold cGe at h
  split at h
  · cases h; exact ⟨_, op_ge, rd_cmp⟩
  · cases h
theorem eq_f (hr : Room k X.A) : ∀ d1 d2 r, cEq d1 d2 = some r → ∃ q : R2, OpR X (compareOp .Eq) q ∧ RD X.K q d1 d2 (.bool r) := fun d1 d2 r h => by
  obtain ⟨h1, h2, rfl⟩ := cEq_eqv h
  exact ⟨_, op_eqD hr.units, rd_eqD h1 h2⟩
theorem ne_f (hr : Room k X.A) : ∀ d1 d2 r, (cEq d1 d2).map (!·) = some r → ∃ q : R2, OpR X (compareOp .NotEq) q ∧ RD X.K q d1 d2 (.bool r) := fun d1 d2 r h => by
  obtain ⟨b, h', hb⟩ := mpd h
  subst hb
  clear h
  revert h'
  intro h
  obtain ⟨h1, h2, rfl⟩ := cEq_eqv h
  exact ⟨_, op_neD hr.units, rd_neD h1 h2⟩
end
end Gn
namespace Gn
open PySem L2 Pd PySem.Spec PyProof.Rows
section
variable {X : Cx} {a b e c elt tg iter : Expr} {es rest : List Expr} {ρ ρ1 : List Sl} {o o1 o2 : Option PyData} {oc ob ow : Option Bool} {n k : Nat} {pos p0 p1 p2 : Pos} {x y : Str} {d : PyData} {kws : List Keyword}
theorem emp_eq {α β : Type} {xs : List α} {ys : List β} (h : xs.length = ys.length) : (!ys.isEmpty) = !xs.isEmpty := by cases xs <;> cases ys <;> simp_all
end
end Gn
namespace Gn
open PySem L2 Pd PySem.Spec PyProof.Rows
section
end
section
variable {X : Cx} {a b e c elt tg iter : Expr} {es rest : List Expr} {ρ ρ1 : List Sl} {o o1 o2 : Option PyData} {oi : Option (List PyData)} {n k : Nat} {pos p0 p1 p2 : Pos} {x y : Str} {d : PyData} {scope : Scope} {own : List (Str × Nat)}
def small (i : Int) : Bool := inR (-1000000) 1000000 i
theorem small_at {i : Int} (h : small i = true) : -1000000 ≤ i ∧ i ≤ 1000000 := inR_at h
end
end Gn
namespace Zq
open PySem PySem.Spec PyProof.Rows L2
def gSq (K : PySem.W.Frag) (t : Bool) (H : Hp) (l : Addr) (xs : List V) : Prop := match t with
  | false => SqL K H l xs
  | true => SqT K H l xs
end Zq
namespace Zq
open PySem PySem.Spec PyProof.Rows L2
end Zq
namespace Zq
open PySem PySem.Spec PyProof.Rows L2
end Zq
namespace Gn
open PySem L2 Pd PySem.Spec PyProof.Rows Zq
theorem same_g {K : PySem.W.Frag} {H H' : Hp} {t : Bool} {a : Addr} {xs : List V} (e : Same H H') (h : gSq K t H a xs) : gSq K t H' a xs := by
  cases t
  · exact same_l e h
  · exact same_t e h
section
end
section
end
section
end
end Gn
namespace Gn
open PySem L2 Pd PySem.Spec PyProof.Rows Zq
open Classical in
/-- the lists of one's own, seen as data -/
def vw (ρ : List Sl) : List Sl := ρ.map fun s => match s with | .own ds => .val (.list ds) | s => s
theorem vw_val {ρ : List Sl} {i : Nat} {d : PyData} (h : (vw ρ)[i]? = some (.val d)) : ρ[i]? = some (.val d) ∨ ∃ ds, ρ[i]? = some (.own ds) ∧ d = .list ds := by
  unfold vw at h
  rw [List.getElem?_map] at h
  cases q : ρ[i]? with
  | none => rw [q] at h; cases h
  | some s =>
    rw [q] at h
    have h := Option.some.inj h
    cases s with
    | no => cases h
    | val e => cases h; exact .inl rfl
    | own ds => cases h; exact .inr ⟨ds, rfl, rfl⟩
    | box b => cases h
theorem vw_box {ρ : List Sl} {i : Nat} {b : Bx} (h : (vw ρ)[i]? = some (.box b)) : ρ[i]? = some (.box b) := by
  unfold vw at h
  rw [List.getElem?_map] at h
  cases q : ρ[i]? with
  | none => rw [q] at h; cases h
  | some s =>
    rw [q] at h
    have h := Option.some.inj h
    cases s <;> cases h
    rfl
theorem vw_own {ρ : List Sl} {i : Nat} {ds : List PyData} (h : (vw ρ)[i]? = some (.own ds)) : False := by
  unfold vw at h
  rw [List.getElem?_map] at h
  cases q : ρ[i]? with
  | none => rw [q] at h; cases h
  | some s =>
    rw [q] at h
    have h := Option.some.inj h
    cases s <;> cases h
section
variable {K : PySem.W.Frag} {bi : List Nat} {σ0 σ : L2.St} {Hk Hr : Hp} {B : Be} {H0 : Fr} {ρ : List Sl}
open Classical in
theorem _root_.Pd.Ok.view (I : Ok K bi σ0 B H0 ρ σ Hk Hr) : ∃ Hk', Same Hk Hk' ∧ Ok K bi σ0 B H0 (vw ρ) σ Hk' Hr ∧ ∀ Hk2 Hr2, Same Hk' Hk2 → Ok K bi σ0 B H0 (vw ρ) σ Hk2 Hr2 → ∃ Hk3, Same Hk Hk3 ∧ Ok K bi σ0 B H0 ρ σ Hk3 Hr2 := by
  have nk : ∀ b, Ow ρ σ b → Hk b = none ∧ H0 b = none ∧ ∃ vs, Hr b = some (.lst vs) := fun b hb => by
    obtain ⟨i, ds, h1, h2⟩ := hb
    obtain ⟨a, vs, t1, t2, t3, t4, t5⟩ := I.own i ds h1
    rw [h2] at t1
    cases t1
    exact ⟨t3, t4, vs, t2⟩
  have up : Same Hk (fun b => if Ow ρ σ b then Hr b else Hk b) := fun b o h => by
    show (if Ow ρ σ b then Hr b else Hk b) = some o
    split
    · rename_i q
      rw [(nk b q).1] at h
      cases h
    · exact h
  refine ⟨fun b => if Ow ρ σ b then Hr b else Hk b, up, ⟨I.base.trans up, I.real, fun b o h => ?_, fun b o h h0 => ?_, I.bor, by simp [vw, I.len], fun i d h => ?_, fun i ds h => (vw_own h).elim, fun i j ds es h _ _ => (vw_own h).elim, I.zh, I.zb, I.bxs.sub up (fun i b q => ⟨vw_box q, rfl⟩), I.eh, I.ze⟩, fun Hk2 Hr2 m2 I2 => ?_⟩
  · have h : (if Ow ρ σ b then Hr b else Hk b) = some o := h
    split at h
    · exact h
    · exact I.kr _ _ h
  · have h : (if Ow ρ σ b then Hr b else Hk b) = some o := h
    split at h
    · rename_i q
      exact absurd (nk b q).2.1 h0
    · exact I.old _ _ h h0
  · rcases vw_val h with q | ⟨ds, q, rfl⟩
    · obtain ⟨v, q1, q2⟩ := I.val i d q
      exact ⟨v, q1, Dp.mono up d q2⟩
    · obtain ⟨a, vs, t1, t2, t3, t4, t5⟩ := I.own i ds q
      refine ⟨_, t1, .lst (xs := vs) (.inl (.inl ?_)) (DpAll.mono up ds t5)⟩
      show (if Ow ρ σ a then Hr a else Hk a) = _
      rw [if_pos ⟨i, ds, q, t1⟩]
      exact t2
  · have dn : Same Hk (fun b => if Ow ρ σ b then none else Hk2 b) := fun b o h => by
      show (if Ow ρ σ b then none else Hk2 b) = some o
      split
      · rename_i q
        rw [(nk b q).1] at h
        cases h
      · exact m2 _ _ (up _ _ h)
    refine ⟨_, dn, ⟨I.base.trans dn, I2.real, fun b o h => ?_, fun b o h h0 => ?_, I.bor, I.len, fun i d h => ?_, fun i ds h => ?_, I.dis, I.zh, I.zb, I.bxs.mono dn, I.eh, I.ze⟩⟩
    · have h : (if Ow ρ σ b then none else Hk2 b) = some o := h
      split at h
      · cases h
      · exact I2.kr _ _ h
    · have h : (if Ow ρ σ b then none else Hk2 b) = some o := h
      split at h
      · cases h
      · exact I2.old _ _ h h0
    · obtain ⟨v, q1, q2⟩ := I.val i d h
      exact ⟨v, q1, Dp.mono dn d q2⟩
    · obtain ⟨a, vs, t1, t2, t3, t4, t5⟩ := I.own i ds h
      refine ⟨a, vs, t1, I2.kr _ _ (m2 a _ ?_), ?_, t4, DpAll.mono dn ds t5⟩
      · show (if Ow ρ σ a then Hr a else Hk a) = _
        rw [if_pos ⟨i, ds, h, t1⟩]
        exact t2
      · show (if Ow ρ σ a then none else Hk2 a) = none
        rw [if_pos ⟨i, ds, h, t1⟩]
end
section
variable {X : Cx} {bi : List Nat} {a b c e elt tg iter : Expr} {es : List Expr} {rest body sts tb eb : List Stmt} {ρ ρ1 ρ2 : List Sl} {N : List Sl → Prop} {R : RTy} {d : PyData} {ds : List PyData} {pos p0 p1 epos cpos : Pos} {x y : Str} {n m k : Nat} {o o1 o2 : Option PyData} {ol oi : Option (List PyData)} {oc : Option Bool} {scope : Scope} {own : List (Str × Nat)}
variable {β α γ : Type} {RR : β → RTy} {f : α → List Sl → Prop} {g : γ → List Sl → Prop}
def shortS (n : Nat) : Bool := Nat.blt n 100000
theorem shortS_lt {n : Nat} (h : shortS n = true) : n < 100000 := by
  unfold shortS Nat.blt at h
  exact Nat.le_of_ble_eq_true h
end
section
end
end Gn
namespace Gn
open PySem L2 Pd PySem.Spec PyProof.Rows Zq
/-- built-in names that the top leaves as they are -/
structure MgB (mg : Str → Option Value) : Prop where
  len : mg "len" = none
  int : mg "int" = none
  abs : mg "abs" = none
  min : mg "min" = none
  max : mg "max" = none
  range : mg "range" = none
  tuple : mg "tuple" = none
  list : mg "list" = none
  all : mg "all" = none
  any : mg "any" = none
  zip : mg "zip" = none
  sum : mg "sum" = none
  sorted : mg "sorted" = none
  isinstance : mg "isinstance" = none
  bool : mg "bool" = none
  reversed : mg "reversed" = none
  enumerate : mg "enumerate" = none
section
end
section
end
end Gn
namespace Gn
open PySem L2 Pd PySem.Spec PyProof.Rows Zq
section
end
section
end
end Gn
namespace Gn
open PySem L2 Pd PySem.Spec PyProof.Rows Zq
section
end
section
end
end Gn
namespace Gn
open PySem L2 Pd PySem.Spec PyProof.Rows Zq
section
end
end Gn
namespace Zq
open PySem PySem.Spec PyProof.Rows L2
section
end
end Zq
namespace Gn
open PySem L2 Pd PySem.Spec PyProof.Rows Zq
def isIntO : PyData → Option Bool
  | .int _ | .bool _ => some true
  | .none | .str _ | .list _ | .tuple _ => some false
  | _ => none
def isBoolO : PyData → Option Bool
  | .bool _ => some true
  | .int _ | .none | .str _ | .list _ | .tuple _ => some false
  | _ => none
def isTupO : PyData → Option Bool
  | .tuple _ => some true
  | .int _ | .none | .str _ | .list _ | .bool _ => some false
  | _ => none
section
variable {X : Cx} {a b c e t tg iter : Expr} {es tgs : List Expr} {ρ ρ1 : List Sl} {o o1 o2 o3 : Option PyData} {n k tn : Nat} {pos p0 tpos : Pos}
theorem isInt_k : ∀ d r, isIntO d = some r → kitB (tyN d) "int" = some r := fun d r h => by
  cases d <;> simp only [isIntO, reduceCtorEq] at h <;> (have h := Option.some.inj h; subst h; first | exact (by decide +kernel : kitB "NoneType" "int" = some false) | exact (by decide +kernel : kitB "bool" "int" = some true) | exact (by decide +kernel : kitB "int" "int" = some true) | exact (by decide +kernel : kitB "str" "int" = some false) | exact (by decide +kernel : kitB "list" "int" = some false) | exact (by decide +kernel : kitB "tuple" "int" = some false))
theorem isBool_k : ∀ d r, isBoolO d = some r → kitB (tyN d) "bool" = some r := fun d r h => by
  cases d <;> simp only [isBoolO, reduceCtorEq] at h <;> (have h := Option.some.inj h; subst h; first | exact (by decide +kernel : kitB "NoneType" "bool" = some false) | exact (by decide +kernel : kitB "bool" "bool" = some true) | exact (by decide +kernel : kitB "int" "bool" = some false) | exact (by decide +kernel : kitB "str" "bool" = some false) | exact (by decide +kernel : kitB "list" "bool" = some false) | exact (by decide +kernel : kitB "tuple" "bool" = some false))
theorem isTup_k : ∀ d r, isTupO d = some r → kitB (tyN d) "tuple" = some r := fun d r h => by
  cases d <;> simp only [isTupO, reduceCtorEq] at h <;> (have h := Option.some.inj h; subst h; first | exact (by decide +kernel : kitB "NoneType" "tuple" = some false) | exact (by decide +kernel : kitB "bool" "tuple" = some false) | exact (by decide +kernel : kitB "int" "tuple" = some false) | exact (by decide +kernel : kitB "str" "tuple" = some false) | exact (by decide +kernel : kitB "list" "tuple" = some false) | exact (by decide +kernel : kitB "tuple" "tuple" = some true))
end
end Gn
namespace Gn
open PySem L2 Pd PySem.Spec PyProof.Rows Zq
structure FunY (K : PySem.W.Frag) (x qual : Str) (st : Stmt) (f : Addr) (fd : FuncData) : Prop where
  ex : ∃ (oc : Value) (od : Option Addr) (dV kV doc pm : Value) (an : Option Addr) (cdv ct : Value) (osl : Array (Option Value)),
    fd = PySem.W.fnOf x qual (defArgs st) (defBody st) (defScope st) dV kV doc pm an cdv ct ∧ K.lookup f = some ⟨oc, od, .func fd, osl⟩ ∧ PySem.W.codeIn K cdv qual = true
  kp : PySem.W.keepIn K (.ref f) = true
section
variable {P : Program} {w : World} {K : PySem.W.Frag} {mg : Str → Option Value} {base : Heap} {x qual : Str} {st : Stmt} {f : Addr} {fd : FuncData} {N ps : List Str} {k : Nat}
theorem FunY.ok {sp : Sp} (F : FunY K x qual st f fd) (S : FnScope N ps (defScope st)) (len : ∀ vs H Q E, sp vs H Q E → vs.length = ps.length)
    (hbody : ∀ (cdv : Value) (A : Around) (outer : List Env) (s : Shared) (H : Hp) (vs : List V) (Q : VK) (E : XK), Room k (A.deeper (envOfC qual (defScope st) s.heap.objs.size f cdv)) → sp vs H Q E →
      ∃ t, PSs (cxOf CX0 P w K mg base N qual (defScope st) f cdv A outer s H E).nox (defBody st) t ∧ t { nx := fun _ H' => Q .non H', rt := Q } (L2.start N vs) H) : FnOk P w K mg base CX0 (k + 1) f fd ps sp := by
  obtain ⟨oc, od, dV, kV, doc, pm, an, cdv, ct, osl, rfl, lk, hcd⟩ := F.ex
  refine fn_of lk hcd S len fun A outer s H vs Q E hr hsp => ?_
  obtain ⟨t, h, q⟩ := hbody cdv A outer s H vs Q E hr hsp
  exact ⟨t, h.nox, q⟩
theorem funY_mk {oc : Value} {od an : Option Addr} {osl : Array (Option Value)} {dV kV doc pm cdv ct : Value} (l : K.lookup f = some ⟨oc, od, .func (PySem.W.fnOf x qual (defArgs st) (defBody st) (defScope st) dV kV doc pm an cdv ct), osl⟩)
    (c : PySem.W.codeIn K cdv qual = true) (k : PySem.W.keepIn K (.ref f) = true) : FunY K x qual st f (PySem.W.fnOf x qual (defArgs st) (defBody st) (defScope st) dV kV doc pm an cdv ct) := ⟨⟨oc, od, dV, kV, doc, pm, an, cdv, ct, osl, rfl, l, c⟩, k⟩
end
end Gn
namespace Gn
open PySem L2 Pd PySem.Spec PyProof.Rows Zq
def rCatS (K : PySem.W.Frag) : R2 := fun x y H Q => ∃ l b xs zs, x = .ref l ∧ y = .ref b ∧ SqL K H l xs ∧ SqL K H b zs ∧ xs.length + zs.length ≤ sizeLine ∧ ∀ p, H p = none → Q (.ref p) (upd H p (.lst (xs ++ zs)))
theorem op_catS {X : Cx} : OpR X (binaryOp .Add) (rCatS X.K) := by
  intro pins s σ H x y v u Q I rx ry h
  obtain ⟨l, b, xs, zs, rfl, rfl, hH, hB, hz, q⟩ := h
  cases rx
  cases ry
  obtain ⟨vs, r, ⟨⟨cls, dd, data, sl⟩, n, ho, hc, hdd, hd⟩, z1⟩ := I.list hH
  obtain ⟨ws, r2, ⟨⟨cls2, dd2, data2, sl2⟩, n2, ho2, hc2, hdd2, hd2⟩, z2⟩ := I.list hB
  simp only at hc hd hc2 hd2
  subst hc hd hc2 hd2
  have e : vs.toArray ++ ws.toArray = (vs ++ ws).toArray := by simp
  have hsz : vs.toArray.size + ws.toArray.size ≤ sizeLine := by
    rw [List.size_toArray, List.size_toArray, ← r.length, ← r2.length]
    exact hz
  refine concat_meets ⟨_, ho, rfl⟩ ⟨_, ho2, rfl⟩ noFill_list_add seq_list_add PySem.F.slot_list_add PySem.F.entry_list_add (PySem.F.args_list_add_2 _ _) (list_addW l b vs.toArray ws.toArray n n2 dd dd2 sl sl2 hsz) ⟨ho, ho2, ?_⟩
  rw [e]
  exact ⟨.ref _, _, I.lnew (t' := s.toks) (r.append r2) (by rw [List.length_append]; omega), rfl, q _ I.fresh⟩
theorem rd_catS {K : PySem.W.Frag} {ds es : List PyData} (hl : ds.length + es.length ≤ 100000) : RD K (rCatS K) (.list ds) (.list es) (.list (ds ++ es)) := fun x y Hk Hr kr hx hy Q q => by
  cases hx with
  | lst hs ha =>
    cases hy with
    | lst ht hb => exact ⟨_, _, _, _, rfl, rfl, same_l kr hs, same_l kr ht, by rw [DpAll.len ha, DpAll.len hb]; exact le_line hl, fun p hp => q _ _ (new_same hp _) (gro_lst kr hp (DpAll.app ha hb))⟩
def pAddX : PyData → PyData → Option PyData
  | .list a, .list b => gd (short (a.length + b.length)) (some (.list (a ++ b)))
  | x, y => pAdd x y
section
end
end Gn
namespace Gn
open PySem L2 Pd PySem.Spec PyProof.Rows Zq
section
end
end Gn
noncomputable section
namespace Hx
open PySem L2 Pd Gn PySem.Spec PyProof.Rows
/-- a value: data that never changes; a thing of the mirror's heap; a tuple, a list that holds such; an instance; the script -/
inductive W where
  | dat (d : PyData)
  | ref (i : Nat)
  | tup (ws : List W)
  | lst (ws : List W)
  | ins (c : Nat) (fs : List W)
  | scr
  | dct (kvs : List (NestedKey × W))
  | tpx (ds : List PyData)
/-- a thing that may change -/
inductive Ob where
  | lst (ws : List W)
  | dic (kvs : List (NestedKey × W))
  | dki (kvs : List (Int × W))
  | st
  | nums
  | ins (c : Nat) (fs : List W)
structure Hs where
  nx : Nat
  os : List (Nat × Ob)
def getO (i : Nat) : List (Nat × Ob) → Option Ob
  | [] => none
  | (j, o) :: r => match Nat.beq i j with | true => some o | false => getO i r
def setO (i : Nat) (o : Ob) : List (Nat × Ob) → List (Nat × Ob)
  | [] => []
  | (j, u) :: r => match Nat.beq i j with | true => (j, o) :: r | false => (j, u) :: setO i o r
def delO (i : Nat) : List (Nat × Ob) → List (Nat × Ob)
  | [] => []
  | (j, u) :: r => match Nat.beq i j with | true => delO i r | false => (j, u) :: delO i r
def Hs.get (h : Hs) (i : Nat) : Option Ob := getO i h.os
def Hs.put (h : Hs) (i : Nat) (o : Ob) : Hs := ⟨h.nx, setO i o h.os⟩
def Hs.del (h : Hs) (i : Nat) : Hs := ⟨h.nx, delO i h.os⟩
def Hs.new (h : Hs) (o : Ob) : Hs := ⟨h.nx + 1, (h.nx, o) :: h.os⟩
/-- an error: its class, its field -/
structure Xc where
  c : Nat
  d : PyData
/-- what a run gives -/
inductive T (α : Type) where
  | ok (a : α) (h : Hs)
  | exc (x : Xc) (h : Hs)
  | draw (n : Nat) (k : Nat → T α)
  | bad
def T.bind {α β : Type} (t : T α) (f : α → Hs → T β) : T β := T.rec (motive := fun _ => T β) (fun a h => f a h) (fun x h => .exc x h) (fun n _ ih => .draw n ih) .bad t
def T.sat {α : Type} (P : α → Hs → Prop) (E : Xc → Hs → Prop) : T α → Prop
  | .ok a h => P a h
  | .exc x h => E x h
  | .draw n k => ∀ v, v < n → (k v).sat P E
  | .bad => False
abbrev M (α : Type) := Hs → T α
def bd {α β : Type} (m : M α) (f : α → M β) : M β := fun h => (m h).bind f
def rt {α : Type} (a : α) : M α := fun h => .ok a h
def lf {α : Type} (o : Option α) : M α := fun h => match o with | some a => .ok a h | none => .bad
theorem sat_bind {α β : Type} {P : β → Hs → Prop} {E : Xc → Hs → Prop} {f : α → Hs → T β} : ∀ {t : T α}, (t.bind f).sat P E → t.sat (fun a h => (f a h).sat P E) E
  | .ok a h, s => s
  | .exc x h, s => s
  | .draw n k, s => fun v hv => sat_bind (t := k v) (s v hv)
  | .bad, s => s
theorem sat_of {α β : Type} {P : β → Hs → Prop} {E : Xc → Hs → Prop} {f : α → Hs → T β} : ∀ {t : T α}, t.sat (fun a h => (f a h).sat P E) E → (t.bind f).sat P E
  | .ok a h, s => s
  | .exc x h, s => s
  | .draw n k, s => fun v hv => sat_of (t := k v) (s v hv)
  | .bad, s => s
theorem sat_mono {α : Type} {P P' : α → Hs → Prop} {E E' : Xc → Hs → Prop} (h : ∀ a s, P a s → P' a s) (h2 : ∀ a s, E a s → E' a s) : ∀ {t : T α}, t.sat P E → t.sat P' E'
  | .ok a s, q => h _ _ q
  | .exc x s, q => h2 _ _ q
  | .draw n k, q => fun v hv => sat_mono h h2 (q v hv)
  | .bad, q => q
theorem sat_lf {α : Type} {o : Option α} {h : Hs} {P : α → Hs → Prop} {E : Xc → Hs → Prop} (s : (lf o h).sat P E) : ∃ a, o = some a ∧ P a h := by
  cases o with
  | none => exact s.elim
  | some a => exact ⟨a, rfl, s⟩
/-- no error may leave -/
def nox {α : Type} (m : M α) : M α := fun h => go (m h)
where go : T α → T α
  | .ok a h => .ok a h
  | .exc _ _ => .bad
  | .draw n k => .draw n fun v => go (k v)
  | .bad => .bad
theorem sat_nox {α : Type} {P : α → Hs → Prop} {E : Xc → Hs → Prop} : ∀ {t : T α}, (nox.go t).sat P E → t.sat P (fun _ _ => False)
  | .ok a s, q => q
  | .exc x s, q => q
  | .draw n k, q => fun v hv => sat_nox (q v hv)
  | .bad, q => q
/-- a dict whose keys are tuples, by its one object -/
def DicO (wd : World) (a : Addr) (es : List (NestedKey × Addr × V)) : HO := .ext fun h => es.length ≤ sizeLine ∧ (a == sysModules) = false ∧ ∃ xs : List (NestedKey × Addr × Value), Paired (fun (p : NestedKey × Addr × V) (q : NestedKey × Addr × Value) => p.1 = q.1 ∧ p.2.1 = q.2.1 ∧ RelV p.2.2 q.2.2) es xs ∧
  ∃ o es' ep, h.get? a = some o ∧ o.ExactDict ∧ o.data = .dict es' ep ∧ es'.toList = xs.map (fun x => (⟨x.1.hash wd, .ref x.2.1, x.2.2⟩ : DictEntry)) ∧ (xs.map (·.1)).Nodup
/-- the classes: their names, their fields -/
def insN : Nat → Str
  | 0 => "Ratio"
  | 1 => "Symmetric"
  | _ => "Letters"
def insF : Nat → List Str
  | 0 => ["n", "d"]
  | 1 => ["base", "terms", "_multiples"]
  | _ => ["n", "terms", "_coefficients"]
def insC (K : PySem.W.Frag) (c : Nat) (C : Addr) : Prop := PySem.W.nsIn K mainGlobals (insN c) = some (some (.ref C))
theorem insC_eq {K : PySem.W.Frag} {c : Nat} {C D : Addr} (h : insC K c C) (g : insC K c D) : C = D := by
  unfold insC at h g
  rw [h] at g
  cases g
  rfl
mutual
inductive VR (K : PySem.W.Frag) (wd : World) (φ : List Addr) (H : Hp) : W → V → Prop
  | dat {d : PyData} {v : V} : Dp K H v d → VR K wd φ H (.dat d) v
  | ref {i : Nat} {a : Addr} : φ[i]? = some a → VR K wd φ H (.ref i) (.ref a)
  | tup {ws : List W} {a : Addr} {vs : List V} : SqT K H a vs → VRs K wd φ H ws vs → VR K wd φ H (.tup ws) (.ref a)
  | lst {ws : List W} {a : Addr} {vs : List V} : SqL K H a vs → VRs K wd φ H ws vs → VR K wd φ H (.lst ws) (.ref a)
  | scr {ns : List Int} {v : V} : ns.length ≤ 63 → Dp K H v (.list (ns.map .int)) → VR K wd φ H .scr v
  | ins {c : Nat} {fs : List W} {a C dx : Addr} {vs : List V} : insC K c C → H a = some (.ins C dx ((insF c).zip vs)) → vs.length = (insF c).length → VRs K wd φ H fs vs → VR K wd φ H (.ins c fs) (.ref a)
  | dct {kvs : List (NestedKey × W)} {a : Addr} {o : Obj} {es : List (NestedKey × Addr × V)} : H a = some (.frz o (DicO wd a es)) → DRs K wd φ H kvs es → VR K wd φ H (.dct kvs) (.ref a)
  | tpx {ds : List PyData} {a : Addr} {o : Obj} {vs : List V} : H a = some (.frz o (.tup vs)) → o.dict = none → Dp K H (.ref a) (.tuple ds) → VR K wd φ H (.tpx ds) (.ref a)
inductive VRs (K : PySem.W.Frag) (wd : World) (φ : List Addr) (H : Hp) : List W → List V → Prop
  | nil : VRs K wd φ H [] []
  | cons {w : W} {v : V} {ws : List W} {vs : List V} : VR K wd φ H w v → VRs K wd φ H ws vs → VRs K wd φ H (w :: ws) (v :: vs)
/-- the entries of a dict -/
inductive DRs (K : PySem.W.Frag) (wd : World) (φ : List Addr) (H : Hp) : List (NestedKey × W) → List (NestedKey × Addr × V) → Prop
  | nil : DRs K wd φ H [] []
  | cons {k : NestedKey} {w : W} {b : Addr} {v : V} {kvs : List (NestedKey × W)} {es : List (NestedKey × Addr × V)} : k.depth ≤ 8 → Dp K H (.ref b) k.data → VR K wd φ H w v → DRs K wd φ H kvs es → DRs K wd φ H ((k, w) :: kvs) ((k, b, v) :: es)
end
section
variable {K : PySem.W.Frag} {wd : World} {φ φ' : List Addr} {H H' : Hp}
/-- addresses known further on -/
def Fx (φ φ' : List Addr) : Prop := ∀ (i : Nat) (a : Addr), φ[i]? = some a → φ'[i]? = some a
theorem Fx.refl : Fx φ φ := fun _ _ h => h
theorem Fx.trans {φ'' : List Addr} (a : Fx φ φ') (b : Fx φ' φ'') : Fx φ φ'' := fun i x h => b i x (a i x h)
theorem Fx.app {t : List Addr} : Fx φ (φ ++ t) := fun i a h => by
  rw [List.getElem?_append_left (List.getElem?_eq_some_iff.mp h).1]
  exact h
mutual
theorem VR.mono (f : Fx φ φ') (e : Same H H') : ∀ {w : W} {v : V}, VR K wd φ H w v → VR K wd φ' H' w v
  | _, _, .dat h => .dat (Dp.mono e _ h)
  | _, _, .ref h => .ref (f _ _ h)
  | _, _, .tup h g => .tup (same_t e h) (VRs.mono f e g)
  | _, _, .lst h g => .lst (same_l e h) (VRs.mono f e g)
  | _, _, .scr h g => .scr h (Dp.mono e _ g)
  | _, _, .ins h1 h2 h3 g => .ins h1 (e _ _ h2) h3 (VRs.mono f e g)
  | _, _, .dct h g => .dct (e _ _ h) (DRs.mono f e g)
  | _, _, .tpx h d g => .tpx (e _ _ h) d (Dp.mono e _ g)
theorem VRs.mono (f : Fx φ φ') (e : Same H H') : ∀ {ws : List W} {vs : List V}, VRs K wd φ H ws vs → VRs K wd φ' H' ws vs
  | _, _, .nil => .nil
  | _, _, .cons h g => .cons (VR.mono f e h) (VRs.mono f e g)
theorem DRs.mono (f : Fx φ φ') (e : Same H H') : ∀ {kvs : List (NestedKey × W)} {es : List (NestedKey × Addr × V)}, DRs K wd φ H kvs es → DRs K wd φ' H' kvs es
  | _, _, .nil => .nil
  | _, _, .cons h1 h2 h3 h4 => .cons h1 (Dp.mono e _ h2) (VR.mono f e h3) (DRs.mono f e h4)
end
theorem VRs.len : ∀ {ws : List W} {vs : List V}, VRs K wd φ H ws vs → vs.length = ws.length
  | _, _, .nil => rfl
  | _, _, .cons _ g => by rw [List.length_cons, List.length_cons, VRs.len g]
theorem VRs.get : ∀ {ws : List W} {vs : List V} {i : Nat} {w : W}, VRs K wd φ H ws vs → ws[i]? = some w → ∃ v, vs[i]? = some v ∧ VR K wd φ H w v
  | _, _, i, w, .nil, g => by simp at g
  | _, _, 0, w, .cons h1 h2, g => by
    simp at g
    subst g
    exact ⟨_, rfl, h1⟩
  | _, _, i + 1, w, .cons h1 h2, g => by
    obtain ⟨v, q1, q2⟩ := VRs.get h2 (by simpa using g)
    exact ⟨v, by simpa using q1, q2⟩
theorem VRs.app : ∀ {ws us : List W} {vs xs : List V}, VRs K wd φ H ws vs → VRs K wd φ H us xs → VRs K wd φ H (ws ++ us) (vs ++ xs)
  | _, _, _, _, .nil, g => g
  | _, _, _, _, .cons h1 h2, g => .cons h1 (VRs.app h2 g)
theorem VRs.set : ∀ {ws : List W} {vs : List V} {w : W} {v : V} (i : Nat), VRs K wd φ H ws vs → VR K wd φ H w v → VRs K wd φ H (ws.set i w) (vs.set i v)
  | _, _, _, _, i, .nil, g => by simp; exact .nil
  | _, _, _, _, 0, .cons h1 h2, g => .cons g h2
  | _, _, _, _, i + 1, .cons h1 h2, g => .cons h1 (VRs.set i h2 g)
theorem VRs.take : ∀ {ws : List W} {vs : List V} (n : Nat), VRs K wd φ H ws vs → VRs K wd φ H (ws.take n) (vs.take n)
  | _, _, n, .nil => by simp; exact .nil
  | _, _, 0, .cons _ _ => by simp; exact .nil
  | _, _, n + 1, .cons h1 h2 => .cons h1 (VRs.take n h2)
theorem VRs.drop : ∀ {ws : List W} {vs : List V} (n : Nat), VRs K wd φ H ws vs → VRs K wd φ H (ws.drop n) (vs.drop n)
  | _, _, n, .nil => by simp; exact .nil
  | _, _, 0, .cons h1 h2 => .cons h1 h2
  | _, _, n + 1, .cons h1 h2 => VRs.drop n h2
/-- data alone -/
def datsOf : List W → Option (List PyData)
  | [] => some []
  | .dat d :: r => match datsOf r with | some ds => some (d :: ds) | none => none
  | _ :: _ => none
theorem datsOf_eq : ∀ {ws : List W} {ds : List PyData}, datsOf ws = some ds → ws = ds.map .dat
  | [], ds, h => by cases h; rfl
  | w :: r, ds, h => by
    cases w <;> simp only [datsOf, reduceCtorEq] at h
    split at h
    · rename_i e
      cases h
      rw [datsOf_eq e]
      rfl
    · cases h
theorem VRs.dats : ∀ {ds : List PyData} {vs : List V}, VRs K wd φ H (ds.map .dat) vs → DpAll K H vs ds
  | [], _, h => by cases h; exact .nil
  | d :: ds, _, h => by
    cases h with
    | cons h1 h2 =>
      cases h1 with
      | dat h1 => exact .cons h1 (VRs.dats h2)
theorem VRs.of_dats : ∀ {ds : List PyData} {vs : List V}, DpAll K H vs ds → VRs K wd φ H (ds.map .dat) vs
  | [], _, h => by cases h; exact .nil
  | d :: ds, _, h => by
    cases h with
    | cons h1 h2 => exact .cons (.dat h1) (VRs.of_dats h2)
def mkT (ws : List W) : W := match datsOf ws with | some ds => .dat (.tuple ds) | none => .tup ws
def mkL (ws : List W) : W := match datsOf ws with | some ds => .dat (.list ds) | none => .lst ws
theorem VR.mkT {ws : List W} {a : Addr} {vs : List V} (h : SqT K H a vs) (g : VRs K wd φ H ws vs) : VR K wd φ H (mkT ws) (.ref a) := by
  unfold Hx.mkT
  split
  · rename_i ds e
    rw [datsOf_eq e] at g
    exact .dat (.tup h (VRs.dats g))
  · exact .tup h g
theorem VR.mkL {ws : List W} {a : Addr} {vs : List V} (h : SqL K H a vs) (g : VRs K wd φ H ws vs) : VR K wd φ H (mkL ws) (.ref a) := by
  unfold Hx.mkL
  split
  · rename_i ds e
    rw [datsOf_eq e] at g
    exact .dat (.lst h (VRs.dats g))
  · exact .lst h g
/-- the items of a tuple, of a list that never changes -/
def asT : W → Option (List W)
  | .dat (.tuple ds) => some (ds.map .dat)
  | .tup ws => some ws
  | _ => none
def asL : W → Option (List W)
  | .dat (.list ds) => some (ds.map .dat)
  | .lst ws => some ws
  | _ => none
theorem VR.asT {w : W} {v : V} {ws : List W} (h : VR K wd φ H w v) (e : asT w = some ws) : ∃ a vs, v = .ref a ∧ SqT K H a vs ∧ VRs K wd φ H ws vs := by
  unfold Hx.asT at e
  split at e
  · cases e
    cases h with
    | dat h =>
      cases h with
      | tup hs ha => exact ⟨_, _, rfl, hs, VRs.of_dats ha⟩
  · cases e
    cases h with
    | tup hs ha => exact ⟨_, _, rfl, hs, ha⟩
  · cases e
theorem VR.asL {w : W} {v : V} {ws : List W} (h : VR K wd φ H w v) (e : asL w = some ws) : ∃ a vs, v = .ref a ∧ SqL K H a vs ∧ VRs K wd φ H ws vs := by
  unfold Hx.asL at e
  split at e
  · cases e
    cases h with
    | dat h =>
      cases h with
      | lst hs ha => exact ⟨_, _, rfl, hs, VRs.of_dats ha⟩
  · cases e
    cases h with
    | lst hs ha => exact ⟨_, _, rfl, hs, ha⟩
  · cases e
end
/-- the entries of a dict whose keys are numbers -/
inductive KRs (K : PySem.W.Frag) (wd : World) (φ : List Addr) (H : Hp) : List (Int × W) → List (Key × V) → Prop
  | nil : KRs K wd φ H [] []
  | cons {i : Int} {w : W} {v : V} {kvs : List (Int × W)} {es : List (Key × V)} : VR K wd φ H w v → KRs K wd φ H kvs es → KRs K wd φ H ((i, w) :: kvs) ((.inl i, v) :: es)
theorem KRs.mono {K : PySem.W.Frag} {wd : World} {φ φ' : List Addr} {H H' : Hp} (f : Fx φ φ') (e : Same H H') : ∀ {kvs : List (Int × W)} {es : List (Key × V)}, KRs K wd φ H kvs es → KRs K wd φ' H' kvs es
  | _, _, .nil => .nil
  | _, _, .cons h g => .cons (h.mono f e) (KRs.mono f e g)
def OR (K : PySem.W.Frag) (wd : World) (φ : List Addr) (Hk Hr : Hp) (a : Addr) : Ob → Prop
  | .lst ws => ∃ vs, Hr a = some (.lst vs) ∧ VRs K wd φ Hk ws vs
  | .dic kvs => ∃ es, Hr a = some (DicO wd a es) ∧ DRs K wd φ Hk kvs es
  | .dki kvs => ∃ es, Hr a = some (.dK es) ∧ KRs K wd φ Hk kvs es
  | .st => ∃ s t : Int, Hr a = some (.lst [.int s, .int t])
  | .nums => ∃ ns : List Int, Hr a = some (.lst (ns.map .int)) ∧ ns.length ≤ 4000 ∧ ∀ n ∈ ns, 0 ≤ n ∧ n < 1009
  | .ins c fs => ∃ C dx vs, insC K c C ∧ Hr a = some (.ins C dx ((insF c).zip vs)) ∧ VRs K wd φ Hk fs vs
theorem OR.there {K : PySem.W.Frag} {wd : World} {φ : List Addr} {Hk Hr : Hp} {a : Addr} {o : Ob} (h : OR K wd φ Hk Hr a o) : ∃ u, Hr a = some u := by
  cases o with
  | lst ws => obtain ⟨vs, h, _⟩ := h; exact ⟨_, h⟩
  | dic kvs => obtain ⟨es, h, _⟩ := h; exact ⟨_, h⟩
  | dki kvs => obtain ⟨es, h, _⟩ := h; exact ⟨_, h⟩
  | st => obtain ⟨s, t, h⟩ := h; exact ⟨_, h⟩
  | nums => obtain ⟨ns, h, _⟩ := h; exact ⟨_, h⟩
  | ins c fs => obtain ⟨C, dx, vs, _, h, _⟩ := h; exact ⟨_, h⟩
theorem OR.mono {K : PySem.W.Frag} {wd : World} {φ φ' : List Addr} {Hk Hk' Hr Hr' : Hp} {a : Addr} {o : Ob} (f : Fx φ φ') (e : Same Hk Hk') (g : ∀ u, Hr a = some u → Hr' a = some u) (h : OR K wd φ Hk Hr a o) : OR K wd φ' Hk' Hr' a o := by
  cases o with
  | lst ws => obtain ⟨vs, h, r⟩ := h; exact ⟨vs, g _ h, VRs.mono f e r⟩
  | dic kvs => obtain ⟨es, h, r⟩ := h; exact ⟨es, g _ h, r.mono f e⟩
  | dki kvs => obtain ⟨es, h, r⟩ := h; exact ⟨es, g _ h, r.mono f e⟩
  | st => obtain ⟨s, t, h⟩ := h; exact ⟨s, t, g _ h⟩
  | nums => obtain ⟨ns, h, r⟩ := h; exact ⟨ns, g _ h, r⟩
  | ins c fs => obtain ⟨C, dx, vs, n, h, r⟩ := h; exact ⟨C, dx, vs, n, g _ h, VRs.mono f e r⟩
theorem OR.mono2 {K : PySem.W.Frag} {wd : World} {φ φ' : List Addr} {Hk Hk' Hr Hr' : Hp} {a : Addr} {o : Ob} (f : Fx φ φ') (e : Same Hk Hk') (g : Hr' a = Hr a) (h : OR K wd φ Hk Hr a o) : OR K wd φ' Hk' Hr' a o := h.mono f e fun u hu => by rw [g]; exact hu
/-- Ho: what stands outside and does not change; Hk: what is known and never changes; Hr: all that stands -/
structure Ok (K : PySem.W.Frag) (wd : World) (φ : List Addr) (hs : Hs) (Ho Hk Hr : Hp) : Prop where
  kr : Same Hk Hr
  out : Same Ho Hr
  len : φ.length = hs.nx
  low : ∀ i o, hs.get i = some o → i < hs.nx
  obj : ∀ i o, hs.get i = some o → ∃ a, φ[i]? = some a ∧ Hk a = none ∧ Ho a = none ∧ OR K wd φ Hk Hr a o
  inj : ∀ (i j : Nat) (a : Addr), hs.get i ≠ none → hs.get j ≠ none → φ[i]? = some a → φ[j]? = some a → i = j
  dis : ∀ (b : Addr) (o : HO), Ho b = some o → Hk b = none
/-- what may come behind -/
structure Ex (φ : List Addr) (Hk : Hp) (φ' : List Addr) (Hk' : Hp) : Prop where
  f : Fx φ φ'
  k : Same Hk Hk'
theorem Ex.refl {φ : List Addr} {Hk : Hp} : Ex φ Hk φ Hk := ⟨Fx.refl, Same.refl _⟩
theorem Ex.trans {φ φ' φ'' : List Addr} {Hk Hk' Hk'' : Hp} (a : Ex φ Hk φ' Hk') (b : Ex φ' Hk' φ'' Hk'') : Ex φ Hk φ'' Hk'' := ⟨a.f.trans b.f, a.k.trans b.k⟩
theorem VR.ex {K : PySem.W.Frag} {wd : World} {φ φ' : List Addr} {Hk Hk' : Hp} {w : W} {v : V} (h : VR K wd φ Hk w v) (e : Ex φ Hk φ' Hk') : VR K wd φ' Hk' w v := h.mono e.f e.k
theorem VRs.ex {K : PySem.W.Frag} {wd : World} {φ φ' : List Addr} {Hk Hk' : Hp} {w : List W} {v : List V} (h : VRs K wd φ Hk w v) (e : Ex φ Hk φ' Hk') : VRs K wd φ' Hk' w v := h.mono e.f e.k
theorem Ex.gro {φ : List Addr} {Hk Hr H2 : Hp} (kr : Same Hk Hr) : Ex φ Hk φ (gro Hk Hr H2) := ⟨Fx.refl, gro_same kr⟩
theorem beq_self (i : Nat) : Nat.beq i i = true := Nat.beq_refl i
theorem beq_ne {i j : Nat} (h : i ≠ j) : Nat.beq i j = false := by
  cases q : Nat.beq i j with
  | false => rfl
  | true => exact absurd (Nat.eq_of_beq_eq_true q) h
theorem get_new_self {h : Hs} {o : Ob} : (h.new o).get h.nx = some o := by
  show (match Nat.beq h.nx h.nx with | true => some o | false => getO h.nx h.os) = some o
  rw [beq_self]
theorem get_new_ne {h : Hs} {o : Ob} {i : Nat} (e : i ≠ h.nx) : (h.new o).get i = h.get i := by
  show (match Nat.beq i h.nx with | true => some o | false => getO i h.os) = _
  rw [beq_ne e]
  rfl
theorem getO_set_self {i : Nat} {o u : Ob} : ∀ {l : List (Nat × Ob)}, getO i l = some u → getO i (setO i o l) = some o
  | [], h => by cases h
  | (j, x) :: r, h => by
    unfold setO
    unfold getO at h
    cases q : Nat.beq i j with
    | true => simp only [getO, q]
    | false =>
      rw [q] at h
      simp only [getO, q]
      exact getO_set_self h
theorem getO_set_ne {i k : Nat} {o : Ob} (e : k ≠ i) : ∀ {l : List (Nat × Ob)}, getO k (setO i o l) = getO k l
  | [] => rfl
  | (j, x) :: r => by
    unfold setO
    cases q : Nat.beq i j with
    | true =>
      have : i = j := Nat.eq_of_beq_eq_true q
      subst this
      simp only [getO, beq_ne e]
    | false =>
      simp only [getO]
      rw [getO_set_ne e]
theorem getO_del_self {i : Nat} : ∀ {l : List (Nat × Ob)}, getO i (delO i l) = none
  | [] => rfl
  | (j, x) :: r => by
    unfold delO
    cases q : Nat.beq i j with
    | true => exact getO_del_self
    | false =>
      simp only [getO, q]
      exact getO_del_self
theorem getO_del_ne {i k : Nat} (e : k ≠ i) : ∀ {l : List (Nat × Ob)}, getO k (delO i l) = getO k l
  | [] => rfl
  | (j, x) :: r => by
    unfold delO
    cases q : Nat.beq i j with
    | true =>
      have : i = j := Nat.eq_of_beq_eq_true q
      subst this
      simp only [getO, beq_ne e]
      exact getO_del_ne e
    | false =>
      simp only [getO]
      rw [getO_del_ne e]
section
variable {K : PySem.W.Frag} {wd : World} {φ : List Addr} {hs : Hs} {Ho Hk Hr H2 : Hp}
theorem Ok.gro (I : Ok K wd φ hs Ho Hk Hr) (e : Same Hr H2) : Ok K wd φ hs Ho (gro Hk Hr H2) H2 where
  kr := gro_in I.kr e
  out := I.out.trans e
  len := I.len
  low := I.low
  obj := fun i o h => by
    obtain ⟨a, q1, q2, q3, q4⟩ := I.obj i o h
    obtain ⟨u, q5⟩ := q4.there
    exact ⟨a, q1, by rw [gro_old q5]; exact q2, q3, q4.mono Fx.refl (gro_same I.kr) fun u hu => e _ _ hu⟩
  inj := I.inj
  dis := fun b o h => by rw [gro_old (I.out _ _ h)]; exact I.dis b o h
/-- a new thing -/
theorem Ok.new (I : Ok K wd φ hs Ho Hk Hr) {p : Addr} {o : Ob} (np : Hr p = none) (e : Same Hr H2) (ho : OR K wd (φ ++ [p]) Hk H2 p o) : Ok K wd (φ ++ [p]) (hs.new o) Ho Hk H2 := by
  have nk : Hk p = none := by
    cases q : Hk p with
    | none => rfl
    | some u => rw [I.kr _ _ q] at np; cases np
  have no : Ho p = none := by
    cases q : Ho p with
    | none => rfl
    | some u => rw [I.out _ _ q] at np; cases np
  have far : ∀ (i : Nat) (a : Addr), hs.get i ≠ none → φ[i]? = some a → a ≠ p := fun i a h q z => by
    cases g : hs.get i with
    | none => exact h g
    | some u =>
      obtain ⟨b, q1, _, _, q4⟩ := I.obj i u g
      rw [q] at q1
      cases q1
      obtain ⟨u, q5⟩ := q4.there
      rw [z, np] at q5
      cases q5
  have lst : (φ ++ [p])[hs.nx]? = some p := by rw [← I.len]; simp
  have old : ∀ (i : Nat) (a : Addr), i ≠ hs.nx → (hs.new o).get i ≠ none → (φ ++ [p])[i]? = some a → hs.get i ≠ none ∧ φ[i]? = some a := fun i a h1 h2 h3 => by
    rw [get_new_ne h1] at h2
    refine ⟨h2, ?_⟩
    cases g : hs.get i with
    | none => exact absurd g h2
    | some u =>
      have := I.low i u g
      rw [List.getElem?_append_left (by rw [I.len]; exact this)] at h3
      exact h3
  refine ⟨I.kr.trans e, I.out.trans e, ?_, fun i u h => ?_, fun i u h => ?_, fun i j a hi hj h1 h2 => ?_, ?_⟩
  · rw [List.length_append, I.len]; rfl
  · by_cases q : i = hs.nx
    · rw [q]; exact Nat.lt_succ_self _
    · rw [get_new_ne q] at h
      exact Nat.lt_succ_of_lt (I.low i u h)
  · by_cases q : i = hs.nx
    · subst q
      rw [get_new_self] at h
      cases h
      exact ⟨p, lst, nk, no, ho⟩
    · rw [get_new_ne q] at h
      obtain ⟨a, q1, q2, q3, q4⟩ := I.obj i u h
      exact ⟨a, Fx.app i a q1, q2, q3, q4.mono Fx.app (Same.refl _) fun u hu => e _ _ hu⟩
  · by_cases q1 : i = hs.nx
    · by_cases q2 : j = hs.nx
      · rw [q1, q2]
      · exfalso
        obtain ⟨g1, g2⟩ := old j a q2 hj h2
        rw [q1, lst] at h1
        cases h1
        exact far j _ g1 g2 rfl
    · obtain ⟨g1, g2⟩ := old i a q1 hi h1
      by_cases q2 : j = hs.nx
      · exfalso
        rw [q2, lst] at h2
        cases h2
        exact far i _ g1 g2 rfl
      · obtain ⟨g3, g4⟩ := old j a q2 hj h2
        exact I.inj i j a g1 g3 g2 g4
  · exact I.dis
/-- a thing changes -/
theorem Ok.put (I : Ok K wd φ hs Ho Hk Hr) {i : Nat} {o o' : Ob} {a : Addr} {u : HO} (h : hs.get i = some o) (ha : φ[i]? = some a) (ho : OR K wd φ Hk (upd Hr a u) a o') : Ok K wd φ (hs.put i o') Ho Hk (upd Hr a u) := by
  obtain ⟨b, q1, q2, q3, q4⟩ := I.obj i o h
  rw [ha] at q1
  cases q1
  have gs : (hs.put i o').get i = some o' := getO_set_self h
  have gn : ∀ j, j ≠ i → (hs.put i o').get j = hs.get j := fun j e => getO_set_ne e
  have gz : ∀ j, (hs.put i o').get j ≠ none → hs.get j ≠ none := fun j e => by
    by_cases q : j = i
    · rw [q, h]; exact fun z => nomatch z
    · rw [gn j q] at e; exact e
  refine ⟨fun b v g => ?_, fun b v g => ?_, I.len, fun j v g => ?_, fun j v g => ?_, fun j k b hj hk h1 h2 => I.inj j k b (gz j hj) (gz k hk) h1 h2, I.dis⟩
  · rw [upd_ne (ne_of_none g q2)]; exact I.kr _ _ g
  · rw [upd_ne (ne_of_none g q3)]; exact I.out _ _ g
  · by_cases q : j = i
    · rw [q]; exact I.low i o h
    · rw [gn j q] at g; exact I.low j v g
  · by_cases q : j = i
    · subst q
      rw [gs] at g
      cases g
      exact ⟨a, ha, q2, q3, ho⟩
    · rw [gn j q] at g
      obtain ⟨b, r1, r2, r3, r4⟩ := I.obj j v g
      refine ⟨b, r1, r2, r3, r4.mono Fx.refl (Same.refl _) fun v hv => ?_⟩
      rw [upd_ne fun z => ?_]
      · exact hv
      · subst z
        exact q (I.inj j i b (by rw [g]; exact fun z => nomatch z) (by rw [h]; exact fun z => nomatch z) r1 ha)
/-- a list is not changed any more -/
theorem Ok.fix (I : Ok K wd φ hs Ho Hk Hr) {i : Nat} {ws : List W} (h : hs.get i = some (.lst ws)) : ∃ a Hk', φ[i]? = some a ∧ Same Hk Hk' ∧ Ok K wd φ (hs.del i) Ho Hk' Hr ∧ VR K wd φ Hk' (mkL ws) (.ref a) := by
  obtain ⟨a, q1, q2, q3, vs, q4, q5⟩ := I.obj i _ h
  have e : Same Hk (upd Hk a (.lst vs)) := new_same q2 _
  have gn : ∀ j, j ≠ i → (hs.del i).get j = hs.get j := fun j e => getO_del_ne e
  have gi : (hs.del i).get i = none := getO_del_self
  have gz : ∀ j, (hs.del i).get j ≠ none → j ≠ i ∧ hs.get j ≠ none := fun j e => by
    by_cases q : j = i
    · rw [q] at e; exact absurd gi e
    · rw [gn j q] at e; exact ⟨q, e⟩
  refine ⟨a, upd Hk a (.lst vs), q1, e, ⟨fun b v g => ?_, I.out, I.len, fun j v g => ?_, fun j v g => ?_, fun j k b hj hk h1 h2 => I.inj j k b (gz j hj).2 (gz k hk).2 h1 h2, fun b v g => by
    by_cases z : b = a
    · subst z; rw [q3] at g; cases g
    · rw [upd_ne z]; exact I.dis b v g⟩, VR.mkL (.inl (.inl upd_same)) (VRs.mono Fx.refl e q5)⟩
  · by_cases q : b = a
    · subst q
      rw [upd_same] at g
      rw [q4]; exact g
    · rw [upd_ne q] at g
      exact I.kr _ _ g
  · have z := gz j (by rw [g]; exact fun z => nomatch z)
    rw [gn j z.1] at g
    exact I.low j v g
  · have z := gz j (by rw [g]; exact fun z => nomatch z)
    rw [gn j z.1] at g
    obtain ⟨b, r1, r2, r3, r4⟩ := I.obj j v g
    refine ⟨b, r1, ?_, r3, r4.mono Fx.refl e fun v hv => hv⟩
    rw [upd_ne fun w => ?_]
    · exact r2
    · subst w
      exact z.1 (I.inj j i b z.2 (by rw [h]; exact fun z => nomatch z) r1 q1)
/-- a thing is not changed any more -/
theorem Ok.fix1 (I : Ok K wd φ hs Ho Hk Hr) {i : Nat} {o : Ob} {a : Addr} (u : HO) (h : hs.get i = some o) (q1 : φ[i]? = some a) : Same Hk (upd Hk a u) ∧ Ok K wd φ (hs.del i) Ho (upd Hk a u) (upd Hr a u) := by
  obtain ⟨a', q1', q2, q3, _⟩ := I.obj i _ h
  rw [q1] at q1'
  cases q1'
  have e : Same Hk (upd Hk a u) := new_same q2 _
  have gn : ∀ j, j ≠ i → (hs.del i).get j = hs.get j := fun j e => getO_del_ne e
  have gi : (hs.del i).get i = none := getO_del_self
  have gz : ∀ j, (hs.del i).get j ≠ none → j ≠ i ∧ hs.get j ≠ none := fun j e => by
    by_cases q : j = i
    · rw [q] at e; exact absurd gi e
    · rw [gn j q] at e; exact ⟨q, e⟩
  refine ⟨e, ⟨fun b v g => ?_, fun b v g => ?_, I.len, fun j v g => ?_, fun j v g => ?_, fun j k b hj hk h1 h2 => I.inj j k b (gz j hj).2 (gz k hk).2 h1 h2, fun b v g => by
    by_cases z : b = a
    · subst z; rw [q3] at g; cases g
    · rw [upd_ne z]; exact I.dis b v g⟩⟩
  · by_cases q : b = a
    · subst q
      rw [upd_same] at g ⊢
      exact g
    · rw [upd_ne q] at g ⊢
      exact I.kr _ _ g
  · rw [upd_ne (ne_of_none g q3)]
    exact I.out _ _ g
  · have z := gz j (by rw [g]; exact fun z => nomatch z)
    rw [gn j z.1] at g
    exact I.low j v g
  · have z := gz j (by rw [g]; exact fun z => nomatch z)
    rw [gn j z.1] at g
    obtain ⟨b, r1, r2, r3, r4⟩ := I.obj j v g
    have ne : b ≠ a := fun w => by
      subst w
      exact z.1 (I.inj j i b z.2 (by rw [h]; exact fun z => nomatch z) r1 q1)
    refine ⟨b, r1, by rw [upd_ne ne]; exact r2, r3, ?_⟩
    obtain ⟨x, hx⟩ := r4.there
    exact r4.mono2 Fx.refl e (by rw [upd_ne ne])
/-- what stands outside, more of it -/
theorem Ok.outer (I : Ok K wd φ hs Ho Hk Hr) {p : Addr} {u : HO} (np : Hr p = none) : Ok K wd φ hs (upd Ho p u) Hk (upd Hr p u) := by
  have nk : Hk p = none := by
    cases q : Hk p with
    | none => rfl
    | some v => rw [I.kr _ _ q] at np; cases np
  have e : Same Hr (upd Hr p u) := new_same np _
  refine ⟨I.kr.trans e, fun b v g => ?_, I.len, I.low, fun j v g => ?_, I.inj, fun b v g => ?_⟩
  · by_cases q : b = p
    · subst q
      rw [upd_same] at g ⊢
      exact g
    · rw [upd_ne q] at g ⊢
      exact I.out _ _ g
  · obtain ⟨b, r1, r2, r3, r4⟩ := I.obj j v g
    obtain ⟨x, hx⟩ := r4.there
    have ne : b ≠ p := fun z => by rw [z, np] at hx; cases hx
    exact ⟨b, r1, r2, by rw [upd_ne ne]; exact r3, r4.mono Fx.refl (Same.refl _) fun v hv => e _ _ hv⟩
  · by_cases q : b = p
    · rw [q]; exact nk
    · rw [upd_ne q] at g
      exact I.dis b v g
end
end Hx
noncomputable section
namespace Hx
open PySem L2 Pd Gn PySem.Spec PyProof.Rows
abbrev Rho := List (Option W)
structure SR (K : PySem.W.Frag) (wd : World) (φ : List Addr) (Hk : Hp) (ρ : Rho) (σ : L2.St) : Prop where
  len : ρ.length = σ.length
  at_ : ∀ (i : Nat) (w : W), ρ[i]? = some (some w) → ∃ v, σ[i]? = some (some v) ∧ VR K wd φ Hk w v
section
variable {K : PySem.W.Frag} {wd : World} {φ φ' : List Addr} {Hk Hk' : Hp} {ρ : Rho} {σ : L2.St} {w : W} {v : V}
theorem SR.ex (R : SR K wd φ Hk ρ σ) (e : Ex φ Hk φ' Hk') : SR K wd φ' Hk' ρ σ := ⟨R.len, fun i w h => by
  obtain ⟨v, q1, q2⟩ := R.at_ i w h
  exact ⟨v, q1, q2.ex e⟩⟩
theorem SR.set (R : SR K wd φ Hk ρ σ) {n : Nat} (h : VR K wd φ Hk w v) : SR K wd φ Hk (ρ.set n (some w)) (σ.set n (some v)) := ⟨by simp [R.len], fun i u q => by
  by_cases e : n = i
  · subst e
    have hl : n < ρ.length := by simpa using (List.getElem?_eq_some_iff.mp q).1
    rw [List.getElem?_set_self hl] at q
    cases q
    exact ⟨v, by rw [List.getElem?_set_self (by rw [← R.len]; exact hl)], h⟩
  · rw [List.getElem?_set_ne e] at q ⊢
    exact R.at_ i u q⟩
/-- fewer slots known, others changed -/
theorem SR.sub {ρ' : Rho} {σ' : L2.St} (R : SR K wd φ Hk ρ σ) (hl : ρ'.length = σ'.length) (h : ∀ (i : Nat) (w : W), ρ'[i]? = some (some w) → ρ[i]? = some (some w) ∧ σ'[i]? = σ[i]?) : SR K wd φ Hk ρ' σ' := ⟨hl, fun i u q => by
  obtain ⟨q1, q2⟩ := h i u q
  obtain ⟨v, r1, r2⟩ := R.at_ i u q1
  exact ⟨v, q2.trans r1, r2⟩⟩
theorem SR.no (R : SR K wd φ Hk ρ σ) {n : Nat} : SR K wd φ Hk (ρ.set n none) σ := R.sub (by simp [R.len]) fun i w q => ⟨by
  by_cases e : n = i
  · subst e
    have hl : n < ρ.length := by simpa using (List.getElem?_eq_some_iff.mp q).1
    rw [List.getElem?_set_self hl] at q
    cases q
  · rw [List.getElem?_set_ne e] at q
    exact q, rfl⟩
end
def xName : Nat → Str
  | 0 => "Refused"
  | 1 => "NoText"
  | 2 => "Malformed"
  | 3 => "ZeroDivisor"
  | _ => "Fault"
def xFld : Nat → Option Str
  | 0 => some "reason"
  | 1 => some "at"
  | _ => none
def XA (K : PySem.W.Frag) (mg : Str → Option Value) (x : Xc) (C : Addr) (d : Option Addr) (Hr : Hp) : Prop := mg (xName x.c) = some (.ref C) ∧ match xFld x.c with
  | some f => ∃ dd v, d = some dd ∧ Hr dd = some (.xd [(f, v)]) ∧ Dp K Hr v x.d
  | none => d = none
/-- where one stands -/
structure Pt (X : Cx) (Wx : WX) (E : Xc → Hs → Prop) (ρ : Rho) (hs : Hs) (φ : List Addr) (Ho Hk Hr : Hp) (σ : L2.St) : Prop where
  tk : L2.Takes X Wx
  I : Ok X.K X.w φ hs Ho Hk Hr
  R : SR X.K X.w φ Hk ρ σ
  x : ∀ x hs' C d φ' Hk' Hr', E x hs' → Ok X.K X.w φ' hs' Ho Hk' Hr' → Ex φ Hk φ' Hk' → XA X.K X.mg x C d Hr' → Wx (.ref C) d σ Hr'
theorem Pt.go {X : Cx} {Wx : WX} {E : Xc → Hs → Prop} {ρ : Rho} {hs hs' : Hs} {φ φ' : List Addr} {Ho Hk Hk' Hr Hr' : Hp} {σ : L2.St} (p : Pt X Wx E ρ hs φ Ho Hk Hr σ) (I : Ok X.K X.w φ' hs' Ho Hk' Hr') (e : Ex φ Hk φ' Hk') : Pt X Wx E ρ hs' φ' Ho Hk' Hr' σ :=
  ⟨p.tk, I, p.R.ex e, fun x hs'' C d φ'' Hk'' Hr'' h I' e' => p.x x hs'' C d φ'' Hk'' Hr'' h I' (e.trans e')⟩
def EM (X : Cx) (e : Expr) (ρ : Rho) (m : M W) : Prop :=
  ∀ {Wx : WX} {E : Xc → Hs → Prop} {P : W → Hs → Prop} {hs : Hs} {φ : List Addr} {Ho Hk Hr : Hp} {σ : L2.St}, Pt X Wx E ρ hs φ Ho Hk Hr σ → (m hs).sat P E →
    ∀ Q : VK, (∀ w hs' v φ' Hk' Hr', P w hs' → Pt X Wx E ρ hs' φ' Ho Hk' Hr' σ → Ex φ Hk φ' Hk' → VR X.K X.w φ' Hk' w v → Q v Hr') → sE X e σ Hr Q
def AM (X : Cx) (es : List Expr) (ρ : Rho) (m : M (List W)) : Prop :=
  ∀ {Wx : WX} {E : Xc → Hs → Prop} {P : List W → Hs → Prop} {hs : Hs} {φ : List Addr} {Ho Hk Hr : Hp} {σ : L2.St}, Pt X Wx E ρ hs φ Ho Hk Hr σ → (m hs).sat P E →
    ∀ Q : List V → Hp → Prop, (∀ w hs' v φ' Hk' Hr', P w hs' → Pt X Wx E ρ hs' φ' Ho Hk' Hr' σ → Ex φ Hk φ' Hk' → VRs X.K X.w φ' Hk' w v → Q v Hr') → sA X es σ Hr Q
def TM (X : Cx) (e : Expr) (ρ : Rho) (m : M Bool) : Prop :=
  ∀ {Wx : WX} {E : Xc → Hs → Prop} {P : Bool → Hs → Prop} {hs : Hs} {φ : List Addr} {Ho Hk Hr : Hp} {σ : L2.St}, Pt X Wx E ρ hs φ Ho Hk Hr σ → (m hs).sat P E →
    ∀ Q : Bool → Hp → Prop, (∀ w hs' φ' Hk' Hr', P w hs' → Pt X Wx E ρ hs' φ' Ho Hk' Hr' σ → Ex φ Hk φ' Hk' → Q w Hr') → sT X e σ Hr Q
def WM (X : Cx) (e : Expr) (ρ : Rho) (m : M Bool) : Prop :=
  ∀ {Wx : WX} {E : Xc → Hs → Prop} {P : Bool → Hs → Prop} {hs : Hs} {φ : List Addr} {Ho Hk Hr : Hp} {σ : L2.St}, Pt X Wx E ρ hs φ Ho Hk Hr σ → (m hs).sat P E →
    ∀ Q : Bool → Hp → Prop, (∀ w hs' φ' Hk' Hr', P w hs' → Pt X Wx E ρ hs' φ' Ho Hk' Hr' σ → Ex φ Hk φ' Hk' → Q w Hr') → sW X e σ Hr Q
/-- a new list -/
def LM (X : Cx) (e : Expr) (ρ : Rho) (m : M (List W)) : Prop :=
  ∀ {Wx : WX} {E : Xc → Hs → Prop} {P : List W → Hs → Prop} {hs : Hs} {φ : List Addr} {Ho Hk Hr : Hp} {σ : L2.St}, Pt X Wx E ρ hs φ Ho Hk Hr σ → (m hs).sat P E →
    ∀ Q : VK, (∀ ws hs' p vs φ' Hk' Hr', P ws hs' → Ok X.K X.w φ' hs' (upd Ho p (.lst vs)) Hk' Hr' → Ho p = none → Hk' p = none → Ex φ Hk φ' Hk' → VRs X.K X.w φ' Hk' ws vs → Q (.ref p) Hr') → sE X e σ Hr Q
section
variable {K : PySem.W.Frag} {wd : World} {φ : List Addr} {hs : Hs} {Ho Hk Hr H2 : Hp} {p : Addr} {vs : List V} {ws : List W}
theorem same_upd (h : Ho p = none) {u : HO} : Same Ho (upd Ho p u) := new_same h u
theorem Ok.claimF (I : Ok K wd φ hs (upd Ho p (.lst vs)) Hk Hr) (no : Ho p = none) (nk : Hk p = none) (h : VRs K wd φ Hk ws vs) : Ok K wd φ hs Ho (upd Hk p (.lst vs)) Hr ∧ Ex φ Hk φ (upd Hk p (.lst vs)) ∧ VR K wd φ (upd Hk p (.lst vs)) (mkL ws) (.ref p) := by
  have e : Same Hk (upd Hk p (.lst vs)) := new_same nk _
  have hp : Hr p = some (.lst vs) := I.out _ _ upd_same
  refine ⟨⟨fun b u g => ?_, fun b u g => I.out _ _ (same_upd no b u g), I.len, I.low, fun i o g => ?_, I.inj, fun b u g => ?_⟩, ⟨Fx.refl, e⟩, VR.mkL (.inl (.inl upd_same)) (h.mono Fx.refl e)⟩
  · by_cases q : b = p
    · subst q
      rw [upd_same] at g
      rw [hp]; exact g
    · rw [upd_ne q] at g
      exact I.kr _ _ g
  · obtain ⟨a, q1, q2, q3, q4⟩ := I.obj i o g
    have ne : a ≠ p := fun z => by rw [z, upd_same] at q3; cases q3
    rw [upd_ne ne] at q3
    exact ⟨a, q1, by rw [upd_ne ne]; exact q2, q3, q4.mono Fx.refl e fun _ h => h⟩
  · by_cases q : b = p
    · subst q; rw [no] at g; cases g
    · rw [upd_ne q]; exact I.dis b u (same_upd no b u g)
theorem Ok.claimN (I : Ok K wd φ hs (upd Ho p (.lst vs)) Hk Hr) (no : Ho p = none) (nk : Hk p = none) (h : VRs K wd φ Hk ws vs) : Ok K wd (φ ++ [p]) (hs.new (.lst ws)) Ho Hk Hr ∧ Ex φ Hk (φ ++ [p]) Hk ∧ VR K wd (φ ++ [p]) Hk (.ref hs.nx) (.ref p) := by
  have hp : Hr p = some (.lst vs) := I.out _ _ upd_same
  have lst : (φ ++ [p])[hs.nx]? = some p := by rw [← I.len]; simp
  have far : ∀ (i : Nat) (a : Addr), hs.get i ≠ none → φ[i]? = some a → a ≠ p := fun i a h q z => by
    cases g : hs.get i with
    | none => exact h g
    | some u =>
      obtain ⟨b, q1, _, q3, _⟩ := I.obj i u g
      rw [q] at q1
      cases q1
      rw [z, upd_same] at q3
      cases q3
  have old : ∀ (i : Nat) (a : Addr), i ≠ hs.nx → (hs.new (.lst ws)).get i ≠ none → (φ ++ [p])[i]? = some a → hs.get i ≠ none ∧ φ[i]? = some a := fun i a h1 h2 h3 => by
    rw [get_new_ne h1] at h2
    refine ⟨h2, ?_⟩
    cases g : hs.get i with
    | none => exact absurd g h2
    | some u =>
      have := I.low i u g
      rw [List.getElem?_append_left (by rw [I.len]; exact this)] at h3
      exact h3
  refine ⟨⟨I.kr, fun b u g => I.out _ _ (same_upd no b u g), ?_, fun i u h => ?_, fun i u g => ?_, fun i j a hi hj h1 h2 => ?_, fun b u g => I.dis b u (same_upd no b u g)⟩, ⟨Fx.app, Same.refl _⟩, .ref lst⟩
  · rw [List.length_append, I.len]; rfl
  · by_cases q : i = hs.nx
    · rw [q]; exact Nat.lt_succ_self _
    · rw [get_new_ne q] at h
      exact Nat.lt_succ_of_lt (I.low i u h)
  · by_cases q : i = hs.nx
    · subst q
      rw [get_new_self] at g
      cases g
      exact ⟨p, lst, nk, no, vs, hp, h.mono Fx.app (Same.refl _)⟩
    · rw [get_new_ne q] at g
      obtain ⟨a, q1, q2, q3, q4⟩ := I.obj i u g
      have ne : a ≠ p := fun z => by rw [z, upd_same] at q3; cases q3
      rw [upd_ne ne] at q3
      exact ⟨a, Fx.app i a q1, q2, q3, q4.mono Fx.app (Same.refl _) fun u hu => hu⟩
  · by_cases q1 : i = hs.nx
    · by_cases q2 : j = hs.nx
      · rw [q1, q2]
      · exfalso
        obtain ⟨g1, g2⟩ := old j a q2 hj h2
        rw [q1, lst] at h1
        cases h1
        exact far j _ g1 g2 rfl
    · obtain ⟨g1, g2⟩ := old i a q1 hi h1
      by_cases q2 : j = hs.nx
      · exfalso
        rw [q2, lst] at h2
        cases h2
        exact far i _ g1 g2 rfl
      · obtain ⟨g3, g4⟩ := old j a q2 hj h2
        exact I.inj i j a g1 g3 g2 g4
end
def frzW (m : M (List W)) : M W := bd m fun ws => rt (mkL ws)
def ownW (m : M (List W)) : M W := bd m fun ws => fun h => .ok (.ref h.nx) (h.new (.lst ws))
/-- what is read as data: a list of the mirror's heap by its items -/
def viewR (i : Nat) : Option Ob → W
  | some (.lst ws) => mkL ws
  | _ => .ref i
def view (h : Hs) : W → W
  | .ref i => viewR i (h.get i)
  | w => w
def scal : W → Bool
  | .dat .none => true
  | .dat (.bool _) => true
  | .dat (.int _) => true
  | .dat (.str _) => true
  | _ => false
section
variable {K : PySem.W.Frag} {wd : World} {φ φ' : List Addr} {hs : Hs} {Ho Hk Hr H H' : Hp} {w : W} {v : V}
theorem VR.view (I : Ok K wd φ hs Ho Hk Hr) (h : VR K wd φ Hk w v) : VR K wd φ Hr (view hs w) v := by
  cases w with
  | ref i =>
    show VR K wd φ Hr (viewR i (hs.get i)) v
    cases g : hs.get i with
    | none => exact h.mono Fx.refl I.kr
    | some o =>
      cases o with
      | lst ws =>
        cases h with
        | ref ha =>
          obtain ⟨a, q1, q2, q3, vs, q4, q5⟩ := I.obj i _ g
          rw [ha] at q1
          cases q1
          exact VR.mkL (.inl (.inl q4)) (q5.mono Fx.refl I.kr)
      | _ => exact h.mono Fx.refl I.kr
  | _ => exact h.mono Fx.refl I.kr
theorem VRs.view (I : Ok K wd φ hs Ho Hk Hr) : ∀ {ws : List W} {vs : List V}, VRs K wd φ Hk ws vs → VRs K wd φ Hr (ws.map (Hx.view hs)) vs
  | _, _, .nil => .nil
  | _, _, .cons h g => .cons (VR.view I h) (VRs.view I g)
theorem VR.scal (s : scal w = true) (h : VR K wd φ H w v) : VR K wd φ' H' w v := by
  unfold Hx.scal at s
  split at s
  · cases h with | dat h => cases h; exact .dat .non
  · cases h with | dat h => cases h; exact .dat (.bl _)
  · cases h with | dat h => cases h; exact .dat (.int _)
  · cases h with | dat h => cases h; exact .dat (.str _)
  · cases s
end
def wOp (X : Cx) (f : Value → Value → Sem Value) : R2 := fun x y H Q => ∀ (pins : List (Addr × Obj)) (s : Shared) (σ : L2.St) (v u : Value), Inv X pins σ H s → RelV x v → RelV y u → wpAny (model X.prog X.w) X.A (f v u) (EP X pins σ Q) X.xe s
theorem wOp_r {X : Cx} {f : Value → Value → Sem Value} : OpR X f (wOp X f) := fun pins s σ H x y v u Q I rx ry h => h pins s σ v u I rx ry
theorem wOp_of {X : Cx} {f : Value → Value → Sem Value} {r : R2} (h : OpR X f r) {x y : V} {H : Hp} {Q : VK} (q : r x y H Q) : wOp X f x y H Q := fun pins s σ v u I rx ry => h pins s σ H x y v u Q I rx ry q
def wCall (X : Cx) (f : Value) : List V → Hp → VK → Prop := fun xs H Q => ∀ (pins : List (Addr × Obj)) (s : Shared) (σ : L2.St) (us : List Value), Inv X pins σ H s → Vals xs us → wpAny (model X.prog X.w) X.A (call f us) (EP X pins σ Q) X.xe s
theorem wCall_r {X : Cx} {f : Value} : CallR X f (wCall X f) := fun pins s σ H xs us Q I r h => h pins s σ us I r
theorem wCall_of {X : Cx} {f : Value} {r : List V → Hp → VK → Prop} (h : CallR X f r) {xs : List V} {H : Hp} {Q : VK} (q : r xs H Q) : wCall X f xs H Q := fun pins s σ us I rv => h pins s σ H xs us Q I rv q
def wIx (X : Cx) : R2 := fun x y H Q => ∀ (value slice : Expr) (pins : List (Addr × Obj)) (s : Shared) (σ : L2.St) (v u : Value), Inv X pins σ H s → RelV x v → RelV y u → subscripted slice false v u = operate [v, u] (getItem v u) → wpAny (model X.prog X.w) X.A (subscriptTail value slice v u) (EP X pins σ Q) X.xe s
theorem wIx_r {X : Cx} : IxR X (wIx X) := fun value slice pins s σ H x y v u Q I rx ry h hs => h value slice pins s σ v u I rx ry hs
theorem wIx_of {X : Cx} {r : R2} (h : IxR X r) {x y : V} {H : Hp} {Q : VK} (q : r x y H Q) : wIx X x y H Q := fun value slice pins s σ v u I rx ry hs => h value slice pins s σ H x y v u Q I rx ry q hs
def wSl (X : Cx) : V → Option Int → Option Int → Hp → VK → Prop := fun x lo hi H Q => ∀ (pins : List (Addr × Obj)) (s : Shared) (σ : L2.St) (v vl vu : Value) (sl : Addr), Inv X pins σ H s → RelV x v → s.heap.IsSliceOf sl vl vu .none → IsPart vl lo → IsPart vu hi →
  ∃ T id, typeLookup (.type T) "__getitem__" = pure (some (.builtin id)) ∧ s.TypeIs v T ∧ wpAny (model X.prog X.w) X.A (getItem v (.ref sl)) (EP X pins σ Q) X.xe s
theorem wSl_r {X : Cx} : SlR X (wSl X) := fun pins s σ H x v vl vu lo hi sl Q I rx hs pl pu h => h pins s σ v vl vu sl I rx hs pl pu
theorem wSl_of {X : Cx} {r : V → Option Int → Option Int → Hp → VK → Prop} (h : SlR X r) {x : V} {lo hi : Option Int} {H : Hp} {Q : VK} (q : r x lo hi H Q) : wSl X x lo hi H Q := fun pins s σ v vl vu sl I rx hs pl pu => h pins s σ H x v vl vu lo hi sl Q I rx hs pl pu q
/-- what an operation on values gives -/
def RW (K : PySem.W.Frag) (wd : World) (r : R2) (x y w : W) : Prop := ∀ φ u v Hk Hr, Same Hk Hr → VR K wd φ Hk x u → VR K wd φ Hk y v → ∀ Q : VK, (∀ z H2, Same Hr H2 → VR K wd φ (gro Hk Hr H2) w z → Q z H2) → r u v Hr Q
def RWs (K : PySem.W.Frag) (wd : World) (r : List V → Hp → VK → Prop) (xs : List W) (w : W) : Prop := ∀ φ us Hk Hr, Same Hk Hr → VRs K wd φ Hk xs us → ∀ Q : VK, (∀ z H2, Same Hr H2 → VR K wd φ (gro Hk Hr H2) w z → Q z H2) → r us Hr Q
theorem rw_of {K : PySem.W.Frag} {wd : World} {r : R2} {a b d : PyData} (h : RD K r a b d) : RW K wd r (.dat a) (.dat b) (.dat d) := fun φ u v Hk Hr kr hu hv Q q => by
  cases hu with
  | dat hu =>
    cases hv with
    | dat hv => exact h u v Hk Hr kr hu hv Q fun z H2 e hz => q z H2 e (.dat hz)
theorem rws_of {K : PySem.W.Frag} {wd : World} {r : List V → Hp → VK → Prop} {ds : List PyData} {d : PyData} (h : RA K r ds d) : RWs K wd r (ds.map .dat) (.dat d) := fun φ us Hk Hr kr hu Q q => h us Hk Hr kr (VRs.dats hu) Q fun z H2 e hz => q z H2 e (.dat hz)
end Hx
noncomputable section
namespace Hx
open PySem L2 Pd Gn PySem.Spec PyProof.Rows
section
variable {X : Cx} {a b c e : Expr} {es rest : List Expr} {ρ : Rho} {m m1 m2 : M W} {ma : M (List W)} {ml : M (List W)} {mc mw mt : M Bool} {n k : Nat} {pos p0 p1 p2 : Pos} {x : Str} {w : W}
theorem em_c {v : V} {d : PyData} (h : PE X e (tC v)) (hv : ∀ H, Dp X.K H v d) : EM X e ρ (rt (.dat d)) := fun p s Q q => sE_of h (q _ _ v _ _ _ s p Ex.refl (.dat (hv _)))
theorem em_var (hN : X.N[n]? = some x) (hr : ρ[n]? = some (some w)) (hv : Vis X.env.scope x := by first | exact Or.inl rfl | exact Or.inr (Or.inl rfl) | exact Or.inr (Or.inr rfl)) (hd : (x == ("__debug__" : Str)) = false := by decide)
    (hcd : (x == ("__classdict__" : Str)) = false := by decide) : EM X (.Name x pos) ρ (rt w) := fun p s Q q => by
  obtain ⟨v, s1, h⟩ := p.R.at_ n w hr
  exact sE_of (pe_var hN hv hd hcd) ⟨v, s1, q _ _ v _ _ _ s p Ex.refl h⟩
theorem em_int {i : Int} : EM X (.Constant (.int i) n pos) ρ (rt (.dat (.int i))) := em_c pe_int fun _ => .int i
theorem em_bl {i : Bool} : EM X (.Constant (.bool i) n pos) ρ (rt (.dat (.bool i))) := em_c pe_bl fun _ => .bl i
theorem em_non : EM X (.Constant .none n pos) ρ (rt (.dat .none)) := em_c pe_non fun _ => .non
theorem em_str {z : Str} : EM X (.Constant (.str z) n pos) ρ (rt (.dat (.str z))) := em_c pe_str fun _ => .str z
theorem em_glob {u : Value} {i : Int} (hg : Gl X x) (hm : X.mg x = some u) (r : RelV (.int i) u) (hd : (x == ("__debug__" : Str)) = false := by decide) : EM X (.Name x pos) ρ (rt (.dat (.int i))) := em_c (pe_glob hg hm r hd) fun _ => .int i
def apM (m : M W) (ma : M (List W)) : M (List W) := bd m fun w => bd ma fun ws => rt (w :: ws)
theorem am_nil : AM X [] ρ (rt []) := fun p s Q q => sA_of pa_nil (q _ _ [] _ _ _ s p Ex.refl .nil)
theorem am_cons (ha : EM X e ρ m) (hr : AM X es ρ ma) (hs : starEach (e :: es) X.env = (false, eval e X.env) :: starEach es X.env := by rfl) : AM X (e :: es) ρ (apM m ma) := fun p s Q q =>
  sA_of (pa_cons pe_s pa_s hs) (ha p (sat_bind s) _ fun w h1 v φ1 Hk1 Hr1 s1 p1 e1 hv => hr p1 (sat_bind s1) _ fun ws h2 vs φ2 Hk2 Hr2 s2 p2 e2 hvs => q _ _ _ _ _ _ s2 p2 (e1.trans e2) (.cons (hv.ex e2) hvs))
def OF (X : Cx) (f : Value → Value → Sem Value) (F : W → W → Option W) : Prop := ∀ x y w, F x y = some w → ∃ r, OpR X f r ∧ RW X.K X.w r x y w
def binM (F : W → W → Option W) (m1 m2 : M W) : M W := bd m1 fun x => bd m2 fun y => lf (F x y)
theorem em_bin {op : Operator} {F : W → W → Option W} (hf : OF X (binaryOp op) F) (ha : EM X a ρ m1) (hb : EM X b ρ m2) : EM X (.BinOp a op b pos) ρ (binM F m1 m2) := fun p s Q q => by
  refine sE_of (pe_op wOp_r pe_s pe_s) (ha p (sat_bind s) _ fun x h1 u φ1 Hk1 Hr1 s1 p1 e1 hu => hb p1 (sat_bind s1) _ fun y h2 v φ2 Hk2 Hr2 s2 p2 e2 hv => ?_)
  obtain ⟨w, hw, s3⟩ := sat_lf s2
  obtain ⟨r, o, g⟩ := hf x y w hw
  exact wOp_of o (g φ2 u v Hk2 Hr2 p2.I.kr (hu.ex e2) hv Q fun z H2 e hz => q w _ z _ _ _ s3 (p2.go (p2.I.gro e) (Ex.gro p2.I.kr)) (e1.trans (e2.trans (Ex.gro p2.I.kr))) hz)
def l2 (f : PyData → PyData → Option PyData) : W → W → Option W
  | .dat x, .dat y => (f x y).map .dat
  | _, _ => none
theorem of_l2 {f : Value → Value → Sem Value} {F : PyData → PyData → Option PyData} (h : ∀ x y d, F x y = some d → ∃ r, OpR X f r ∧ RD X.K r x y d) : OF X f (l2 F) := fun x y w e => by
  unfold l2 at e
  split at e
  · obtain ⟨d, h1, h2⟩ := mpd e
    subst h2
    obtain ⟨r, o, g⟩ := h _ _ _ h1
    exact ⟨r, o, rw_of g⟩
  · cases e
theorem add_f : OF X (binaryOp .Add) (l2 pAddX) := of_l2 fun x y d h => by
  unfold pAddX at h
  split at h
  · obtain ⟨g1, g2⟩ := gd_some h
    cases g2
    exact ⟨_, op_catS, rd_catS (short_le g1)⟩
  · unfold pAdd at h
    split at h
    · cases h; exact ⟨_, op_add, rd_int0⟩
    · obtain ⟨g1, g2⟩ := gd_some h
      cases g2; exact ⟨_, op_catA, rd_cat (short_le g1)⟩
    · cases h
theorem sub_f : OF X (binaryOp .Sub) (l2 pSub) := of_l2 fun x y d h => by
  unfold pSub at h
  split at h
  · cases h; exact ⟨_, op_sub, rd_int0⟩
  · cases h
def pFdiv : PyData → PyData → Option PyData
  | .int i, .int j => gd (decide (0 < j) && decide (j < 1000000)) (some (.int (i / j)))
  | _, _ => none
def pMod : PyData → PyData → Option PyData
  | .int i, .int j => gd (decide (0 < j)) (some (.int (i % j)))
  | _, _ => none
theorem fdiv_f : OF X (binaryOp .FloorDiv) (l2 pFdiv) := of_l2 fun x y d h => by
  unfold pFdiv at h
  split at h
  · obtain ⟨g1, g2⟩ := gd_some h
    rw [Bool.and_eq_true] at g1
    have h1 := of_decide_eq_true g1.1
    have h2 := of_decide_eq_true g1.2
    cases g2; exact ⟨_, op_fdiv, rd_int ⟨h1, by omega⟩⟩
  · cases h
theorem mod_f : OF X (binaryOp .Mod) (l2 pMod) := of_l2 fun x y d h => by
  unfold pMod at h
  split at h
  · obtain ⟨g1, g2⟩ := gd_some h
    cases g2; exact ⟨_, op_mod, rd_int (of_decide_eq_true g1)⟩
  · cases h
def CF (X : Cx) (op : CmpOp) (F : W → W → Option Bool) : Prop := ∀ x y k, F x y = some k → ∃ r, OpR X (compareOp op) r ∧ RW X.K X.w r x y (.dat (.bool k))
def cmpM (F : W → W → Option Bool) (m1 m2 : M W) : M Bool := bd m1 fun x => bd m2 fun y => fun h => lf (F (view h x) (view h y)) h
def bW (m : M Bool) : M W := bd m fun k => rt (.dat (.bool k))
theorem vr_bool {φ : List Addr} {H : Hp} {v : V} {k : Bool} (h : VR X.K X.w φ H (.dat (.bool k)) v) : v = .bl k := by
  cases h with
  | dat h => cases h; rfl
theorem em_cmp {op : CmpOp} {F : W → W → Option Bool} (hf : CF X op F) (ha : EM X a ρ m1) (hb : EM X b ρ m2) (hm : behindInMarks op b = false := by rfl) : EM X (.Compare a [op] [b] pos) ρ (bW (cmpM F m1 m2)) := fun p s Q q => by
  refine sE_of (pe_cmpR wOp_r pe_s pe_s hm) (ha p (sat_bind (sat_bind s)) _ fun x h1 u φ1 Hk1 Hr1 s1 p1 e1 hu => hb p1 (sat_bind s1) _ fun y h2 v φ2 Hk2 Hr2 s2 p2 e2 hv => ?_)
  obtain ⟨k, hk, s3⟩ := sat_lf s2
  obtain ⟨r, o, g⟩ := hf _ _ k hk
  refine wOp_of o (g φ2 u v Hr2 Hr2 (Same.refl _) ((hu.ex e2).view p2.I) (hv.view p2.I) Q fun z H2 e hz => ?_)
  exact q _ _ z _ _ _ s3 (p2.go (p2.I.gro e) (Ex.gro p2.I.kr)) (e1.trans (e2.trans (Ex.gro p2.I.kr))) (VR.scal rfl hz)
theorem tm_cmp {op : CmpOp} {F : W → W → Option Bool} (hf : CF X op F) (ha : EM X a ρ m1) (hb : EM X b ρ m2) (hm : behindInMarks op b = false := by rfl) : TM X (.Compare a [op] [b] pos) ρ (cmpM F m1 m2) := fun p s Q q => by
  refine sT_of (pt_cmpR wOp_r pe_s pe_s hm) (ha p (sat_bind s) _ fun x h1 u φ1 Hk1 Hr1 s1 p1 e1 hu => hb p1 (sat_bind s1) _ fun y h2 v φ2 Hk2 Hr2 s2 p2 e2 hv => ?_)
  obtain ⟨k, hk, s3⟩ := sat_lf s2
  obtain ⟨r, o, g⟩ := hf _ _ k hk
  refine wOp_of o (g φ2 u v Hr2 Hr2 (Same.refl _) ((hu.ex e2).view p2.I) (hv.view p2.I) _ fun z H2 e hz => ?_)
  exact ⟨k, vr_bool (X := X) hz, q _ _ _ _ _ s3 (p2.go (p2.I.gro e) (Ex.gro p2.I.kr)) (e1.trans (e2.trans (Ex.gro p2.I.kr)))⟩
def c2 (f : PyData → PyData → Option Bool) : W → W → Option Bool
  | .dat x, .dat y => f x y
  | _, _ => none
theorem cf_c2 {op : CmpOp} {F : PyData → PyData → Option Bool} (h : ∀ x y d, F x y = some d → ∃ r, OpR X (compareOp op) r ∧ RD X.K r x y (.bool d)) : CF X op (c2 F) := fun x y w e => by
  unfold c2 at e
  split at e
  · obtain ⟨r, o, g⟩ := h _ _ _ e
    exact ⟨r, o, rw_of g⟩
  · cases e
def cNe (x y : PyData) : Option Bool := (cEq x y).map (!·)
theorem ltF (hr : Room k X.A) : CF X .Lt (c2 cLt) := cf_c2 (lt_f hr)
theorem gtF : CF X .Gt (c2 cGt) := cf_c2 gt_f
theorem geF : CF X .GtE (c2 cGe) := cf_c2 ge_f
theorem eqF (hr : Room k X.A) : CF X .Eq (c2 cEq) := cf_c2 (eq_f hr)
theorem neF (hr : Room k X.A) : CF X .NotEq (c2 cNe) := cf_c2 (ne_f hr)
def truthW : W → Option Bool
  | .dat d => truth d
  | .tup ws => some (!ws.isEmpty)
  | .lst ws => some (!ws.isEmpty)
  | _ => none
theorem truthW_ok {φ : List Addr} {H : Hp} {w : W} {v : V} {k : Bool} (h : VR X.K X.w φ H w v) (e : truthW w = some k) : TruV X.K v H k := by
  cases w with
  | dat d =>
    cases h with
    | dat h =>
      have e : truth d = some k := e
      cases d <;> simp only [truth, reduceCtorEq] at e
      · cases e; cases h; rfl
      · cases e; cases h; rfl
      · cases e; cases h; rfl
      · cases e
        cases h with
        | lst hs ha => exact .inl ⟨_, hs, emp_eq (DpAll.len ha)⟩
      · cases e
        cases h with
        | tup hs ha => exact .inr (.inl ⟨_, hs, emp_eq (DpAll.len ha)⟩)
  | tup ws =>
    cases h with
    | tup hs ha =>
      cases e
      exact .inr (.inl ⟨_, hs, emp_eq (VRs.len ha)⟩)
  | lst ws =>
    cases h with
    | lst hs ha =>
      cases e
      exact .inl ⟨_, hs, emp_eq (VRs.len ha)⟩
  | _ => cases e
def tvM (m : M W) : M Bool := bd m fun x => fun h => lf (truthW (view h x)) h
theorem tm_val (ha : EM X a ρ m) (he : ∀ whole, isTrue a X.env whole = (do let v ← whole; standAt a.pos; holding [v] (truthy v)) := by intro _; rfl) : TM X a ρ (tvM m) := fun p s Q q =>
  sT_of (pt_truth pe_s he) (ha p (sat_bind s) _ fun x h1 u φ1 Hk1 Hr1 s1 p1 e1 hu => by
    obtain ⟨k, hk, s2⟩ := sat_lf s1
    exact ⟨k, truthW_ok (hu.view p1.I) hk, q _ _ _ _ _ s2 p1 e1⟩)
def andM (m1 m2 : M Bool) : M Bool := bd m1 fun k => match k with | true => m2 | false => rt false
def orM (m1 m2 : M Bool) : M Bool := bd m1 fun k => match k with | true => rt true | false => m2
def notM (m : M Bool) : M Bool := bd m fun k => rt (!k)
theorem tm_w (h : WM X e ρ mc) : TM X e ρ mc := fun p s Q q pins st I' => (pw_s (X := X) (e := e)).pt.run pins st _ _ Q I' (h p s Q q)
theorem tm_not (ha : TM X a ρ mc) : TM X (.UnaryOp .Not a pos) ρ (notM mc) := fun p s Q q =>
  sT_of (pt_not pt_s) (ha p (sat_bind s) _ fun k h1 φ1 Hk1 Hr1 s1 p1 e1 => q _ _ _ _ _ s1 p1 e1)
theorem wm_or1 (ha : TM X a ρ mc) : WM X (.BoolOp .Or [a] pos) ρ mc := fun p s Q q whole pins st I' => (pw_or1 pt_s).run whole pins st _ _ Q I' (ha p s Q q)
theorem wm_or (ha : TM X a ρ mc) (hb : WM X (.BoolOp .Or (b :: rest) pos) ρ mw) : WM X (.BoolOp .Or (a :: b :: rest) pos) ρ (orM mc mw) := fun p s Q q whole pins st I' =>
  (pw_or pt_s pw_s).run whole pins st _ _ Q I' (ha p (sat_bind s) _ fun k h1 φ1 Hk1 Hr1 s1 p1 e1 => by
    cases k with
    | false => exact iteF (hb p1 s1 Q fun k2 h2 φ2 Hk2 Hr2 s2 p2 e2 => q _ _ _ _ _ s2 p2 (e1.trans e2))
    | true => exact iteT (q _ _ _ _ _ s1 p1 e1))
/-- as values: bools -/
def asBW : W → Option Bool
  | .dat (.bool b) => some b
  | _ => none
theorem asBW_eq {w : W} {k : Bool} (h : asBW w = some k) : w = .dat (.bool k) := by
  unfold asBW at h
  split at h
  · cases h; rfl
  · cases h
def bvM (m : M W) : M Bool := bd m fun w => lf (asBW w)
theorem em_one {op : BoolOp} (ha : EM X a ρ m) : EM X (.BoolOp op [a] pos) ρ (bW (bvM m)) := fun p s Q q =>
  sE_of (pe_one pe_s) (ha p (sat_bind (sat_bind s)) _ fun w h1 v φ1 Hk1 Hr1 s1 p1 e1 hv => by
    obtain ⟨k, hk, s2⟩ := sat_lf s1
    have := asBW_eq hk
    subst this
    exact q _ _ _ _ _ _ s2 p1 e1 hv)
theorem em_and (ha : EM X a ρ m) (hb : EM X (.BoolOp .And (b :: rest) pos) ρ (bW mw)) : EM X (.BoolOp .And (a :: b :: rest) pos) ρ (bW (andM (bvM m) mw)) := fun p s Q q =>
  sE_of (pe_and pe_s pe_s) (ha p (sat_bind (sat_bind (sat_bind s))) _ fun w h1 v φ1 Hk1 Hr1 s1 p1 e1 hv => by
    obtain ⟨k, hk, s2⟩ := sat_lf s1
    have := asBW_eq hk
    subst this
    obtain rfl := vr_bool (X := X) hv
    cases k with
    | true => exact ⟨true, rfl, iteT (hb p1 (sat_of s2) Q fun w2 h2 v2 φ2 Hk2 Hr2 s3 p2 e2 hv2 => q _ _ _ _ _ _ s3 p2 (e1.trans e2) hv2)⟩
    | false => exact ⟨false, rfl, iteF (q _ _ _ _ _ _ s2 p1 e1 (.dat (.bl _)))⟩)
def ifM {α : Type} (c : M Bool) (m1 m2 : M α) : M α := bd c fun k => match k with | true => m1 | false => m2
theorem em_if (hc : TM X c ρ mc) (ha : EM X a ρ m1) (hb : EM X b ρ m2) : EM X (.IfExp c a b pos) ρ (ifM mc m1 m2) := fun p s Q q =>
  sE_of (pe_ifExp pt_s pe_s pe_s) (hc p (sat_bind s) _ fun k h1 φ1 Hk1 Hr1 s1 p1 e1 => by
    cases k with
    | true => exact iteT (ha p1 s1 Q fun w2 h2 v2 φ2 Hk2 Hr2 s3 p2 e2 hv2 => q _ _ _ _ _ _ s3 p2 (e1.trans e2) hv2)
    | false => exact iteF (hb p1 s1 Q fun w2 h2 v2 φ2 Hk2 Hr2 s3 p2 e2 hv2 => q _ _ _ _ _ _ s3 p2 (e1.trans e2) hv2))
def asIW : W → Option Int
  | .dat (.int b) => some b
  | _ => none
theorem asIW_eq {w : W} {k : Int} (h : asIW w = some k) : w = .dat (.int k) := by
  unfold asIW at h
  split at h
  · cases h; rfl
  · cases h
theorem vr_int {φ : List Addr} {H : Hp} {v : V} {k : Int} (h : VR X.K X.w φ H (.dat (.int k)) v) : v = .int k := by
  cases h with
  | dat h => cases h; rfl
def negM (m : M W) : M W := bd m fun w => lf ((asIW w).map fun i => .dat (.int (-i)))
theorem em_neg (ha : EM X a ρ m) : EM X (.UnaryOp .USub a pos) ρ (negM m) := fun p s Q q =>
  sE_of (pe_un un_neg pe_s) (ha p (sat_bind s) _ fun w h1 v φ1 Hk1 Hr1 s1 p1 e1 hv => by
    obtain ⟨u, hk, s2⟩ := sat_lf s1
    obtain ⟨i, h2, h3⟩ := mpd hk
    have := asIW_eq h2
    subst this; subst h3
    obtain rfl := vr_int (X := X) hv
    exact ⟨i, rfl, q _ _ _ _ _ _ s2 p1 e1 (.dat (.int _))⟩)
def tupM (ma : M (List W)) : M W := bd ma fun ws => lf (gd (short ws.length) (some (mkT ws)))
theorem em_tup (h : AM X es ρ ma) : EM X (.Tuple es n pos) ρ (tupM ma) := fun p s Q q =>
  sE_of (pe_tup pa_s) (h p (sat_bind s) _ fun ws h1 vs φ1 Hk1 Hr1 s1 p1 e1 hv => by
    obtain ⟨u, hk, s2⟩ := sat_lf s1
    obtain ⟨g1, g2⟩ := gd_some hk
    cases g2
    refine ⟨by rw [VRs.len hv]; exact le_line (short_le g1), fun t ht => ?_⟩
    have e2 := Ex.gro (φ := φ1) p1.I.kr (H2 := upd Hr1 t (.tup vs))
    exact q _ _ _ _ _ _ s2 (p1.go (p1.I.gro (new_same ht _)) e2) (e1.trans e2) (VR.mkT (.inl (.inl (by rw [gro_new ht, upd_same]))) (hv.ex e2)))
def lstM (ma : M (List W)) : M (List W) := bd ma fun ws => lf (gd (short ws.length) (some ws))
theorem lm_lst (h : AM X es ρ ma) : LM X (.List es pos) ρ (lstM ma) := fun p s Q q =>
  sE_of (pe_lst pa_s) (h p (sat_bind s) _ fun ws h1 vs φ1 Hk1 Hr1 s1 p1 e1 hv => by
    obtain ⟨u, hk, s2⟩ := sat_lf s1
    obtain ⟨g1, g2⟩ := gd_some hk
    cases g2
    refine ⟨by rw [VRs.len hv]; exact le_line (short_le g1), fun t ht => ?_⟩
    have nk : Hk1 t = none := by
      cases z : Hk1 t with
      | none => rfl
      | some o => rw [p1.I.kr _ _ z] at ht; cases ht
    have no : ∀ {Ho : Hp}, Same Ho Hr1 → Ho t = none := fun {Ho} so => by
      cases z : Ho t with
      | none => rfl
      | some o => rw [so _ _ z] at ht; cases ht
    exact q ws _ t vs φ1 Hk1 _ s2 (p1.I.outer ht) (no p1.I.out) nk e1 hv)
theorem em_frz (h : LM X e ρ ml) : EM X e ρ (frzW ml) := fun p s Q q => h p (sat_bind s) Q fun ws h1 t vs φ1 Hk1 Hr1 s1 I1 no nk e1 hv => by
  obtain ⟨I2, e2, hw⟩ := I1.claimF no nk hv
  exact q _ _ _ _ _ _ s1 (p.go I2 (e1.trans e2)) (e1.trans e2) hw
theorem em_own (h : LM X e ρ ml) : EM X e ρ (ownW ml) := fun p s Q q => h p (sat_bind s) Q fun ws h1 t vs φ1 Hk1 Hr1 s1 I1 no nk e1 hv => by
  obtain ⟨I2, e2, hw⟩ := I1.claimN no nk hv
  exact q _ _ _ _ _ _ s1 (p.go I2 (e1.trans e2)) (e1.trans e2) hw
end
end Hx
noncomputable section
namespace Hx
open PySem L2 Pd Gn PySem.Spec PyProof.Rows Zq
def seqW : W → Option (List W)
  | .dat (.tuple ds) => some (ds.map .dat)
  | .dat (.list ds) => some (ds.map .dat)
  | .tup ws => some ws
  | .lst ws => some ws
  | _ => none
def itemsH (h : Hs) (w : W) : Option (List W) := seqW (view h w)
section
variable {K : PySem.W.Frag} {wd : World} {φ : List Addr} {hs : Hs} {Ho Hk Hr H : Hp} {w : W} {v : V} {ws : List W} {vs : List V}
theorem VR.seq (h : VR K wd φ H w v) (e : seqW w = some ws) : ∃ t a vs, v = .ref a ∧ gSq K t H a vs ∧ VRs K wd φ H ws vs := by
  unfold seqW at e
  split at e
  · obtain ⟨a, vs, h1, h2, h3⟩ := h.asT (ws := ws) e
    exact ⟨true, a, vs, h1, h2, h3⟩
  · obtain ⟨a, vs, h1, h2, h3⟩ := h.asL (ws := ws) e
    exact ⟨false, a, vs, h1, h2, h3⟩
  · obtain ⟨a, vs, h1, h2, h3⟩ := h.asT (ws := ws) e
    exact ⟨true, a, vs, h1, h2, h3⟩
  · obtain ⟨a, vs, h1, h2, h3⟩ := h.asL (ws := ws) e
    exact ⟨false, a, vs, h1, h2, h3⟩
  · cases e
theorem seq_mkL (ws : List W) : seqW (mkL ws) = some ws := by
  unfold mkL
  split
  · rename_i ds e
    rw [datsOf_eq e]
    rfl
  · rfl
/-- what stands at an address that may change: its items, known -/
theorem VR.items (I : Ok K wd φ hs Ho Hk Hr) (h : VR K wd φ Hk w v) (e : itemsH hs w = some ws) : ∃ t a vs, v = .ref a ∧ gSq K t Hr a vs ∧ VRs K wd φ Hk ws vs := by
  unfold itemsH at e
  have go : ∀ {w : W}, VR K wd φ Hk w v → seqW w = some ws → ∃ t a vs, v = .ref a ∧ gSq K t Hr a vs ∧ VRs K wd φ Hk ws vs := fun {w} h e => by
    obtain ⟨t, a, vs, h1, h2, h3⟩ := h.seq e
    exact ⟨t, a, vs, h1, same_g I.kr h2, h3⟩
  cases w with
  | ref i =>
    have e : seqW (viewR i (hs.get i)) = some ws := e
    cases g : hs.get i with
    | none => rw [g] at e; cases e
    | some o =>
      rw [g] at e
      cases o with
      | lst us =>
        have e : seqW (Hx.mkL us) = some ws := e
        rw [seq_mkL] at e
        cases e
        cases h with
        | ref ha =>
          obtain ⟨a, q1, q2, q3, vs, q4, q5⟩ := I.obj i _ g
          rw [ha] at q1
          cases q1
          exact ⟨false, _, vs, rfl, .inl (.inl q4), q5⟩
      | _ => cases e
  | _ => exact go h e
theorem VRs.at (h : VRs K wd φ H ws vs) {i : Int} (e : atI ws i = some w) : ∃ v, atI vs i = some v ∧ VR K wd φ H w v := by
  unfold atI at e ⊢
  rw [VRs.len h]
  cases z : ixN ws.length i with
  | none => rw [z] at e; cases e
  | some m =>
    rw [z] at e
    exact VRs.get h e
def cutW (ws : List W) (lo hi : Option Int) : List W := (ws.drop (HT.sIx ws.length 0 lo)).take (HT.sIx ws.length ws.length hi - HT.sIx ws.length 0 lo)
theorem VRs.cut {l u : Option Int} (h : VRs K wd φ H ws vs) : VRs K wd φ H (cutW ws l u) (cutV vs l u) := by
  unfold cutW cutV
  rw [VRs.len h]
  exact VRs.take _ (VRs.drop _ h)
end
section
variable {X : Cx} {a b c e : Expr} {es rest : List Expr} {ρ : Rho} {m m1 m2 : M W} {ma : M (List W)} {ml : M (List W)} {mc mw mt : M Bool} {n k : Nat} {pos p0 p1 p2 : Pos} {x : Str} {w : W}
def ixM (m1 m2 : M W) : M W := bd m1 fun x => bd m2 fun y => fun h => lf ((asIW y).bind fun i => (itemsH h x).bind fun ws => atI ws i) h
theorem em_ix (ha : EM X a ρ m1) (hb : EM X b ρ m2) (hs : PlainIx b := by exact fun _ _ => rfl) : EM X (.Subscript a b pos) ρ (ixM m1 m2) := fun p s Q q => by
  refine sE_of (pe_ix wIx_r pe_s pe_s hs) (ha p (sat_bind s) _ fun x h1 u φ1 Hk1 Hr1 s1 p1 e1 hu => hb p1 (sat_bind s1) _ fun y h2 v φ2 Hk2 Hr2 s2 p2 e2 hv => ?_)
  obtain ⟨w, hw, s3⟩ := sat_lf s2
  obtain ⟨i, h3, hw1⟩ := bnd hw
  obtain ⟨ws, h4, hw2⟩ := bnd hw1
  clear hw hw1
  have := asIW_eq h3
  subst this
  obtain rfl := vr_int (X := X) hv
  obtain ⟨t, ad, vs, rfl, g1, g2⟩ := (hu.ex e2).items p2.I h4
  obtain ⟨z, z1, z2⟩ := g2.at (i := i) (w := w) hw2
  cases t
  · exact wIx_of ix_list ⟨_, _, _, _, rfl, rfl, g1, z1, q _ _ _ _ _ _ s3 p2 (e1.trans e2) z2⟩
  · exact wIx_of ix_tup ⟨_, _, _, _, rfl, rfl, g1, z1, q _ _ _ _ _ _ s3 p2 (e1.trans e2) z2⟩
def OM (X : Cx) (e : Option Expr) (ρ : Rho) (m : M (Option Int)) : Prop := ∃ t, PO X e t ∧
  ∀ {Wx : WX} {E : Xc → Hs → Prop} {P : Option Int → Hs → Prop} {hs : Hs} {φ : List Addr} {Ho Hk Hr : Hp} {σ : L2.St}, Pt X Wx E ρ hs φ Ho Hk Hr σ → (m hs).sat P E →
    ∀ Q : Option Int → Hp → Prop, (∀ i hs' φ' Hk' Hr', P i hs' → Pt X Wx E ρ hs' φ' Ho Hk' Hr' σ → Ex φ Hk φ' Hk' → Q i Hr') → t σ Hr Q
theorem om_none : OM X none ρ (rt none) := ⟨_, po_none, fun p s Q q => q _ _ _ _ _ s p Ex.refl⟩
def soM (m : M W) : M (Option Int) := bd m fun w => lf ((asIW w).map some)
theorem om_some (h : EM X e ρ m) : OM X (some e) ρ (soM m) := ⟨_, po_some pe_s, fun p s Q q => h p (sat_bind s) _ fun w h1 v φ1 Hk1 Hr1 s1 p1 e1 hv => by
  obtain ⟨i, h3, s2⟩ := sat_lf s1
  obtain ⟨j, h4, h5⟩ := mpd h3
  have := asIW_eq h4
  subst this; subst h5
  obtain rfl := vr_int (X := X) hv
  exact ⟨j, rfl, q _ _ _ _ _ s2 p1 e1⟩⟩
def kindT : W → Bool
  | .dat (.tuple _) => true
  | .tup _ => true
  | _ => false
def slM (m1 : M W) (ml mu : M (Option Int)) : M W := bd m1 fun x => bd ml fun l => bd mu fun u => fun h => lf ((itemsH h x).map fun ws => match kindT x with | true => mkT (cutW ws l u) | false => mkL (cutW ws l u)) h
theorem VR.kT {φ : List Addr} {H : Hp} {v : V} {ws : List W} {hs : Hs} (h : VR X.K X.w φ H w v) (e : kindT w = true) (g : itemsH hs w = some ws) : ∃ a vs, v = .ref a ∧ SqT X.K H a vs ∧ VRs X.K X.w φ H ws vs := by
  unfold kindT at e
  split at e
  · exact h.asT g
  · exact h.asT g
  · cases e
theorem VR.kF {φ : List Addr} {hs : Hs} {Ho Hk Hr : Hp} {v : V} {ws : List W} (I : Ok X.K X.w φ hs Ho Hk Hr) (h : VR X.K X.w φ Hk w v) (e : kindT w = false) (g : itemsH hs w = some ws) : ∃ a vs, v = .ref a ∧ SqL X.K Hr a vs ∧ VRs X.K X.w φ Hk ws vs := by
  cases w with
  | ref i =>
    have g : seqW (viewR i (hs.get i)) = some ws := g
    cases z : hs.get i with
    | none => rw [z] at g; cases g
    | some o =>
      rw [z] at g
      cases o with
      | lst us =>
        have g : seqW (Hx.mkL us) = some ws := g
        rw [seq_mkL] at g
        cases g
        cases h with
        | ref ha =>
          obtain ⟨a, q1, q2, q3, vs, q4, q5⟩ := I.obj i _ z
          rw [ha] at q1
          cases q1
          exact ⟨_, vs, rfl, .inl (.inl q4), q5⟩
      | _ => cases g
  | dat d =>
    cases d with
    | list ds =>
      obtain ⟨a, vs, h1, h2, h3⟩ := h.asL (ws := ws) g
      exact ⟨a, vs, h1, same_l I.kr h2, h3⟩
    | tuple ds => cases e
    | _ => cases g
  | tup us => cases e
  | lst us =>
    obtain ⟨a, vs, h1, h2, h3⟩ := h.asL (ws := ws) g
    exact ⟨a, vs, h1, same_l I.kr h2, h3⟩
  | _ => cases g
theorem cutW_all {ws : List W} {l u : Option Int} (hz : HT.sIx ws.length 0 l = 0 ∧ HT.sIx ws.length ws.length u = ws.length) : cutW ws l u = ws := by
  unfold cutW
  rw [hz.1, hz.2]
  simp
theorem em_cut {lo hi : Option Expr} {ml mu : M (Option Int)} (ha : EM X a ρ m1) (hl : OM X lo ρ ml) (hu : OM X hi ρ mu) : EM X (.Subscript a (.Slice lo hi none p2) pos) ρ (slM m1 ml mu) := fun p s Q q => by
  obtain ⟨tl, pl, hl⟩ := hl
  obtain ⟨tu, pu, hu⟩ := hu
  refine sE_of (pe_slice wSl_r pe_s pl pu) (ha p (sat_bind s) _ fun x h1 v φ1 Hk1 Hr1 s1 p1 e1 hv => hl p1 (sat_bind s1) _ fun l h2 φ2 Hk2 Hr2 s2 p2 e2 => hu p2 (sat_bind s2) _ fun u h3 φ3 Hk3 Hr3 s3 p3 e3 => ?_)
  obtain ⟨w, hw, s4⟩ := sat_lf s3
  obtain ⟨ws, h4, hw⟩ := mpd hw
  subst hw
  have e23 := e2.trans e3
  have e123 := e1.trans e23
  have hx := hv.ex e23
  cases z : kindT x with
  | true =>
    rw [z] at s4
    obtain ⟨ad, vs, rfl, g1, g2⟩ := VR.kT (X := X) hx z h4
    refine wSl_of sl_tupA ⟨_, _, rfl, same_t p3.I.kr g1, fun hz => ?_, fun _ t ht => ?_⟩
    · rw [VRs.len g2] at hz
      refine q _ _ _ _ _ _ s4 p3 e123 ?_
      show VR X.K X.w φ3 Hk3 (mkT (cutW ws l u)) _
      rw [cutW_all hz]
      exact VR.mkT g1 g2
    · have e4 := Ex.gro (φ := φ3) p3.I.kr (H2 := upd Hr3 t (.tup (cutV vs l u)))
      exact q _ _ _ _ _ _ s4 (p3.go (p3.I.gro (new_same ht _)) e4) (e123.trans e4) (VR.mkT (.inl (.inl (by rw [gro_new ht, upd_same]))) ((g2.cut).ex e4))
  | false =>
    rw [z] at s4
    obtain ⟨ad, vs, rfl, g1, g2⟩ := VR.kF (X := X) p3.I hx z h4
    refine wSl_of sl_list ⟨_, _, rfl, g1, fun t ht => ?_⟩
    have e4 := Ex.gro (φ := φ3) p3.I.kr (H2 := upd Hr3 t (.lst (cutV vs l u)))
    exact q _ _ _ _ _ _ s4 (p3.go (p3.I.gro (new_same ht _)) e4) (e123.trans e4) (VR.mkL (.inl (.inl (by rw [gro_new ht, upd_same]))) ((g2.cut).ex e4))
def BF (X : Cx) (f : Value) (F : List W → Option W) : Prop := ∀ ws w, F ws = some w → scal w = true ∧ ∃ r, CallR X f r ∧ RWs X.K X.w r ws w
def biM (F : List W → Option W) (ma : M (List W)) : M W := bd ma fun ws => fun h => lf (F (ws.map (view h))) h
theorem em_B {id : String} {F : List W → Option W} (hf : BF X (.builtin id) F) (hm : X.mg x = none) (hv : bootBuiltins x = some (.builtin id)) (ha : AM X (e :: es) ρ ma) (hg : Gl X x := by rfl) (hn : x ≠ "__name__" := by decide) (hdb : (x == ("__debug__" : Str)) = false := by decide)
    (he : starEach (e :: es) X.env = (false, eval e X.env) :: starEach es X.env := by rfl) (hpl : (backTo pos (starEach es X.env)).any (·.1) = false := by rfl) : EM X (.Call (.Name x p0) (e :: es) [] pos) ρ (biM F ma) := fun p s Q q => by
  refine sE_of (pe_callB wCall_r hg hm hv pa_s hn hdb he hpl) (ha p (sat_bind s) _ fun ws h1 vs φ1 Hk1 Hr1 s1 p1 e1 hvs => ?_)
  obtain ⟨w, hw, s2⟩ := sat_lf s1
  obtain ⟨sc, r, o, g⟩ := hf _ _ hw
  exact wCall_of o (g φ1 vs Hr1 Hr1 (Same.refl _) (hvs.view p1.I) Q fun z H2 e hz => q _ _ _ _ _ _ s2 (p1.go (p1.I.gro e) (Ex.gro p1.I.kr)) (e1.trans (Ex.gro p1.I.kr)) (hz.scal sc))
theorem em_Ty {id : String} {F : List W → Option W} (hf : BF X (.type id) F) (hm : X.mg x = none) (hv : bootBuiltins x = some (.type id)) (ha : AM X (e :: es) ρ ma) (hg : Gl X x := by rfl) (hn : x ≠ "__name__" := by decide) (hdb : (x == ("__debug__" : Str)) = false := by decide)
    (he : starEach (e :: es) X.env = (false, eval e X.env) :: starEach es X.env := by rfl) (hpl : (backTo pos (starEach es X.env)).any (·.1) = false := by rfl) : EM X (.Call (.Name x p0) (e :: es) [] pos) ρ (biM F ma) := fun p s Q q => by
  refine sE_of (pe_callTy wCall_r hg hm hv pa_s hn hdb he hpl) (ha p (sat_bind s) _ fun ws h1 vs φ1 Hk1 Hr1 s1 p1 e1 hvs => ?_)
  obtain ⟨w, hw, s2⟩ := sat_lf s1
  obtain ⟨sc, r, o, g⟩ := hf _ _ hw
  exact wCall_of o (g φ1 vs Hr1 Hr1 (Same.refl _) (hvs.view p1.I) Q fun z H2 e hz => q _ _ _ _ _ _ s2 (p1.go (p1.I.gro e) (Ex.gro p1.I.kr)) (e1.trans (Ex.gro p1.I.kr)) (hz.scal sc))
def u1 (f : PyData → Option PyData) : List W → Option W
  | [.dat x] => (f x).map .dat
  | _ => none
theorem scal_dat {d : PyData} (h : isScal d = true) : scal (.dat d) = true := by cases d <;> first | rfl | cases h
theorem bf_u1 {f : Value} {F : PyData → Option PyData} (h : ∀ x d, F x = some d → isScal d = true ∧ ∃ r, CallR X f r ∧ RA X.K r [x] d) : BF X f (u1 F) := fun ws w e => by
  unfold u1 at e
  split at e
  · obtain ⟨d, h1, h2⟩ := mpd e
    subst h2
    obtain ⟨s, r, o, g⟩ := h _ _ h1
    exact ⟨scal_dat s, r, o, rws_of g⟩
  · cases e
def u2 (f : PyData → PyData → Option PyData) : List W → Option W
  | [.dat x, .dat y] => (f x y).map .dat
  | _ => none
def fLen : List W → Option W
  | [w] => (seqW w).map fun ws => .dat (.int (ws.length : Nat))
  | _ => none
theorem len_f : BF X (.builtin "len") fLen := fun ws w e => by
  unfold fLen at e
  split at e
  · obtain ⟨us, h1, h2⟩ := mpd e
    subst h2
    refine ⟨rfl, _, call_len_seq, fun φ vs Hk Hr kr hv Q q => ?_⟩
    cases hv with
    | cons h2 h3 =>
      cases h3
      obtain ⟨t, ad, vs, rfl, g1, g2⟩ := h2.seq h1
      refine ⟨_, vs, rfl, ?_, by rw [VRs.len g2]; exact q _ Hr (Same.refl _) (.dat (.int _))⟩
      cases t
      · exact .inl (same_l kr g1)
      · exact .inr (same_t kr g1)
  · cases e
def dAbs (x : PyData) : Option PyData := (asI x).map fun i => .int (if i < 0 then -i else i)
theorem abs_f : BF X (.builtin "abs") (u1 dAbs) := bf_u1 fun x d h => by
  obtain ⟨i, h1, h2⟩ := mpd h
  subst h2
  rw [asI_eq h1]
  exact ⟨rfl, _, call_abs, ra_abs⟩
def dInt (x : PyData) : Option PyData := match x with | .int i => some (.int i) | .bool k => some (.int (if k then 1 else 0)) | _ => none
theorem int_f : BF X (.type "int") (u1 dInt) := bf_u1 fun x d h => by
  unfold dInt at h
  split at h
  · cases h; exact ⟨rfl, _, call_int1, ra_int⟩
  · cases h
    refine ⟨rfl, _, call_int1, fun vs Hk Hr kr h Q q => ?_⟩
    cases h with
    | cons h1 h2 =>
      cases h2
      cases h1
      exact .inr ⟨_, rfl, q _ Hr (Same.refl _) (.int _)⟩
  · cases h
def dAll (x : PyData) : Option PyData := (pAll x).map .bool
theorem all_f (hc : X.calm = true) : BF X (.builtin "all") (u1 dAll) := bf_u1 fun x d h => by
  obtain ⟨r, h1, h2⟩ := mpd h
  subst h2
  unfold pAll at h1
  split at h1
  · obtain ⟨bs, h3, h4⟩ := mpd h1
    subst h4
    rw [boolsOf_eq h3]
    refine ⟨rfl, _, cr_all hc, fun vs Hk Hr kr h Q q => ?_⟩
    cases h with
    | cons h1 h2 =>
      cases h2
      cases h1 with
      | lst hs ha =>
        have := DpAll.bools ha
        subst this
        exact ⟨_, bs, rfl, same_l kr hs, q _ Hr (Same.refl _) (.bl _)⟩
  · cases h1
theorem am_one (ha : EM X e ρ m) (he : starEach [e] X.env = [(false, eval e X.env)]) {Wx : WX} {E : Xc → Hs → Prop} {P : W → Hs → Prop} {hs : Hs} {φ : List Addr} {Ho Hk Hr : Hp} {σ : L2.St} (p : Pt X Wx E ρ hs φ Ho Hk Hr σ) (s : (m hs).sat P E)
    (Q : List V → Hp → Prop) (q : ∀ w hs' v φ' Hk' Hr', P w hs' → Pt X Wx E ρ hs' φ' Ho Hk' Hr' σ → Ex φ Hk φ' Hk' → VR X.K X.w φ' Hk' w v → Q [v] Hr') : sA X [e] σ Hr Q :=
  sA_of (pa_cons pe_s pa_nil he) (ha p s _ fun w h1 v φ1 Hk1 Hr1 s1 p1 e1 hv => q _ _ _ _ _ _ s1 p1 e1 hv)
theorem far_of {Ho Hr : Hp} {l : Addr} (e : Same Ho Hr) (h : Hr l = none) : Ho l = none := by
  cases z : Ho l with
  | none => rfl
  | some o => rw [e _ _ z] at h; cases h
def loM (m : M W) : M (List W) := bd m fun x => fun h => lf (itemsH h x) h
theorem lm_list (hm : X.mg "list" = none) (ha : EM X e ρ m) (hg : Gl X "list" := by rfl) (he : starEach [e] X.env = [(false, eval e X.env)] := by rfl) (hpl : (backTo pos (starEach ([] : List Expr) X.env)).any (·.1) = false := by rfl) : LM X (.Call (.Name "list" p0) [e] [] pos) ρ (loM m) := fun p s Q q => by
  refine sE_of (pe_callTy call_list_of hg hm (by decide +kernel) pa_s (by decide) (by decide) he hpl) (am_one ha he p (sat_bind s) _ fun w h1 v φ1 Hk1 Hr1 s1 p1 e1 h2 => ?_)
  obtain ⟨us, hw, s2⟩ := sat_lf s1
  obtain ⟨t, ad, vs, rfl, g1, g2⟩ := h2.items p1.I hw
  refine ⟨_, vs, rfl, by cases t; exact .inl g1; exact .inr g1, fun l hl => ?_⟩
  exact q us _ l vs φ1 Hk1 _ s2 (p1.I.outer hl) (far_of p1.I.out hl) (far_of p1.I.kr hl) e1 g2
def toM (m : M W) : M W := bd m fun x => fun h => lf ((itemsH h x).map mkT) h
theorem em_tuple (hm : X.mg "tuple" = none) (ha : EM X e ρ m) (hg : Gl X "tuple" := by rfl) (he : starEach [e] X.env = [(false, eval e X.env)] := by rfl) (hpl : (backTo pos (starEach ([] : List Expr) X.env)).any (·.1) = false := by rfl) : EM X (.Call (.Name "tuple" p0) [e] [] pos) ρ (toM m) := fun p s Q q => by
  refine sE_of (pe_callTy call_tuple_of hg hm (by decide +kernel) pa_s (by decide) (by decide) he hpl) (am_one ha he p (sat_bind s) _ fun w h1 v φ1 Hk1 Hr1 s1 p1 e1 h2 => ?_)
  obtain ⟨us, hw, s2⟩ := sat_lf s1
  obtain ⟨ws, h4, hw⟩ := mpd hw
  subst hw
  cases z : kindT w with
  | true =>
    obtain ⟨ad, vs, rfl, g1, g2⟩ := VR.kT (X := X) h2 z h4
    exact ⟨_, vs, rfl, .inr ⟨same_t p1.I.kr g1, q _ _ _ _ _ _ s2 p1 e1 (VR.mkT g1 g2)⟩⟩
  | false =>
    obtain ⟨ad, vs, rfl, g1, g2⟩ := VR.kF (X := X) p1.I h2 z h4
    refine ⟨_, vs, rfl, .inl ⟨g1, fun l hl => ?_⟩⟩
    have e4 := Ex.gro (φ := φ1) p1.I.kr (H2 := upd Hr1 l (.tup vs))
    exact q _ _ _ _ _ _ s2 (p1.go (p1.I.gro (new_same hl _)) e4) (e1.trans e4) (VR.mkT (.inl (.inl (by rw [gro_new hl, upd_same]))) (g2.ex e4))
end
end Hx
noncomputable section
namespace Hx
open PySem L2 Pd Gn PySem.Spec PyProof.Rows Zq
/-- slots of which less is said -/
inductive LeR : Rho → Rho → Prop
  | nil : LeR [] []
  | keep {x : Option W} {r s : Rho} : LeR r s → LeR (x :: r) (x :: s)
  | drop {x : Option W} {r s : Rho} : LeR r s → LeR (none :: r) (x :: s)
theorem LeR.len : ∀ {r s : Rho}, LeR r s → r.length = s.length
  | _, _, .nil => rfl
  | _, _, .keep h => by rw [List.length_cons, List.length_cons, h.len]
  | _, _, .drop h => by rw [List.length_cons, List.length_cons, h.len]
theorem LeR.at : ∀ {r s : Rho} {i : Nat} {w : W}, LeR r s → r[i]? = some (some w) → s[i]? = some (some w)
  | _, _, _, _, .nil, h => by simp at h
  | _, _, 0, _, .keep h, g => by simpa using g
  | _, _, i + 1, _, .keep h, g => by
    have : _ := h.at (i := i) (by simpa using g)
    simpa using this
  | _, _, 0, _, .drop h, g => by simp at g
  | _, _, i + 1, _, .drop h, g => by
    have : _ := h.at (i := i) (by simpa using g)
    simpa using this
theorem LeR.set : ∀ {r s : Rho} {i : Nat} {x : Option W}, LeR r s → r[i]? = some none → LeR r (s.set i x)
  | _, _, _, _, .nil, h => by simp at h
  | _, _, 0, _, .keep h, g => by
    simp at g
    subst g
    exact .drop h
  | _, _, i + 1, _, .keep h, g => .keep (h.set (i := i) (by simpa using g))
  | _, _, 0, _, .drop h, g => .drop h
  | _, _, i + 1, _, .drop h, g => .drop (h.set (i := i) (by simpa using g))
theorem LeR.refl : ∀ {r : Rho}, LeR r r
  | [] => .nil
  | _ :: _ => .keep LeR.refl
theorem LeR.no : ∀ {s : Rho}, LeR (List.replicate s.length none) s
  | [] => .nil
  | _ :: s => .drop (LeR.no (s := s))
theorem LeR.sr {K : PySem.W.Frag} {wd : World} {φ : List Addr} {Hk : Hp} {r s : Rho} {σ : L2.St} (h : LeR r s) (R : SR K wd φ Hk s σ) : SR K wd φ Hk r σ := R.sub (by rw [h.len, R.len]) fun i w g => ⟨h.at g, rfl⟩
/-- where one stands, between statements; ρE: what is known of the slots when an error flies -/
structure Ps (X : Cx) (Wx : WX) (E : Xc → Hs → Prop) (ρE ρ : Rho) (hs : Hs) (φ : List Addr) (Ho Hk Hr : Hp) (σ : L2.St) : Prop where
  tk : L2.Takes X Wx
  I : Ok X.K X.w φ hs Ho Hk Hr
  R : SR X.K X.w φ Hk ρ σ
  sub : LeR ρE ρ
  x : ∀ x hs' C d φ' Hk' Hr' σ', E x hs' → Ok X.K X.w φ' hs' Ho Hk' Hr' → Ex φ Hk φ' Hk' → XA X.K X.mg x C d Hr' → SR X.K X.w φ' Hk' ρE σ' → Wx (.ref C) d σ' Hr'
section
variable {X : Cx} {Wx : WX} {E : Xc → Hs → Prop} {ρE ρ ρ' : Rho} {hs hs' : Hs} {φ φ' : List Addr} {Ho Hk Hk' Hr Hr' : Hp} {σ σ' : L2.St}
theorem Ps.pt (p : Ps X Wx E ρE ρ hs φ Ho Hk Hr σ) : Pt X Wx E ρ hs φ Ho Hk Hr σ := ⟨p.tk, p.I, p.R, fun x hs' C d φ' Hk' Hr' h I e a => p.x x hs' C d φ' Hk' Hr' σ h I e a (p.sub.sr (p.R.ex e))⟩
theorem Ps.to (p : Ps X Wx E ρE ρ hs φ Ho Hk Hr σ) (I : Ok X.K X.w φ' hs' Ho Hk' Hr') (e : Ex φ Hk φ' Hk') (R : SR X.K X.w φ' Hk' ρ' σ') (sub : LeR ρE ρ') : Ps X Wx E ρE ρ' hs' φ' Ho Hk' Hr' σ' :=
  ⟨p.tk, I, R, sub, fun x hs'' C d φ'' Hk'' Hr'' σ'' h I' e' a r => p.x x hs'' C d φ'' Hk'' Hr'' σ'' h I' (e.trans e') a r⟩
theorem Ps.of (p : Ps X Wx E ρE ρ hs φ Ho Hk Hr σ) (q : Pt X Wx E ρ hs' φ' Ho Hk' Hr' σ) (e : Ex φ Hk φ' Hk') : Ps X Wx E ρE ρ hs' φ' Ho Hk' Hr' σ := p.to q.I e q.R p.sub
end
def SM {α : Type} (X : Cx) (ρE : Rho) (sts : List Stmt) (ρ : Rho) (m : M (Res W α)) (g : α → Rho) : Prop :=
  ∀ {Wx : WX} {E : Xc → Hs → Prop} {P : Res W α → Hs → Prop} {hs : Hs} {φ : List Addr} {Ho Hk Hr : Hp} {σ : L2.St}, Ps X Wx E ρE ρ hs φ Ho Hk Hr σ → (m hs).sat P E → ∀ D : Ends,
    (∀ a hs' φ' Hk' Hr' σ', P (.nxt a) hs' → Ps X Wx E ρE (g a) hs' φ' Ho Hk' Hr' σ' → Ex φ Hk φ' Hk' → D.nx σ' Hr') →
    (∀ w hs' v φ' Hk' Hr', P (.ret w) hs' → Ok X.K X.w φ' hs' Ho Hk' Hr' → Ex φ Hk φ' Hk' → VR X.K X.w φ' Hk' w v → D.rt v Hr') → sSs X sts D σ Hr
def GM (K : PySem.W.Frag) (wd : World) {β : Type} (ρ : Rho) (g : TG) (u : W → Option β) (f : β → Rho) : Prop :=
  ∀ w b, u w = some b → ∀ φ Hk Hr σ v, Same Hk Hr → SR K wd φ Hk ρ σ → VR K wd φ Hk w v → ∀ Q : L2.St → Hp → Prop, (∀ σ', SR K wd φ Hk (f b) σ' → Q σ' Hr) → g v σ Hr Q
def GMs (K : PySem.W.Frag) (wd : World) {β : Type} (ρ : Rho) (g : TGs) (u : List W → Option β) (f : β → Rho) : Prop :=
  ∀ ws b, u ws = some b → ∀ φ Hk Hr σ vs, Same Hk Hr → SR K wd φ Hk ρ σ → VRs K wd φ Hk ws vs → ∀ Q : L2.St → Hp → Prop, (∀ σ', SR K wd φ Hk (f b) σ' → Q σ' Hr) → g vs σ Hr Q
section
variable {K : PySem.W.Frag} {wd : World} {ρ : Rho} {β γ : Type} {g : TG} {ts : TGs} {n : Nat}
def tgN : W → Option W := some
theorem gm_name : GM K wd ρ (gName n) tgN (fun w => ρ.set n (some w)) := fun w b h φ Hk Hr σ v kr R hv Q q => by
  cases h
  exact q _ (R.set hv)
def tgs0 : List W → Option Unit
  | [] => some ()
  | _ => none
theorem gms_nil : GMs K wd ρ gNil tgs0 (fun _ => ρ) := fun ws b h φ Hk Hr σ vs kr R hv Q q => by
  cases hv with
  | nil => exact ⟨rfl, q _ R⟩
  | cons _ _ => cases h
def tgsC (u : W → Option β) (us : List W → Option γ) : List W → Option (β × γ)
  | w :: r => (u w).bind fun b => (us r).map fun c => (b, c)
  | [] => none
theorem gms_cons {u : W → Option β} {us : List W → Option γ} {f : β → Rho} {fs : β → γ → Rho} (h1 : GM K wd ρ g u f) (h2 : ∀ b, GMs K wd (f b) ts us (fs b)) : GMs K wd ρ (gCons g ts) (tgsC u us) (fun p => fs p.1 p.2) := fun ws b h φ Hk Hr σ vs kr R hv Q q => by
  cases hv with
  | nil => cases h
  | cons hv hvs =>
    obtain ⟨b1, e1, h⟩ := bnd h
    obtain ⟨b2, e2, h⟩ := mpd h
    subst h
    exact ⟨_, _, rfl, h1 _ _ e1 φ Hk Hr σ _ kr R hv _ fun σ' R' => h2 b1 _ _ e2 φ Hk Hr σ' _ kr R' hvs _ q⟩
def tgT (n : Nat) (us : List W → Option γ) (w : W) : Option γ := (asT w).bind fun ws => match Nat.beq ws.length n with | true => us ws | false => none
theorem gm_tup {us : List W → Option γ} {f : γ → Rho} (h : GMs K wd ρ ts us f) : GM K wd ρ (gTup K n ts) (tgT n us) f := fun w b e φ Hk Hr σ v kr R hv Q q => by
  obtain ⟨ws, e1, e2⟩ := bnd e
  obtain ⟨a, vs, rfl, h1, h2⟩ := hv.asT e1
  cases z : Nat.beq ws.length n with
  | false => rw [z] at e2; cases e2
  | true =>
    rw [z] at e2
    exact ⟨a, vs, rfl, same_t kr h1, by rw [VRs.len h2]; exact Nat.eq_of_beq_eq_true z, h _ _ e2 φ Hk Hr σ _ kr R h2 _ q⟩
end
def retE {α : Type} (m : M (Res W Empty)) : M (Res W α) := bd m fun r => match r with | .ret w => rt (.ret w) | .nxt e => nomatch e
def seqM {α β : Type} (m : M (Res W α)) (k : α → M (Res W β)) : M (Res W β) := bd m fun r => match r with | .ret w => rt (.ret w) | .nxt a => k a
def frzM (w : W) : M W := fun h => match w with
  | .ref i => match h.get i with | some (.lst ws) => .ok (mkL ws) (h.del i) | _ => .bad
  | w => .ok w h
def whM {α : Type} (c : α → M Bool) (b : α → M (Res W α)) : Nat → α → M (Res W α)
  | 0, _ => fun _ => .bad
  | n + 1, a => bd (c a) fun k => match k with | true => seqM (b a) (whM c b n) | false => rt (.nxt a)
section
variable {X : Cx} {ρE ρ : Rho} {a b c e tg : Expr} {es : List Expr} {rest body tb eb sts : List Stmt} {m m1 m2 : M W} {ma : M (List W)} {mc : M Bool} {n i j k' : Nat} {pos p0 p1 p2 : Pos} {x y : Str} {w : W} {α β γ : Type} {g : α → Rho} {g1 : β → Rho}
theorem sm_nil {z : α} (h : LeR (g z) ρ) (h2 : LeR ρE (g z)) : SM X ρE [] ρ (rt (.nxt z)) g := fun p s D nx r => sSs_of pss_nil (nx z _ _ _ _ _ s (p.to p.I Ex.refl (h.sr p.R) h2) Ex.refl)
theorem sm_set {k : W → M (Res W α)} (hN : X.N.Nodup) (hi : X.N[n]? = some x) (hE : ρE[n]? = some none) (he : EM X e ρ m) (hr : ∀ w, SM X ρE rest (ρ.set n (some w)) (k w) g) (hx : Loc X.env.scope x := by first | exact Or.inl rfl | exact Or.inr rfl)
    (hs : swapsWith e (some (.Name x p0)) pos.line X.env = pure false := by rfl) (hf : X.fn x = true ∨ X.env.scope.names.lookup x = some .local := by first | exact .inl rfl | exact .inr rfl) : SM X ρE (.Assign [.Name x p0] e pos :: rest) ρ (bd m k) g := fun p s D nx r =>
  sSs_of (pss_cons (ps_set hN hi hx pe_s hs hf) pss_s) (he p.pt (sat_bind s) _ fun w h1 v φ1 Hk1 Hr1 s1 p1 e1 hv =>
    hr w (p.to p1.I e1 (p1.R.set hv) (p.sub.set hE)) s1 D (fun a hs' φ' Hk' Hr' σ' h q e' => nx a hs' φ' Hk' Hr' σ' h q (e1.trans e')) (fun w hs' v φ' Hk' Hr' h I e' hv => r w hs' v φ' Hk' Hr' h I (e1.trans e') hv))
/-- target = value -/
theorem sm_asg {gt : TG} {u : W → Option β} {f : β → Rho} {k : β → M (Res W α)} (he : EM X e ρ m) (hg : PG X tg gt) (hu : GM X.K X.w ρ gt u f) (hE : ∀ b, LeR ρE (f b)) (hr : ∀ b, SM X ρE rest (f b) (k b) g)
    (hs : swapsWithSole [tg] e pos.line X.env = pure false := by rfl) (hw : swappedStores [tg] e X.env = pure none := by rfl) (h1 : (assignEach [tg] X.env).map (·.2) = [assign tg X.env] := by rfl) : SM X ρE (.Assign [tg] e pos :: rest) ρ (bd m fun w => bd (lf (u w)) k) g := fun p s D nx r =>
  sSs_of (pss_cons (ps_asg pe_s hg hs hw h1) pss_s) (he p.pt (sat_bind s) _ fun w h1 v φ1 Hk1 Hr1 s1 p1 e1 hv => by
    obtain ⟨b, hb, s2⟩ := sat_lf (sat_bind s1)
    exact hu w b hb φ1 Hk1 Hr1 _ v p1.I.kr p1.R hv _ fun σ' R' => hr b (p.to p1.I e1 R' (hE b)) s2 D (fun a hs' φ' Hk' Hr' σ' h q e' => nx a hs' φ' Hk' Hr' σ' h q (e1.trans e')) (fun w hs' v φ' Hk' Hr' h I e' hv => r w hs' v φ' Hk' Hr' h I (e1.trans e') hv))
/-- x, y = a, b -/
theorem sm_par {k : W → W → M (Res W α)} {kt k2 : Nat} {px py pt pt2 : Pos} (hc : X.calm = true) (hN : X.N.Nodup) (hi : X.N[i]? = some x) (hj : X.N[j]? = some y) (hij : i ≠ j) (hEi : ρE[i]? = some none) (hEj : ρE[j]? = some none) (ha : EM X a ρ m1) (hb : EM X b ρ m2) (hr : ∀ v w, SM X ρE rest ((ρ.set i (some v)).set j (some w)) (k v w) g)
    (hp : PS X (.Assign [.Tuple [.Name x px, .Name y py] kt pt] (.Tuple [a, b] k2 pt2) pos) (tPar i j (sA X [a, b]))) (hs : starEach [a, b] X.env = (false, eval a X.env) :: starEach [b] X.env := by rfl) (hs2 : starEach [b] X.env = (false, eval b X.env) :: starEach [] X.env := by rfl) :
    SM X ρE (.Assign [.Tuple [.Name x px, .Name y py] kt pt] (.Tuple [a, b] k2 pt2) pos :: rest) ρ (bd m1 fun v => bd m2 fun w => k v w) g := fun p s D nx r =>
  sSs_of (pss_cons hp pss_s) (sA_of (pa_cons pe_s (pa_cons pe_s pa_nil hs2) hs) (ha p.pt (sat_bind s) _ fun w1 h1 v1 φ1 Hk1 Hr1 s1 p1 e1 hv1 => hb p1 (sat_bind s1) _ fun w2 h2 v2 φ2 Hk2 Hr2 s2 p2 e2 hv2 => by
    have e12 := e1.trans e2
    exact ⟨v1, v2, rfl, hr w1 w2 (p.to p2.I e12 ((p2.R.set (hv1.ex e2)).set hv2) ((p.sub.set hEi).set hEj)) s2 D (fun a hs' φ' Hk' Hr' σ' h q e' => nx a hs' φ' Hk' Hr' σ' h q (e12.trans e')) (fun w hs' v φ' Hk' Hr' h I e' hv => r w hs' v φ' Hk' Hr' h I (e12.trans e') hv)⟩))
theorem sm_expr {k : M (Res W α)} (he : EM X e ρ m) (hr : SM X ρE rest ρ k g) (hs : swapsWith e none pos.line X.env = pure false := by rfl) : SM X ρE (.Expr e pos :: rest) ρ (bd m fun _ => k) g := fun p s D nx r =>
  sSs_of (pss_cons (ps_expr pe_s hs) pss_s) (he p.pt (sat_bind s) _ fun w h1 v φ1 Hk1 Hr1 s1 p1 e1 hv =>
    hr (p.of p1 e1) s1 D (fun a hs' φ' Hk' Hr' σ' h q e' => nx a hs' φ' Hk' Hr' σ' h q (e1.trans e')) (fun w hs' v φ' Hk' Hr' h I e' hv => r w hs' v φ' Hk' Hr' h I (e1.trans e') hv))
theorem sm_ret (he : EM X e ρ m) : SM X ρE (.Return (some e) pos :: rest) ρ (bd m fun w => rt (.ret w)) g := fun p s D nx r =>
  sSs_of (pss_cons (ps_ret pe_s) pss_s) (he p.pt (sat_bind s) _ fun w h1 v φ1 Hk1 Hr1 s1 p1 e1 hv => r w _ v _ _ _ s1 p1.I e1 hv)
theorem sm_if {k : β → M (Res W α)} {s1 s2 : M (Res W β)} (hc : TM X c ρ mc) (ha : SM X ρE tb ρ s1 g1) (hb : SM X ρE eb ρ s2 g1) (hr : ∀ z, SM X ρE rest (g1 z) (k z) g) : SM X ρE (.If c tb eb pos :: rest) ρ (seqM (ifM mc s1 s2) k) g := fun p s D nx r =>
  sSs_of (pss_cons (ps_if pt_s pss_s pss_s) pss_s) (hc p.pt (sat_bind (sat_bind s)) _ fun kk h1 φ1 Hk1 Hr1 t1 p1 e1 => by
    cases kk with
    | true => exact iteT (ha (p.of p1 e1) t1 _ (fun z hs' φ' Hk' Hr' σ' h q e' => hr z q h D (fun a hs' φ2 Hk2 Hr2 σ2 h q e2 => nx a hs' φ2 Hk2 Hr2 σ2 h q (e1.trans (e'.trans e2))) (fun w hs' v φ2 Hk2 Hr2 h I e2 hv => r w hs' v φ2 Hk2 Hr2 h I (e1.trans (e'.trans e2)) hv)) (fun w hs' v φ' Hk' Hr' h I e' hv => r w hs' v φ' Hk' Hr' h I (e1.trans e') hv))
    | false => exact iteF (hb (p.of p1 e1) t1 _ (fun z hs' φ' Hk' Hr' σ' h q e' => hr z q h D (fun a hs' φ2 Hk2 Hr2 σ2 h q e2 => nx a hs' φ2 Hk2 Hr2 σ2 h q (e1.trans (e'.trans e2))) (fun w hs' v φ2 Hk2 Hr2 h I e2 hv => r w hs' v φ2 Hk2 Hr2 h I (e1.trans (e'.trans e2)) hv)) (fun w hs' v φ' Hk' Hr' h I e' hv => r w hs' v φ' Hk' Hr' h I (e1.trans e') hv)))
/-- an if without else whose suite hands back -/
theorem sm_ifR {k : M (Res W α)} {s1 : M (Res W Empty)} {g0 : Empty → Rho} (hc : TM X c ρ mc) (ha : SM X ρE tb ρ s1 g0) (hr : SM X ρE rest ρ k g) : SM X ρE (.If c tb [] pos :: rest) ρ (ifM mc (retE s1) k) g := fun p s D nx r =>
  sSs_of (pss_cons (ps_if pt_s pss_s pss_s) pss_s) (hc p.pt (sat_bind s) _ fun kk h1 φ1 Hk1 Hr1 t1 p1 e1 => by
    cases kk with
    | true => exact iteT (ha (p.of p1 e1) (sat_bind t1) _ (fun z _ _ _ _ _ _ _ _ => nomatch z) (fun w hs' v φ' Hk' Hr' h I e' hv => r w hs' v φ' Hk' Hr' h I (e1.trans e') hv))
    | false => exact iteF (sSs_of pss_nil (hr (p.of p1 e1) t1 D (fun a hs' φ' Hk' Hr' σ' h q e' => nx a hs' φ' Hk' Hr' σ' h q (e1.trans e')) (fun w hs' v φ' Hk' Hr' h I e' hv => r w hs' v φ' Hk' Hr' h I (e1.trans e') hv))))
theorem frz_ok {K : PySem.W.Frag} {wd : World} {φ : List Addr} {hs : Hs} {Ho Hk Hr : Hp} {v : V} {P : W → Hs → Prop} {E : Xc → Hs → Prop} (I : Ok K wd φ hs Ho Hk Hr) (hv : VR K wd φ Hk w v) (s : (frzM w hs).sat P E) : ∃ w' hs' Hk', Ok K wd φ hs' Ho Hk' Hr ∧ Same Hk Hk' ∧ VR K wd φ Hk' w' v ∧ P w' hs' := by
  have other : (frzM w hs = .ok w hs) → ∃ w' hs' Hk', Ok K wd φ hs' Ho Hk' Hr ∧ Same Hk Hk' ∧ VR K wd φ Hk' w' v ∧ P w' hs' := fun e => by
    rw [e] at s
    exact ⟨w, hs, Hk, I, Same.refl _, hv, s⟩
  cases w with
  | ref i =>
    have s1 : (match hs.get i with | some (.lst ws) => T.ok (mkL ws) (hs.del i) | _ => T.bad : T W).sat P E := s
    cases g : hs.get i with
    | none =>
      rw [g] at s1
      exact s1.elim
    | some o =>
      rw [g] at s1
      cases o with
      | lst ws =>
        obtain ⟨a, Hk', f1, f2, I2, f3⟩ := I.fix g
        cases hv with
        | ref ha =>
          rw [ha] at f1
          cases f1
          exact ⟨_, _, Hk', I2, f2, f3, s1⟩
      | _ => exact s1.elim
  | _ => exact other rfl
theorem set_same {σ : L2.St} {v : V} (h : σ[n]? = some (some v)) : σ.set n (some v) = σ := by
  refine List.ext_getElem? fun j => ?_
  by_cases q : n = j
  · subst q
    have := (List.getElem?_eq_some_iff.mp h).1
    rw [List.getElem?_set_self this, h]
  · rw [List.getElem?_set_ne q]
theorem sm_frz {k : W → M (Res W α)} (h : ρ[n]? = some (some w)) (hE : ρE[n]? = some none) (hr : ∀ w, SM X ρE sts (ρ.set n (some w)) (k w) g) : SM X ρE sts ρ (bd (frzM w) k) g := fun {Wx E P hs φ Ho Hk Hr σ} p s D nx r => by
  obtain ⟨v, q1, q2⟩ := p.R.at_ n w h
  obtain ⟨w', hs', Hk', I2, e2, hv, s2⟩ := frz_ok p.I q2 (sat_bind s)
  have ee : Ex φ Hk φ Hk' := ⟨Fx.refl, e2⟩
  have R := (p.R.ex ee).set hv (n := n)
  rw [set_same q1] at R
  exact hr w' (p.to I2 ee R (p.sub.set hE)) s2 D (fun a hs' φ' Hk' Hr' σ' h q e' => nx a hs' φ' Hk' Hr' σ' h q (ee.trans e')) (fun w hs' v φ' Hk' Hr' h I e' hv => r w hs' v φ' Hk' Hr' h I (ee.trans e') hv)
/-- while -/
theorem sm_while {f : β → Rho} {mcw : β → M Bool} {mb : β → M (Res W β)} {k : β → M (Res W α)} {N : Nat} {z0 : β} (h0 : f z0 = ρ) (hc : ∀ z, TM X c (f z) (mcw z)) (hb : ∀ z, SM X ρE body (f z) (mb z) f) (hr : ∀ z, SM X ρE rest (f z) (k z) g)
    (hp : PassesOwn (model X.prog X.w) X.A X.env X.xe) : SM X ρE (.While c body [] pos :: rest) ρ (seqM (whM mcw mb N z0) k) g := fun {Wx E P hs φ Ho Hk Hr σ} p s D nx r => by
  subst h0
  refine sSs_of (pss_cons (ps_while hp pt_s pss_s) pss_s) ?_
  refine ⟨fun n σ' Hr' => ∃ z hs' φ' Hk', Ps X Wx E ρE (f z) hs' φ' Ho Hk' Hr' σ' ∧ Ex φ Hk φ' Hk' ∧ (seqM (whM mcw mb n z) k hs').sat P E, ⟨N, z0, hs, φ, Hk, p, Ex.refl, s⟩, fun n σ' Hr' hW => ?_⟩
  obtain ⟨z, hs', φ', Hk', p', e', s'⟩ := hW
  cases n with
  | zero => exact s'.elim
  | succ n =>
    refine hc z p'.pt (sat_bind (sat_bind s')) _ fun kk h1 φ1 Hk1 Hr1 t1 p1 e1 => ?_
    cases kk with
    | true =>
      refine iteT ⟨fun σ2 H2 => ∃ m', m' < n + 1 ∧ ∃ z hs' φ' Hk', Ps X Wx E ρE (f z) hs' φ' Ho Hk' H2 σ2 ∧ Ex φ Hk φ' Hk' ∧ (seqM (whM mcw mb m' z) k hs').sat P E, fun σ2 H2 hN => hN, ?_⟩
      have t2 : ((mb z h1).bind fun r h => ((match r with | .ret w => rt (.ret w) | .nxt a => whM mcw mb n a : M (Res W β)) h)).sat (fun a h => ((match a with | .ret w => rt (.ret w) | .nxt a => k a : M (Res W α)) h).sat P E) E := t1
      exact hb z (p'.of p1 e1) (sat_bind t2) _ (fun z2 hs2 φ2 Hk2 Hr2 σ2 h q e2 => ⟨n, Nat.lt_succ_self n, z2, hs2, φ2, Hk2, q, e'.trans (e1.trans e2), sat_of h⟩) (fun w hs2 v φ2 Hk2 Hr2 h I e2 hv => r w hs2 v φ2 Hk2 Hr2 h I (e'.trans (e1.trans e2)) hv)
    | false => exact iteF (hr z (p'.of p1 e1) t1 D (fun a hs2 φ2 Hk2 Hr2 σ2 h q e2 => nx a hs2 φ2 Hk2 Hr2 σ2 h q (e'.trans (e1.trans e2))) (fun w hs2 v φ2 Hk2 Hr2 h I e2 hv => r w hs2 v φ2 Hk2 Hr2 h I (e'.trans (e1.trans e2)) hv))
end
end Hx
noncomputable section
namespace Hx
open PySem L2 Pd Gn PySem.Spec PyProof.Rows Zq RZ RT
def WkM (K : PySem.W.Frag) (wd : World) (φ : List Addr) (J : It) (ws : List W) (Hk : Hp) : Prop := ∀ i Hr, Same Hk Hr →
  (i < ws.length → J.go i Hr) ∧ (i = ws.length → J.stop i Hr) ∧ ∀ x H', J.yld i Hr x H' → Same Hr H' ∧ ∀ w, ws[i]? = some w → VR K wd φ (gro Hk Hr H') w x
theorem wkm_of {K : PySem.W.Frag} {wd : World} {φ : List Addr} {J : It} {ds : List PyData} {Hk : Hp} (h : Wk K J ds Hk) : WkM K wd φ J (ds.map .dat) Hk := fun i Hr e => by
  obtain ⟨h1, h2, h3⟩ := h i Hr e
  refine ⟨fun q => h1 (by simpa using q), fun q => h2 (by simpa using q), fun x H' hy => ?_⟩
  obtain ⟨g1, g2⟩ := h3 x H' hy
  refine ⟨g1, fun w hw => ?_⟩
  rw [List.getElem?_map] at hw
  cases z : ds[i]? with
  | none => rw [z] at hw; cases hw
  | some d =>
    rw [z] at hw
    cases hw
    exact .dat (g2 d z)
def wI (X : Cx) (tg iter : Expr) : TI := fun σ H R => ∀ (pins : List (Addr × Obj)) (s : Shared), Inv X pins σ H s → wpAny (model X.prog X.w) X.A (eval iter X.env) (fun v s1 => wpAny (model X.prog X.w) X.A (pyIter v) (PIE X pins σ tg R) X.xe s1) X.xe s
theorem pi_w {X : Cx} {tg iter : Expr} : PI X tg iter (wI X tg iter) := ⟨fun pins s σ H R I h => h pins s I⟩
theorem wI_of {X : Cx} {tg iter : Expr} {wi : TI} {σ : L2.St} {H : Hp} {R : It → Hp → Prop} (h : PI X tg iter wi) (q : wi σ H R) : wI X tg iter σ H R := fun pins s I => h.run pins s σ H R I q
def IM (X : Cx) (tg iter : Expr) (ρ : Rho) (m : M (List W)) : Prop :=
  ∀ {Wx : WX} {E : Xc → Hs → Prop} {P : List W → Hs → Prop} {hs : Hs} {φ : List Addr} {Ho Hk Hr : Hp} {σ : L2.St}, Pt X Wx E ρ hs φ Ho Hk Hr σ → (m hs).sat P E →
    ∀ R : It → Hp → Prop, (∀ ws hs' J φ' Hk' Hr', P ws hs' → Pt X Wx E ρ hs' φ' Ho Hk' Hr' σ → Ex φ Hk φ' Hk' → WkM X.K X.w φ' J ws Hk' → R J Hr') → wI X tg iter σ Hr R
def itG (K : PySem.W.Frag) (t : Bool) (a : Addr) : It := match t with | false => Itl K a | true => Itt K a
theorem wkm_g {K : PySem.W.Frag} {wd : World} {φ : List Addr} {Hk : Hp} {t : Bool} {a : Addr} {xs : List V} {ws : List W} (hs : gSq K t Hk a xs) (hx : VRs K wd φ Hk ws xs) : WkM K wd φ (itG K t a) ws Hk := fun i Hr e => by
  have l1 := VRs.len hx
  cases t
  · have hs' : SqL K Hr a xs := same_l e hs
    refine ⟨fun hi => ⟨xs, _, hs', List.getElem?_eq_getElem (by omega)⟩, fun hi => ⟨xs, hs', by omega⟩, fun x H' hy => ?_⟩
    obtain ⟨rfl, f⟩ := hy
    refine ⟨Same.refl _, fun w hw => ?_⟩
    obtain ⟨v, s1, s2⟩ := VRs.get hx hw
    have := f _ hs'
    rw [s1] at this
    cases this
    exact s2.mono Fx.refl (gro_same e)
  · have hs' : SqT K Hr a xs := same_t e hs
    refine ⟨fun hi => ⟨xs, _, hs', List.getElem?_eq_getElem (by omega)⟩, fun hi => ⟨xs, hs', by omega⟩, fun x H' hy => ?_⟩
    obtain ⟨rfl, f⟩ := hy
    refine ⟨Same.refl _, fun w hw => ?_⟩
    obtain ⟨v, s1, s2⟩ := VRs.get hx hw
    have := f _ hs'
    rw [s1] at this
    cases this
    exact s2.mono Fx.refl (gro_same e)
def stepM {α β : Type} (u : W → Option β) (mb : β → α → M (Res W α)) (w : W) (a : α) : M (Res W α) := bd (lf (u w)) fun b => mb b a
def forM {α : Type} (st : W → α → M (Res W α)) : List W → α → M (Res W α)
  | [], a => rt (.nxt a)
  | w :: ws, a => seqM (st w a) (forM st ws)
section
variable {X : Cx} {ρE ρ : Rho} {a b c e tg iter : Expr} {es tgs : List Expr} {rest body tb eb sts : List Stmt} {m m1 m2 m3 : M W} {ma mi : M (List W)} {mc : M Bool} {n i j k' tn : Nat} {pos p0 p1 p2 tpos : Pos} {x y : Str} {w : W} {α β γ : Type} {g : α → Rho}
/-- a value, walked -/
theorem pi_any {te : TE} (hl : PE X iter te) : PI X tg iter (fun σ H R => te σ H fun x H1 => ∃ t a xs, x = .ref a ∧ gSq X.K t H1 a xs ∧ R (itG X.K t a) H1) := by
  refine ⟨fun pins s σ H R I h => ?_⟩
  refine thn (hl.run pins s σ H _ I h) fun v s1 ⟨x, H1, I1, r1, q1⟩ => ?_
  obtain ⟨t, a, xs, e, hq, q⟩ := q1
  subst e
  cases r1
  cases t
  · obtain ⟨its, rv, p, hz⟩ := I1.list hq
    refine wpAny_pyIter_list p.isList ?_
    refine ⟨s1.heap.objs.size, [s1.heap.objs.size], _, _, H1, rfl, I1.kept (t' := s1.toks) fun b o e => Heap.get?_push_of_some _ e, turn_list a _, ⟨_, Heap.get?_push_size _ rfl, rfl, rfl⟩, fun b hb => ?_, q⟩
    have e : b = s1.heap.objs.size := by simpa using hb
    subst e
    exact I1.fpOk (Nat.le_refl _) (I1.hok.fresh (Nat.le_refl _))
  · obtain ⟨its, rv, p, hz⟩ := I1.tuple hq
    refine wpAny_pyIter_tuple (show s1.heap.IsTuple a its.toArray from p) ?_
    refine ⟨s1.heap.objs.size, [s1.heap.objs.size], _, _, H1, rfl, I1.kept (t' := s1.toks) fun b o e => Heap.get?_push_of_some _ e, turn_tuple a _, ⟨_, Heap.get?_push_size _ rfl, rfl, rfl⟩, fun b hb => ?_, q⟩
    have e : b = s1.heap.objs.size := by simpa using hb
    subst e
    exact I1.fpOk (Nat.le_refl _) (I1.hok.fresh (Nat.le_refl _))
def sqM (m : M W) : M (List W) := bd m fun w => lf (seqW w)
theorem im_val (ha : EM X iter ρ m) : IM X tg iter ρ (sqM m) := fun p s R q => wI_of (pi_any pe_s) (ha p (sat_bind s) _ fun w h1 v φ1 Hk1 Hr1 s1 p1 e1 hv => by
  obtain ⟨ws, h2, s2⟩ := sat_lf s1
  obtain ⟨t, a, xs, rfl, g1, g2⟩ := hv.seq h2
  exact ⟨t, a, xs, rfl, same_g p1.I.kr g1, q _ _ _ _ _ _ s2 p1 e1 (wkm_g g1 g2)⟩)
def rg1 (m : M W) : M (List W) := bd m fun w => lf ((asIW w).bind fun j => gd (small j) (some ((rngD 0 j.toNat).map .dat)))
theorem im_range1 (hm : X.mg "range" = none) (ha : EM X a ρ m) (hg : Gl X "range" := by rfl) (hs : starEach [a] X.env = [(false, eval a X.env)] := by rfl) : IM X tg (.Call (.Name "range" p0) [a] [] pos) ρ (rg1 m) := fun p s R q => by
  refine wI_of (pi_range1 hg hm pa_s hs) (am_one ha hs p (sat_bind s) _ fun w h1 v φ1 Hk1 Hr1 s1 p1 e1 hv => ?_)
  obtain ⟨ws, h2, s2⟩ := sat_lf s1
  obtain ⟨j, h3, h4⟩ := bnd h2
  obtain ⟨g1, g2⟩ := gd_some h4
  have := small_at g1
  cases g2
  have := asIW_eq h3
  subst this
  obtain rfl := vr_int (X := X) hv
  exact ⟨j, rfl, by omega, by omega, q _ _ _ _ _ _ s2 p1 e1 (wkm_of wk_rng)⟩
theorem forM_drop {st : W → α → M (Res W α)} {ws : List W} {i : Nat} {w : W} {z : α} (h : ws[i]? = some w) : forM st (ws.drop i) z = seqM (st w z) (forM st (ws.drop (i + 1))) := by
  obtain ⟨hl, he⟩ := List.getElem?_eq_some_iff.mp h
  rw [List.drop_eq_getElem_cons hl, he]
  rfl
theorem sm_for {gt : TG} {u : W → Option γ} {F : β → Rho} {Fb : γ → β → Rho} {mb : γ → β → M (Res W β)} {k : β → M (Res W α)} {z0 : β} (hi : IM X tg iter ρ mi) (hg : PG X tg gt) (h0 : LeR (F z0) ρ) (hE0 : LeR ρE (F z0)) (hu : ∀ z, GM X.K X.w (F z) gt u (fun b => Fb b z)) (hE : ∀ b z, LeR ρE (Fb b z))
    (hb : ∀ b z, SM X ρE body (Fb b z) (mb b z) F) (hr : ∀ z, SM X ρE rest (F z) (k z) g) (hp : PassesOwn (model X.prog X.w) X.A X.env X.xe) (hc : X.calm = true := by rfl) (hs : ∀ x, foldedSetIterable iter X.env x = pure x := by intro _; rfl) :
    SM X ρE (.For tg iter body [] pos :: rest) ρ (bd mi fun ws => seqM (forM (stepM u mb) ws z0) k) g := fun {Wx E P hs0 φ0 Ho Hk0 Hr0 σ0} p0 s0 D nx r => by
  refine sSs_of (pss_cons (ps_for hp hc pi_w hg pss_s hs) pss_s) (hi p0.pt (sat_bind s0) _ fun ws h1 J φ1 Hk1 Hr1 s1 p1 e1 wk => ?_)
  refine ⟨fun i m σ' Hr' => i + m = ws.length ∧ ∃ z hs' φ' Hk', Ps X Wx E ρE (F z) hs' φ' Ho Hk' Hr' σ' ∧ Ex φ1 Hk1 φ' Hk' ∧ (seqM (forM (stepM u mb) (ws.drop i) z) k hs').sat P E,
    ⟨ws.length, by omega, z0, h1, φ1, Hk1, p0.to p1.I e1 (h0.sr p1.R) hE0, Ex.refl, by rw [List.drop_zero]; exact s1⟩, fun i m σ' Hr' hW => ?_⟩
  obtain ⟨em, z, hs', φ', Hk', p', e', s'⟩ := hW
  obtain ⟨w1, w2, w3⟩ := wk i Hr' (e'.k.trans p'.I.kr)
  by_cases hi : i < ws.length
  · refine .inr ⟨w1 hi, fun σ2 H2 => ∃ z hs' φ' Hk', Ps X Wx E ρE (F z) hs' φ' Ho Hk' H2 σ2 ∧ Ex φ1 Hk1 φ' Hk' ∧ (seqM (forM (stepM u mb) (ws.drop (i + 1)) z) k hs').sat P E, fun σ2 H2 hN => ⟨m - 1, by omega, by omega, hN⟩, fun xv H2 hy => ?_⟩
    obtain ⟨e2, fd⟩ := w3 xv H2 hy
    have hd := List.getElem?_eq_getElem hi
    rw [forM_drop hd] at s'
    have s2 := sat_bind (sat_bind s')
    obtain ⟨b, hb', s3⟩ := sat_lf (sat_bind s2)
    have I2 := p'.I.gro e2
    have eg := Ex.gro (φ := φ') p'.I.kr (H2 := H2)
    have hv : VR X.K X.w φ' (gro Hk' Hr' H2) (ws[i]) xv := (fd _ hd).mono e'.f (gro_le e'.k)
    refine hu z _ b hb' φ' _ H2 σ' xv I2.kr (p'.R.ex eg) hv _ fun σ3 R3 => ?_
    exact hb b z (p'.to I2 eg R3 (hE b z)) s3 _ (fun z2 hs2 φ2 Hk2 Hr2 σ2 h q e2 => ⟨z2, hs2, φ2, Hk2, q, e'.trans (eg.trans e2), sat_of h⟩) (fun w hs2 v φ2 Hk2 Hr2 h I e2 hv => r w hs2 v φ2 Hk2 Hr2 h I (e1.trans (e'.trans (eg.trans e2))) hv)
  · have : i = ws.length := by omega
    subst this
    rw [List.drop_length] at s'
    exact .inl ⟨w2 rfl, hr z p' s' D (fun a hs2 φ2 Hk2 Hr2 σ2 h q e2 => nx a hs2 φ2 Hk2 Hr2 σ2 h q (e1.trans (e'.trans e2))) (fun w hs2 v φ2 Hk2 Hr2 h I e2 hv => r w hs2 v φ2 Hk2 Hr2 h I (e1.trans (e'.trans e2)) hv)⟩
end
end Hx
noncomputable section
namespace Hx
open PySem L2 Pd Gn PySem.Spec PyProof.Rows Zq
def FF : Xc → Hs → Prop := fun _ _ => False
def GEm (K : PySem.W.Frag) (wd : World) (te : TE) (ρ : Rho) (m : M W) : Prop := ∀ {P : W → Hs → Prop} {hs : Hs} {φ : List Addr} {Ho Hk Hr : Hp} {σ : L2.St}, Ok K wd φ hs Ho Hk Hr → SR K wd φ Hk ρ σ → (m hs).sat P FF →
  ∀ Q : VK, (∀ w hs' v φ' Hk' Hr', P w hs' → Ok K wd φ' hs' Ho Hk' Hr' → Ex φ Hk φ' Hk' → VR K wd φ' Hk' w v → Q v Hr') → te σ Hr Q
def GTm (K : PySem.W.Frag) (wd : World) (tt : TT) (ρ : Rho) (m : M Bool) : Prop := ∀ {P : Bool → Hs → Prop} {hs : Hs} {φ : List Addr} {Ho Hk Hr : Hp} {σ : L2.St}, Ok K wd φ hs Ho Hk Hr → SR K wd φ Hk ρ σ → (m hs).sat P FF →
  ∀ Q : Bool → Hp → Prop, (∀ w hs' φ' Hk' Hr', P w hs' → Ok K wd φ' hs' Ho Hk' Hr' → Ex φ Hk φ' Hk' → Q w Hr') → tt σ Hr Q
theorem gtm_yes {K : PySem.W.Frag} {wd : World} {ρ : Rho} : GTm K wd tYes ρ (rt true) := fun I R s Q q => q _ _ _ _ _ s I Ex.refl
/-- in each block of a comprehension -/
def BM (X : Cx) (scope : Scope) (e : Expr) (ρ : Rho) (m : M W) : Prop := ∀ (s : Shared) (H : Hp) (C : Addr) (cl : List (Str × Addr)) (fp : List Addr), EM (X.blk s H scope (compEnvC scope cl C X.env) fp) e ρ m
def BTm (X : Cx) (scope : Scope) (e : Expr) (ρ : Rho) (m : M Bool) : Prop := ∀ (s : Shared) (H : Hp) (C : Addr) (cl : List (Str × Addr)) (fp : List Addr), TM (X.blk s H scope (compEnvC scope cl C X.env) fp) e ρ m
section
variable {X : Cx} {scope : Scope} {e tg iter : Expr} {ρ : Rho} {m : M W} {mc : M Bool} {mi : M (List W)}
theorem BM.ge (h : BM X scope e ρ m) : GEm X.K X.w (bE X scope e) ρ m := fun {P hs φ Ho Hk Hr σ} I R s Q q st H C cl fp => h st H C cl fp (Wx := fun _ _ _ _ => False) (E := FF) ⟨takes0, I, R, fun _ _ _ _ _ _ _ h => h.elim⟩ s Q fun w hs' v φ' Hk' Hr' hp p e hv => q w hs' v φ' Hk' Hr' hp p.I e hv
theorem BTm.gt (h : BTm X scope e ρ mc) : GTm X.K X.w (bT X scope e) ρ mc := fun {P hs φ Ho Hk Hr σ} I R s Q q st H C cl fp => h st H C cl fp (Wx := fun _ _ _ _ => False) (E := FF) ⟨takes0, I, R, fun _ _ _ _ _ _ _ h => h.elim⟩ s Q fun w hs' φ' Hk' Hr' hp p e => q w hs' φ' Hk' Hr' hp p.I e
end
/-- a new list, by its reading -/
def LR (X : Cx) (t : TE) (ρ : Rho) (m : M (List W)) : Prop :=
  ∀ {Wx : WX} {E : Xc → Hs → Prop} {P : List W → Hs → Prop} {hs : Hs} {φ : List Addr} {Ho Hk Hr : Hp} {σ : L2.St}, Pt X Wx E ρ hs φ Ho Hk Hr σ → (m hs).sat P E →
    ∀ Q : VK, (∀ ws hs' p vs φ' Hk' Hr', P ws hs' → Ok X.K X.w φ' hs' (upd Ho p (.lst vs)) Hk' Hr' → Ho p = none → Hk' p = none → Ex φ Hk φ' Hk' → VRs X.K X.w φ' Hk' ws vs → Q (.ref p) Hr') → t σ Hr Q
theorem LR.lm {X : Cx} {t : TE} {e : Expr} {ρ : Rho} {m : M (List W)} (h : LR X t ρ m) (pe : PE X e t) : LM X e ρ m := fun p s Q q => sE_of pe (h p s Q q)
theorem Ok.output {K : PySem.W.Frag} {wd : World} {φ : List Addr} {hs : Hs} {Ho Hk Hr : Hp} {p : Addr} {u u' : HO} (I : Ok K wd φ hs (upd Ho p u) Hk Hr) (nk : Hk p = none) : Ok K wd φ hs (upd Ho p u') Hk (upd Hr p u') := by
  have hp : Hr p = some u := I.out _ _ upd_same
  refine ⟨fun b o g => ?_, fun b o g => ?_, I.len, I.low, fun i o g => ?_, I.inj, fun b o g => ?_⟩
  · rw [upd_ne (ne_of_none g nk)]
    exact I.kr _ _ g
  · by_cases q : b = p
    · subst q
      rw [upd_same] at g ⊢
      exact g
    · rw [upd_ne q] at g ⊢
      exact I.out b o (by rw [upd_ne q]; exact g)
  · obtain ⟨a, q1, q2, q3, q4⟩ := I.obj i o g
    have ne : a ≠ p := fun z => by rw [z, upd_same] at q3; cases q3
    rw [upd_ne ne] at q3
    exact ⟨a, q1, q2, by rw [upd_ne ne]; exact q3, q4.mono Fx.refl (Same.refl _) fun v hv => by rw [upd_ne ne]; exact hv⟩
  · by_cases q : b = p
    · rw [q]; exact nk
    · rw [upd_ne q] at g
      exact I.dis b o (by rw [upd_ne q]; exact g)
theorem Ok.nk {K : PySem.W.Frag} {wd : World} {φ : List Addr} {hs : Hs} {Ho Hk Hr : Hp} {p : Addr} {u : HO} (I : Ok K wd φ hs (upd Ho p u) Hk Hr) : Hk p = none := I.dis p u upd_same
theorem SR.wipe {K : PySem.W.Frag} {wd : World} {φ : List Addr} {Hk : Hp} {ρ : Rho} {σ : L2.St} {vs : List Nat} (R : SR K wd φ Hk ρ σ) (hv : ∀ i ∈ vs, ρ[i]? = some none) : SR K wd φ Hk ρ (L2.wipe σ vs) := R.sub (by rw [wipe_length, R.len]) fun i w h => ⟨h, wipe_out fun z => by
  rw [hv i z] at h
  cases h⟩
def lcM {β : Type} (u : W → Option β) (mt : β → M Bool) (me : β → M W) : List W → M (List W)
  | [] => rt []
  | w :: ws => bd (lf (u w)) fun b => bd (mt b) fun k => match k with
    | true => bd (me b) fun x => bd (lcM u mt me ws) fun r => rt (x :: r)
    | false => lcM u mt me ws
def lc1 {β : Type} (u : W → Option β) (mt : β → M Bool) (me : β → M W) (mi : M (List W)) : M (List W) := bd mi fun ws => bd (lf (gd (short ws.length) (some ()))) fun _ => nox (lcM u mt me ws)
section
variable {X : Cx} {tg iter : Expr} {ρ : Rho} {mi : M (List W)} {β γ : Type} {vs vs1 : List Nat} {gt gt1 : TG} {tt tt1 : TT} {te : TE} {wi1 : TI}
theorem lcM_drop {u : W → Option β} {mt : β → M Bool} {me : β → M W} {ws : List W} {i : Nat} {w : W} (h : ws[i]? = some w) : lcM u mt me (ws.drop i) = bd (lf (u w)) fun b => bd (mt b) fun k => match k with
    | true => bd (me b) fun x => bd (lcM u mt me (ws.drop (i + 1))) fun r => rt (x :: r)
    | false => lcM u mt me (ws.drop (i + 1)) := by
  obtain ⟨hl, he⟩ := List.getElem?_eq_some_iff.mp h
  rw [List.drop_eq_getElem_cons hl, he]
  rfl
theorem lr_lc {u : W → Option β} {f : β → Rho} {mt : β → M Bool} {me : β → M W} (hi : IM X tg iter ρ mi) (hw : GW gt vs) (hv : ∀ i ∈ vs, ρ[i]? = some none) (hu : GM X.K X.w ρ gt u f) (ht : ∀ b, GTm X.K X.w tt (f b) (mt b)) (he : ∀ b, GEm X.K X.w te (f b) (me b)) :
    LR X (tLc (wI X tg iter) gt tt te vs) ρ (lc1 u mt me mi) := fun {Wx E P hs0 φ0 Ho Hk0 Hr0 σ} p s Q q => by
  refine hi p (sat_bind s) _ fun ws h1 J φ1 Hk1 Hr1 s1 p1 e1 wk D nD => ?_
  obtain ⟨_, hsh, s2⟩ := sat_lf (sat_bind s1)
  have hlen := short_le (gd_some hsh).1
  have s3 := sat_nox s2
  refine ⟨fun i m H => i + m = ws.length ∧ ∃ acc avs hs' φ' Hk', acc.length ≤ i ∧ Ok X.K X.w φ' hs' (upd Ho D (.lst avs)) Hk' H ∧ Hk' D = none ∧ Ex φ1 Hk1 φ' Hk' ∧ VRs X.K X.w φ' Hk' acc avs ∧ (lcM u mt me (ws.drop i) hs').sat (fun r h => P (acc ++ r) h) FF,
    ⟨ws.length, by omega, [], [], h1, φ1, Hk1, Nat.le_refl _, p1.I.outer nD, far_of p1.I.kr nD, Ex.refl, .nil, by rw [List.drop_zero]; exact s3⟩, fun i m H hW => ?_⟩
  obtain ⟨em, acc, avs, hs', φ', Hk', hla, I', nk, e', hacc, s'⟩ := hW
  obtain ⟨w1, w2, w3⟩ := wk i H (e'.k.trans I'.kr)
  by_cases hi : i < ws.length
  · refine .inr ⟨w1 hi, fun H2 => ∃ acc avs hs' φ' Hk', acc.length ≤ i + 1 ∧ Ok X.K X.w φ' hs' (upd Ho D (.lst avs)) Hk' H2 ∧ Hk' D = none ∧ Ex φ1 Hk1 φ' Hk' ∧ VRs X.K X.w φ' Hk' acc avs ∧ (lcM u mt me (ws.drop (i + 1)) hs').sat (fun r h => P (acc ++ r) h) FF,
      fun H2 hN => ⟨m - 1, by omega, by omega, hN⟩, fun xv H2 hy => ?_⟩
    obtain ⟨e2, fd⟩ := w3 xv H2 hy
    have hd := List.getElem?_eq_getElem hi
    rw [lcM_drop hd] at s'
    obtain ⟨b, hb, s4⟩ := sat_lf (sat_bind s')
    have I2 := I'.gro e2
    have eg := Ex.gro (φ := φ') I'.kr (H2 := H2)
    have nk2 : gro Hk' H H2 D = none := by rw [gro_old (I'.out _ _ upd_same)]; exact nk
    have hxv : VR X.K X.w φ' (gro Hk' H H2) (ws[i]) xv := (fd _ hd).mono e'.f (gro_le e'.k)
    have Rw : SR X.K X.w φ' (gro Hk' H H2) ρ (L2.wipe σ vs) := ((p1.R.ex e').ex eg).wipe hv
    refine hw _ _ _ _ (hu _ b hb φ' _ H2 _ xv I2.kr Rw hxv _ fun σ3 R3 wz => ?_)
    refine ht b I2 R3 (sat_bind s4) _ fun k h4 φ4 Hk4 Hr4 s5 I4 e4 => ?_
    cases k with
    | true =>
      refine iteT (he b I4 (R3.ex e4) (sat_bind s5) _ fun x h5 yv φ5 Hk5 Hr5 s6 I5 e5 hyv => ?_)
      have ee : Ex φ' Hk' φ5 Hk5 := eg.trans (e4.trans e5)
      refine ⟨avs, I5.out _ _ upd_same, by rw [VRs.len hacc]; exact lt_line (by omega), acc ++ [x], avs ++ [yv], h5, φ5, Hk5, by rw [List.length_append, List.length_singleton]; omega, I5.output I5.nk, I5.nk, e'.trans ee, (hacc.ex ee).app (.cons hyv .nil), ?_⟩
      refine sat_mono (fun r h hp => ?_) (fun _ _ h => h) (sat_bind s6)
      have hp : P (acc ++ (x :: r)) h := hp
      rw [List.append_assoc]
      exact hp
    | false => exact iteF ⟨acc, avs, h4, φ4, Hk4, by omega, I4, I4.nk, e'.trans (eg.trans e4), hacc.ex (eg.trans e4), s5⟩
  · have : i = ws.length := by omega
    subst this
    rw [List.drop_length] at s'
    have s5 : P (acc ++ []) hs' := s'
    rw [List.append_nil] at s5
    exact .inl ⟨w2 rfl, q acc hs' D avs φ' Hk' H s5 I' (far_of p1.I.out nD) nk (e1.trans e') hacc⟩
end
end Hx
noncomputable section
namespace Hx
open PySem L2 Pd Gn PySem.Spec PyProof.Rows Zq
section
end
section
variable {X : Cx} {ρE ρ : Rho} {elt c c1 tg iter tg1 iter1 : Expr} {mi : M (List W)} {α β γ : Type} {vs1 : List Nat} {gt gt1 : TG} {scope : Scope} {own : List (Str × Nat)} {pos cpos py : Pos} {u : W → Option β} {f : β → Rho} {mt : β → M Bool} {me : β → M W} {n : Nat} {y : Str} {rest : List Stmt} {g : α → Rho} {st : Stmt} {t : TE} {ml : M (List W)}
abbrev PGb (X : Cx) (scope : Scope) (tg : Expr) (gt : TG) : Prop := ∀ (s : Shared) (H : Hp) (C : Addr) (cl : List (Str × Addr)) (fp : List Addr), PG (X.blk s H scope (compEnvC scope cl C X.env) fp) tg gt
/-- [elt for tg in iter]: the expression, its reading -/
structure LcP (X : Cx) (e : Expr) (scope : Scope) (t : TE) (ρ : Rho) (m : M (List W)) : Prop where
  pe : PE X e t
  ps : ∀ {n : Nat} {y : Str} {py pos : Pos}, X.N.Nodup → X.N[n]? = some y → X.env.scope.names.lookup y = some .local → swapsWith e (some (.Name y py)) pos.line X.env = pure true → PS X (.Assign [.Name y py] e pos) (tAsg t (gName n))
  lr : LR X t ρ m
theorem lcp0 (hi : IM X tg iter ρ mi) (hw : GW gt (own.map (·.2))) (hv : ∀ i ∈ own.map (·.2), ρ[i]? = some none) (hu : GM X.K X.w ρ gt u f) (he : ∀ b, BM X scope elt (f b) (me b)) (hN : X.N.Nodup) (ok : BlkOk X.N X.env.scope scope own) (hg : PGb X scope tg gt)
    (hc : X.calm = true := by rfl) (hs : ∀ x, foldedSetIterable iter X.env x = pure x := by intro _; rfl) : LcP X (.ListComp elt [⟨tg, iter, [], 0⟩] scope pos) scope (tLc (wI X tg iter) gt tYes (bE X scope elt) (own.map (·.2))) ρ (lc1 u (fun _ => rt true) me mi) :=
  ⟨pe_lc hc hN pi_w ok hg (fun _ _ _ _ _ => pts_nil) pe_b hs, fun hN hy hyl hsw => ps_setLc hc hN hy hyl hsw pi_w ok hg (fun _ _ _ _ _ => pts_nil) pe_b hs, lr_lc hi hw hv hu (fun _ => gtm_yes) fun b => (he b).ge⟩
variable {mj : β → M (List W)} {u1 : W → Option γ} {f1 : β → γ → Rho} {mt1 : β → γ → M Bool} {me2 : β → γ → M W} {ifs ifs1 : List Expr} {tt tt1 : TT}
theorem LcP.lm {e : Expr} (h : LcP X e scope t ρ ml) : LM X e ρ ml := LR.lm h.lr h.pe
end
def isL (o : W) : M (Nat × List W) := fun h => match o with
  | .ref i => match h.get i with | some (.lst ws) => .ok (i, ws) h | _ => .bad
  | _ => .bad
theorem isL_ok {o : W} {h : Hs} {P : Nat × List W → Hs → Prop} {E : Xc → Hs → Prop} (s : (isL o h).sat P E) : ∃ i ws, o = .ref i ∧ h.get i = some (.lst ws) ∧ P (i, ws) h := by
  cases o with
  | ref i =>
    have s : (match h.get i with | some (.lst ws) => T.ok (i, ws) h | _ => T.bad : T (Nat × List W)).sat P E := s
    cases g : h.get i with
    | none => rw [g] at s; exact s.elim
    | some u =>
      rw [g] at s
      cases u with
      | lst ws => exact ⟨i, ws, rfl, g, s⟩
      | _ => exact s.elim
  | _ => exact s.elim
/-- the list at i becomes ws -/
def putL (i : Nat) (ws : List W) : M Unit := fun h => .ok () (h.put i (.lst ws))
section
variable {X : Cx} {ρE ρ : Rho} {o e ix : Expr} {m1 m2 m3 : M W} {ml : M (List W)} {p0 p1 pos : Pos} {rest : List Stmt} {α : Type} {g : α → Rho}
def appM (m1 m2 : M W) : M W := bd m1 fun o => bd (isL o) fun _ => bd m2 fun w => bd (isL o) fun p => bd (lf (gd (shortS p.2.length) (some ()))) fun _ => bd (putL p.1 (p.2 ++ [w])) fun _ => rt (.dat .none)
theorem Ok.putL {K : PySem.W.Frag} {wd : World} {φ : List Addr} {hs : Hs} {Ho Hk Hr : Hp} {i : Nat} {a : Addr} {ws us : List W} {vs xs : List V} (I : Ok K wd φ hs Ho Hk Hr) (h : hs.get i = some (.lst ws)) (ha : φ[i]? = some a) (hv : VRs K wd φ Hk us xs) : Ok K wd φ (hs.put i (.lst us)) Ho Hk (upd Hr a (.lst xs)) := I.put h ha ⟨xs, upd_same, hv⟩
theorem at_lst {K : PySem.W.Frag} {wd : World} {φ : List Addr} {hs : Hs} {Ho Hk Hr : Hp} {i : Nat} {a : Addr} {ws : List W} (I : Ok K wd φ hs Ho Hk Hr) (h : hs.get i = some (.lst ws)) (ha : φ[i]? = some a) : ∃ vs, Hr a = some (.lst vs) ∧ VRs K wd φ Hk ws vs := by
  obtain ⟨b, q1, q2, q3, vs, q4, q5⟩ := I.obj i _ h
  rw [ha] at q1
  cases q1
  exact ⟨vs, q4, q5⟩
theorem em_append (ho : EM X o ρ m1) (he : EM X e ρ m2) (hp : PE X (.Call (.Attribute o "append" p1) [e] [] pos) (tBM X.K "list" rAppend (sE X o) (tCons (sE X e) tNil))) : EM X (.Call (.Attribute o "append" p1) [e] [] pos) ρ (appM m1 m2) := fun p s Q q => by
  refine sE_of hp (ho p (sat_bind s) _ fun ow h1 ov φ1 Hk1 Hr1 s1 p1 e1 hov => ?_)
  obtain ⟨i, ws, rfl, g1, s2⟩ := isL_ok (sat_bind s1)
  cases hov with
  | ref ha =>
    obtain ⟨vs, t1, t2⟩ := at_lst p1.I g1 ha
    refine ⟨.inl ⟨rfl, _, .inl (.inl t1)⟩, he p1 (sat_bind s2) _ fun w h2 v φ2 Hk2 Hr2 s3 p2 e2 hv => ?_⟩
    obtain ⟨i', ws', e0, g2, s4⟩ := isL_ok (sat_bind s3)
    cases e0
    have ha2 := e2.f _ _ ha
    obtain ⟨vs2, t3, t4⟩ := at_lst p2.I g2 ha2
    obtain ⟨_, hsh, s5⟩ := sat_lf (sat_bind s4)
    have hl := shortS_lt (gd_some hsh).1
    refine ⟨_, vs2, v, rfl, rfl, t3, by rw [VRs.len t4]; exact lt_line hl, ?_⟩
    have I3 := p2.I.putL (vs := vs2) g2 ha2 (t4.app (.cons hv .nil))
    exact q _ _ _ _ _ _ s5 (p2.go I3 Ex.refl) (e1.trans e2) (.dat .non)
/-- x[i] = e -/
def setM (m3 m1 m2 : M W) : M Unit := bd m3 fun v => bd m1 fun o => bd m2 fun i => bd (isL o) fun p => bd (lf ((asIW i).bind fun j => ixN p.2.length j)) fun k => putL p.1 (p.2.set k v)
theorem sm_put {k : M (Res W α)} (he : EM X e ρ m3) (ho : EM X o ρ m1) (hi : EM X ix ρ m2) (hr : SM X ρE rest ρ k g) (hp : PS X (.Assign [.Subscript o ix p1] e pos) (tAsg (sE X e) (gSub (sE X o) (sE X ix) rSetL))) : SM X ρE (.Assign [.Subscript o ix p1] e pos :: rest) ρ (bd (setM m3 m1 m2) fun _ => k) g := fun p s D nx r => by
  refine sSs_of (pss_cons hp pss_s) (he p.pt (sat_bind (sat_bind s)) _ fun w h1 v φ1 Hk1 Hr1 s1 p1 e1 hv => ho p1 (sat_bind s1) _ fun ow h2 ov φ2 Hk2 Hr2 s2 p2 e2 hov => hi p2 (sat_bind s2) _ fun iw h3 iv φ3 Hk3 Hr3 s3 p3 e3 hiv => ?_)
  obtain ⟨i, ws, rfl, g1, s4⟩ := isL_ok (sat_bind s3)
  obtain ⟨k', hk, s5⟩ := sat_lf (sat_bind s4)
  obtain ⟨j, hj, hk⟩ := bnd hk
  have := asIW_eq hj
  subst this
  obtain rfl := vr_int (X := X) hiv
  have hov := hov.ex e3
  cases hov with
  | ref ha =>
    obtain ⟨vs, t1, t2⟩ := at_lst p3.I g1 ha
    have e123 := e1.trans (e2.trans e3)
    refine ⟨_, vs, j, k', rfl, rfl, t1, by rw [VRs.len t2]; exact hk, ?_⟩
    have I4 := p3.I.putL (vs := vs) g1 ha (t2.set k' (hv.ex (e2.trans e3)))
    exact hr (p.to I4 e123 p3.R p.sub) s5 D (fun a hs' φ' Hk' Hr' σ' h q e' => nx a hs' φ' Hk' Hr' σ' h q (e123.trans e')) (fun w hs' v φ' Hk' Hr' h I e' hv => r w hs' v φ' Hk' Hr' h I (e123.trans e') hv)
end
end Hx
noncomputable section
namespace Hx
open PySem L2 Pd Gn PySem.Spec PyProof.Rows Zq
def spM (K : PySem.W.Frag) (wd : World) (mg : Str → Option Value) (n : Nat) (mf : List W → M W) : Sp := fun vs H Q E => ∃ (φ : List Addr) (hs : Hs) (Ho Hk : Hp) (ws : List W) (P : W → Hs → Prop) (Ex' : Xc → Hs → Prop), ws.length = n ∧ Ok K wd φ hs Ho Hk H ∧ VRs K wd φ Hk ws vs ∧ (mf ws hs).sat P Ex' ∧
  (∀ w hs' v φ' Hk' H', P w hs' → Ok K wd φ' hs' Ho Hk' H' → Ex φ Hk φ' Hk' → VR K wd φ' Hk' w v → Q v H') ∧ (∀ x hs' C d φ' Hk' H', Ex' x hs' → Ok K wd φ' hs' Ho Hk' H' → Ex φ Hk φ' Hk' → XA K mg x C d H' → E (.ref C) d H')
def finM (m : M (Res W Unit)) : M W := bd m fun r => match r with | .ret w => rt w | .nxt _ => rt (.dat .none)
def rhoW (ws : List W) (m : Nat) : Rho := ws.map some ++ List.replicate m none
def noR (n : Nat) : Rho := List.replicate n none
section
variable {P : Program} {w : World} {K : PySem.W.Frag} {wd : World} {mg : Str → Option Value} {base : Heap} {x qual : Str} {st : Stmt} {f : Addr} {fd : FuncData} {N ps : List Str} {k : Nat}
theorem start_sr {φ : List Addr} {Hk : Hp} {ws : List W} {vs : List V} (h : VRs K wd φ Hk ws vs) (hl : ws.length = ps.length) (hn : ps.length ≤ N.length) : SR K wd φ Hk (rhoW ws (N.length - ps.length)) (L2.start N vs) := by
  have lv := VRs.len h
  refine ⟨by unfold rhoW L2.start; simp [hl, lv], fun i w q => ?_⟩
  unfold rhoW at q
  by_cases z : i < ws.length
  · rw [List.getElem?_append_left (by simpa using z), List.getElem?_map, List.getElem?_eq_getElem z] at q
    obtain ⟨v, s1, s2⟩ := VRs.get h (List.getElem?_eq_getElem z)
    have q := Option.some.inj (Option.some.inj q)
    subst q
    exact ⟨v, start_get s1, s2⟩
  · rw [List.getElem?_append_right (by simpa using z), List.getElem?_replicate] at q
    split at q
    · cases Option.some.inj q
    · cases q
theorem le_noR : ∀ {r : Rho} {n : Nat}, r.length = n → LeR (noR n) r
  | [], 0, _ => .nil
  | [], n + 1, h => by simp at h
  | _ :: r, 0, h => by simp at h
  | x :: r, n + 1, h => .drop (le_noR (r := r) (by simpa using h))
theorem rhoW_len {ws : List W} (hl : ws.length = ps.length) (hn : ps.length ≤ N.length) : (rhoW ws (N.length - ps.length)).length = N.length := by
  unfold rhoW
  rw [List.length_append, List.length_map, List.length_replicate]
  omega
theorem FunY.okX {sp : Sp} (F : FunY K x qual st f fd) (S : FnScope N ps (defScope st)) (len : ∀ vs H Q E, sp vs H Q E → vs.length = ps.length)
    (hbody : ∀ (cdv : Value) (A : Around) (outer : List Env) (s : Shared) (H : Hp) (vs : List V) (Q : VK) (E : XK), Room k (A.deeper (envOfC qual (defScope st) s.heap.objs.size f cdv)) → sp vs H Q E →
      ∃ t, PSs (cxOf (L2.CX P w) P w K mg base N qual (defScope st) f cdv A outer s H E) (defBody st) t ∧ t { nx := fun _ H' => Q .non H', rt := Q } (L2.start N vs) H) : FnOk P w K mg base (L2.CX P w) (k + 1) f fd ps sp := by
  obtain ⟨oc, od, dV, kV, doc, pm, an, cdv, ct, osl, rfl, lk, hcd⟩ := F.ex
  exact fn_of lk hcd S len fun A outer s H vs Q E hr hsp => hbody cdv A outer s H vs Q E hr hsp
theorem Fun.y (F : Fun K x qual st f fd) : FunY K x qual st f fd := by
  obtain ⟨oc, od, kV, doc, pm, an, cdv, ct, osl, e, lk, hcd⟩ := F.ex
  exact ⟨⟨oc, od, _, kV, doc, pm, an, cdv, ct, osl, e, lk, hcd⟩, F.kp⟩
theorem defM {mb : List W → M (Res W Unit)} {g : Unit → Rho} (F : FunY K x qual st f fd) (S : FnScope N ps (defScope st)) (hl : ps.length ≤ N.length)
    (body : ∀ (cdv : Value) (A : Around) (outer : List Env) (s : Shared) (H : Hp) (E : XK), Room k (A.deeper (envOfC qual (defScope st) s.heap.objs.size f cdv)) →
      PassesOwn (model P w) (cxOf (L2.CX P w) P w K mg base N qual (defScope st) f cdv A outer s H E).A (cxOf (L2.CX P w) P w K mg base N qual (defScope st) f cdv A outer s H E).env (cxOf (L2.CX P w) P w K mg base N qual (defScope st) f cdv A outer s H E).xe → ∀ ws : List W, ws.length = ps.length →
      SM (cxOf (L2.CX P w) P w K mg base N qual (defScope st) f cdv A outer s H E) (noR N.length) (defBody st) (rhoW ws (N.length - ps.length)) (mb ws) g) :
    FnOk P w K mg base (L2.CX P w) (k + 1) f fd ps (spM K w mg ps.length fun ws => finM (mb ws)) := by
  refine FunY.okX F S (fun vs H Q E h => ?_) (fun cdv A outer s H vs Q E hr h => ?_)
  · obtain ⟨φ, hs, Ho, Hk, ws, P', Ex', h1, _, h2, _⟩ := h
    rw [VRs.len h2, h1]
  · obtain ⟨φ, hs, Ho, Hk, ws, P', Ex', h1, I, h2, s1, q1, q2⟩ := h
    refine ⟨_, pss_s, body cdv A outer s H E hr (passes_of rfl) ws h1 (Wx := fun cls d _ H => E cls d H) ⟨takes_of rfl rfl rfl rfl, I, start_sr h2 h1 hl, le_noR (rhoW_len h1 hl), fun x hs' C d φ' Hk' Hr' σ' e I' ee a _ => q2 x hs' C d φ' Hk' Hr' e I' ee a⟩ (sat_bind s1) _ (fun a hs' φ' Hk' Hr' σ' hp p' e' => ?_) (fun w hs' v φ' Hk' Hr' hp I' e' hv => ?_)⟩
    · exact q1 _ hs' .non φ' Hk' Hr' hp p'.I e' (.dat .non)
    · exact q1 w hs' v φ' Hk' Hr' hp I' e' hv
/-- where nothing is raised: the law -/
def spM0 (K : PySem.W.Frag) (wd : World) (n : Nat) (mf : List W → M W) : Sp := fun vs H Q _ => ∃ (φ : List Addr) (hs : Hs) (Ho Hk : Hp) (ws : List W) (P : W → Hs → Prop), ws.length = n ∧ Ok K wd φ hs Ho Hk H ∧ VRs K wd φ Hk ws vs ∧ (mf ws hs).sat P FF ∧
  (∀ w hs' v φ' Hk' H', P w hs' → Ok K wd φ' hs' Ho Hk' H' → Ex φ Hk φ' Hk' → VR K wd φ' Hk' w v → Q v H')
theorem defM0 {mb : List W → M (Res W Unit)} {g : Unit → Rho} (F : Fun K x qual st f fd) (S : FnScope N ps (defScope st)) (hl : ps.length ≤ N.length)
    (body : ∀ (cdv : Value) (A : Around) (outer : List Env) (s : Shared) (H : Hp) (E : XK), Room k (A.deeper (envOfC qual (defScope st) s.heap.objs.size f cdv)) →
      PassesOwn (model P w) (cxOf CX0 P w K mg base N qual (defScope st) f cdv A outer s H E).nox.A (cxOf CX0 P w K mg base N qual (defScope st) f cdv A outer s H E).nox.env (cxOf CX0 P w K mg base N qual (defScope st) f cdv A outer s H E).nox.xe → ∀ ws : List W, ws.length = ps.length →
      SM (cxOf CX0 P w K mg base N qual (defScope st) f cdv A outer s H E).nox (noR N.length) (defBody st) (rhoW ws (N.length - ps.length)) (mb ws) g) :
    FnOk P w K mg base CX0 (k + 1) f fd ps (spM0 K w ps.length fun ws => finM (mb ws)) := by
  refine F.ok S (fun vs H Q E h => ?_) (fun cdv A outer s H vs Q E hr h => ?_)
  · obtain ⟨φ, hs, Ho, Hk, ws, P', h1, _, h2, _⟩ := h
    rw [VRs.len h2, h1]
  · obtain ⟨φ, hs, Ho, Hk, ws, P', h1, I, h2, s1, q1⟩ := h
    have b : SM _ _ _ _ _ _ := fun {Wx E' P hs φ Ho Hk Hr σ} => body cdv A outer s H E hr PassesOwn.never ws h1 (Wx := Wx) (P := P) (hs := hs) (φ := φ) (Ho := Ho) (Hk := Hk) (Hr := Hr) (σ := σ)
    refine ⟨_, pss_s, b (Wx := fun _ _ _ _ => False) (E := FF) ⟨takes0, I, start_sr h2 h1 hl, le_noR (rhoW_len h1 hl), fun x hs' C d φ' Hk' Hr' σ' e => e.elim⟩ (sat_bind s1) _ (fun a hs' φ' Hk' Hr' σ' hp p' e' => ?_) (fun w hs' v φ' Hk' Hr' hp I' e' hv => ?_)⟩
    · exact q1 _ hs' .non φ' Hk' Hr' hp p'.I e' (.dat .non)
    · exact q1 w hs' v φ' Hk' Hr' hp I' e' hv
theorem FnOk.bad {CX : CXT} {n : Nat} (fl : ps.length = n) : FnOk P w K mg base CX k f fd ps (spM K w mg n fun _ => fun _ => .bad) :=
  ⟨fun vs H Q E h => by obtain ⟨φ, hs, Ho, Hk, ws, P', Ex', h1, I, h2, s1, q1, q2⟩ := h; exact s1.elim, fun A outer s H args us vs Q E hr he hb hv h => by obtain ⟨φ, hs, Ho, Hk, ws, P', Ex', h1, I, h2, s1, q1, q2⟩ := h; exact s1.elim⟩
/-- a def that raises nothing, for callers that may -/
theorem FnOk.x0 {sp : Sp} (F : FnOk P w K mg base CX0 k f fd ps sp) : FnOk P w K mg base (L2.CX P w) k f fd ps sp :=
  ⟨F.len, fun A outer s H args us vs Q E hr he hb hv hs => codeAny_mono (F.run A outer s H args us vs Q E hr he hb hv hs) fun r s' h => by
    cases r with
    | error e => exact (show False from h).elim
    | ok fl => cases fl <;> exact h⟩
end
structure CalM (P : Program) (w : World) (K : PySem.W.Frag) (mg : Str → Option Value) (base : Heap) (k : Nat) (x : Str) (ps : List Str) (n : Nat) (m : List W → M W) : Prop where
  ex : ∃ (f : Addr) (fd : FuncData), FnOk P w K mg base (L2.CX P w) k f fd ps (spM K w mg n m) ∧ mg x = some (.ref f) ∧ PySem.W.keepIn K (.ref f) = true ∧ Binds K fd ps []
def callM (n : Nat) (ma : M (List W)) (m : List W → M W) : M W := bd ma fun ws => bd (lf (gd (Nat.beq ws.length n) (some ()))) fun _ => m ws
section
variable {X : Cx} {ρ : Rho} {e : Expr} {es : List Expr} {ma : M (List W)} {m : List W → M W} {k n : Nat} {x : Str} {ps : List Str} {p0 pos : Pos}
theorem em_call (cl : CalM X.prog X.w X.K X.mg X.base k x ps n m) (hr : Room k X.A) (ha : AM X (e :: es) ρ ma) (hg : Gl X x := by rfl) (hdb : (x == ("__debug__" : Str)) = false := by decide) (he : starEach (e :: es) X.env = (false, eval e X.env) :: starEach es X.env := by rfl) (hpl : (backTo pos (starEach es X.env)).any (·.1) = false := by rfl) :
    EM X (.Call (.Name x p0) (e :: es) [] pos) ρ (callM n ma m) := fun p s Q q => by
  obtain ⟨f, fd, F, hm, hk, hb⟩ := cl.ex
  refine sE_of (pe_callS F hr hg hm hk hb (fun σ => passAt p.tk σ) pa_s hdb he hpl) (ha p (sat_bind s) _ fun ws h1 vs φ1 Hk1 Hr1 s1 p1 e1 hvs => ?_)
  obtain ⟨_, hn, s2⟩ := sat_lf (sat_bind s1)
  exact ⟨φ1, h1, _, Hk1, ws, _, _, Nat.eq_of_beq_eq_true (gd_some hn).1, p1.I, hvs, s2, fun w hs' v φ' Hk' H' hp I e hv => q w hs' v φ' Hk' H' hp (p1.go I e) (e1.trans e) hv, fun x hs' C d φ' Hk' H' hp I e ha => p1.x x hs' C d φ' Hk' H' hp I e ha⟩
end
def mState (ws : List W) : M W := fun h => match ws with
  | [.scr] => .ok (.ref h.nx) (h.new .st)
  | _ => .bad
def mTake (ws : List W) : M W := fun h => match ws with
  | [.ref i, .dat (.int m)] => match h.get i with
    | some .st => match decide (0 < m) && decide (m < 1000000) with
      | true => .draw m.toNat fun v => .ok (.dat (.int (v : Nat))) h
      | false => .bad
    | _ => .bad
  | _ => .bad
section
variable {P : Program} {w : World} {K : PySem.W.Frag} {wd : World} {mg : Str → Option Value} {base : Heap} {f : Addr} {fd : FuncData} {ps : List Str} {k : Nat}
theorem fn_state {φ : List PyData → List Int → Prop} (hφ : ∀ ns : List Int, ∃ s t, φ [.list (ns.map .int)] [s, t]) (F : FnOk P w K mg base CX0 k f fd ps (spN K 1 φ)) : FnOk P w K mg base (L2.CX P w) k f fd ps (spM K w mg 1 mState) :=
  FnOk.x0 (F.imp fun vs H Q E h => by
    obtain ⟨ph, hs, Ho, Hk, ws, P', Ex', h1, I, h2, s1, q1, q2⟩ := h
    unfold mState at s1
    split at s1
    · cases h2 with
      | cons h2 h3 =>
        cases h3
        cases h2 with
        | scr hl hd =>
          rename_i v ns
          obtain ⟨s, t, hst⟩ := hφ ns
          refine ⟨Hk, [.list (ns.map .int)], [s, t], hst, rfl, I.kr, .cons hd .nil, fun p H' e np hp => ?_⟩
          have I2 : Ok K w (ph ++ [p]) (hs.new .st) Ho Hk H' := I.new np e ⟨s, t, hp⟩
          refine q1 _ _ (.ref p) (ph ++ [p]) Hk H' s1 I2 ⟨Fx.app, Same.refl _⟩ (.ref ?_)
          rw [← I.len]
          simp
    · exact s1.elim)
theorem fn_take {φ : List PyData → List PyData → PyData → List PyData → Prop} (hφ : ∀ s t m : Int, 0 < m → m < 1000000 → ∃ (v : Nat) (s' t' : Int), (v : Int) < m ∧ φ [.int s, .int t] [.int m] (.int (v : Nat)) [.int s', .int t']) (F : FnOk P w K mg base CX0 k f fd ps (spB K 1 φ)) : FnOk P w K mg base (L2.CX P w) k f fd ps (spM K w mg 2 mTake) :=
  FnOk.x0 (F.imp fun vs H Q E h => by
    obtain ⟨ph, hs, Ho, Hk, ws, P', Ex', h1, I, h2, s1, q1, q2⟩ := h
    unfold mTake at s1
    split at s1
    · rename_i i m
      cases h2 with
      | cons h2 h3 =>
        cases h2 with
        | ref ha =>
          cases h3 with
          | cons h3 h4 =>
            cases h4
            cases h3 with
            | dat h3 =>
              cases h3
              cases g : hs.get i with
              | none => rw [g] at s1; exact s1.elim
              | some o =>
                rw [g] at s1
                cases o with
                | st =>
                  obtain ⟨a, r1, r2, r3, s, t, r4⟩ := I.obj i _ g
                  rw [ha] at r1
                  cases r1
                  cases z : (decide (0 < m) && decide (m < 1000000)) with
                  | false => simp only [z] at s1; exact s1.elim
                  | true =>
                    simp only [z] at s1
                    rw [Bool.and_eq_true] at z
                    obtain ⟨v, s', t', hv, hst⟩ := hφ s t m (of_decide_eq_true z.1) (of_decide_eq_true z.2)
                    refine ⟨Hk, _, [.int m], [.int s, .int t], [.int s, .int t], [.int m], .int (v : Nat), [.int s', .int t'], hst, rfl, rfl, r4, r2, I.kr, .cons (.int _) (.cons (.int _) .nil), .cons (.int _) .nil, fun vv H' us' far hus hdp hdv => ?_⟩
                    cases hdv
                    have e1 := DpAll.ints (ns := [s', t']) hdp
                    subst e1
                    have s2 : P' (.dat (.int (v : Nat))) hs := s1 v (by omega)
                    refine q1 _ hs (.int (v : Nat)) ph Hk H' s2 ⟨fun b o hb => far b o (ne_of_none hb r2) (I.kr _ _ hb), fun b o hb => far b o (ne_of_none hb r3) (I.out _ _ hb), I.len, I.low, fun j o hj => ?_, I.inj, I.dis⟩ Ex.refl (.dat (.int _))
                    obtain ⟨b, t1, t2, t3, t4⟩ := I.obj j o hj
                    refine ⟨b, t1, t2, t3, ?_⟩
                    by_cases q : j = i
                    · subst q
                      rw [g] at hj
                      cases hj
                      rw [ha] at t1
                      cases t1
                      exact ⟨s', t', hus⟩
                    · exact t4.mono Fx.refl (Same.refl _) fun u hu => far b u (fun z => q (I.inj j i b (by rw [hj]; exact fun z => nomatch z) (by rw [g]; exact fun z => nomatch z) t1 (by rw [z]; exact ha))) hu
                | _ => exact s1.elim
    · exact s1.elim)
/-- the law's own promise -/
theorem law_M {m : List W → M W} (hm : (m [.scr] ⟨0, []⟩).sat (fun w _ => w = .dat (.bool true)) FF) (F : FnOk P w K mg base CX0 k f fd ["script"] (spM0 K w 1 m)) : FnOk P w K mg base CX0 k f fd ["script"] (spLaw K) :=
  F.imp fun vs H Q E h => by
    obtain ⟨a, ns, rfl, hs, hl, q⟩ := h
    refine ⟨[], ⟨0, []⟩, fun _ => none, H, [.scr], _, rfl, ⟨Same.refl _, fun _ _ z => (nomatch z), rfl, fun i o z => (nomatch z), fun i o z => (nomatch z), fun i j a z => absurd rfl z, fun _ _ z => (nomatch z)⟩, .cons (.scr hl (.lst hs (DpAll.of_ints ns))) .nil, hm, fun w hs' v φ' Hk' H' hw _ _ hv => ?_⟩
    subst hw
    cases hv with
    | dat hv =>
      cases hv
      exact q H'
end
end Hx
noncomputable section
namespace Hx
open PySem L2 Pd Gn PySem.Spec PyProof.Rows Zq
def GWx (g : TG) (vs : List Nat) : Prop := ∀ v τ H (Q : L2.St → Hp → Prop), (g v τ H fun σ2 H2 => wipe σ2 vs = wipe τ vs → Q σ2 H2) → g v τ H fun σ2 H2 => wipe σ2 vs = wipe τ vs ∧ Q σ2 H2
def GWxs (g : TGs) (vs : List Nat) : Prop := ∀ us τ H (Q : L2.St → Hp → Prop), (g us τ H fun σ2 H2 => wipe σ2 vs = wipe τ vs → Q σ2 H2) → g us τ H fun σ2 H2 => wipe σ2 vs = wipe τ vs ∧ Q σ2 H2
theorem gwx_name {n : Nat} {vs : List Nat} (h : n ∈ vs) : GWx (gName n) vs := fun v τ H Q q => ⟨wipe_set h, q (wipe_set h)⟩
theorem gwxs_nil {vs : List Nat} : GWxs gNil vs := fun us τ H Q q => ⟨q.1, rfl, q.2 rfl⟩
/-- the wish may be weakened -/
def MonG (g : TG) : Prop := ∀ v τ H (Q Q' : L2.St → Hp → Prop), (∀ σ2 H2, Q σ2 H2 → Q' σ2 H2) → g v τ H Q → g v τ H Q'
def MonGs (g : TGs) : Prop := ∀ v τ H (Q Q' : L2.St → Hp → Prop), (∀ σ2 H2, Q σ2 H2 → Q' σ2 H2) → g v τ H Q → g v τ H Q'
theorem mon_name {n : Nat} : MonG (gName n) := fun v τ H Q Q' h q => h _ _ q
theorem mons_nil : MonGs gNil := fun v τ H Q Q' h q => ⟨q.1, h _ _ q.2⟩
theorem mons_cons {g : TG} {ts : TGs} (m1 : MonG g) (m2 : MonGs ts) : MonGs (gCons g ts) := fun vs τ H Q Q' h q => by
  obtain ⟨v, r, e, q⟩ := q
  exact ⟨v, r, e, m1 _ _ _ _ _ (fun σ2 H2 q2 => m2 _ _ _ _ _ h q2) q⟩
theorem mon_tup {K : PySem.W.Frag} {n : Nat} {ts : TGs} (m : MonGs ts) : MonG (gTup K n ts) := fun v τ H Q Q' h q => by
  obtain ⟨a, xs, e, h1, h2, q⟩ := q
  exact ⟨a, xs, e, h1, h2, m _ _ _ _ _ h q⟩
theorem gwxs_cons {g : TG} {ts : TGs} {vs : List Nat} (w1 : GWx g vs) (m1 : MonG g) (w2 : GWxs ts vs) (m2 : MonGs ts) : GWxs (gCons g ts) vs := fun us τ H Q q => by
  obtain ⟨v, r, e, q⟩ := q
  refine ⟨v, r, e, ?_⟩
  refine m1 _ _ _ _ _ (fun σ2 H2 q2 => ?_) (w1 v τ H (fun σ2 H2 => wipe σ2 vs = wipe τ vs ∧ ts r σ2 H2 fun σ3 H3 => wipe σ3 vs = wipe τ vs → Q σ3 H3) (m1 _ _ _ _ _ (fun σ2 H2 q2 e2 => ⟨e2, q2⟩) q))
  obtain ⟨_, e2, q2⟩ := q2
  refine m2 _ _ _ _ _ (fun σ3 H3 q3 => ?_) (w2 r σ2 H2 Q (m2 _ _ _ _ _ (fun σ3 H3 q3 e3 => q3 (e3.trans e2)) q2))
  exact ⟨q3.1.trans e2, q3.2⟩
theorem gwx_tup {K : PySem.W.Frag} {n : Nat} {ts : TGs} {vs : List Nat} (w : GWxs ts vs) : GWx (gTup K n ts) vs := fun v τ H Q q => by
  obtain ⟨a, xs, e, h1, h2, q⟩ := q
  exact ⟨a, xs, e, h1, h2, w _ _ _ _ q⟩
theorem GWx.gw {g : TG} {vs : List Nat} (h : GWx g vs) (m : MonG g) : GW g vs := fun v σ H Q q => by
  refine m _ _ _ _ _ (fun σ2 H2 q2 => ?_) (h v (wipe σ vs) H Q (m _ _ _ _ _ (fun σ2 H2 q2 e => q2 (by rw [e, wipe_twice])) q))
  exact ⟨by rw [q2.1, wipe_twice], q2.2⟩
def pMulY : PyData → PyData → Option PyData
  | .int i, .int j => gd (inR (-18446744073709551615) 18446744073709551615 i) (some (.int (i * j)))
  | .tuple ds, .int k => gd (!ds.isEmpty && inR (-1000) 1000 k && Nat.ble ds.length 1000) (some (.tuple (List.replicate k.toNat ds).flatten))
  | _, _ => none
section
variable {X : Cx} {ρ : Rho} {a b e : Expr} {m m1 m2 : M W} {ml ml2 : M (List W)} {pos p0 p1 : Pos}
theorem mul_f : OF X (binaryOp .Mult) (l2 pMulY) := of_l2 fun x y d h => by
  unfold pMulY at h
  split at h
  · obtain ⟨g1, g2⟩ := gd_some h
    obtain ⟨g3, g4⟩ := inR_at g1
    cases g2; exact ⟨_, op_mul, rd_int (.inl ⟨by omega, by omega⟩)⟩
  · obtain ⟨g1, g2⟩ := gd_some h
    rw [Bool.and_eq_true, Bool.and_eq_true] at g1
    obtain ⟨⟨q1, q2⟩, q3⟩ := g1
    obtain ⟨g3, g4⟩ := inR_at q2
    have hn : ∀ {ds : List PyData}, (!ds.isEmpty) = true → ds ≠ [] := fun h z => by subst z; cases h
    cases g2
    rename_i ds k
    by_cases hk : k ≤ 1
    · exact ⟨_, op_times, rd_times (hn q1) ⟨g3, hk⟩⟩
    · exact ⟨_, op_repT, rd_rep (hn q1) ⟨by omega, g4, Nat.le_of_ble_eq_true q3⟩⟩
  · cases h
theorem _root_.Hx.Ok.unout {K : PySem.W.Frag} {wd : World} {φ : List Addr} {hs : Hs} {Ho Hk Hr : Hp} {p : Addr} {u : HO} (I : Ok K wd φ hs (upd Ho p u) Hk Hr) (no : Ho p = none) : Ok K wd φ hs Ho Hk Hr := by
  refine ⟨I.kr, fun b o g => I.out _ _ (same_upd no b o g), I.len, I.low, fun i o g => ?_, I.inj, fun b o g => I.dis b o (same_upd no b o g)⟩
  obtain ⟨a, q1, q2, q3, q4⟩ := I.obj i o g
  have ne : a ≠ p := fun z => by rw [z, upd_same] at q3; cases q3
  rw [upd_ne ne] at q3
  exact ⟨a, q1, q2, q3, q4⟩
theorem _root_.Hx.Pt.out {Wx : WX} {E : Xc → Hs → Prop} {hs hs' : Hs} {φ φ' : List Addr} {Ho Hk Hk' Hr Hr' : Hp} {σ : L2.St} {q : Addr} {u : HO} (p : Pt X Wx E ρ hs φ Ho Hk Hr σ) (I : Ok X.K X.w φ' hs' (upd Ho q u) Hk' Hr') (no : Ho q = none) (e : Ex φ Hk φ' Hk') : Pt X Wx E ρ hs' φ' (upd Ho q u) Hk' Hr' σ :=
  ⟨p.tk, I, p.R.ex e, fun x hs'' C d φ'' Hk'' Hr'' h I' e' a => p.x x hs'' C d φ'' Hk'' Hr'' h (I'.unout no) (e.trans e') a⟩
end
end Hx
noncomputable section
namespace Hx
open PySem L2 Pd Gn PySem.Spec PyProof.Rows Zq
theorem ty_tupS {K : PySem.W.Frag} {H : Hp} {a : Addr} {vs : List V} (hs : SqT K H a vs) : TyX K H (.ref a) (.type "tuple") := by
  rcases hs with (h | ⟨o, h⟩) | h
  · exact .base (.tup h)
  · exact .fTuple h
  · obtain ⟨o, its, n, ho, hc, _⟩ := h
    exact .kTuple ho hc
theorem ty_lstS {K : PySem.W.Frag} {H : Hp} {a : Addr} {vs : List V} (hs : SqL K H a vs) : TyX K H (.ref a) (.type "list") := by
  rcases hs with (h | ⟨o, h⟩) | h
  · exact .base (.lst h)
  · exact .base (.frz h)
  · obtain ⟨o, its, n, ho, hc, _⟩ := h
    exact .kList ho hc
section
variable {X : Cx} {ρE ρ : Rho} {a b e o ix t : Expr} {es : List Expr} {rest body : List Stmt} {m m1 m2 m3 : M W} {ma : M (List W)} {p0 p1 p2 p3 px pr pos cpos tpos : Pos} {α β : Type} {g : α → Rho} {n i k1 k2 : Nat} {x y : Str}
def isiW (f : PyData → Option Bool) (h : Hs) : W → Option Bool
  | .dat d => f d
  | .tup _ => f (.tuple [])
  | .lst _ => f (.list [])
  | .ref i => match h.get i with | some (.lst _) => f (.list []) | _ => none
  | _ => none
def isiM (f : PyData → Option Bool) (m : M W) : M W := bd m fun w => fun h => lf ((isiW f h w).map fun k => .dat (.bool k)) h
theorem em_isi {T : String} {f : PyData → Option Bool} (hf : ∀ d r, f d = some r → kitB (tyN d) T = some r) (hn : ∀ d, f (.dict d) = none) (ha : EM X e ρ m) (h : PE X (.Call (.Name "isinstance" p0) [e, t] [] pos) (tCB (rIsi X.K) (tCons (sE X e) (tCons (tC (.ty T)) tNil)))) : EM X (.Call (.Name "isinstance" p0) [e, t] [] pos) ρ (isiM f m) := fun p s Q q => by
  refine sE_of h (ha p (sat_bind s) _ fun w h1 v φ1 Hk1 Hr1 s1 p1 e1 hv => ?_)
  obtain ⟨kw, hkw, s2⟩ := sat_lf s1
  obtain ⟨k, hk, hkw⟩ := mpd hkw
  subst hkw
  have fin : ∀ ty : String, TyX X.K Hr1 v (.type ty) → kitB ty T = some k → rIsi X.K [v, .ty T] Hr1 Q := fun ty hty hkk =>
    ⟨v, .ty T, .type ty, .type T, k, rfl, .ty T, hty, kit_ty hkk, q _ _ _ _ _ _ s2 p1 e1 (.dat (.bl _))⟩
  cases w with
  | dat d =>
    have hk : f d = some k := hk
    cases hv with
    | dat hd =>
      have hd := Dp.mono p1.I.kr _ hd
      cases d with
      | none => exact fin _ (ty_scal hd rfl) (hf _ _ hk)
      | bool b => exact fin _ (ty_scal hd rfl) (hf _ _ hk)
      | int b => exact fin _ (ty_scal hd rfl) (hf _ _ hk)
      | str b => exact fin _ (ty_scal hd rfl) (hf _ _ hk)
      | tuple b => exact fin _ (ty_tup hd) (hf _ _ hk)
      | list b => exact fin _ (ty_lst hd) (hf _ _ hk)
      | dict b => rw [hn] at hk; cases hk
  | tup ws =>
    cases hv with
    | tup hs _ => exact fin _ (ty_tupS (same_t p1.I.kr hs)) (hf _ _ hk)
  | lst ws =>
    cases hv with
    | lst hs _ => exact fin _ (ty_lstS (same_l p1.I.kr hs)) (hf _ _ hk)
  | ref i =>
    have hk : (match h1.get i with | some (.lst _) => f (.list []) | _ => none) = some k := hk
    cases g : h1.get i with
    | none => rw [g] at hk; cases hk
    | some u =>
      rw [g] at hk
      cases u with
      | lst ws =>
        cases hv with
        | ref ha =>
          obtain ⟨vs, t1, t2⟩ := at_lst p1.I g ha
          exact fin _ (ty_lstS (.inl (.inl t1))) (hf _ _ hk)
      | _ => cases hk
  | _ => cases hk
theorem isiC {T : String} {ty : Str} (hm : X.mg "isinstance" = none) (hm2 : X.mg ty = none) (hb : bootBuiltins ty = some (.type T)) (hnn : ty ≠ ("__name__" : Str)) (hd : (ty == ("__debug__" : Str)) = false) (hg : Gl X "isinstance") (hg2 : Gl X ty) (he : starEach [e, .Name ty tpos] X.env = (false, eval e X.env) :: starEach [.Name ty tpos] X.env) (he2 : starEach [.Name ty tpos] X.env = (false, eval (.Name ty tpos) X.env) :: starEach [] X.env) (hpl : (backTo pos (starEach [.Name ty tpos] X.env)).any (·.1) = false) :
    PE X (.Call (.Name "isinstance" p0) [e, .Name ty tpos] [] pos) (tCB (rIsi X.K) (tCons (sE X e) (tCons (tC (.ty T)) tNil))) := pe_callB call_isi hg hm (by decide +kernel) (pa_cons pe_s (pa_cons (pe_bltn hg2 hm2 hb rfl hnn hd) pa_nil he2) he) (by decide) (by decide) he hpl
theorem em_isInt (hm : X.mg "isinstance" = none) (hm2 : X.mg "int" = none) (ha : EM X e ρ m) (hg : Gl X "isinstance" := by rfl) (hg2 : Gl X "int" := by rfl) (he : starEach [e, .Name "int" tpos] X.env = (false, eval e X.env) :: starEach [.Name "int" tpos] X.env := by rfl) (he2 : starEach [.Name "int" tpos] X.env = (false, eval (.Name "int" tpos) X.env) :: starEach [] X.env := by rfl) (hpl : (backTo pos (starEach [.Name "int" tpos] X.env)).any (·.1) = false := by rfl) :
    EM X (.Call (.Name "isinstance" p0) [e, .Name "int" tpos] [] pos) ρ (isiM isIntO m) := em_isi isInt_k (fun _ => rfl) ha (isiC hm hm2 (by decide +kernel) (by decide) (by decide) hg hg2 he he2 hpl)
theorem em_isBool (hm : X.mg "isinstance" = none) (hm2 : X.mg "bool" = none) (ha : EM X e ρ m) (hg : Gl X "isinstance" := by rfl) (hg2 : Gl X "bool" := by rfl) (he : starEach [e, .Name "bool" tpos] X.env = (false, eval e X.env) :: starEach [.Name "bool" tpos] X.env := by rfl) (he2 : starEach [.Name "bool" tpos] X.env = (false, eval (.Name "bool" tpos) X.env) :: starEach [] X.env := by rfl) (hpl : (backTo pos (starEach [.Name "bool" tpos] X.env)).any (·.1) = false := by rfl) :
    EM X (.Call (.Name "isinstance" p0) [e, .Name "bool" tpos] [] pos) ρ (isiM isBoolO m) := em_isi isBool_k (fun _ => rfl) ha (isiC hm hm2 (by decide +kernel) (by decide) (by decide) hg hg2 he he2 hpl)
theorem em_isTup (hm : X.mg "isinstance" = none) (hm2 : X.mg "tuple" = none) (ha : EM X e ρ m) (hg : Gl X "isinstance" := by rfl) (hg2 : Gl X "tuple" := by rfl) (he : starEach [e, .Name "tuple" tpos] X.env = (false, eval e X.env) :: starEach [.Name "tuple" tpos] X.env := by rfl) (he2 : starEach [.Name "tuple" tpos] X.env = (false, eval (.Name "tuple" tpos) X.env) :: starEach [] X.env := by rfl) (hpl : (backTo pos (starEach [.Name "tuple" tpos] X.env)).any (·.1) = false := by rfl) :
    EM X (.Call (.Name "isinstance" p0) [e, .Name "tuple" tpos] [] pos) ρ (isiM isTupO m) := em_isi isTup_k (fun _ => rfl) ha (isiC hm hm2 (by decide +kernel) (by decide) (by decide) hg hg2 he he2 hpl)
def asD : W → Option PyData
  | .dat d => some d
  | _ => none
theorem asD_eq {w : W} {d : PyData} (h : asD w = some d) : w = .dat d := by
  unfold asD at h
  split at h
  · cases h; rfl
  · cases h
def raiseM {β : Type} (c : Nat) (m : M W) : M β := bd m fun w => bd (lf (asD w)) fun d => fun h => .exc ⟨c, d⟩ h
theorem sm_raise {c : Nat} {fld p : Str} {C fI : Addr} {fd : FuncData} {k : Nat} (T : XCls X.K X.mg x fld C fI) (hxn : xName c = x) (hxf : xFld c = some fld) (F1 : FnOk X.prog X.w X.K X.mg X.base CX0 k fI fd [Str.ofString "self", p] (spI X.K C fld)) (hr : Room (k + 1) X.A) (hb : Binds X.K fd [Str.ofString "self", p] []) (he : EM X e ρ m)
    (hc : X.calm = true := by rfl) (hg : Gl X x := by rfl) (hdb : (x == ("__debug__" : Str)) = false := by decide) (hs : starEach [e] X.env = (false, eval e X.env) :: starEach [] X.env := by rfl) (hpl : (backTo cpos (starEach [] X.env)).any (·.1) = false := by rfl) :
    SM X ρE (.Raise (some (.Call (.Name x p0) [e] [] cpos)) none pos :: rest) ρ (raiseM c m : M (Res W α)) g := fun ps s D nx r =>
  sSs_of (pss_cons (ps_raise hc ps.tk (pmk_oex T.T T.iC T.tI F1 hr hb .nil pass0 hg T.gC pa_s hdb hs hpl)) pss_s) (sA_of (pa_cons pe_s pa_nil hs) (he ps.pt (sat_bind s) _ fun w h1 v φ1 Hk1 Hr1 s1 p1 e1 hv => by
    obtain ⟨d, hd, s2⟩ := sat_lf (sat_bind s1)
    have := asD_eq hd
    subst this
    cases hv with
    | dat hv =>
      refine ⟨by show 1 ≤ 1000; decide, fun a ha => ⟨a, v, rfl, upd_same, fun dx n ne => ⟨rfl, dx, [(fld, v)], upd_same, by rw [upd_ne ne, upd_same], ?_, ?_⟩⟩⟩
      · rw [upd_ne ne] at n
        exact n
      · rw [upd_ne ne] at n
        have far : Same Hr1 (upd (del (upd (upd (upd Hr1 a (exo a C none)) dx (exd dx [(fld, v)])) a (exo a C (some dx))) a) dx (.xd [(fld, v)])) := fun b o hb' => by
          have n1 : b ≠ a := ne_of_none hb' ha
          have n2 : b ≠ dx := ne_of_none hb' n
          rw [upd_ne n2, del_ne n1, upd_ne n1, upd_ne n2, upd_ne n1]
          exact hb'
        have eg := Ex.gro (φ := φ1) p1.I.kr (H2 := upd (del (upd (upd (upd Hr1 a (exo a C none)) dx (exd dx [(fld, v)])) a (exo a C (some dx))) a) dx (.xd [(fld, v)]))
        have P2 := ps.of p1 e1
        refine P2.x ⟨c, d⟩ h1 C (some dx) φ1 _ _ _ s2 (p1.I.gro far) eg ⟨by rw [hxn]; exact T.gC, ?_⟩ (ps.sub.sr (p1.R.ex eg))
        show match xFld c with | some f => _ | none => _
        rw [hxf]
        exact ⟨dx, v, rfl, upd_same, Dp.mono (fun b o hb' => far b o (p1.I.kr _ _ hb')) _ hv⟩))
end
def T.at {α : Type} : T α → Nat → T α
  | .draw _ k, v => k v
  | _, _ => .bad
mutual
def noref : W → Bool
  | .dat _ => true
  | .ref _ => false
  | .tup ws => norefs ws
  | .lst ws => norefs ws
  | .ins _ fs => norefs fs
  | .scr => true
  | .dct kvs => norefD kvs
  | .tpx _ => true
def norefs : List W → Bool
  | [] => true
  | w :: ws => match noref w with | true => norefs ws | false => false
def norefD : List (NestedKey × W) → Bool
  | [] => true
  | p :: r => match norefP p with | true => norefD r | false => false
def norefP : NestedKey × W → Bool
  | (_, w) => noref w
end
mutual
theorem VR.nr {K : PySem.W.Frag} {wd : World} {φ φ' : List Addr} {H : Hp} : ∀ {w : W} {v : V}, noref w = true → VR K wd φ H w v → VR K wd φ' H w v
  | _, _, e, .dat h => .dat h
  | _, _, e, .ref h => by simp [noref] at e
  | _, _, e, .tup h g => .tup h (VRs.nr (by simpa [noref] using e) g)
  | _, _, e, .ins h1 h2 h3 g => .ins h1 h2 h3 (VRs.nr (by simpa [noref] using e) g)
  | _, _, e, .lst h g => .lst h (VRs.nr (by simpa [noref] using e) g)
  | _, _, e, .scr h g => .scr h g
  | _, _, e, .dct h g => .dct h (DRs.nr (by simpa [noref] using e) g)
  | _, _, e, .tpx h d g => .tpx h d g
theorem VRs.nr {K : PySem.W.Frag} {wd : World} {φ φ' : List Addr} {H : Hp} : ∀ {ws : List W} {vs : List V}, norefs ws = true → VRs K wd φ H ws vs → VRs K wd φ' H ws vs
  | _, _, e, .nil => .nil
  | w :: ws, _, e, .cons h g => by
    unfold norefs at e
    cases z : noref w with
    | false => rw [z] at e; cases e
    | true =>
      rw [z] at e
      exact .cons (VR.nr z h) (VRs.nr e g)
theorem DRs.nr {K : PySem.W.Frag} {wd : World} {φ φ' : List Addr} {H : Hp} : ∀ {kvs : List (NestedKey × W)} {es : List (NestedKey × Addr × V)}, norefD kvs = true → DRs K wd φ H kvs es → DRs K wd φ' H kvs es
  | _, _, e, .nil => .nil
  | (k, w) :: kvs, _, e, .cons h1 h2 h3 h4 => by
    unfold norefD norefP at e
    cases z : noref w with
    | false => simp only [z] at e; cases e
    | true =>
      simp only [z] at e
      exact .cons h1 h2 (VR.nr z h3) (DRs.nr e h4)
end
def isoT (h : Hs) : T W → T W
  | .ok w _ => match noref w with | true => .ok w h | false => .bad
  | .exc x _ => .exc x h
  | .draw n k => .draw n fun v => isoT h (k v)
  | .bad => .bad
theorem sat_iso {h : Hs} {P : W → Hs → Prop} {E : Xc → Hs → Prop} : ∀ {t : T W}, (isoT h t).sat P E → t.sat (fun w _ => noref w = true ∧ P w h) (fun x _ => E x h)
  | .ok w _, s => by
    have s : (match noref w with | true => T.ok w h | false => T.bad : T W).sat P E := s
    cases z : noref w with
    | true => rw [z] at s; exact ⟨z, s⟩
    | false => rw [z] at s; exact s.elim
  | .exc x _, s => s
  | .draw n k, s => fun v hv => sat_iso (t := k v) (s v hv)
  | .bad, s => s
def normI {β : Type} (i : Int) (k : Int → β) : β := match i with
  | .ofNat n => match n with
    | 0 => k (.ofNat 0)
    | p + 1 => k (.ofNat (p + 1))
  | .negSucc n => match n with
    | 0 => k (.negSucc 0)
    | p + 1 => k (.negSucc (p + 1))
theorem normI_eq {β : Type} {i : Int} {k : Int → β} : normI i k = k i := by
  cases i with
  | ofNat n => cases n <;> rfl
  | negSucc n => cases n <;> rfl
mutual
def normD {β : Type} : PyData → (PyData → β) → β
  | .none, k => k .none
  | .bool b, k => match b with | true => k (.bool true) | false => k (.bool false)
  | .int i, k => normI i fun j => k (.int j)
  | .str x, k => k (.str x)
  | .tuple ds, k => normDs ds fun es => k (.tuple es)
  | .list ds, k => normDs ds fun es => k (.list es)
  | .dict ds, k => k (.dict ds)
def normDs {β : Type} : List PyData → (List PyData → β) → β
  | [], k => k []
  | d :: ds, k => normD d fun e => normDs ds fun es => k (e :: es)
end
mutual
theorem normD_eq {β : Type} : ∀ {d : PyData} {k : PyData → β}, normD d k = k d
  | .none, k => by simp only [normD]
  | .bool b, k => by simp only [normD]; cases b <;> rfl
  | .int i, k => by simp only [normD]; exact normI_eq
  | .str x, k => by simp only [normD]
  | .tuple ds, k => by simp only [normD]; exact normDs_eq
  | .list ds, k => by simp only [normD]; exact normDs_eq
  | .dict ds, k => by simp only [normD]
theorem normDs_eq {β : Type} : ∀ {ds : List PyData} {k : List PyData → β}, normDs ds k = k ds
  | [], k => by simp only [normDs]
  | d :: ds, k => by
    simp only [normDs]
    rw [normD_eq, normDs_eq]
end
def normW {β : Type} (w : W) (k : W → β) : β := match w with
  | .dat d => normD d fun e => k (.dat e)
  | w => k w
theorem normW_eq {β : Type} {w : W} {k : W → β} : normW w k = k w := by
  cases w with
  | dat d => exact normD_eq
  | _ => rfl
def normWs {β : Type} : List W → (List W → β) → β
  | [], k => k []
  | w :: ws, k => normW w fun e => normWs ws fun es => k (e :: es)
theorem normWs_eq {β : Type} : ∀ {ws : List W} {k : List W → β}, normWs ws k = k ws
  | [], k => rfl
  | w :: ws, k => by
    show normW w (fun e => normWs ws fun es => k (e :: es)) = _
    rw [normW_eq, normWs_eq]
def callI (n : Nat) (ma : M (List W)) (m : List W → M W) : M W := bd ma fun ws => bd (lf (gd (Nat.beq ws.length n && norefs ws) (some ()))) fun _ => fun h => normWs ws fun ws => isoT h (m ws ⟨0, []⟩)
open Classical in
noncomputable def isoO (φ : List Addr) (hs : Hs) (Ho Hr : Hp) : Hp := fun b => if ∃ i o, hs.get i = some o ∧ φ[i]? = some b then Hr b else Ho b
section
variable {K : PySem.W.Frag} {wd : World} {φ φ' : List Addr} {hs hs' : Hs} {Ho Hk Hk' Hr Hr' : Hp}
theorem isoO_in {i : Nat} {o : Ob} {a : Addr} (h : hs.get i = some o) (ha : φ[i]? = some a) : isoO φ hs Ho Hr a = Hr a := if_pos ⟨i, o, h, ha⟩
theorem isoO_out {b : Addr} (I : Ok K wd φ hs Ho Hk Hr) {o : HO} (h : Ho b = some o) : isoO φ hs Ho Hr b = Ho b := if_neg fun ⟨i, u, h1, h2⟩ => by
  obtain ⟨a, q1, _, q3, _⟩ := I.obj i u h1
  rw [h2] at q1
  cases q1
  rw [h] at q3
  cases q3
theorem Ok.iso (I : Ok K wd φ hs Ho Hk Hr) : Ok K wd [] ⟨0, []⟩ (isoO φ hs Ho Hr) Hk Hr := by
  refine ⟨I.kr, fun b o g => ?_, rfl, fun i o z => (nomatch z), fun i o z => (nomatch z), fun i j a z => absurd rfl z, fun b o g => ?_⟩
  · by_cases q : ∃ i o, hs.get i = some o ∧ φ[i]? = some b
    · have e : isoO φ hs Ho Hr b = Hr b := if_pos q
      rw [e] at g; exact g
    · have e : isoO φ hs Ho Hr b = Ho b := if_neg q
      rw [e] at g; exact I.out _ _ g
  · by_cases q : ∃ i o, hs.get i = some o ∧ φ[i]? = some b
    · obtain ⟨i, u, h1, h2⟩ := q
      obtain ⟨a, q1, q2, _⟩ := I.obj i u h1
      rw [h2] at q1
      cases q1
      exact q2
    · have e : isoO φ hs Ho Hr b = Ho b := if_neg q
      rw [e] at g; exact I.dis _ _ g
theorem Ok.back (I : Ok K wd φ hs Ho Hk Hr) (J : Ok K wd φ' hs' (isoO φ hs Ho Hr) Hk' Hr') (e : Same Hk Hk') : Ok K wd φ hs Ho Hk' Hr' := by
  refine ⟨J.kr, fun b o g => J.out _ _ (by rw [isoO_out I g]; exact g), I.len, I.low, fun i o g => ?_, I.inj, fun b o g => J.dis b o (by rw [isoO_out I g]; exact g)⟩
  obtain ⟨a, q1, q2, q3, q4⟩ := I.obj i o g
  obtain ⟨u, hu⟩ := q4.there
  have eo : isoO φ hs Ho Hr a = some u := by rw [isoO_in g q1]; exact hu
  exact ⟨a, q1, J.dis a u eo, q3, q4.mono Fx.refl e fun v hv => J.out _ _ (by rw [isoO_in g q1]; exact hv)⟩
end
theorem em_callI {X : Cx} {ρ : Rho} {e : Expr} {es : List Expr} {ma : M (List W)} {m : List W → M W} {k n : Nat} {x : Str} {ps : List Str} {p0 pos : Pos} (cl : CalM X.prog X.w X.K X.mg X.base k x ps n m) (hr : Room k X.A) (ha : AM X (e :: es) ρ ma) (hg : Gl X x := by rfl) (hdb : (x == ("__debug__" : Str)) = false := by decide) (he : starEach (e :: es) X.env = (false, eval e X.env) :: starEach es X.env := by rfl) (hpl : (backTo pos (starEach es X.env)).any (·.1) = false := by rfl) :
    EM X (.Call (.Name x p0) (e :: es) [] pos) ρ (callI n ma m) := fun p s Q q => by
  obtain ⟨f, fd, F, hm, hk, hb⟩ := cl.ex
  refine sE_of (pe_callS F hr hg hm hk hb (fun σ => passAt p.tk σ) pa_s hdb he hpl) (ha p (sat_bind s) _ fun ws h1 vs φ1 Hk1 Hr1 s1 p1 e1 hvs => ?_)
  obtain ⟨_, hn, s2⟩ := sat_lf (sat_bind s1)
  have g := (gd_some hn).1
  rw [Bool.and_eq_true] at g
  rw [normWs_eq] at s2
  refine ⟨[], ⟨0, []⟩, _, Hk1, ws, _, _, Nat.eq_of_beq_eq_true g.1, p1.I.iso, VRs.nr g.2 hvs, sat_iso s2, fun w hs' v φ' Hk' H' hp I e hv => ?_, fun x hs' C d φ' Hk' H' hp I e ha => ?_⟩
  · have ee : Ex φ1 Hk1 φ1 Hk' := ⟨Fx.refl, e.k⟩
    exact q _ h1 v φ1 Hk' H' hp.2 (p1.go (p1.I.back I e.k) ee) (e1.trans ee) (VR.nr hp.1 hv)
  · have ee : Ex φ1 Hk1 φ1 Hk' := ⟨Fx.refl, e.k⟩
    exact p1.x x h1 C d φ1 Hk' H' hp (p1.I.back I e.k) ee ha
end Hx
noncomputable section
namespace Hx
open PySem L2 Pd Gn PySem.Spec PyProof.Rows Zq
mutual
def keyOf : PyData → Option NestedKey
  | .none => some .none
  | .int i => some (.num i)
  | .str x => some (.text x)
  | .tuple ds => (keysOf ds).map .tup
  | .bool _ => none
  | .list _ => none
  | .dict _ => none
def keysOf : List PyData → Option (List NestedKey)
  | [] => some []
  | d :: ds => (keyOf d).bind fun k => (keysOf ds).map fun ks => k :: ks
end
mutual
theorem keyOf_data : ∀ {d : PyData} {k : NestedKey}, keyOf d = some k → k.data = d
  | .none, k, h => by simp only [keyOf] at h; cases h; rfl
  | .int i, k, h => by simp only [keyOf] at h; cases h; rfl
  | .str x, k, h => by simp only [keyOf] at h; cases h; rfl
  | .tuple ds, k, h => by
    simp only [keyOf] at h
    obtain ⟨ks, h1, h2⟩ := mpd h
    subst h2
    show PyData.tuple (NestedKey.datas ks) = _
    rw [keysOf_data h1]
  | .bool _, k, h => by simp [keyOf] at h
  | .list _, k, h => by simp [keyOf] at h
  | .dict _, k, h => by simp [keyOf] at h
theorem keysOf_data : ∀ {ds : List PyData} {ks : List NestedKey}, keysOf ds = some ks → NestedKey.datas ks = ds
  | [], ks, h => by simp only [keysOf] at h; cases h; rfl
  | d :: ds, ks, h => by
    simp only [keysOf] at h
    obtain ⟨k, h1, h⟩ := bnd h
    obtain ⟨ks', h2, h⟩ := mpd h
    subst h
    show k.data :: NestedKey.datas ks' = _
    rw [keyOf_data h1, keysOf_data h2]
end
/-- a value as a key: a tuple -/
def tkey (w : W) : Option NestedKey := match w with
  | .dat (.tuple ds) => (keyOf (.tuple ds)).bind fun k => gd (Nat.ble k.depth 8) (some k)
  | _ => none
theorem tkey_ok {K : PySem.W.Frag} {wd : World} {φ : List Addr} {H : Hp} {w : W} {v : V} {k : NestedKey} (e : tkey w = some k) (h : VR K wd φ H w v) : ∃ b, v = .ref b ∧ Dp K H (.ref b) k.data ∧ k.depth ≤ 8 := by
  unfold tkey at e
  split at e
  · obtain ⟨k', h1, h2⟩ := bnd e
    obtain ⟨g1, g2⟩ := gd_some h2
    cases g2
    cases h with
    | dat h =>
      cases h with
      | tup hs ha => exact ⟨_, rfl, by rw [keyOf_data h1]; exact .tup hs ha, Nat.le_of_ble_eq_true g1⟩
  · cases e
abbrev EX : List (NestedKey × Addr × V) → List (NestedKey × Addr × Value) → Prop := Paired (fun (p : NestedKey × Addr × V) (q : NestedKey × Addr × Value) => p.1 = q.1 ∧ p.2.1 = q.2.1 ∧ RelV p.2.2 q.2.2)
section
variable {X : Cx} {pins : List (Addr × Obj)} {σ : L2.St} {H : Hp} {s : Shared} {φ : List Addr}
mutual
theorem nk_is (I : Inv X pins σ H s) : ∀ {k : NestedKey} {v : V} {u : Value}, Dp X.K H v k.data → RelV v u → NestedIs s.heap k u
  | .none, v, u, h, r => by
    have h : Dp X.K H v .none := h
    cases h
    have r : u = .none := r
    subst r
    exact .none
  | .num i, v, u, h, r => by
    have h : Dp X.K H v (.int i) := h
    cases h
    obtain ⟨t, rfl⟩ := r
    exact .int i t
  | .text i, v, u, h, r => by
    have h : Dp X.K H v (.str i) := h
    cases h
    obtain ⟨t, rfl⟩ := r
    exact .text i t
  | .tup ks, v, u, h, r => by
    have h : Dp X.K H v (.tuple (NestedKey.datas ks)) := h
    cases h with
    | tup hs ha =>
      have r : u = .ref _ := r
      subst r
      obtain ⟨its, rv, ⟨o, ho, hc, n, hd⟩, _⟩ := I.tuple hs
      exact .tup ho hc hd (by simpa using nks_is I ha rv)
theorem nks_is (I : Inv X pins σ H s) : ∀ {ks : List NestedKey} {vs : List V} {us : List Value}, DpAll X.K H vs (NestedKey.datas ks) → Vals vs us → NestedAll s.heap ks us
  | [], vs, us, h, r => by
    have h : DpAll X.K H vs [] := h
    cases h
    cases r
    exact .nil
  | k :: ks, vs, us, h, r => by
    have h : DpAll X.K H vs (k.data :: NestedKey.datas ks) := h
    cases h with
    | cons h1 h2 =>
      cases r with
      | cons r1 r2 => exact .cons (nk_is I h1 r1) (nks_is I h2 r2)
end
theorem key_is (I : Inv X pins σ H s) {k : NestedKey} {b : Addr} (h : Dp X.K H (.ref b) k.data) (hd : k.depth ≤ 8) : (nestedKind X.prog X.w).is s.heap k b := ⟨nk_is I h rfl, hd⟩
theorem ex_is (I : Inv X pins σ H s) : ∀ {kvs : List (NestedKey × W)} {es : List (NestedKey × Addr × V)} {xs : List (NestedKey × Addr × Value)}, DRs X.K X.w φ H kvs es → EX es xs → ∀ x ∈ xs, (nestedKind X.prog X.w).is s.heap x.1 x.2.1
  | _, _, _, .nil, .nil, x, hx => nomatch hx
  | _, _, _, .cons h1 h2 h3 h4, .cons (b := y) r1 r2, x, hx => by
    rcases List.mem_cons.mp hx with e | hx
    · subst e
      obtain ⟨q1, q2, q3⟩ := r1
      rw [← q1, ← q2]
      exact key_is I h2 h1
    · exact ex_is I h4 r2 x hx
theorem dic_rd (I : Inv X pins σ H s) {a : Addr} {kvs : List (NestedKey × W)} {es : List (NestedKey × Addr × V)} (e : Rd H a (DicO X.w a es)) (D : DRs X.K X.w φ H kvs es) : es.length ≤ sizeLine ∧ (a == sysModules) = false ∧ ∃ xs, EX es xs ∧ s.heap.DictOfH (nestedKind X.prog X.w) a xs := by
  obtain ⟨⟨z, y, xs, r, o, es', ep, h1, h2, h3, h4, h5⟩, _, _⟩ := (show ObjOk X.prog X.w H s.heap a (DicO X.w a es) from e.ok I.hok)
  exact ⟨z, y, xs, r, o, es', ep, h1, h2, h3, h4, ex_is I D r, h5⟩
end
def dLook (k : NestedKey) : List (NestedKey × W) → Option W
  | [] => none
  | (j, w) :: r => match NestedKey.beq j k with | true => some w | false => dLook k r
def dPut (k : NestedKey) (w : W) : List (NestedKey × W) → List (NestedKey × W)
  | [] => [(k, w)]
  | (j, u) :: r => match NestedKey.beq j k with | true => (j, w) :: r | false => (j, u) :: dPut k w r
def ePut (k : NestedKey) (b : Addr) (v : V) : List (NestedKey × Addr × V) → List (NestedKey × Addr × V)
  | [] => [(k, b, v)]
  | (j, c, u) :: r => match NestedKey.beq j k with | true => (j, c, v) :: r | false => (j, c, u) :: ePut k b v r
def xPut (k : NestedKey) (b : Addr) (v : Value) : List (NestedKey × Addr × Value) → List (NestedKey × Addr × Value)
  | [] => [(k, b, v)]
  | (j, c, u) :: r => match NestedKey.beq j k with | true => (j, c, v) :: r | false => (j, c, u) :: xPut k b v r
theorem beq_no {a b : NestedKey} (h : NestedKey.beq a b = false) : a ≠ b := fun e => by rw [e, NestedKey.beq_self] at h; cases h
theorem atKey_cons {x : NestedKey × Addr × Value} {xs : List (NestedKey × Addr × Value)} {k : NestedKey} : atKey (x :: xs) k = match NestedKey.beq x.1 k with | true => some x.2 | false => atKey xs k := by
  cases z : NestedKey.beq x.1 k with
  | true => simp [atKey, NestedKey.eq_of_beq _ _ z]
  | false => simp [atKey, beq_no z]
section
variable {K : PySem.W.Frag} {wd : World} {φ : List Addr} {H : Hp} {k : NestedKey} {w : W} {b : Addr} {v : V} {u : Value}
theorem look_some : ∀ {kvs : List (NestedKey × W)} {es : List (NestedKey × Addr × V)} {xs : List (NestedKey × Addr × Value)}, DRs K wd φ H kvs es → EX es xs → dLook k kvs = some w → ∃ p v, atKey xs k = some p ∧ RelV v p.2 ∧ VR K wd φ H w v
  | _, _, _, .nil, .nil, h => nomatch h
  | (j, w') :: _, _, _ :: _, .cons h1 h2 h3 h4, .cons ⟨q1, q2, q3⟩ r2, h => by
    have q1 : j = _ := q1
    unfold dLook at h
    rw [atKey_cons, ← q1]
    cases z : NestedKey.beq j k with
    | true =>
      rw [z] at h
      cases h
      exact ⟨_, _, rfl, q3, h3⟩
    | false =>
      rw [z] at h
      exact look_some h4 r2 h
theorem look_none : ∀ {kvs : List (NestedKey × W)} {es : List (NestedKey × Addr × V)} {xs : List (NestedKey × Addr × Value)}, DRs K wd φ H kvs es → EX es xs → dLook k kvs = none → atKey xs k = none
  | _, _, _, .nil, .nil, h => rfl
  | (j, w') :: _, _, _ :: _, .cons h1 h2 h3 h4, .cons ⟨q1, q2, q3⟩ r2, h => by
    have q1 : j = _ := q1
    unfold dLook at h
    rw [atKey_cons, ← q1]
    cases z : NestedKey.beq j k with
    | true => rw [z] at h; cases h
    | false =>
      rw [z] at h
      exact look_none h4 r2 h
theorem put_D (hd : k.depth ≤ 8) (hk : Dp K H (.ref b) k.data) (hw : VR K wd φ H w v) : ∀ {kvs : List (NestedKey × W)} {es : List (NestedKey × Addr × V)}, DRs K wd φ H kvs es → DRs K wd φ H (dPut k w kvs) (ePut k b v es)
  | _, _, .nil => .cons hd hk hw .nil
  | (j, w') :: _, _, .cons h1 h2 h3 h4 => by
    unfold dPut ePut
    cases z : NestedKey.beq j k with
    | true => exact .cons h1 h2 hw h4
    | false => exact .cons h1 h2 h3 (put_D hd hk hw h4)
theorem put_E (hr : RelV v u) : ∀ {es : List (NestedKey × Addr × V)} {xs : List (NestedKey × Addr × Value)}, EX es xs → EX (ePut k b v es) (xPut k b u xs)
  | _, _, .nil => .cons ⟨rfl, rfl, hr⟩ .nil
  | (j, c, v') :: _, (j', c', u') :: _, .cons ⟨q1, q2, q3⟩ r => by
    have q1 : j = j' := q1
    subst q1
    unfold ePut xPut
    cases z : NestedKey.beq j k with
    | true => exact .cons ⟨rfl, q2, hr⟩ r
    | false => exact .cons ⟨rfl, q2, q3⟩ (put_E hr r)
theorem putAt_all : ∀ {xs : List (NestedKey × Addr × Value)}, k ∉ xs.map (·.1) → xs.map (putAt k u) = xs
  | [], _ => rfl
  | x :: xs, h => by
    have h1 : x.1 ≠ k := fun e => h (by rw [← e]; exact List.mem_cons_self)
    rw [List.map_cons, putAt_all fun z => h (List.mem_cons_of_mem _ z)]
    unfold putAt
    rw [if_neg h1]
theorem put_X : ∀ {xs : List (NestedKey × Addr × Value)}, (xs.map (·.1)).Nodup → storedH xs k b u = xPut k b u xs
  | [], _ => rfl
  | (j, c, u') :: xs, hn => by
    rw [List.map_cons] at hn
    obtain ⟨n1, n2⟩ := List.nodup_cons.mp hn
    have ih := put_X n2
    unfold xPut
    unfold storedH at ih ⊢
    rw [atKey_cons]
    cases z : NestedKey.beq j k with
    | true =>
      have e := NestedKey.eq_of_beq _ _ z
      subst e
      show (if true = true then _ else _) = _
      rw [if_pos rfl, List.map_cons, putAt_all n1]
      unfold putAt
      rw [if_pos rfl]
    | false =>
      show (if (atKey xs k).isSome = true then _ else _) = (j, c, u') :: xPut k b u xs
      rw [← ih]
      by_cases q : (atKey xs k).isSome = true
      · rw [if_pos q, if_pos q, List.map_cons]
        congr 1
        unfold putAt
        rw [if_neg (beq_no z)]
      · rw [if_neg q, if_neg q]
        rfl
theorem put_len : ∀ {es : List (NestedKey × Addr × V)}, (ePut k b v es).length ≤ es.length + 1
  | [] => Nat.le_refl _
  | (j, c, u) :: r => by
    unfold ePut
    cases z : NestedKey.beq j k with
    | true => exact Nat.le_succ _
    | false => exact Nat.succ_le_succ put_len
theorem DRs.len : ∀ {kvs : List (NestedKey × W)} {es : List (NestedKey × Addr × V)}, DRs K wd φ H kvs es → es.length = kvs.length
  | _, _, .nil => rfl
  | _, _, .cons _ _ _ h => by rw [List.length_cons, List.length_cons, DRs.len h]
end
theorem roomD {P : Program} {wd : World} {A : Around} {k : Nat} (hr : Room k A) : (nestedKind P wd).room A.in1 := by
  have := hr.un
  show A.units + 1 + 8 < cLine
  omega
end Hx
noncomputable section
namespace Hx
open PySem L2 Pd Gn PySem.Spec PyProof.Rows Zq
def isDR : Option Ob → Option (List (NestedKey × W))
  | some (.dic kvs) => some kvs
  | _ => none
def isD (h : Hs) : W → Option (List (NestedKey × W))
  | .dct kvs => some kvs
  | .ref i => isDR (h.get i)
  | _ => none
theorem isD_ok {K : PySem.W.Frag} {wd : World} {φ : List Addr} {hs : Hs} {Ho Hk Hr : Hp} {w : W} {v : V} {kvs : List (NestedKey × W)} (I : Ok K wd φ hs Ho Hk Hr) (hv : VR K wd φ Hk w v) (e : isD hs w = some kvs) : ∃ a es, v = .ref a ∧ Rd Hr a (DicO wd a es) ∧ DRs K wd φ Hk kvs es := by
  cases w with
  | dct l =>
    cases e
    cases hv with
    | dct h1 h2 => exact ⟨_, _, rfl, .inr ⟨_, I.kr _ _ h1⟩, h2⟩
  | ref i =>
    have e : isDR (hs.get i) = some kvs := e
    cases g : hs.get i with
    | none => rw [g] at e; cases e
    | some o =>
      rw [g] at e
      cases o with
      | dic l =>
        cases e
        cases hv with
        | ref ha =>
          obtain ⟨a, q1, q2, q3, es, q4, q5⟩ := I.obj i _ g
          rw [ha] at q1
          cases q1
          exact ⟨_, es, rfl, .inl q4, q5⟩
      | _ => cases e
  | _ => cases e
section
variable {X : Cx} {ρE ρ : Rho} {a b o e f ix tg iter : Expr} {rest sts : List Stmt} {m m1 m2 m3 : M W} {p0 p1 p2 pos apos cpos : Pos} {α β : Type} {g : α → Rho} {n i : Nat} {x : Str} {w : W}
/-- x[y], x a dict or a list, a tuple -/
def ixA (h : Hs) (x y : W) : Option W := match isD h x with
  | some kvs => (tkey y).bind fun k => dLook k kvs
  | none => (asIW y).bind fun i => (itemsH h x).bind fun ws => atI ws i
def ixD (m1 m2 : M W) : M W := bd m1 fun x => bd m2 fun y => fun h => lf (ixA h x y) h
theorem em_ixD (hr : Room n X.A) (ha : EM X a ρ m1) (hb : EM X b ρ m2) (hs : PlainIx b := by exact fun _ _ => rfl) : EM X (.Subscript a b pos) ρ (ixD m1 m2) := fun p s Q q => by
  refine sE_of (pe_ix wIx_r pe_s pe_s hs) (ha p (sat_bind s) _ fun x h1 u φ1 Hk1 Hr1 s1 p1 e1 hu => hb p1 (sat_bind s1) _ fun y h2 v φ2 Hk2 Hr2 s2 p2 e2 hv => ?_)
  obtain ⟨w, hw, s3⟩ := sat_lf s2
  unfold ixA at hw
  cases zd : isD h2 x with
  | some kvs =>
    rw [zd] at hw
    obtain ⟨k, h4, hw⟩ := bnd hw
    obtain ⟨ad, es, rfl, g1, g2⟩ := isD_ok p2.I (hu.ex e2) zd
    obtain ⟨bb, rfl, g3, g4⟩ := tkey_ok h4 hv
    intro value slice pins st τ vv uu I' rx ry hsub
    have rx : vv = .ref ad := rx
    subst rx
    have ry : uu = .ref bb := ry
    subst ry
    obtain ⟨z1, z2, xs, ex, dd⟩ := dic_rd I' g1 (DRs.mono Fx.refl p2.I.kr g2)
    obtain ⟨pp, v', hp, rv, hvr⟩ := look_some g2 ex hw
    exact subscriptTail_builtinR (x := pp.2) dd.typeIs PySem.F.slot_dict_getitem.lookup (wpAny_getItem_heap (Q := fun r s' => r = pp.2 ∧ EP X pins τ Q r s') (roomD hr) (key_is I' (Dp.mono p2.I.kr _ g3) g4) dd hp ⟨rfl, v', Hr2, I'.tok _, rv, q _ _ _ _ _ _ s3 p2 (e1.trans e2) hvr⟩) hsub
  | none =>
    rw [zd] at hw
    obtain ⟨i, h3, hw1⟩ := bnd hw
    obtain ⟨ws, h4, hw2⟩ := bnd hw1
    clear hw hw1
    have := asIW_eq h3
    subst this
    obtain rfl := vr_int (X := X) hv
    obtain ⟨t, ad, vs, rfl, g1, g2⟩ := (hu.ex e2).items p2.I h4
    obtain ⟨z, z1, z2⟩ := g2.at (i := i) (w := w) hw2
    cases t
    · exact wIx_of ix_list ⟨_, _, _, _, rfl, rfl, g1, z1, q _ _ _ _ _ _ s3 p2 (e1.trans e2) z2⟩
    · exact wIx_of ix_tup ⟨_, _, _, _, rfl, rfl, g1, z1, q _ _ _ _ _ _ s3 p2 (e1.trans e2) z2⟩
/-- y in x, x a dict -/
def dinM (neg : Bool) (m1 m2 : M W) : M Bool := bd m1 fun y => bd m2 fun x => fun h => lf ((isD h x).bind fun kvs => (tkey y).map fun k => neg != (dLook k kvs).isSome) h
theorem din_op (hr : Room n X.A) {neg : Bool} {hs : Hs} {φ : List Addr} {Ho Hk Hr : Hp} {x y : W} {u v : V} {k : Bool} (I : Ok X.K X.w φ hs Ho Hk Hr) (hu : VR X.K X.w φ Hk y u) (hv : VR X.K X.w φ Hk x v) (h : ((isD hs x).bind fun kvs => (tkey y).map fun k => neg != (dLook k kvs).isSome) = some k) (Q : VK) (q : Q (.bl k) Hr) : wOp X (compareOp (match neg with | true => .NotIn | false => .In)) u v Hr Q := by
  obtain ⟨kvs, h3, h⟩ := bnd h
  obtain ⟨kk, h4, h⟩ := mpd h
  obtain ⟨ad, es, rfl, g1, g2⟩ := isD_ok I hv h3
  obtain ⟨bb, rfl, g3, g4⟩ := tkey_ok h4 hu
  intro pins st τ vv uu I' rx ry
  have rx : vv = .ref bb := rx
  subst rx
  have ry : uu = .ref ad := ry
  subst ry
  obtain ⟨z1, z2, xs, ex, dd⟩ := dic_rd I' g1 (DRs.mono Fx.refl I.kr g2)
  have ee : (atKey xs kk).isSome = (dLook kk kvs).isSome := by
    cases z : dLook kk kvs with
    | none => rw [look_none g2 ex z]; rfl
    | some w =>
      obtain ⟨pp, v', hp, _⟩ := look_some g2 ex z
      rw [hp]
      rfl
  cases neg with
  | false =>
    refine wpAny_in_heap (roomD hr) (key_is I' (Dp.mono I.kr _ g3) g4) z2 dd ⟨.bl k, Hr, I'.tok _, ?_, q⟩
    show Value.bool _ = Value.bool _
    rw [ee, ← h]
    cases (dLook kk kvs).isSome <;> rfl
  | true =>
    refine wpAny_notIn_heap (roomD hr) (key_is I' (Dp.mono I.kr _ g3) g4) z2 dd ⟨.bl k, Hr, I'.tok _, ?_, q⟩
    show Value.bool _ = Value.bool _
    rw [ee, ← h]
    cases (dLook kk kvs).isSome <;> rfl
theorem tm_din (hr : Room n X.A) (ha : EM X a ρ m1) (hb : EM X b ρ m2) (hm : behindInMarks .In b = false := by rfl) : TM X (.Compare a [.In] [b] pos) ρ (dinM false m1 m2) := fun p s Q q => by
  refine sT_of (pt_cmpR wOp_r pe_s pe_s hm) (ha p (sat_bind s) _ fun y h1 u φ1 Hk1 Hr1 s1 p1 e1 hu => hb p1 (sat_bind s1) _ fun x h2 v φ2 Hk2 Hr2 s2 p2 e2 hv => ?_)
  obtain ⟨k, hk, s3⟩ := sat_lf s2
  exact din_op hr (neg := false) p2.I (hu.ex e2) hv hk _ ⟨k, rfl, q _ _ _ _ _ s3 p2 (e1.trans e2)⟩
def wMt (X : Cx) (id : String) (xs : List V) (H : Hp) (Q : VK) : Prop := ∀ (pins : List (Addr × Obj)) (s : Shared) (σ : L2.St) (us : List Value), Inv X pins σ H s → Vals xs us → wpAny (model X.prog X.w) X.A (call (.builtin id) us) (EP X pins σ Q) X.xe s
theorem dic_type {pins : List (Addr × Obj)} {σ : L2.St} {H : Hp} {s : Shared} {ad : Addr} {es : List (NestedKey × Addr × V)} (I : Inv X pins σ H s) (h : Rd H ad (DicO X.w ad es)) : s.TypeIs (.ref ad) "dict" ∧ ∀ a, Value.ref ad = .ref a → ∃ ob, s.heap.get? a = some ob ∧ ob.dict = none := by
  obtain ⟨⟨z, y, xs, r, o, es', ep, h1, h2, h3, h4, h5⟩, _, _⟩ := (show ObjOk X.prog X.w H s.heap ad (DicO X.w ad es) from h.ok I.hok)
  exact ⟨⟨o, h1, h2.1⟩, fun a e => by cases e; exact ⟨o, h1, h2.2.1⟩⟩
def tDm2 (X : Cx) (id : String) (to te tf : TE) : TE := fun σ H Q => to σ H fun x H1 => (∃ ad es, x = .ref ad ∧ Rd H1 ad (DicO X.w ad es)) ∧ te σ H1 fun y H2 => tf σ H2 fun z H3 => wMt X id [x, y, z] H3 Q
theorem pe_dm2 {nm : Str} {id : String} {to te tf : TE} (slot : Slot "dict" nm id) (hty : typeOf (.builtin id) = pure (.type "method_descriptor")) (ho : PE X o to) (he : PE X e te) (hf : PE X f tf) (md : M2 X o nm apos e f cpos) : PE X (.Call (.Attribute o nm apos) [e, f] [] cpos) (tDm2 X id to te tf) := by
  refine ⟨fun pins s σ H Q I h => ?_⟩
  refine wpAny_Call_method md.base md.few md.line PySem.F.plainAttrs_dict slot hty (thn (ho.run pins s σ H _ I h) fun u s1 ⟨x, H1, I1, rx, ⟨ad, es, ex, d⟩, q1⟩ => ?_)
  subst ex
  obtain rfl : u = Value.ref ad := rx
  obtain ⟨t1, t2⟩ := dic_type I1 d
  refine ⟨t1, t2, ?_⟩
  rw [md.trees]
  refine Calls.callWith_builtin rfl (Calls.evalArgs_plain (Calls.spliced_cons (thn (he.run pins s1 σ H1 _ I1 q1) fun iv s2 ⟨y, H2, I2, ry, q2⟩ =>
    Calls.spliced_cons (thn (hf.run pins s2 σ H2 _ I2 q2) fun fv s3 ⟨z, H3, I3, rz, q3⟩ => Calls.spliced_nil ?_))))
  exact q3 pins s3 σ _ I3 (.cons rfl (.cons ry (.cons rz .nil)))
/-- d.get(k, x) -/
def dgetM (mo me mf : M W) : M W := bd mo fun x => bd (fun h => lf (isD h x) h) fun _ => bd me fun y => bd mf fun z => fun h => lf ((isD h x).bind fun kvs => (tkey y).map fun k => (dLook k kvs).getD z) h
theorem em_dgetD {mo me mf : M W} (hr : Room n X.A) (ho : EM X o ρ mo) (he : EM X e ρ me) (hf : EM X f ρ mf) (md : M2 X o "get" apos e f cpos := by exact ⟨rfl, rfl, rfl, rfl⟩) : EM X (.Call (.Attribute o "get" apos) [e, f] [] cpos) ρ (dgetM mo me mf) := fun p s Q q => by
  refine sE_of (pe_dm2 PySem.F.slot_dict_get PySem.F.type_dict_get pe_s pe_s pe_s md) (ho p (sat_bind s) _ fun x h1 xv φ1 Hk1 Hr1 s1 p1 e1 hx => ?_)
  obtain ⟨kv0, hk0, s1⟩ := sat_lf (sat_bind s1)
  obtain ⟨ad0, es0, rfl, g0, _⟩ := isD_ok p1.I hx hk0
  refine ⟨⟨ad0, es0, rfl, g0⟩, he p1 (sat_bind s1) _ fun y h2 yv φ2 Hk2 Hr2 s2 p2 e2 hy => hf p2 (sat_bind s2) _ fun z h3 zv φ3 Hk3 Hr3 s3 p3 e3 hz => ?_⟩
  obtain ⟨w, hw, s4⟩ := sat_lf s3
  obtain ⟨kvs, h4, hw⟩ := bnd hw
  obtain ⟨k, h5, hw⟩ := mpd hw
  obtain ⟨ad, es, ea, g1, g2⟩ := isD_ok p3.I (hx.ex (e2.trans e3)) h4
  cases ea
  obtain ⟨bb, rfl, g3, g4⟩ := tkey_ok h5 (hy.ex e3)
  intro pins st τ us I' rv
  cases rv with
  | @cons _ u1 _ _ r1 rv =>
    cases rv with
    | @cons _ u2 _ _ r2 rv =>
      cases rv with
      | @cons _ u3 _ _ r3 rv =>
        cases rv
        have r1 : u1 = .ref ad0 := r1
        subst r1
        have r2 : u2 = .ref bb := r2
        subst r2
        obtain ⟨z1, z2, xs, ex, dd⟩ := dic_rd I' g1 (DRs.mono Fx.refl p3.I.kr g2)
        refine call_meetsIn PySem.F.slot_dict_get dd.typeIs PySem.F.entry_dict_get (PySem.F.args_dict_get_3 _ _ _) (meetsH_dict_get_default (nestedKind X.prog X.w) ad0 bb z2 u3) ⟨roomD hr, k, xs, key_is I' (Dp.mono p3.I.kr _ g3) g4, dd, ?_⟩
        have ee := e1.trans (e2.trans e3)
        cases zz : dLook k kvs with
        | none =>
          rw [zz] at hw
          rw [look_none g2 ex zz]
          exact ⟨zv, Hr3, I'.tok _, r3, by rw [← hw] at s4; exact q _ _ _ _ _ _ s4 p3 ee hz⟩
        | some w' =>
          rw [zz] at hw
          obtain ⟨pp, v', hp, rv', hvr⟩ := look_some g2 ex zz
          rw [hp]
          exact ⟨v', Hr3, I'.tok _, rv', by rw [← hw] at s4; exact q _ _ _ _ _ _ s4 p3 ee hvr⟩
def isDm (o : W) : M (Nat × List (NestedKey × W)) := fun h => match o with
  | .ref i => match h.get i with | some (.dic kvs) => .ok (i, kvs) h | _ => .bad
  | _ => .bad
theorem isDm_ok {o : W} {h : Hs} {P : Nat × List (NestedKey × W) → Hs → Prop} {E : Xc → Hs → Prop} (s : (isDm o h).sat P E) : ∃ i kvs, o = .ref i ∧ h.get i = some (.dic kvs) ∧ P (i, kvs) h := by
  cases o with
  | ref i =>
    have s : (match h.get i with | some (.dic kvs) => T.ok (i, kvs) h | _ => T.bad : T (Nat × List (NestedKey × W))).sat P E := s
    cases g : h.get i with
    | none => rw [g] at s; exact s.elim
    | some u =>
      rw [g] at s
      cases u with
      | dic ws => exact ⟨i, ws, rfl, g, s⟩
      | _ => exact s.elim
  | _ => exact s.elim
def putDm (i : Nat) (kvs : List (NestedKey × W)) : M Unit := fun h => .ok () (h.put i (.dic kvs))
theorem dicO_ok {P : Program} {wd : World} {H : Hp} {h : Heap} {a : Addr} {es : List (NestedKey × Addr × V)} {xs : List (NestedKey × Addr × Value)} (z : es.length ≤ sizeLine) (y : (a == sysModules) = false) (r : EX es xs) (d : h.DictOfH (nestedKind P wd) a xs) : ObjOk P wd H h a (DicO wd a es) := by
  obtain ⟨o, es', ep, h1, h2, h3, h4, _, h5⟩ := d
  exact ⟨⟨z, y, xs, r, o, es', ep, h1, h2, h3, h4, h5⟩, ⟨o, h1⟩, fun g1 g2 ⟨z, y, xs, r, o, es', ep, h1, h2, h3, h4, h5⟩ k => ⟨z, y, xs, r, o, es', ep, k _ h1, h2, h3, h4, h5⟩⟩
def wSet (X : Cx) : TSet := fun o i v H K => ∀ (pins : List (Addr × Obj)) (s : Shared) (σ : L2.St) (ov iv u : Value), Inv X pins σ H s → RelV o ov → RelV i iv → RelV v u → wpAny (model X.prog X.w) X.A (setItem ov iv u) (fun _ s' => ∃ H', Inv X pins σ H' s' ∧ K H') X.xe s
theorem wSet_r : PSet X (wSet X) := fun pins s σ H o i v ov iv u Q I r1 r2 r3 h => h pins s σ ov iv u I r1 r2 r3
/-- x[y] = v, x a dict or a list -/
def setD (m3 m1 m2 : M W) : M Unit := bd m3 fun v => bd m1 fun o => bd m2 fun i => fun h => match isD h o with
  | some _ => (bd (isDm o) fun p => bd (lf (gd (shortS p.2.length) (tkey i))) fun k => putDm p.1 (dPut k v p.2)) h
  | none => (bd (isL o) fun p => bd (lf ((asIW i).bind fun j => ixN p.2.length j)) fun k => putL p.1 (p.2.set k v)) h
theorem sm_putD {k : M (Res W α)} (hr0 : Room n X.A) (he : EM X e ρ m3) (ho : EM X o ρ m1) (hi : EM X ix ρ m2) (hr : SM X ρE rest ρ k g) (hp : PS X (.Assign [.Subscript o ix p1] e pos) (tAsg (sE X e) (gSub (sE X o) (sE X ix) (wSet X)))) : SM X ρE (.Assign [.Subscript o ix p1] e pos :: rest) ρ (bd (setD m3 m1 m2) fun _ => k) g := fun p s D nx r => by
  refine sSs_of (pss_cons hp pss_s) (he p.pt (sat_bind (sat_bind s)) _ fun w h1 v φ1 Hk1 Hr1 s1 p1 e1 hv => ho p1 (sat_bind s1) _ fun ow h2 ov φ2 Hk2 Hr2 s2 p2 e2 hov => hi p2 (sat_bind s2) _ fun iw h3 iv φ3 Hk3 Hr3 s3 p3 e3 hiv => ?_)
  have e123 := e1.trans (e2.trans e3)
  have hv3 := hv.ex (e2.trans e3)
  have hov := hov.ex e3
  have fin : ∀ {hs' : Hs} {H' : Hp}, Ok X.K X.w φ3 hs' _ Hk3 H' → (k hs').sat _ _ → _ := fun {hs' H'} I4 s5 => hr (p.to I4 e123 p3.R p.sub) s5 D (fun a hs' φ' Hk' Hr' σ' h q e' => nx a hs' φ' Hk' Hr' σ' h q (e123.trans e')) (fun w hs' v φ' Hk' Hr' h I e' hv => r w hs' v φ' Hk' Hr' h I (e123.trans e') hv)
  cases zd : isD h3 ow with
  | some l =>
    rw [zd] at s3
    obtain ⟨i, kvs, rfl, g1, s4⟩ := isDm_ok (sat_bind s3)
    obtain ⟨kk, hk, s5⟩ := sat_lf (sat_bind s4)
    obtain ⟨hl, hk⟩ := gd_some hk
    have hl : kvs.length < 100000 := shortS_lt hl
    obtain ⟨bb, rfl, g3, g4⟩ := tkey_ok hk hiv
    cases hov with
    | @ref _ a0 ha =>
      obtain ⟨ad, q1, q2, q3, es, q4, q5⟩ := p3.I.obj i _ g1
      rw [ha] at q1
      cases q1
      intro pins st τ vo vi vv I' r1 r2 r3
      have r1 : vo = .ref a0 := r1
      subst r1
      have r2 : vi = .ref bb := r2
      subst r2
      obtain ⟨z1, z2, xs, ex, dd⟩ := dic_rd I' (.inl q4) (DRs.mono Fx.refl p3.I.kr q5)
      have lx : xs.length = es.length := (Paired.length ex).symm
      have le := DRs.len q5
      have hlen : (ePut kk bb v es).length ≤ sizeLine := by
        have := put_len (k := kk) (b := bb) (v := v) (es := es)
        have := le_line (n := kvs.length + 1) (by omega)
        omega
      refine wpAny_setItem_heap (hsz := by rw [lx]; exact z1) (roomD hr0) (key_is I' (Dp.mono p3.I.kr _ g3) g4) dd fun h' dd' hs => ?_
      have nod : (xs.map (·.1)).Nodup := by
        obtain ⟨_, _, _, _, _, _, _, _, hn⟩ := dd
        exact hn
      rw [put_X nod] at dd'
      have hq : ∃ q, h'.get? a0 = some q := by
        obtain ⟨o', _, _, ho', _⟩ := dd'
        exact ⟨o', ho'⟩
      refine ⟨_, d_write (ob := DicO X.w a0 (ePut kk bb v es)) I' (by rw [q4]; exact True.intro) hs hq (dicO_ok hlen z2 (put_E r3 ex) dd'), ?_⟩
      exact fin (p3.I.put (o' := .dic (dPut kk w kvs)) g1 ha ⟨_, upd_same, put_D g4 g3 hv3 q5⟩) s5
  | none =>
    rw [zd] at s3
    obtain ⟨i, ws, rfl, g1, s4⟩ := isL_ok (sat_bind s3)
    obtain ⟨k', hk, s5⟩ := sat_lf (sat_bind s4)
    obtain ⟨j, hj, hk⟩ := bnd hk
    have := asIW_eq hj
    subst this
    obtain rfl := vr_int (X := X) hiv
    cases hov with
    | ref ha =>
      obtain ⟨vs, t1, t2⟩ := at_lst p3.I g1 ha
      intro pins st τ vo vi vv I' r1 r2 r3
      exact set_list pins st τ Hr3 _ _ _ vo vi vv _ I' r1 r2 r3 ⟨_, vs, j, k', rfl, rfl, t1, by rw [VRs.len t2]; exact hk, fin (p3.I.putL (vs := vs) g1 ha (t2.set k' hv3)) s5⟩
end
end Hx
noncomputable section
namespace Hx
open PySem L2 Pd Gn PySem.Spec PyProof.Rows Zq
def dnewM : M W := fun h => .ok (.ref h.nx) (h.new (.dic []))
def frzDM (w : W) : M W := fun h => match w with
  | .ref i => match h.get i with | some (.dic kvs) => .ok (.dct kvs) (h.del i) | _ => .bad
  | .dct kvs => .ok (.dct kvs) h
  | _ => .bad
def keysW : List (NestedKey × W) → List W
  | [] => []
  | (k, _) :: r => .dat k.data :: keysW r
def itW : W → Option (List W)
  | .dct kvs => some (keysW kvs)
  | w => seqW w
def sqD (m : M W) : M (List W) := bd m fun w => lf (itW w)
end Hx
namespace Hx
open PySem L2 Pd Gn PySem.Spec PyProof.Rows Zq
theorem Ok.claimD {K : PySem.W.Frag} {wd : World} {φ : List Addr} {hs : Hs} {Ho Hk Hr : Hp} {d : Addr} {u : HO} (I : Ok K wd φ hs (upd Ho d u) Hk Hr) (no : Ho d = none) (u' : HO) : Ok K wd φ hs Ho (upd Hk d u') (upd Hr d u') ∧ Same Hk (upd Hk d u') := by
  have nk : Hk d = none := I.dis d u upd_same
  have e : Same Hk (upd Hk d u') := new_same nk _
  refine ⟨⟨fun b v g => ?_, fun b v g => ?_, I.len, I.low, fun i o g => ?_, I.inj, fun b v g => ?_⟩, e⟩
  · by_cases q : b = d
    · subst q
      rw [upd_same] at g ⊢
      exact g
    · rw [upd_ne q] at g ⊢
      exact I.kr _ _ g
  · rw [upd_ne (ne_of_none g no)]
    exact I.out _ _ (same_upd no b v g)
  · obtain ⟨a, q1, q2, q3, q4⟩ := I.obj i o g
    have ne : a ≠ d := fun z => by rw [z, upd_same] at q3; cases q3
    rw [upd_ne ne] at q3
    exact ⟨a, q1, by rw [upd_ne ne]; exact q2, q3, q4.mono2 Fx.refl e (by rw [upd_ne ne])⟩
  · rw [upd_ne (ne_of_none g no)]
    exact I.dis b v (same_upd no b v g)
section
variable {X : Cx} {ρE ρ : Rho} {a b o e f ix tg iter : Expr} {es : List Expr} {rest sts : List Stmt} {m m1 m2 m3 : M W} {ma : M (List W)} {p0 p1 p2 pos apos cpos kpos : Pos} {α β : Type} {g : α → Rho} {n i : Nat} {x : Str} {w : W}
theorem em_notV (ha : EM X a ρ m) : EM X (.UnaryOp .Not a pos) ρ (bW (notM (tvM m))) := fun p s Q q =>
  sE_of (pe_notT pe_s) (ha p (sat_bind (sat_bind (sat_bind s))) _ fun w h1 v φ1 Hk1 Hr1 s1 p1 e1 hv => by
    obtain ⟨k, hk, s2⟩ := sat_lf s1
    exact ⟨k, truthW_ok (hv.view p1.I) hk, q _ _ _ _ _ _ s2 p1 e1 (.dat (.bl _))⟩)
theorem em_dnew : EM X (.Dict [] [] pos) ρ dnewM := fun {Wx E P hs φ Ho Hk Hr σ} p s Q q pins st I => by
  have hn := I.hok.fresh (Nat.le_refl st.heap.objs.size)
  have new : ObjOk X.prog X.w (upd Hr st.heap.objs.size (DicO X.w st.heap.objs.size [])) (st.heap.push { cls := .type "dict", data := .dict #[] }) st.heap.objs.size (DicO X.w st.heap.objs.size []) :=
    dicO_ok (xs := []) (Nat.zero_le _) (beq_eq_false_iff_ne.mpr (Ne.symm (Nat.ne_of_lt I.big))) .nil (Heap.DictOfH.new _)
  have I2 : Ok X.K X.w (φ ++ [st.heap.objs.size]) (hs.new (.dic [])) Ho Hk (upd Hr st.heap.objs.size (DicO X.w st.heap.objs.size [])) := p.I.new hn (new_same hn _) ⟨[], upd_same, .nil⟩
  have ee : Ex φ Hk (φ ++ [st.heap.objs.size]) Hk := ⟨Fx.app, Same.refl _⟩
  exact wpAny_Dict_empty ⟨.ref st.heap.objs.size, _, I.laid (a := st.heap.objs.size) (o := DicO X.w st.heap.objs.size []) (t' := st.toks) (fun _ _ q => Heap.get?_push_of_some _ q) (Nat.le_refl _) new, rfl, q (.ref hs.nx) _ _ _ _ _ s (p.go I2 ee) ee (.ref (by rw [← p.I.len]; simp))⟩
theorem sSs_lock {D : Ends} {σ : L2.St} {H : Hp} {d : Addr} {u : HO} (h : H d = some u) (mu : Mut (some u)) (q : ∀ od, sSs X sts D σ (upd H d (.frz od u))) : sSs X sts D σ H := fun pins s I => by
  obtain ⟨od, I'⟩ := I.lock h mu
  exact q od pins s I'
theorem sm_frzD {k : W → M (Res W α)} (h : ρ[n]? = some (some w)) (hE : ρE[n]? = some none) (hr : ∀ w, SM X ρE sts (ρ.set n (some w)) (k w) g) : SM X ρE sts ρ (bd (frzDM w) k) g := fun {Wx E P hs φ Ho Hk Hr σ} p s D nx r => by
  obtain ⟨v, q1, q2⟩ := p.R.at_ n w h
  have s1 := sat_bind s
  cases w with
  | ref i =>
    have s1 : (match hs.get i with | some (.dic kvs) => T.ok (.dct kvs) (hs.del i) | _ => T.bad : T W).sat _ E := s1
    cases gg : hs.get i with
    | none => rw [gg] at s1; exact s1.elim
    | some o =>
      rw [gg] at s1
      cases o with
      | dic kvs =>
        cases q2 with
        | @ref _ a0 ha =>
          obtain ⟨ad, f1, f2, f3, es, f4, f5⟩ := p.I.obj i _ gg
          rw [ha] at f1
          cases f1
          refine sSs_lock f4 True.intro fun od => ?_
          obtain ⟨e2, I2⟩ := p.I.fix1 (.frz od (DicO X.w a0 es)) gg ha
          have ee : Ex φ Hk φ _ := ⟨Fx.refl, e2⟩
          have R := (p.R.ex ee).set (n := n) (VR.dct (kvs := kvs) upd_same (DRs.mono Fx.refl e2 f5))
          rw [set_same q1] at R
          exact hr _ (p.to I2 ee R (p.sub.set hE)) s1 D (fun a hs' φ' Hk' Hr' σ' h q e' => nx a hs' φ' Hk' Hr' σ' h q (ee.trans e')) (fun w hs' v φ' Hk' Hr' h I e' hv => r w hs' v φ' Hk' Hr' h I (ee.trans e') hv)
      | _ => exact s1.elim
  | dct kvs =>
    have R := p.R.set (n := n) q2
    rw [set_same q1] at R
    exact hr _ (p.to p.I Ex.refl R (p.sub.set hE)) s1 D nx r
  | _ => exact s1.elim
end
end Hx
noncomputable section
namespace Hx
open PySem L2 Pd Gn PySem.Spec PyProof.Rows Zq
def Itq (wd : World) (d : Addr) (o : Obj) (es : List (NestedKey × Addr × V)) : It :=
  ⟨fun i H => H d = some (.frz o (DicO wd d es)) ∧ i < es.length, fun i H x H' => H' = H ∧ ∃ k b v, es[i]? = some (k, b, v) ∧ x = .ref b, fun i H => H d = some (.frz o (DicO wd d es)) ∧ es.length ≤ i⟩
theorem frzQ {X : Cx} {pins : List (Addr × Obj)} {σ : L2.St} {H : Hp} {s : Shared} {d : Addr} {o : Obj} {es : List (NestedKey × Addr × V)} (I : Inv X pins σ H s) (h : H d = some (.frz o (DicO X.w d es))) :
    (d == sysModules) = false ∧ s.heap.get? d = some o ∧ o.ExactDict ∧ ∃ (es' : Array DictEntry) (ep : Nat), o.data = .dict es' ep ∧ es'.size = es.length ∧ ∀ (i : Nat) (k : NestedKey) (b : Addr) (v : V), es[i]? = some (k, b, v) → ∃ en : DictEntry, es'[i]? = some en ∧ en.key = .ref b := by
  obtain ⟨hd, ⟨z, y, xs, r, o', es', ep, h1, h2, h3, h4, h5⟩, _, _⟩ := I.hok d _ h
  rw [hd] at h1
  cases h1
  refine ⟨y, hd, h2, es', ep, h3, ?_, fun i k b v e => ?_⟩
  · have l1 : es'.size = xs.length := by rw [← Array.length_toList, h4, List.length_map]
    have l2 : es.length = xs.length := Paired.length r
    omega
  · obtain ⟨q, hq, e1, e2, _⟩ := paired_get r e
    have ee : es'[i]? = (xs[i]?).map (fun x => (⟨x.1.hash X.w, .ref x.2.1, x.2.2⟩ : DictEntry)) := by rw [← Array.getElem?_toList, h4, List.getElem?_map]
    rw [hq] at ee
    exact ⟨_, ee, by show Value.ref q.2.1 = .ref b; rw [← e2]⟩
theorem turn_keysQ {P : Program} {w : World} {K : PySem.W.Frag} {tg : Expr} {d : Addr} {o : Obj} {es : List (NestedKey × Addr × V)} {es0 : Array DictEntry} {ep : Nat} (it : Addr) (hod : o.data = .dict es0 ep) : Turn P w K tg (Itq w d o es) [it] it (fun i h => h.IsKeyIter it d i es.length ep) where
  mem := by simp
  obj := fun i h st b hb => by
    have e : b = it := by simpa using hb
    subst e
    obtain ⟨oi, e, c, dd⟩ := st
    exact ⟨oi, e, fun v z => by rw [dd] at z; cases z⟩
  keep := fun i h h' st k => st.at fun oi e => k it (by simp) oi e
  item := by
    intro X hP hw hK hc i pins s σ H E I hf st hg
    subst hP hw hK
    obtain ⟨hd, hi⟩ := hg
    obtain ⟨f0, f1, f2, f3, f4, f5⟩ := hf it (by simp)
    obtain ⟨hs, hgd, hx, es', ep', hdt, hsz, ent⟩ := frzQ I hd
    obtain ⟨rfl, rfl⟩ := dict_ep hod hdt
    obtain ⟨⟨k, b, v⟩, hkv⟩ : ∃ p, es[i]? = some p := ⟨es[i], List.getElem?_eq_getElem hi⟩
    obtain ⟨en, hen, hkey⟩ := ent i k b v hkv
    refine next_key_item st hgd hdt hsz hen fun h' st' sb => ?_
    have I1 : Inv X pins σ H { s with heap := h' } := I.turned (t' := s.toks) (fun b ob hb e => (sb.2 b hb).trans e) f0 f1 f3 f4 f5
    obtain ⟨oi, e, c, dd⟩ := id st'
    exact ⟨en.key, rfl, go_of (s := { s with heap := h' }) e c dd (by decide) ⟨.ref b, H, I1, hkey, ⟨rfl, k, b, v, hkv, rfl⟩, st', fun b hb => (hf b hb).1⟩⟩
  done := by
    intro X hP hw hK hc i pins s σ H E I hf st hg
    subst hP hw hK
    obtain ⟨hd, hi⟩ := hg
    obtain ⟨f0, f1, f2, f3, f4, f5⟩ := hf it (by simp)
    obtain ⟨hs, hgd, hx, es', ep', hdt, hsz, ent⟩ := frzQ I hd
    obtain ⟨rfl, rfl⟩ := dict_ep hod hdt
    exact next_key_end (I.ok.hd hc) st hgd hdt hsz hi fun h' eb => ⟨rfl, I.turned (t' := s.toks) (fun b ob hb e => eb b ob hb e) f0 f1 f3 f4 f5⟩
  self := fun A i s Q E st h => by
    refine wpAny_pyIter_slot st.typeIs F.slot_dict_keyiterator_iter (wpAny_call_entry F.slot_dict_keyiterator_iter st.typeIs F.entry_dict_keyiterator_iter ?_ (F.args_dict_keyiterator_iter_1 _))
    show wpAny _ _ (ret (.ref it)) _ _ s
    exact wpAny_pure ⟨_, rfl, "dict_keyiterator", _, st.typeIs, F.slot_dict_keyiterator_next.lookup, h⟩
theorem keys_at {K : PySem.W.Frag} {wd : World} {φ : List Addr} {H : Hp} {k : NestedKey} {b : Addr} {v : V} {w : W} : ∀ {i : Nat} {kvs : List (NestedKey × W)} {es : List (NestedKey × Addr × V)}, DRs K wd φ H kvs es → es[i]? = some (k, b, v) → (keysW kvs)[i]? = some w → w = .dat k.data ∧ Dp K H (.ref b) k.data
  | i, _, _, .nil, h, _ => by simp at h
  | 0, _, _, .cons h1 h2 h3 h4, h, g => by
    simp only [List.getElem?_cons_zero, Option.some.injEq] at h
    cases h
    simp only [keysW, List.getElem?_cons_zero, Option.some.injEq] at g
    exact ⟨g.symm, h2⟩
  | i + 1, _, _, .cons h1 h2 h3 h4, h, g => keys_at (i := i) h4 (by simpa using h) (by simpa [keysW] using g)
theorem keysW_len : ∀ {kvs : List (NestedKey × W)}, (keysW kvs).length = kvs.length
  | [] => rfl
  | (k, w) :: r => by
    show (keysW r).length + 1 = _
    rw [keysW_len]
    rfl
theorem wkm_q {K : PySem.W.Frag} {wd : World} {φ : List Addr} {Hk : Hp} {d : Addr} {o : Obj} {kvs : List (NestedKey × W)} {es : List (NestedKey × Addr × V)} (h : Hk d = some (.frz o (DicO wd d es))) (D : DRs K wd φ Hk kvs es) : WkM K wd φ (Itq wd d o es) (keysW kvs) Hk := fun i Hr e => by
  have l := DRs.len D
  rw [keysW_len]
  refine ⟨fun hi => ⟨e _ _ h, by omega⟩, fun hi => ⟨e _ _ h, by omega⟩, fun x H' hy => ?_⟩
  obtain ⟨rfl, k, b, v, he, rfl⟩ := hy
  refine ⟨Same.refl _, fun w hw => ?_⟩
  obtain ⟨rfl, hd⟩ := keys_at D he hw
  exact .dat (Dp.mono (gro_same e) _ hd)
section
variable {X : Cx} {tg iter e : Expr} {ρ : Rho} {m : M W} {p0 pos cp kp : Pos} {n1 : Nat}
def tvD (X : Cx) (te : TE) : TI := fun σ H R => te σ H fun x H1 => (∃ t a xs, x = .ref a ∧ gSq X.K t H1 a xs ∧ R (itG X.K t a) H1) ∨ ∃ d o es, x = .ref d ∧ H1 d = some (.frz o (DicO X.w d es)) ∧ R (Itq X.w d o es) H1
theorem pi_valD {te : TE} (hl : PE X iter te) : PI X tg iter (tvD X te) := by
  refine ⟨fun pins s σ H R I h => ?_⟩
  refine thn (hl.run pins s σ H _ I h) fun v s1 ⟨x, H1, I1, r1, q1⟩ => ?_
  rcases q1 with ⟨t, a, xs, e, hq, q⟩ | ⟨d, o, es, e, hd, q⟩
  · subst e
    cases r1
    cases t
    · obtain ⟨its, rv, p, hz⟩ := I1.list hq
      refine wpAny_pyIter_list p.isList ?_
      refine ⟨s1.heap.objs.size, [s1.heap.objs.size], _, _, H1, rfl, I1.kept (t' := s1.toks) fun b o e => Heap.get?_push_of_some _ e, turn_list a _, ⟨_, Heap.get?_push_size _ rfl, rfl, rfl⟩, fun b hb => ?_, q⟩
      have e : b = s1.heap.objs.size := by simpa using hb
      subst e
      exact I1.fpOk (Nat.le_refl _) (I1.hok.fresh (Nat.le_refl _))
    · obtain ⟨its, rv, p, hz⟩ := I1.tuple hq
      refine wpAny_pyIter_tuple (show s1.heap.IsTuple a its.toArray from p) ?_
      refine ⟨s1.heap.objs.size, [s1.heap.objs.size], _, _, H1, rfl, I1.kept (t' := s1.toks) fun b o e => Heap.get?_push_of_some _ e, turn_tuple a _, ⟨_, Heap.get?_push_size _ rfl, rfl, rfl⟩, fun b hb => ?_, q⟩
      have e : b = s1.heap.objs.size := by simpa using hb
      subst e
      exact I1.fpOk (Nat.le_refl _) (I1.hok.fresh (Nat.le_refl _))
  · subst e
    obtain rfl : v = Value.ref d := r1
    obtain ⟨hs, hgd, hx, es', ep, hdt, hsz, ent⟩ := frzQ I1 hd
    refine iter_keys hs hgd hx hdt (pi_one (tk := s1.toks) I1 _ (turn_keysQ _ hdt) ⟨_, Heap.get?_push_size _ rfl, rfl, ?_⟩ q)
    rw [hsz] <;> rfl
theorem im_valD (ha : EM X iter ρ m) : IM X tg iter ρ (sqD m) := fun p s R q => wI_of (pi_valD pe_s) (ha p (sat_bind s) _ fun w h1 v φ1 Hk1 Hr1 s1 p1 e1 hv => by
  obtain ⟨ws, hw, s2⟩ := sat_lf s1
  cases w with
  | dct kvs =>
    cases hw
    cases hv with
    | dct g1 g2 => exact .inr ⟨_, _, _, rfl, p1.I.kr _ _ g1, q _ _ _ _ _ _ s2 p1 e1 (wkm_q g1 g2)⟩
  | dat d =>
    obtain ⟨t, a, xs, rfl, g1, g2⟩ := hv.seq (ws := ws) hw
    exact .inl ⟨t, a, xs, rfl, same_g p1.I.kr g1, q _ _ _ _ _ _ s2 p1 e1 (wkm_g g1 g2)⟩
  | tup d =>
    obtain ⟨t, a, xs, rfl, g1, g2⟩ := hv.seq (ws := ws) hw
    exact .inl ⟨t, a, xs, rfl, same_g p1.I.kr g1, q _ _ _ _ _ _ s2 p1 e1 (wkm_g g1 g2)⟩
  | lst d =>
    obtain ⟨t, a, xs, rfl, g1, g2⟩ := hv.seq (ws := ws) hw
    exact .inl ⟨t, a, xs, rfl, same_g p1.I.kr g1, q _ _ _ _ _ _ s2 p1 e1 (wkm_g g1 g2)⟩
  | _ => cases hw)
end
section
end
end Hx
noncomputable section
namespace Hx
open PySem L2 Pd Gn PySem.Spec PyProof.Rows Zq
theorem sat_bd {α β : Type} {m : M α} {f : α → M β} {h : Hs} {P : β → Hs → Prop} {E : Xc → Hs → Prop} (s : (m h).sat (fun a h' => (f a h').sat P E) E) : (bd m f h).sat P E := sat_of (t := m h) s
end Hx
noncomputable section
namespace Hx
open PySem L2 Pd Gn PySem.Spec PyProof.Rows Zq
section
end
section
end
end Hx
noncomputable section
namespace Hx
open PySem L2 Pd Gn PySem.Spec PyProof.Rows Zq
theorem sm_bad {X : Cx} {ρE ρ : Rho} {sts : List Stmt} {α : Type} {g : α → Rho} : SM X ρE sts ρ (fun _ => .bad : M (Res W α)) g := fun p s => s.elim
section
variable {X : Cx} {pins : List (Addr × Obj)} {σ : L2.St} {H B : Hp} {s : Shared}
mutual
theorem dp_reads (I : Inv X pins σ H s) (sm : Same B H) : ∀ {d : PyData} {v : V} {u : Value}, Dp X.K B v d → L2.RelV v u → ∃ as, Reads s.heap u d as
  | .none, v, u, h, r => by
    cases h
    have r : u = .none := r
    subst r
    exact ⟨_, .none⟩
  | .bool b, v, u, h, r => by
    cases h
    have r : u = .bool b := r
    subst r
    exact ⟨_, .bool b⟩
  | .int i, v, u, h, r => by
    cases h
    obtain ⟨t, rfl⟩ := r
    exact ⟨_, .int i t⟩
  | .str x, v, u, h, r => by
    cases h
    obtain ⟨t, rfl⟩ := r
    exact ⟨_, .str x t⟩
  | .tuple ds, v, u, h, r => by
    cases h with
    | tup hs ha =>
      have r : u = .ref _ := r
      subst r
      obtain ⟨its, rv, ⟨o, ho, hc, n, hd⟩, _⟩ := I.tuple (same_t sm hs)
      obtain ⟨as, ra⟩ := dps_reads I sm ha rv
      exact ⟨as, .tuple ho hc hd (by simpa using ra)⟩
  | .list ds, v, u, h, r => by
    cases h with
    | lst hs ha =>
      have r : u = .ref _ := r
      subst r
      obtain ⟨its, rv, ⟨o, n, ho, hc, _, hd⟩, _⟩ := I.list (same_l sm hs)
      obtain ⟨as, ra⟩ := dps_reads I sm ha rv
      exact ⟨_, .list ho hc hd (by simpa using ra)⟩
  | .dict ds, v, u, h, r => by cases h
theorem dps_reads (I : Inv X pins σ H s) (sm : Same B H) : ∀ {ds : List PyData} {vs : List V} {us : List Value}, DpAll X.K B vs ds → Vals vs us → ∃ as, ReadsAll s.heap us ds as
  | [], vs, us, h, r => by
    cases h
    cases r
    exact ⟨_, .nil⟩
  | d :: ds, vs, us, h, r => by
    cases h with
    | cons h1 h2 =>
      cases r with
      | cons r1 r2 =>
        obtain ⟨as, q1⟩ := dp_reads I sm h1 r1
        obtain ⟨bs, q2⟩ := dps_reads I sm h2 r2
        exact ⟨_, .cons q1 q2⟩
end
theorem each_dps : ∀ {ds : List PyData} {vs : List V} {us : List Value}, DpAll X.K B vs ds → Vals vs us → PySem.W.EachIs (fun u d => ∃ v, L2.RelV v u ∧ Dp X.K B v d) us ds
  | [], _, _, h, r => by
    cases h
    cases r
    exact .nil
  | d :: ds, _, _, h, r => by
    cases h with
    | cons h1 h2 =>
      cases r with
      | cons r1 r2 => exact .cons ⟨_, r1, h1⟩ (each_dps h2 r2)
theorem each_reads (I : Inv X pins σ H s) (sm : Same B H) : ∀ {ds : List PyData} {us : List Value}, PySem.W.EachIs (fun u d => ∃ v, L2.RelV v u ∧ Dp X.K B v d) us ds → PySem.W.EachIs (fun u d => ∃ as, Reads s.heap u d as) us ds
  | [], _, .nil => .nil
  | _ :: _, _, .cons ⟨v, r, h⟩ t => .cons (dp_reads I sm h r) (each_reads I sm t)
theorem each_back {K : PySem.W.Frag} : ∀ {ds : List PyData} {us : List Value}, PySem.W.EachIs (fun u d => ∃ v, L2.RelV v u ∧ Dp K B v d) us ds → ∃ ys, Vals ys us ∧ DpAll K B ys ds
  | [], _, .nil => ⟨[], .nil, .nil⟩
  | _ :: _, _, .cons ⟨v, r, h⟩ t => by
    obtain ⟨ys, q1, q2⟩ := each_back t
    exact ⟨v :: ys, .cons r q1, .cons h q2⟩
end
end Hx
noncomputable section
namespace Hx
open PySem L2 Pd Gn PySem.Spec PyProof.Rows Zq
abbrev dLt (a b : PyData) : Bool := PySem.W.dataLt a b
theorem dLt_trans {a b c : PyData} (h : dLt a b = true) (g : dLt b c = true) : dLt a c = true := PyProof.Rows.lex_trans _ _ _ h g
theorem dLt_irr {a : PyData} : dLt a a = false := PyProof.Rows.lex_irrefl _
theorem dLt_asymm {a b : PyData} (h : dLt a b = true) : dLt b a = false := by
  cases q : dLt b a with
  | false => rfl
  | true =>
    have := dLt_trans h q
    rw [dLt_irr] at this
    cases this
theorem le_trans' (a b c : PyData) (h : PySem.W.dataLe false id a b = true) (g : PySem.W.dataLe false id b c = true) : PySem.W.dataLe false id a c = true := by
  have h : (!dLt b a) = true := h
  have g : (!dLt c b) = true := g
  show (!dLt c a) = true
  cases q : dLt c a with
  | false => rfl
  | true =>
    rcases PyProof.Rows.lex_negTrans _ (PySem.W.keyToks b) _ q with z | z
    · have z : dLt c b = true := z
      rw [z] at g
      cases g
    · have z : dLt b a = true := z
      rw [z] at h
      cases h
theorem le_total' (a b : PyData) : (PySem.W.dataLe false id a b || PySem.W.dataLe false id b a) = true := by
  show ((!dLt b a) || (!dLt a b)) = true
  cases q : dLt b a with
  | false => rfl
  | true =>
    rw [dLt_asymm q]
    rfl
def insD (x : PyData) : List PyData → List PyData
  | [] => [x]
  | y :: r => match dLt y x with | true => y :: insD x r | false => x :: y :: r
def srtD : List PyData → List PyData
  | [] => []
  | x :: r => insD x (srtD r)
def ascD : List PyData → Bool
  | [] => true
  | x :: r => match r with | [] => true | y :: _ => match dLt x y with | true => ascD r | false => false
theorem insD_perm {x : PyData} : ∀ {l : List PyData}, (insD x l).Perm (x :: l)
  | [] => .refl _
  | y :: r => by
    unfold insD
    cases q : dLt y x with
    | true => exact (List.Perm.cons y insD_perm).trans (.swap x y r)
    | false => exact .refl _
theorem srtD_perm : ∀ {l : List PyData}, (srtD l).Perm l
  | [] => .refl _
  | x :: r => insD_perm.trans (.cons x srtD_perm)
theorem ascD_pw : ∀ {l : List PyData}, ascD l = true → l.Pairwise (fun a b => dLt a b = true)
  | [], _ => .nil
  | [x], _ => List.pairwise_singleton _ _
  | x :: y :: r, h => by
    unfold ascD at h
    cases q : dLt x y with
    | false => simp only [q] at h; cases h
    | true =>
      simp only [q] at h
      have ih := ascD_pw (l := y :: r) h
      refine List.pairwise_cons.mpr ⟨fun z hz => ?_, ih⟩
      rcases List.mem_cons.mp hz with e | hz
      · rw [e]; exact q
      · exact dLt_trans q ((List.pairwise_cons.mp ih).1 z hz)
def tupNE : PyData → Bool
  | .tuple (_ :: _) => true
  | _ => false
def okSort (ds : List PyData) : Bool := ascD (srtD ds) && (ds.all (fun a => ds.all fun b => PySem.W.alike a b) && (ds.all tupNE && ds.all fun d => Nat.ble d.depth 32))
end Hx
noncomputable section
namespace Hx
open PySem L2 Pd Gn PySem.Spec PyProof.Rows Zq
section
end
end Hx
noncomputable section
namespace Hx
open PySem L2 Pd Gn PySem.Spec PyProof.Rows Zq
section
end
end Hx
noncomputable section
namespace Hx
open PySem L2 Pd Gn PySem.Spec PyProof.Rows Zq
def listDM (m : M W) : M (List W) := bd m fun w => fun h => lf ((isD h w).map keysW) h
end Hx
noncomputable section
namespace Hx
open PySem L2 Pd Gn PySem.Spec PyProof.Rows Zq
section
variable {K : PySem.W.Frag} {wd : World} {φ φ' : List Addr} {hs hs' : Hs} {Ho Hk Hk' Hr H2 : Hp}
/-- all that stands is known -/
theorem Ok.all (H : Hp) : Ok K wd [] ⟨0, []⟩ (fun _ => none) H H := ⟨Same.refl _, fun _ _ z => (nomatch z), rfl, fun i o z => (nomatch z), fun i o z => (nomatch z), fun i j a z => absurd rfl z, fun _ _ z => (nomatch z)⟩
end
section
end
def scals : List W → Bool
  | [] => true
  | w :: r => match scal w with | true => scals r | false => false
theorem VRs.scal {K : PySem.W.Frag} {wd : World} {φ φ' : List Addr} {H H' : Hp} : ∀ {ws : List W} {vs : List V}, scals ws = true → VRs K wd φ H ws vs → VRs K wd φ' H' ws vs
  | [], _, _, .nil => .nil
  | w :: r, _, s, .cons h1 h2 => by
    unfold scals at s
    cases z : Hx.scal w with
    | false => rw [z] at s; cases s
    | true =>
      rw [z] at s
      exact .cons (VR.scal z h1) (VRs.scal s h2)
end Hx
noncomputable section
namespace Hx
open PySem L2 Pd Gn PySem.Spec PyProof.Rows Zq
end Hx
namespace Hx
open PySem L2 Pd Gn PySem.Spec PyProof.Rows Zq
theorem drs_keys {K : PySem.W.Frag} {wd : World} {φ : List Addr} {H : Hp} : ∀ {kvs : List (NestedKey × W)} {es : List (NestedKey × Addr × V)}, DRs K wd φ H kvs es → VRs K wd φ H (keysW kvs) (es.map fun e => V.ref e.2.1)
  | _, _, .nil => .nil
  | _, _, .cons h1 h2 h3 h4 => .cons (.dat h2) (drs_keys h4)
def rListQ (X : Cx) : List V → Hp → VK → Prop := fun xs H Q => ∃ p es, xs = [.ref p] ∧ Rd H p (DicO X.w p es) ∧ ∀ q, H q = none → Q (.ref q) (upd H q (.lst (es.map fun e => V.ref e.2.1)))
theorem call_list_q {X : Cx} (hc : X.calm = true) : CallR X (.type "list") (rListQ X) := by
  intro pins s σ H xs us Q I r h
  obtain ⟨p, es, e, hk, q⟩ := h
  subst e
  obtain rfl := Vals.ref1 r
  obtain ⟨⟨z, y, xs, r2, o, es', ep, h1, h2, h3, h4, h5⟩, _, _⟩ := (show ObjOk X.prog X.w H s.heap p (DicO X.w p es) from hk.ok I.hok)
  have l1 : es'.size = xs.length := by rw [← Array.length_toList, h4, List.length_map]
  have l2 : es.length = xs.length := Paired.length r2
  refine PySem.W.kdl_call (kdl_raw y h2 h3) (I.ok.hd hc) h1 (by omega) fun h' tk acc' c' hkeep hS hacc => ?_
  refine ⟨.ref s.heap.objs.size, upd H s.heap.objs.size (.lst (es.map fun e => V.ref e.2.1)), I.laid hkeep (Nat.le_refl _) (show ObjOk X.prog X.w _ _ _ (.lst (es.map fun e => V.ref e.2.1)) from ⟨?_, acc'.toList, c', ?_, ?_⟩), rfl, q _ (I.hok.fresh (Nat.le_refl _))⟩
  · rw [List.length_map]; omega
  · have el : acc'.toList.length = acc'.size := by simp
    refine vals_of_at (by rw [List.length_map, el, hacc.1]; omega) fun j x w k1 k2 => ?_
    obtain ⟨en, he, hw⟩ := hacc.2 j w (by rw [← Array.getElem?_toList]; exact k2)
    rw [List.getElem?_map] at k1
    cases ze : es[j]? with
    | none => rw [ze] at k1; cases k1
    | some e3 =>
      rw [ze] at k1
      cases k1
      obtain ⟨qq, hq, e1, e2, _⟩ := paired_get r2 ze
      have ee : es'[j]? = (xs[j]?).map (fun x => (⟨x.1.hash X.w, .ref x.2.1, x.2.2⟩ : DictEntry)) := by rw [← Array.getElem?_toList, h4, List.getElem?_map]
      rw [hq] at ee
      rw [ee] at he
      cases he
      subst hw
      show Value.ref qq.2.1 = Value.ref e3.2.1
      rw [← e2]
  · rw [Array.toArray_toList]; exact hS
theorem lm_listD {X : Cx} {ρ : Rho} {e : Expr} {m : M W} {p0 pos : Pos} (hc : X.calm = true) (hm : X.mg "list" = none) (ha : EM X e ρ m) (hg : Gl X "list" := by rfl) (he : starEach [e] X.env = [(false, eval e X.env)] := by rfl) (hpl : (backTo pos (starEach ([] : List Expr) X.env)).any (·.1) = false := by rfl) : LM X (.Call (.Name "list" p0) [e] [] pos) ρ (listDM m) := fun p s Q q => by
  refine sE_of (pe_callTy (call_list_q hc) hg hm (by decide +kernel) pa_s (by decide) (by decide) he hpl) (am_one ha he p (sat_bind s) _ fun w h1 v φ1 Hk1 Hr1 s1 p1 e1 hv => ?_)
  obtain ⟨us, hw, s2⟩ := sat_lf s1
  obtain ⟨kvs, hk, hw⟩ := mpd hw
  subst hw
  obtain ⟨ad, es, rfl, g1, g2⟩ := isD_ok p1.I hv hk
  exact ⟨ad, es, rfl, g1, fun l hl => q _ _ l _ φ1 Hk1 _ s2 (p1.I.outer hl) (far_of p1.I.out hl) (far_of p1.I.kr hl) e1 (drs_keys g2)⟩
end Hx
noncomputable section
namespace Hx
open PySem L2 Pd Gn PySem.Spec PyProof.Rows Zq
end Hx
noncomputable section
namespace Hx
open PySem L2 Pd Gn PySem.Spec PyProof.Rows Zq
section
variable {K : PySem.W.Frag} {wd : World} {φ : List Addr} {H : Hp} {k : Int} {w : W} {v : V}
theorem KRs.len : ∀ {kvs : List (Int × W)} {es : List (Key × V)}, KRs K wd φ H kvs es → es.length = kvs.length
  | _, _, .nil => rfl
  | _, _, .cons _ h => by rw [List.length_cons, List.length_cons, KRs.len h]
end
section
end
end Hx
noncomputable section
namespace Hx
open PySem L2 Pd Gn PySem.Spec PyProof.Rows Zq HT
section
end
section
end
end Hx
noncomputable section
namespace Hx
open PySem L2 Pd Gn PySem.Spec PyProof.Rows Zq
end Hx
noncomputable section
namespace Hx
open PySem L2 Pd Gn PySem.Spec PyProof.Rows Zq
/-- what is known of a class -/
structure InsX (K : PySem.W.Frag) (mg : Str → Option Value) (c : Nat) (C : Addr) : Prop where
  nc : insC K c C
  cl : Cls K C
  na : ∀ x ∈ insF c, NoAttr K C x
  gC : mg (insN c) = some (.ref C)
theorem insF_nd : ∀ c, (insF c).Nodup
  | 0 => by decide +kernel
  | 1 => by decide +kernel
  | _ + 2 => by show (insF 2).Nodup; decide +kernel
theorem zip_lookup : ∀ {ns : List Str} {vs : List V} {k : Nat} {x : Str} {v : V}, ns.Nodup → ns[k]? = some x → vs[k]? = some v → (ns.zip vs).lookup x = some v
  | [], _, _, _, _, _, h, _ => by simp at h
  | n :: ns, [], k, x, v, _, _, h => by simp at h
  | n :: ns, u :: vs, 0, x, v, hn, h1, h2 => by
    simp only [List.getElem?_cons_zero, Option.some.injEq] at h1 h2
    subst h1 h2
    show (match n == n with | true => some u | false => (ns.zip vs).lookup n) = some u
    rw [beq_self_eq_true]
  | n :: ns, u :: vs, k + 1, x, v, hn, h1, h2 => by
    have h1 : ns[k]? = some x := by simpa using h1
    have h2 : vs[k]? = some v := by simpa using h2
    rw [List.nodup_cons] at hn
    have ne : ¬ x = n := fun e => hn.1 (e ▸ List.mem_of_getElem? h1)
    show (match x == n with | true => some u | false => (ns.zip vs).lookup x) = some v
    rw [beq_eq_false_iff_ne.mpr ne]
    exact zip_lookup hn.2 h1 h2
theorem zip_none : ∀ {ns : List Str} {vs : List V} {x : Str}, x ∉ ns → (ns.zip vs).lookup x = none
  | [], _, _, _ => by simp
  | n :: ns, [], x, _ => by simp
  | n :: ns, u :: vs, x, h => by
    have ne : ¬ x = n := fun e => h (e ▸ List.mem_cons_self)
    show (match x == n with | true => some u | false => (ns.zip vs).lookup x) = none
    rw [beq_eq_false_iff_ne.mpr ne]
    exact zip_none fun q => h (List.mem_cons_of_mem _ q)
theorem putF_zip : ∀ {ns : List Str} {vs : List V} {x : Str} {v : V}, ns.Nodup → ns[vs.length]? = some x → putF x v (ns.zip vs) = ns.zip (vs ++ [v])
  | [], _, _, _, _, h => by simp at h
  | n :: ns, [], x, v, hn, h => by
    simp only [List.length_nil, List.getElem?_cons_zero, Option.some.injEq] at h
    subst h
    simp [putF]
  | n :: ns, u :: vs, x, v, hn, h => by
    have h : ns[vs.length]? = some x := by simpa using h
    rw [List.nodup_cons] at hn
    have ne : ¬ n = x := fun e => hn.1 (e ▸ List.mem_of_getElem? h)
    show (if n = x then _ else (n, u) :: putF x v (ns.zip vs)) = _
    rw [if_neg ne, putF_zip hn.2 h]
    rfl
def isI (c : Nat) : W → Option (List W)
  | .ins d fs => match Nat.beq d c with | true => some fs | false => none
  | _ => none
theorem isI_eq {c : Nat} {w : W} {fs : List W} (e : isI c w = some fs) : w = .ins c fs := by
  cases w with
  | ins d l =>
    have e : (match Nat.beq d c with | true => some l | false => none : Option (List W)) = some fs := e
    cases q : Nat.beq d c with
    | false => rw [q] at e; cases e
    | true =>
      rw [q] at e
      cases e
      rw [Nat.eq_of_beq_eq_true q]
  | _ => cases e
theorem isI_ok {K : PySem.W.Frag} {wd : World} {φ : List Addr} {H : Hp} {c : Nat} {C : Addr} {w : W} {v : V} {fs : List W} (hv : VR K wd φ H w v) (e : isI c w = some fs) (n : insC K c C) : ∃ a dx vs, v = .ref a ∧ H a = some (.ins C dx ((insF c).zip vs)) ∧ vs.length = (insF c).length ∧ VRs K wd φ H fs vs := by
  have := isI_eq e
  subst this
  cases hv with
  | ins h1 h2 h3 h4 =>
    cases insC_eq n h1
    exact ⟨_, _, _, rfl, h2, h3, h4⟩
section
variable {X : Cx} {ρE ρ : Rho} {a b o e : Expr} {es : List Expr} {rest : List Stmt} {m m1 m2 : M W} {ma : M (List W)} {p0 p1 pos apos : Pos} {α : Type} {g : α → Rho} {n c k : Nat} {x : Str} {C : Addr}
/-- e.x -/
def fldM (c k : Nat) (m : M W) : M W := bd m fun w => lf ((isI c w).bind fun fs => fs[k]?)
theorem em_fld (T : InsX X.K X.mg c C) (hk : (insF c)[k]? = some x) (he : EM X e ρ m) (hb : attributeBase e x X.env (eval e X.env) = eval e X.env := by rfl) : EM X (.Attribute e x pos) ρ (fldM c k m) := fun p s Q q => by
  refine sE_of (pe_fld pe_s hb) (he p (sat_bind s) _ fun w h1 v φ1 Hk1 Hr1 s1 p1 e1 hv => ?_)
  obtain ⟨u, hu, s2⟩ := sat_lf s1
  obtain ⟨fs, h2, h3⟩ := bnd hu
  obtain ⟨a, dx, vs, rfl, g1, g2, g3⟩ := isI_ok hv h2 T.nc
  obtain ⟨y, hy, ry⟩ := g3.get h3
  exact ⟨a, C, dx, _, y, rfl, p1.I.kr _ _ g1, T.cl, T.na x (List.mem_of_getElem? hk), zip_lookup (insF_nd c) hk hy, q _ _ _ _ _ _ s2 p1 e1 ry⟩
/-- self.x = e, while the instance is made -/
def setAM (c k : Nat) (m mo : M W) : M Unit := bd m fun v => bd mo fun o => fun h => match o with
  | .ref i => match h.get i with
    | some (.ins d fs) => match Nat.beq d c && Nat.beq fs.length k with
      | true => .ok () (h.put i (.ins c (fs ++ [v])))
      | false => .bad
    | _ => .bad
  | _ => .bad
theorem sm_setA {kk : M (Res W α)} (TT : InsX X.K X.mg c C) (hk : (insF c)[k]? = some x) (hl : k < 1000) (he : EM X e ρ m) (ho : EM X o ρ m1) (hr : SM X ρE rest ρ kk g) (hs : swapsWith e (some (.Attribute o x p1)) pos.line X.env = pure false := by rfl) : SM X ρE (.Assign [.Attribute o x p1] e pos :: rest) ρ (bd (setAM c k m m1) fun _ => kk) g := fun p s D nx r => by
  refine sSs_of (pss_cons (ps_fld pe_s pe_s hs) pss_s) (he p.pt (sat_bind (sat_bind s)) _ fun w h1 v φ1 Hk1 Hr1 s1 p1 e1 hv => ho p1 (sat_bind s1) _ fun ow h2 ov φ2 Hk2 Hr2 s2 p2 e2 hov => ?_)
  have e12 := e1.trans e2
  have hv := hv.ex e2
  cases ow with
  | ref i =>
    have s2 : (match h2.get i with | some (.ins d fs) => (match Nat.beq d c && Nat.beq fs.length k with | true => T.ok () (h2.put i (.ins c (fs ++ [w]))) | false => T.bad) | _ => T.bad : T Unit).sat _ _ := s2
    cases gg : h2.get i with
    | none => rw [gg] at s2; exact s2.elim
    | some u =>
      rw [gg] at s2
      cases u with
      | ins d fs =>
        cases z : Nat.beq d c && Nat.beq fs.length k with
        | false =>
          have s2 : (match Nat.beq d c && Nat.beq fs.length k with | true => T.ok () (h2.put i (.ins c (fs ++ [w]))) | false => T.bad : T Unit).sat _ _ := s2
          rw [z] at s2
          exact s2.elim
        | true =>
          have s2 : (match Nat.beq d c && Nat.beq fs.length k with | true => T.ok () (h2.put i (.ins c (fs ++ [w]))) | false => T.bad : T Unit).sat _ _ := s2
          rw [z] at s2
          rw [Bool.and_eq_true] at z
          have ec := Nat.eq_of_beq_eq_true z.1
          have el := Nat.eq_of_beq_eq_true z.2
          subst ec
          cases hov with
          | @ref _ a0 ha =>
            obtain ⟨ad, f1, f2, f3, C', dx, vs, nc, f4, f5⟩ := p2.I.obj i _ gg
            rw [ha] at f1
            cases f1
            cases insC_eq TT.nc nc
            have lv := VRs.len f5
            have ez := putF_zip (v := v) (insF_nd d) (show (insF d)[vs.length]? = some x by rw [lv, el]; exact hk)
            refine ⟨a0, C, dx, _, rfl, f4, TT.cl, TT.na x (List.mem_of_getElem? hk), ?_, ?_⟩
            · rw [List.length_zip]; omega
            · have I4 := p2.I.put (o' := .ins d (fs ++ [w])) (u := .ins C dx (putF x v ((insF d).zip vs))) gg ha ⟨C, dx, vs ++ [v], TT.nc, by rw [upd_same, ez], f5.app (.cons hv .nil)⟩
              exact hr (p.to I4 e12 p2.R p.sub) s2 D (fun a hs' φ' Hk' Hr' σ' h q e' => nx a hs' φ' Hk' Hr' σ' h q (e12.trans e')) (fun w hs' v φ' Hk' Hr' h I e' hv => r w hs' v φ' Hk' Hr' h I (e12.trans e') hv)
      | _ => exact s2.elim
  | _ => exact (show (T.bad : T Unit).sat _ _ from s2).elim
end
end Hx
namespace L2
open PySem PySem.Spec PyProof.Rows
section
variable {X : Cx} {CX : CXT} {k : Nat} {f C : Addr} {fd : FuncData} {ps : List Str} {sp : Sp} {dvs : List V} {ds : List Value} {E : St → XK} {x m : Str} {p pos apos : Pos} {e o : Expr} {es : List Expr} {ta : TE} {t : TA}
def tMakeS (C : Addr) (sp : Sp) (dvs : List V) (E : St → XK) (t : TA) : TE := fun σ H Q => t σ H fun vs H1 => ∀ x dx, H1 x = none → H1 dx = none → dx ≠ x →
  sp (.ref x :: (vs ++ dvs)) (upd (upd H1 dx (.own x)) x (.ins C dx [])) (fun v H2 => v = .non ∧ Q (.ref x) H2) (E σ)
theorem run_makeS {pins : List (Addr × Obj)} {σ : St} {H : Hp} {s : Shared} {Q : VK} {us : List Value} {vs : List V} (M : Mk X.K C f) (F : FnOk X.prog X.w X.K X.mg X.base CX k f fd ps sp) (hr : Room (k + 1) X.A) (hb : Binds X.K fd ps ds) (hd : Vals dvs ds)
    (hx : PassesAt CX X σ (E σ)) (I : Inv X pins σ H s) (r : Vals vs us)
    (h : ∀ x dx, H x = none → H dx = none → dx ≠ x → sp (.ref x :: (vs ++ dvs)) (upd (upd H dx (.own x)) x (.ins C dx [])) (fun v H2 => v = .non ∧ Q (.ref x) H2) (E σ)) :
    wpAny (model X.prog X.w) X.A (call (.ref C) us) (EP X pins σ Q) X.xe s := by
  have hq := h (s.heap.objs.size + 1) s.heap.objs.size (I.hok.fresh (Nat.le_succ _)) (I.hok.fresh (Nat.le_refl _)) (Nat.ne_of_lt (Nat.lt_succ_self _))
  have I2 := Inv.made (C := C) I
  have r2 : Vals (V.ref (s.heap.objs.size + 1) :: (vs ++ dvs)) (Value.ref (s.heap.objs.size + 1) :: (us ++ ds)) := .cons rfl (r.append hd)
  have hl : (Value.ref (s.heap.objs.size + 1) :: us ++ ds).length = ps.length := by
    have e := r2.length
    rw [F.len _ _ _ _ hq] at e
    exact e.symm
  refine wpAny_call (make_map (f := f) I.kIn M.makes M.init (beq_iff_eq.mp M.fn) (codeAny_mono (F.run _ X.stack _ _ ⟨Value.ref (s.heap.objs.size + 1) :: us, []⟩ (Value.ref (s.heap.objs.size + 1) :: (us ++ ds)) _ _ (E σ) (hr.make C us [])
    (I2.env0.make C us []) (hb _ (Value.ref (s.heap.objs.size + 1) :: us) I2.kIn hl) r2 hq) fun r s' hq' => ?_))
  cases r with
  | error e => exact hx pins _ _ e s' I2 hq'
  | ok fl =>
    cases fl with
    | ret u =>
      obtain ⟨v, H', I3, rv, ev, q3⟩ := I2.after hq'
      subst ev
      exact ⟨rv, ⟨V.ref (s.heap.objs.size + 1), H', I3, rfl, q3⟩⟩
    | next => exact False.elim hq'
    | brk => exact False.elim hq'
    | cont => exact False.elim hq'
theorem pe_makeS (M : Mk X.K C f) (F : FnOk X.prog X.w X.K X.mg X.base CX k f fd ps sp) (hr : Room (k + 1) X.A) (hg : Gl X x) (hm : X.mg x = some (.ref C)) (hb : Binds X.K fd ps ds) (hd : Vals dvs ds) (hx : ∀ σ, PassesAt CX X σ (E σ))
    (ha : PA X (e :: es) t) (hdb : (x == ("__debug__" : Str)) = false := by decide) (he : starEach (e :: es) X.env = (false, eval e X.env) :: starEach es X.env := by rfl) (hpl : (backTo pos (starEach es X.env)).any (·.1) = false := by rfl) :
    PE X (.Call (.Name x p) (e :: es) [] pos) (tMakeS C sp dvs E t) := by
  refine ⟨fun pins s σ H Q I h => ?_⟩
  refine wpAny_Call_Name_kw (ld_glob I hg hm ?_ hdb)
  refine PySem.W.callWith_K (h₀ := X.base) I.ok.mod.kin M.kp (thn (ha.run pos pins s σ H _ I h) fun us s1 ⟨vs, H1, I1, r, q⟩ => ⟨I1.kIn, ?_⟩) he hpl
  exact run_makeS M F hr hb hd (hx σ) I1 r q
def tMethXS (C : Addr) (m : Str) (sp : Sp) (E : St → XK) (ta : TE) (t : TA) : TE := fun σ H Q => ta σ H fun x H1 => ∃ a dx fs, x = .ref a ∧ H1 a = some (.ins C dx fs) ∧ fs.lookup m = none ∧
  t σ H1 fun vs H2 => sp (x :: vs) H2 Q (E σ)
theorem pe_methXS0 {pl : Sem Bool} (he : PE X o ta) (c : Cls X.K C) (hm : Meth X.K C m f) (F : FnOk X.prog X.w X.K X.mg X.base CX k f fd ps sp) (hr : Room k X.A) (hb : Binds X.K fd ps []) (hx : ∀ σ, PassesAt CX X σ (E σ))
    (ht : eval (.Call (.Attribute o m apos) [] [] pos) X.env = (do
      let ov ← eval o X.env
      standAt apos.atName
      let (f, first) ← holding [ov] (getMethod ov m pl)
      callWith pos f first (backTo pos (starEach [] X.env)) (backToKw pos (keywordEach [] X.env))) := by rfl) :
    PE X (.Call (.Attribute o m apos) [] [] pos) (tMethXS C m sp E ta tNil) := by
  refine ⟨fun pins s σ H Q I h => ?_⟩
  refine PySem.W.methodCall_KW (pl := pl) (thn (he.run pins s σ H _ I h) fun u s1 ⟨x, H1, I1, rx, a, dx, fs, ex, ea, l, q⟩ => ?_) ht
  subst ex
  obtain rfl : u = Value.ref a := rx
  refine getmeth_ok I1 ea c hm l ?_
  exact PySem.W.callWith_K0 (first := [.ref a]) I1.kIn hm.kp (run_fnS (us := [.ref a]) (vs := [.ref a]) F hr hb (hx σ) I1 (.cons rfl .nil) q)
end
end L2
noncomputable section
namespace Hx
open PySem L2 Pd Gn PySem.Spec PyProof.Rows Zq
/-- __init__ of a class, with defaults -/
structure CalC (P : Program) (w : World) (K : PySem.W.Frag) (mg : Str → Option Value) (base : Heap) (k c : Nat) (ps : List Str) (n : Nat) (dv : List W) (m : List W → M W) : Prop where
  ex : ∃ (C f : Addr) (fd : FuncData) (us : List Value) (vs : List V), InsX K mg c C ∧ FnOk P w K mg base (L2.CX P w) k f fd ps (spM K w mg n m) ∧ Mk K C f ∧ Binds K fd ps us ∧ Vals vs us ∧ ∀ φ H, VRs K w φ H dv vs
/-- a method of a class -/
structure CalO (P : Program) (w : World) (K : PySem.W.Frag) (mg : Str → Option Value) (base : Heap) (k c : Nat) (nm : Str) (ps : List Str) (n : Nat) (m : List W → M W) : Prop where
  ex : ∃ (C f : Addr) (fd : FuncData), InsX K mg c C ∧ FnOk P w K mg base (L2.CX P w) k f fd ps (spM K w mg n m) ∧ Meth K C nm f ∧ Binds K fd ps []
def mkI (c : Nat) (h : Hs) : T W → T W
  | .ok (.dat .none) h' => match h'.get 0 with
    | some (.ins d fs) => match Nat.beq d c && (Nat.beq fs.length (insF c).length && norefs fs) with
      | true => .ok (.ins c fs) h
      | false => .bad
    | _ => .bad
  | .ok _ _ => .bad
  | .exc x _ => .exc x h
  | .draw n k => .draw n fun v => mkI c h (k v)
  | .bad => .bad
theorem sat_mkI {c : Nat} {h : Hs} {P : W → Hs → Prop} {E : Xc → Hs → Prop} : ∀ {t : T W}, (mkI c h t).sat P E → t.sat (fun w h' => w = .dat .none ∧ ∃ fs, h'.get 0 = some (.ins c fs) ∧ fs.length = (insF c).length ∧ norefs fs = true ∧ P (.ins c fs) h) (fun x _ => E x h)
  | .ok w h', s => by
    unfold mkI at s
    split at s
    · rename_i e
      cases e
      split at s
      · rename_i d fs g
        split at s
        · rename_i z
          rw [Bool.and_eq_true, Bool.and_eq_true] at z
          have ed := Nat.eq_of_beq_eq_true z.1
          subst ed
          exact ⟨rfl, fs, g, Nat.eq_of_beq_eq_true z.2.1, z.2.2, s⟩
        · exact s.elim
      · exact s.elim
    · exact s.elim
    · rename_i e; cases e
    · rename_i e; cases e
    · exact s.elim
  | .exc x _, s => s
  | .draw n k, s => fun v hv => sat_mkI (t := k v) (s v hv)
  | .bad, s => s
def makeM (c n : Nat) (dv : List W) (ma : M (List W)) (m : List W → M W) : M W := bd ma fun ws => bd (lf (gd (Nat.beq ((ws ++ dv).length + 1) n && norefs (ws ++ dv)) (some ()))) fun _ => fun h => normWs (ws ++ dv) fun ws => mkI c h (m (.ref 0 :: ws) ⟨1, [(0, .ins c [])]⟩)
theorem upd_self {H : Hp} {a : Addr} {u : HO} (h : H a = some u) : upd H a u = H := by
  funext b
  unfold upd
  by_cases q : b = a
  · rw [if_pos q, q, h]
  · rw [if_neg q]
section
variable {X : Cx} {ρ : Rho} {a b o e : Expr} {es : List Expr} {m m1 m2 : M W} {ma : M (List W)} {mm : List W → M W} {p0 p1 pos apos : Pos} {n c k : Nat} {x nm : Str} {C : Addr} {ps : List Str} {dv : List W}
theorem em_make (cl : CalC X.prog X.w X.K X.mg X.base k c ps n dv mm) (hx : insN c = x) (hr : Room (k + 1) X.A) (ha : AM X (e :: es) ρ ma) (hg : Gl X x := by rfl) (hdb : (x == ("__debug__" : Str)) = false := by decide) (he : starEach (e :: es) X.env = (false, eval e X.env) :: starEach es X.env := by rfl) (hpl : (backTo pos (starEach es X.env)).any (·.1) = false := by rfl) :
    EM X (.Call (.Name x p0) (e :: es) [] pos) ρ (makeM c n dv ma mm) := fun p s Q q => by
  obtain ⟨C, f, fd, us, vs0, TT, F, M, hb, rv, hv0⟩ := cl.ex
  have gC := TT.gC
  rw [hx] at gC
  refine sE_of (pe_makeS M F hr hg gC hb rv (fun σ => passAt p.tk σ) pa_s hdb he hpl) (ha p (sat_bind s) _ fun ws h1 vs φ1 Hk1 Hr1 s1 p1 e1 hvs => ?_)
  obtain ⟨_, hn, s2⟩ := sat_lf (sat_bind s1)
  have g := (gd_some hn).1
  rw [Bool.and_eq_true] at g
  rw [normWs_eq] at s2
  intro ad dx na nd ne
  have I0 := (p1.I.iso).gro (new_same nd (.own ad))
  have na2 : upd Hr1 dx (.own ad) ad = none := by rw [upd_ne ne.symm]; exact na
  have I1 : Ok X.K X.w ([] ++ [ad]) ((⟨0, []⟩ : Hs).new (.ins c [])) _ _ (upd (upd Hr1 dx (.own ad)) ad (.ins C dx [])) := I0.new na2 (new_same na2 _) ⟨C, dx, [], TT.nc, by rw [upd_same, List.zip_nil_right], .nil⟩
  have ek := (Ex.gro (φ := φ1) p1.I.kr (H2 := upd Hr1 dx (.own ad))).k
  have hargs := (VRs.nr (φ' := [ad]) g.2 (hvs.app (hv0 φ1 Hk1))).mono Fx.refl ek
  refine ⟨[ad], _, _, _, .ref 0 :: (ws ++ dv), _, _, ?_, I1, .cons (.ref rfl) hargs, sat_mkI s2, fun w hs' v φ' Hk' H' hp I e hv => ?_, fun x hs' C d φ' Hk' H' hp I e ha => ?_⟩
  · rw [List.length_cons]; exact Nat.eq_of_beq_eq_true g.1
  · obtain ⟨rfl, fs, g0, gl, gn, hP⟩ := hp
    have hv : v = .non := by
      cases hv with
      | dat h => cases h; rfl
    refine ⟨hv, ?_⟩
    have h0 : φ'[0]? = some ad := e.f 0 ad rfl
    obtain ⟨b, q1, q2, q3, C', dx', vs', nc, q4, q5⟩ := I.obj 0 _ g0
    rw [h0] at q1
    cases q1
    cases insC_eq TT.nc nc
    obtain ⟨e3, J⟩ := I.fix1 (.ins C dx' ((insF c).zip vs')) g0 h0
    rw [upd_self q4] at J
    have ee : Ex φ1 Hk1 φ1 (upd Hk' ad (.ins C dx' ((insF c).zip vs'))) := ⟨Fx.refl, (ek.trans e.k).trans e3⟩
    exact q _ h1 (.ref ad) φ1 _ H' hP (p1.go (p1.I.back J ee.k) ee) (e1.trans ee) (.ins TT.nc upd_same (by rw [VRs.len q5]; exact gl) ((VRs.nr gn q5).mono Fx.refl e3))
  · have ee : Ex φ1 Hk1 φ1 Hk' := ⟨Fx.refl, ek.trans e.k⟩
    exact p1.x x h1 C d φ1 Hk' H' hp (p1.I.back I ee.k) ee ha
/-- o.m(..), m a method of the class c -/
def methM (c n : Nat) (mo : M W) (ma : M (List W)) (mm : List W → M W) : M W := bd mo fun o => bd (lf (isI c o)) fun _ => bd ma fun ws => bd (lf (gd (Nat.beq (ws.length + 1) n && (noref o && norefs ws)) (some ()))) fun _ => fun h => normWs (o :: ws) fun ws => isoT h (mm ws ⟨0, []⟩)
theorem norefs_cons {w : W} {ws : List W} (h : (noref w && norefs ws) = true) : norefs (w :: ws) = true := by
  rw [Bool.and_eq_true] at h
  unfold norefs
  rw [h.1]
  exact h.2
theorem em_meth0 {pl : Sem Bool} (cl : CalO X.prog X.w X.K X.mg X.base k c nm ps n mm) (hx : nm ∉ insF c) (hr : Room k X.A) (ho : EM X o ρ m)
    (ht : eval (.Call (.Attribute o nm apos) [] [] pos) X.env = (do
      let ov ← eval o X.env
      standAt apos.atName
      let (f, first) ← holding [ov] (getMethod ov nm pl)
      callWith pos f first (backTo pos (starEach [] X.env)) (backToKw pos (keywordEach [] X.env))) := by rfl) :
    EM X (.Call (.Attribute o nm apos) [] [] pos) ρ (methM c n m (rt []) mm) := fun p s Q q => by
  obtain ⟨C, f, fd, TT, F, M, hb⟩ := cl.ex
  refine sE_of (pe_methXS0 (pl := pl) pe_s TT.cl M F hr hb (fun σ => passAt p.tk σ) ht) (ho p (sat_bind s) _ fun ow h1 ov φ1 Hk1 Hr1 s1 p1 e1 hov => ?_)
  obtain ⟨fs, hfs, s2⟩ := sat_lf (sat_bind s1)
  obtain ⟨a, dx, vs, rfl, g1, g2, g3⟩ := isI_ok hov hfs TT.nc
  refine ⟨a, dx, _, rfl, p1.I.kr _ _ g1, zip_none hx, ?_⟩
  have s2 := sat_bind (t := rt [] h1) s2
  obtain ⟨_, hn, s4⟩ := sat_lf (sat_bind (show (T.bind (lf (gd (Nat.beq (([] : List W).length + 1) n && (noref ow && norefs [])) (some ())) h1) _).sat _ _ from s2))
  have g := (gd_some hn).1
  rw [Bool.and_eq_true] at g
  rw [normWs_eq] at s4
  refine ⟨[], ⟨0, []⟩, _, Hk1, [ow], _, _, Nat.eq_of_beq_eq_true g.1, p1.I.iso, VRs.nr (norefs_cons g.2) (.cons hov .nil), sat_iso s4, fun w hs' v φ' Hk' H' hp I e hv => ?_, fun x hs' C d φ' Hk' H' hp I e ha => ?_⟩
  · have ee : Ex φ1 Hk1 φ1 Hk' := ⟨Fx.refl, e.k⟩
    exact q _ h1 v φ1 Hk' H' hp.2 (p1.go (p1.I.back I e.k) ee) (e1.trans ee) (VR.nr hp.1 hv)
  · have ee : Ex φ1 Hk1 φ1 Hk' := ⟨Fx.refl, e.k⟩
    exact p1.x x h1 C d φ1 Hk' H' hp (p1.I.back I e.k) ee ha
end
end Hx
noncomputable section
namespace Hx
open PySem L2 Pd Gn PySem.Spec PyProof.Rows Zq
/-- a call of a method with two instances, by an operator -/
def rOwn (C : Addr) (sp : Sp) (ok : V → Prop) : R2 := fun x y H Q => ∃ a b dx dy fs gs, x = .ref a ∧ y = .ref b ∧ H a = some (.ins C dx fs) ∧ H b = some (.ins C dy gs) ∧ sp [.ref a, .ref b] H (fun v H' => ok v ∧ Q v H') (fun _ _ _ => False)
section
variable {X : Cx} {k : Nat} {f C : Addr} {fd : FuncData} {ps : List Str} {sp : Sp}
theorem op_own {op : Operator} (F : FnOk X.prog X.w X.K X.mg X.base (L2.CX X.prog X.w) k f fd ps sp) (hr : Room k X.A) (hb : Binds X.K fd ps []) (M : Meth X.K C (PySem.dunder op.info.2) f) (hc : PySem.W.selfFirst X.K C = true) : OpR X (binaryOp op) (rOwn C sp fun v => ∃ p, v = .ref p) := by
  intro pins s σ H x y v u Q I rx ry h
  obtain ⟨a, b, dx, dy, fs, gs, rfl, rfl, ha, hb', q⟩ := h
  cases rx
  cases ry
  obtain ⟨mA, J, _⟩ := ins_get I.hok ha
  obtain ⟨mB, J', _⟩ := ins_get I.hok hb'
  obtain ⟨od, J, _⟩ := J.look
  obtain ⟨od', J', _⟩ := J'.look
  obtain ⟨m, hF⟩ := I.fr
  refine PySem.W.binop_K (op := op) hF I.ok.mod.kin J J'.type hc M.at_ M.fn ?_
  refine wpAny_mono (run_fnS (E := fun _ _ _ _ => False) F hr hb (passAt (takes0 (X := X)) σ) I (us := [.ref a, .ref b]) (vs := [.ref a, .ref b]) (.cons rfl (.cons rfl .nil)) q) (fun w s' hq => ?_) fun _ _ z => z
  obtain ⟨z, H', I', rz, ⟨p, ep⟩, hq⟩ := hq
  subst ep
  cases rz
  exact ⟨.ref p, H', I', rfl, hq⟩
end
def isoB (h : Hs) : T W → T W
  | .ok (.ins d fs) _ => match norefs fs with | true => .ok (.ins d fs) h | false => .bad
  | _ => .bad
theorem sat_isoB {h : Hs} {P : W → Hs → Prop} {E : Xc → Hs → Prop} : ∀ {t : T W}, (isoB h t).sat P E → t.sat (fun w _ => noref w = true ∧ (∃ d fs, w = .ins d fs) ∧ P w h) FF
  | .ok w _, s => by
    unfold isoB at s
    split at s
    · rename_i d fs g e
      cases e
      split at s
      · rename_i z
        exact ⟨by unfold noref; exact z, ⟨_, _, rfl⟩, s⟩
      · exact s.elim
    · exact s.elim
  | .exc x _, s => s.elim
  | .draw n k, s => s.elim
  | .bad, s => s.elim
def own2 (c : Nat) (fin : Hs → T W → T W) (mm : List W → M W) (m1 m2 : M W) : M W := bd m1 fun x => bd m2 fun y => bd (lf (gd (noref x && (noref y && true)) ((isI c x).bind fun _ => isI c y))) fun _ => fun h => normWs [x, y] fun ws => fin h (mm ws ⟨0, []⟩)
def bopM (c : Nat) (mm : List W → M W) (m1 m2 : M W) : M W := own2 c isoB mm m1 m2
section
variable {X : Cx} {ρ : Rho} {a b o e : Expr} {es : List Expr} {m m1 m2 : M W} {ma : M (List W)} {mm : List W → M W} {p0 p1 pos tpos : Pos} {n c k : Nat} {x nm : Str} {C : Addr} {ps : List Str}
theorem own2_ok {fin : Hs → T W → T W} {ok : V → Prop} {okw : W → Prop} {φ2 : List Addr} {P : W → Hs → Prop} {E : Xc → Hs → Prop} {h2 : Hs} {Ho Hk2 Hr2 : Hp} {u v : V} {x y : W} (nc : insC X.K c C) (I2 : Ok X.K X.w φ2 h2 Ho Hk2 Hr2)
    (hsat : ∀ {t : T W}, (fin h2 t).sat P E → t.sat (fun w _ => noref w = true ∧ okw w ∧ P w h2) FF) (hok : ∀ {φ : List Addr} {H : Hp} {w : W} {v : V}, okw w → VR X.K X.w φ H w v → ok v)
    (hu : VR X.K X.w φ2 Hk2 x u) (hv : VR X.K X.w φ2 Hk2 y v) (s : ((bd (lf (gd (noref x && (noref y && true)) ((isI c x).bind fun _ => isI c y))) fun _ => fun h => normWs [x, y] fun ws => fin h (mm ws ⟨0, []⟩)) h2).sat P E) (Q : VK)
    (q : ∀ w v Hk' H', P w h2 → Ok X.K X.w φ2 h2 Ho Hk' H' → Same Hk2 Hk' → VR X.K X.w φ2 Hk' w v → Q v H') : rOwn C (spM X.K X.w X.mg 2 mm) ok u v Hr2 Q := by
  obtain ⟨g, hg, s3⟩ := sat_lf (sat_bind s)
  obtain ⟨g1, g2⟩ := gd_some hg
  obtain ⟨fx, hx, hy⟩ := bnd g2
  obtain ⟨a, dx, vs, rfl, a1, _, _⟩ := isI_ok hu hx nc
  obtain ⟨b, dy, us, rfl, b1, _, _⟩ := isI_ok hv hy nc
  rw [normWs_eq] at s3
  refine ⟨a, b, dx, dy, _, _, rfl, rfl, I2.kr _ _ a1, I2.kr _ _ b1, ?_⟩
  rw [Bool.and_eq_true, Bool.and_eq_true] at g1
  have nr : norefs [x, y] = true := by
    unfold norefs
    rw [g1.1]
    show norefs [y] = true
    unfold norefs
    rw [g1.2.1]
    rfl
  refine ⟨[], ⟨0, []⟩, _, Hk2, [x, y], _, FF, rfl, I2.iso, VRs.nr nr (.cons hu (.cons hv .nil)), hsat s3, fun w hs' v φ' Hk' H' hp I e hv => ?_, fun x hs' C d φ' Hk' H' hp I e ha => hp.elim⟩
  exact ⟨hok hp.2.1 hv, q w v Hk' H' hp.2.2 (I2.back I e.k) e.k (VR.nr hp.1 hv)⟩
theorem em_bop {op : Operator} (cl : CalO X.prog X.w X.K X.mg X.base k c (PySem.dunder op.info.2) ps 2 mm) (hc : ∀ C, insC X.K c C → PySem.W.selfFirst X.K C = true) (hr : Room k X.A) (ha : EM X a ρ m1) (hb : EM X b ρ m2) : EM X (.BinOp a op b pos) ρ (bopM c mm m1 m2) := fun p s Q q => by
  obtain ⟨C, f, fd, TT, F, M, bb⟩ := cl.ex
  refine sE_of (pe_op (op_own F hr bb M (hc C TT.nc)) pe_s pe_s) (ha p (sat_bind s) _ fun x h1 u φ1 Hk1 Hr1 s1 p1 e1 hu => hb p1 (sat_bind s1) _ fun y h2 v φ2 Hk2 Hr2 s2 p2 e2 hv => ?_)
  refine own2_ok (fin := isoB) (okw := fun w => ∃ d fs, w = .ins d fs) TT.nc p2.I sat_isoB (fun {φ H w v} ho hv => ?_) (hu.ex e2) hv s2 Q fun w v Hk' H' hp I ek hv => ?_
  · obtain ⟨d, fs, rfl⟩ := ho
    cases hv with
    | ins h1 h2 h3 h4 => exact ⟨_, rfl⟩
  · have ee : Ex φ2 Hk2 φ2 Hk' := ⟨Fx.refl, ek⟩
    exact q _ _ _ _ _ _ hp (p2.go I ee) ((e1.trans e2).trans ee) hv
structure InsI (K : PySem.W.Frag) (mg : Str → Option Value) (c : Nat) (C : Addr) : Prop where
  tx : InsX K mg c C
  ic : C8.InsC K C
  no : ∀ ty ∈ ["NoneType", "bool", "int", "str", "list", "tuple"], PySem.W.kitOne K (.type ty) (.ref C) = some false
def isOwnW (c : Nat) : W → Option Bool
  | .ins d _ => match Nat.beq d c with | true => some true | false => none
  | .dat .none => some false
  | .dat (.bool _) => some false
  | .dat (.int _) => some false
  | .dat (.str _) => some false
  | .dat (.tuple _) => some false
  | .dat (.list _) => some false
  | .tup _ => some false
  | .lst _ => some false
  | _ => none
def isOwnM (c : Nat) (m : M W) : M W := bd m fun w => lf ((isOwnW c w).map fun k => .dat (.bool k))
theorem isOwn_ok {φ : List Addr} {H : Hp} {w : W} {v : V} {r : Bool} (T : InsI X.K X.mg c C) (hv : VR X.K X.w φ H w v) (e : isOwnW c w = some r) : ∃ t, TyX X.K H v t ∧ PySem.W.kitOne X.K t (.ref C) = some r := by
  have no : ∀ ty, ty ∈ ["NoneType", "bool", "int", "str", "list", "tuple"] → PySem.W.kitOne X.K (.type ty) (.ref C) = some false := T.no
  cases w with
  | ins d fs =>
    have e : (match Nat.beq d c with | true => some true | false => none : Option Bool) = some r := e
    cases z : Nat.beq d c with
    | false => rw [z] at e; cases e
    | true =>
      rw [z] at e
      cases e
      have := Nat.eq_of_beq_eq_true z
      subst this
      cases hv with
      | ins h1 h2 h3 h4 =>
        cases insC_eq T.tx.nc h1
        exact ⟨_, .base (.ins h2 T.ic.cl T.ic.ha T.ic.hn T.ic.htk T.ic.hm), T.ic.me⟩
  | dat d =>
    cases hv with
    | dat hd =>
      cases d with
      | none => cases e; exact ⟨_, ty_scal hd rfl, no _ (by decide)⟩
      | bool b => cases e; exact ⟨_, ty_scal hd rfl, no "bool" (by decide)⟩
      | int b => cases e; exact ⟨_, ty_scal hd rfl, no "int" (by decide)⟩
      | str b => cases e; exact ⟨_, ty_scal hd rfl, no "str" (by decide)⟩
      | tuple b => cases e; exact ⟨_, ty_tup hd, no _ (by decide)⟩
      | list b => cases e; exact ⟨_, ty_lst hd, no _ (by decide)⟩
      | dict b => cases e
  | tup ws =>
    cases e
    cases hv with
    | tup hs _ => exact ⟨_, ty_tupS hs, no _ (by decide)⟩
  | lst ws =>
    cases e
    cases hv with
    | lst hs _ => exact ⟨_, ty_lstS hs, no _ (by decide)⟩
  | _ => cases e
theorem em_isOwn (T : InsI X.K X.mg c C) (hx : insN c = x) (hm : X.mg "isinstance" = none) (ha : EM X e ρ m) (hg : Gl X "isinstance" := by rfl) (hg2 : Gl X x := by rfl) (hdb : (x == ("__debug__" : Str)) = false := by decide) (he : starEach [e, .Name x tpos] X.env = (false, eval e X.env) :: starEach [.Name x tpos] X.env := by rfl) (he2 : starEach [.Name x tpos] X.env = (false, eval (.Name x tpos) X.env) :: starEach [] X.env := by rfl) (hpl : (backTo pos (starEach [.Name x tpos] X.env)).any (·.1) = false := by rfl) :
    EM X (.Call (.Name "isinstance" p0) [e, .Name x tpos] [] pos) ρ (isOwnM c m) := fun p s Q q => by
  have gC := T.tx.gC
  rw [hx] at gC
  refine sE_of (pe_callB call_isi hg hm (by decide +kernel) (pa_cons pe_s (pa_cons (C8.pe_gc (v := .ref C) hg2 ⟨_, gC, rfl⟩ hdb) pa_nil he2) he) (by decide) (by decide) he hpl) (ha p (sat_bind s) _ fun w h1 v φ1 Hk1 Hr1 s1 p1 e1 hv => ?_)
  obtain ⟨kw, hkw, s2⟩ := sat_lf s1
  obtain ⟨r, hk, hkw⟩ := mpd hkw
  subst hkw
  obtain ⟨t, h1', h2'⟩ := isOwn_ok (φ := φ1) T (hv.mono Fx.refl p1.I.kr) hk
  exact ⟨v, .ref C, t, .ref C, r, rfl, .own C, h1', h2', q _ _ _ _ _ _ s2 p1 e1 (.dat (.bl _))⟩
/-- isinstance(e, (list, tuple)), it being one -/
def isSqW : W → Option W
  | .dat (.list _) => some (.dat (.bool true))
  | .dat (.tuple _) => some (.dat (.bool true))
  | .lst _ => some (.dat (.bool true))
  | .tup _ => some (.dat (.bool true))
  | _ => none
def isSqM (m : M W) : M W := bd m fun w => lf (isSqW w)
theorem isSq_ok {φ : List Addr} {H : Hp} {w z : W} {v : V} (hv : VR X.K X.w φ H w v) (e : isSqW w = some z) : z = .dat (.bool true) ∧ ∃ ty, (ty = "list" ∨ ty = "tuple") ∧ TyX X.K H v (.type ty) := by
  cases w with
  | dat d =>
    cases hv with
    | dat hd =>
      cases d <;> cases e
      · exact ⟨rfl, "list", .inl rfl, ty_lst hd⟩
      · exact ⟨rfl, "tuple", .inr rfl, ty_tup hd⟩
  | tup ws =>
    cases e
    cases hv with
    | tup hs _ => exact ⟨rfl, "tuple", .inr rfl, ty_tupS hs⟩
  | lst ws =>
    cases e
    cases hv with
    | lst hs _ => exact ⟨rfl, "list", .inl rfl, ty_lstS hs⟩
  | _ => cases e
theorem em_isSq {t1 t2 : Pos} {tn : Nat} (hm : X.mg "isinstance" = none) (hm1 : X.mg "list" = none) (hm2 : X.mg "tuple" = none) (ha : EM X e ρ m) (hg : Gl X "isinstance" := by rfl) (hg1 : Gl X "list" := by rfl) (hg2 : Gl X "tuple" := by rfl)
    (he : starEach [e, .Tuple [.Name "list" t1, .Name "tuple" t2] tn tpos] X.env = (false, eval e X.env) :: starEach [.Tuple [.Name "list" t1, .Name "tuple" t2] tn tpos] X.env := by rfl) (he2 : starEach [.Tuple [.Name "list" t1, .Name "tuple" t2] tn tpos] X.env = (false, eval (.Tuple [.Name "list" t1, .Name "tuple" t2] tn tpos) X.env) :: starEach [] X.env := by rfl)
    (he3 : starEach [.Name "list" t1, .Name "tuple" t2] X.env = (false, eval (.Name "list" t1) X.env) :: starEach [.Name "tuple" t2] X.env := by rfl) (he4 : starEach [.Name "tuple" t2] X.env = (false, eval (.Name "tuple" t2) X.env) :: starEach [] X.env := by rfl)
    (hpl : (backTo pos (starEach [.Tuple [.Name "list" t1, .Name "tuple" t2] tn tpos] X.env)).any (·.1) = false := by rfl) :
    EM X (.Call (.Name "isinstance" p0) [e, .Tuple [.Name "list" t1, .Name "tuple" t2] tn tpos] [] pos) ρ (isSqM m) := fun p s Q q => by
  refine sE_of (pe_callB call_isiT hg hm (by decide +kernel) (pa_cons pe_s (pa_cons (pe_tup (pa_cons (pe_bltn (v := .ty "list") hg1 hm1 (by decide +kernel) rfl) (pa_cons (pe_bltn (v := .ty "tuple") hg2 hm2 (by decide +kernel) rfl) pa_nil he4) he3)) pa_nil he2) he) (by decide) (by decide) he hpl) (ha p (sat_bind s) _ fun w h1 v φ1 Hk1 Hr1 s1 p1 e1 hv => ?_)
  obtain ⟨z, hz, s2⟩ := sat_lf s1
  refine ⟨by decide, fun t ht => ?_⟩
  have e4 := Ex.gro (φ := φ1) p1.I.kr (H2 := upd Hr1 t (.tup [.ty "list", .ty "tuple"]))
  obtain ⟨rfl, ty, hty, hT⟩ := isSq_ok (φ := φ1) (H := upd Hr1 t (.tup [.ty "list", .ty "tuple"])) (hv.mono Fx.refl fun b o g => new_same ht _ b o (p1.I.kr _ _ g)) hz
  refine ⟨v, t, [.ty "list", .ty "tuple"], .type ty, [.type "list", .type "tuple"], true, rfl, upd_same, .cons (.ty _) (.cons (.ty _) .nil), hT, ?_, q _ _ _ _ _ _ s2 (p1.go (p1.I.gro (new_same ht _)) e4) (e1.trans e4) (.dat (.bl _))⟩
  rcases hty with rfl | rfl
  · exact kitAny_cons (b := true) (kit_ty (by decide +kernel)) (fun z => nomatch z) fun _ => rfl
  · exact kitAny_cons (b := false) (kit_ty (by decide +kernel)) (fun _ => kitAny_cons (b := true) (kit_ty (by decide +kernel)) (fun z => nomatch z) fun _ => rfl) fun z => nomatch z
def gcdM (m1 m2 : M W) : M W := bd m1 fun x => bd m2 fun y => lf ((asIW x).bind fun i => (asIW y).map fun j => .dat (.int ((Nat.gcd i.natAbs j.natAbs : Nat) : Int)))
theorem em_gcd (hm : X.mg "gcd" = some (.builtin "math.gcd")) (ha : EM X a ρ m1) (hb : EM X b ρ m2) (hg : Gl X "gcd" := by rfl) (he : starEach [a, b] X.env = (false, eval a X.env) :: starEach [b] X.env := by rfl) (he2 : starEach [b] X.env = (false, eval b X.env) :: starEach [] X.env := by rfl) (hpl : (backTo pos (starEach [b] X.env)).any (·.1) = false := by rfl) :
    EM X (.Call (.Name "gcd" p0) [a, b] [] pos) ρ (gcdM m1 m2) := fun p s Q q => by
  refine sE_of (pe_callBfun cr_gcd hg hm (pa_cons pe_s (pa_cons pe_s pa_nil he2) he) (by decide) he hpl) (ha p (sat_bind s) _ fun x h1 u φ1 Hk1 Hr1 s1 p1 e1 hu => hb p1 (sat_bind s1) _ fun y h2 v φ2 Hk2 Hr2 s2 p2 e2 hv => ?_)
  obtain ⟨w, hw, s3⟩ := sat_lf s2
  obtain ⟨i, hi, hw2⟩ := bnd hw
  obtain ⟨j, hj, hw3⟩ := mpd hw2
  subst hw3
  have q1 := asIW_eq hi
  have q2 := asIW_eq hj
  subst q1 q2
  obtain rfl := vr_int (X := X) (hu.ex e2)
  obtain rfl := vr_int (X := X) hv
  exact ⟨i, j, rfl, q _ _ _ _ _ _ s3 p2 (e1.trans e2) (.dat (.int _))⟩
end
end Hx
noncomputable section
namespace Hx
open PySem L2 Pd Gn PySem.Spec PyProof.Rows Zq
theorem CallRK.or {X : Cx} {f : Value} {ks : List Str} {r r' : List V → List V → Hp → VK → Prop} (h : CallRK X f ks r) (h' : CallRK X f ks r') : CallRK X f ks (fun vs zs H Q => r vs zs H Q ∨ r' vs zs H Q) := by
  intro pins s σ H xs zs us ws Q I r1 r2 q
  rcases q with q | q
  · exact h pins s σ H xs zs us ws Q I r1 r2 q
  · exact h' pins s σ H xs zs us ws Q I r1 r2 q
def rSorted1R (K : PySem.W.Frag) : List V → List V → Hp → VK → Prop := fun vs zs H Q => ∃ (a : Addr) (xs : List V), vs = [V.ref a] ∧ zs = [.bl true] ∧ SqL K H a xs ∧ xs.length ≤ 1 ∧ ∀ p : Addr, H p = none → Q (.ref p) (upd H p (.lst xs))
theorem cr_sorted1R {X : Cx} : CallRK X (.builtin "sorted") [Str.ofString "reverse"] (rSorted1R X.K) := by
  intro pins s σ H vs zs us ws Q I r rz h
  obtain ⟨a, xs, rfl, rfl, hs, h1, q⟩ := h
  obtain rfl := Vals.ref1 r
  obtain ⟨w1, rfl, e1⟩ := vals1 rz
  obtain rfl : w1 = Value.bool true := e1
  obtain ⟨its, rv, hl, hz⟩ := I.list hs
  have hle : its.length ≤ 1 := by rw [← rv.length]; exact h1
  show wpAny _ _ (call (.builtin "sorted") [.ref a] [(Str.ofString "reverse", .bool true)]) _ _ s
  refine SrtR.sorted_ordK (b := true) (fun _ => rfl) (PyProof.Rows.args_sorted_rev _ _) (fun _ => PyProof.Rows.args_list_sort_rev _ _) swo_none hl.isList (by rw [← rv.length]; exact hz) (fun h2 => absurd h2 (by omega)) fun out _ hb => ?_
  have er : (if true = true then its.reverse else its) = its := by
    match its, hle with
    | [], _ => rfl
    | [x], _ => rfl
    | _ :: _ :: _, hle => simp only [List.length_cons] at hle; omega
  rw [er] at hb
  have hp : out.Perm its := hb.perm
  have e : out = its := by
    match its, hle, hp with
    | [], _, hp => exact hp.eq_nil
    | [x], _, hp => exact List.perm_singleton.mp hp
    | _ :: _ :: _, hle, _ => simp only [List.length_cons] at hle; omega
  subst e
  have ea : (if true = true then out.toArray.reverse else out.toArray) = out.toArray := by
    match out, hle with
    | [], _ => rfl
    | [x], _ => rfl
    | _ :: _ :: _, hle => simp only [List.length_cons] at hle; omega
  rw [ea]
  obtain ⟨ep, he'⟩ := PyProof.Rows.sortedAll_at s.heap out out.toArray
  exact ⟨.ref _, upd H (s.heap.objs.size + 1) (.lst xs), I.laid (t' := s.toks) (fun _ _ => PyProof.Rows.sortedAll_old) (Nat.le_succ _) ⟨hz, out, ep, rv, he'⟩, rfl, q _ (I.hok.fresh (Nat.le_succ _))⟩
def rSortedDR (K : PySem.W.Frag) : List V → List V → Hp → VK → Prop := fun vs zs H Q => ∃ (a : Addr) (xs : List V) (ds : List PyData) (B : Hp), vs = [V.ref a] ∧ zs = [.bl true] ∧ SqL K H a xs ∧ Same B H ∧ DpAll K B xs ds ∧ PySem.W.AllAlike ds ∧ PySem.W.Sortable ds ∧ (∀ d ∈ ds, d.depth ≤ 32) ∧
  ∀ (ys : List V) (p : Addr), DpAll K B ys (ds.mergeSort (PySem.W.dataLe true id)) → H p = none → Q (.ref p) (upd H p (.lst ys))
theorem cr_sortedDR {X : Cx} (hu : X.A.units + 100 < cLine) : CallRK X (.builtin "sorted") [Str.ofString "reverse"] (rSortedDR X.K) := by
  intro pins s σ H vs zs us ws Q I r rz h
  obtain ⟨a, xs, ds, B, rfl, rfl, hs, sm, hd, hal, hso, hdp, q⟩ := h
  obtain rfl := Vals.ref1 r
  obtain ⟨w1, rfl, e1⟩ := vals1 rz
  obtain rfl : w1 = Value.bool true := e1
  obtain ⟨its, rv, hl, hz⟩ := I.list hs
  have e1 := each_dps (X := X) hd rv
  have e2 := each_reads I sm e1
  have hlen : ds.length = xs.length := by rw [DpAll.len hd]
  show wpAny _ _ (call (.builtin "sorted") [.ref a] [(Str.ofString "reverse", .bool true)]) _ _ s
  refine PySem.W.sorted_rev_data (enc := id) (b := true) hl.isList e1 e2 (by simpa using hal) (by simpa using hso) (by rw [hlen]; exact hz) (fun d hd' => ?_) fun out ol oe => ?_
  · have := hdp d hd'
    show X.A.units + 2 + d.depth < cLine
    omega
  · obtain ⟨ys, k1, k2⟩ := each_back oe
    obtain ⟨ep, he'⟩ := PyProof.Rows.sortedAll_at s.heap its out.toArray
    have hyl : ys.length ≤ sizeLine := by rw [k1.length, ol, hlen]; exact hz
    exact ⟨.ref _, upd H (s.heap.objs.size + 1) (.lst ys), I.laid (t' := s.toks) (fun _ _ => PyProof.Rows.sortedAll_old) (Nat.le_succ _) ⟨hyl, out, ep, k1, he'⟩, rfl, q ys _ k2 (I.hok.fresh (Nat.le_succ _))⟩
theorem le_transR (a b c : PyData) (h : PySem.W.dataLe true id a b = true) (g : PySem.W.dataLe true id b c = true) : PySem.W.dataLe true id a c = true := le_trans' c b a g h
theorem le_totalR (a b : PyData) : (PySem.W.dataLe true id a b || PySem.W.dataLe true id b a) = true := le_total' b a
theorem ms_uniqR : ∀ {l m : List PyData}, m.Perm l → l.Pairwise (fun a b => dLt b a = true) → m.Pairwise (fun a b => PySem.W.dataLe true id a b = true) → m = l
  | [], m, h, _, _ => h.eq_nil
  | x :: l, [], h, _, _ => by cases h.symm.eq_nil
  | x :: l, y :: m, h, h1, h2 => by
    obtain ⟨a1, a2⟩ := List.pairwise_cons.mp h1
    obtain ⟨b1, b2⟩ := List.pairwise_cons.mp h2
    have e : y = x := by
      rcases List.mem_cons.mp (h.mem_iff.mp (List.mem_cons_self (a := y) (l := m))) with e | hy
      · exact e
      · have lt := a1 y hy
        rcases List.mem_cons.mp (h.mem_iff.mpr (List.mem_cons_self (a := x) (l := l))) with e | hx
        · exact e.symm
        · have : (!dLt y x) = true := b1 x hx
          rw [lt] at this
          cases this
    subst e
    rw [ms_uniqR (List.Perm.cons_inv h) a2 b2]
theorem ms_eqR {ds : List PyData} (h : ascD (srtD ds) = true) : ds.mergeSort (PySem.W.dataLe true id) = (srtD ds).reverse :=
  ms_uniqR ((List.mergeSort_perm _ _).trans (srtD_perm.symm.trans (List.reverse_perm _).symm)) (List.pairwise_reverse.mpr (ascD_pw h)) (List.pairwise_mergeSort le_transR le_totalR ds)
def srtDRM (m : M W) : M (List W) := bd m fun w => fun h => lf (match kindT w with
  | true => none
  | false => (itemsH h w).bind fun ws => match Nat.ble ws.length 1 with
    | true => some ws
    | false => (datsOf ws).bind fun ds => gd (okSort ds) (some ((srtD ds).reverse.map .dat))) h
section
variable {X : Cx} {ρ : Rho} {e : Expr} {m : M W} {p0 pos kp kpos : Pos} {k : Nat}
theorem lm_sortDR (hr : Room k X.A) (ha : EM X e ρ m) (he : starEach [e] X.env = (false, eval e X.env) :: starEach [] X.env := by rfl)
    (hp : PE X (.Call (.Name "sorted" p0) [e] [⟨some "reverse", .Constant (.bool true) 0 kp, kpos⟩] pos) (tCKw (fun vs zs H Q => rSorted1R X.K vs zs H Q ∨ rSortedDR X.K vs zs H Q) (sA X [e]) (tCons (tC (.bl true)) tNil))) :
    LM X (.Call (.Name "sorted" p0) [e] [⟨some "reverse", .Constant (.bool true) 0 kp, kpos⟩] pos) ρ (srtDRM m) := fun p s Q q => by
  refine sE_of hp (sA_of (pa_cons pe_s pa_nil he) (ha p (sat_bind s) _ fun w h1 v φ1 Hk1 Hr1 s1 p1 e1 hv => ?_))
  obtain ⟨us, hw, s2⟩ := sat_lf s1
  cases zk : kindT w with
  | true => rw [zk] at hw; cases hw
  | false =>
    rw [zk] at hw
    obtain ⟨ws, h4, hw⟩ := bnd hw
    obtain ⟨ad, vs, rfl, g1, g2⟩ := VR.kF (X := X) p1.I hv zk h4
    cases zl : Nat.ble ws.length 1 with
    | true =>
      rw [zl] at hw
      cases hw
      exact .inl ⟨ad, vs, rfl, rfl, g1, by rw [VRs.len g2]; exact Nat.le_of_ble_eq_true zl, fun p hnone => q _ _ p _ φ1 Hk1 _ s2 (p1.I.outer hnone) (far_of p1.I.out hnone) (far_of p1.I.kr hnone) e1 g2⟩
    | false =>
      rw [zl] at hw
      obtain ⟨ds, h5, hw⟩ := bnd hw
      obtain ⟨g, hw⟩ := gd_some hw
      cases hw
      unfold okSort at g
      rw [Bool.and_eq_true, Bool.and_eq_true, Bool.and_eq_true] at g
      obtain ⟨k1, k2, k3, k4⟩ := g
      have eds := datsOf_eq h5
      subst eds
      refine .inr ⟨ad, vs, ds, Hk1, rfl, rfl, g1, p1.I.kr, VRs.dats g2, fun d hd d' hd' => List.all_eq_true.mp (List.all_eq_true.mp k2 d hd) d' hd', .inl fun d hd => ?_, fun d hd => Nat.le_of_ble_eq_true (List.all_eq_true.mp k4 d hd), fun ys p hy hnone => ?_⟩
      · have := List.all_eq_true.mp k3 d hd
        unfold tupNE at this
        split at this
        · exact ⟨_, _, rfl⟩
        · cases this
      · rw [ms_eqR k1] at hy
        exact q _ _ p _ φ1 Hk1 _ s2 (p1.I.outer hnone) (far_of p1.I.out hnone) (far_of p1.I.kr hnone) e1 (VRs.of_dats hy)
theorem cr_sortR2 (hr : Room k X.A) : CallRK X (.builtin "sorted") [Str.ofString "reverse"] (fun vs zs H Q => rSorted1R X.K vs zs H Q ∨ rSortedDR X.K vs zs H Q) := CallRK.or cr_sorted1R (cr_sortedDR (by have := hr.un; omega))
end
end Hx
set_option pp.maxSteps 200
noncomputable section
namespace Hx
open PySem L2 Pd Gn PySem.Spec PyProof.Rows Zq
theorem d_dictSetT {X : Cx} {pins : List (Addr × Obj)} {σ : L2.St} {H : Hp} {s : Shared} {E : Value → Shared → Prop} {D b : Addr} {es : List (NestedKey × Addr × V)} {kvs : List (NestedKey × W)} {φ : List Addr} {k : NestedKey} {v : V} {r : Value} {Q : Unit → Shared → Prop} (hu : X.A.units + 8 < cLine) (I : Inv X pins σ H s) (hD : H D = some (DicO X.w D es)) (dr : DRs X.K X.w φ H kvs es)
    (hz : es.length < sizeLine) (hk : Dp X.K H (.ref b) k.data) (hd : k.depth ≤ 8) (rv : L2.RelV v r) (h : ∀ s', Inv X pins σ (upd H D (DicO X.w D (ePut k b v es))) s' → Q () s') : wpAny (model X.prog X.w) X.A (dictSet D (.ref b) r) Q E s := by
  obtain ⟨z1, z2, xs, ex, dd⟩ := dic_rd I (.inl hD) dr
  have lx : xs.length = es.length := (Paired.length ex).symm
  have hlen : (ePut k b v es).length ≤ sizeLine := by
    have := put_len (k := k) (b := b) (v := v) (es := es)
    omega
  have nod : (xs.map (·.1)).Nodup := by
    obtain ⟨_, _, _, _, _, _, _, _, hn⟩ := dd
    exact hn
  refine wpAny_dictSet_heap (hsz := by rw [lx]; exact z1) (show (nestedKind X.prog X.w).room X.A from hu) (key_is I hk hd) dd fun h' dd' hs => h _ ?_
  rw [put_X nod] at dd'
  have hq : ∃ q, h'.get? D = some q := by
    obtain ⟨o', _, _, ho', _⟩ := dd'
    exact ⟨o', ho'⟩
  exact d_write (ob := DicO X.w D (ePut k b v es)) I (by rw [hD]; exact True.intro) hs hq (dicO_ok hlen z2 (put_E rv ex) dd')
section
variable {X : Cx}
/-- {k: v for target in iter if ..}, keys tuples: D the new dict, not changed later -/
def tDcT (X : Cx) (wi : TI) (g : TG) (tt : TT) (tk tv : TE) (vs : List Nat) : TE := fun σ H Q => wi σ H fun J H1 => ∀ D, H1 D = none → ∃ Wp : Nat → Nat → Hp → Prop, (∃ m, Wp 0 m (upd H1 D (DicO X.w D []))) ∧ ∀ i m H, Wp i m H →
  (J.stop i H ∧ ∃ es, H D = some (DicO X.w D es) ∧ ∀ od, Q (.ref D) (upd H D (.frz od (DicO X.w D es)))) ∨ (J.go i H ∧ ∃ Nx : Hp → Prop, (∀ H', Nx H' → ∃ m', m' < m ∧ Wp (i + 1) m' H') ∧ ∀ x H', J.yld i H x H' → g x (L2.wipe σ vs) H' fun σ2 H2 => L2.wipe σ2 vs = L2.wipe σ vs ∧ tt σ2 H2 fun b H3 =>
    if b = true then tk σ2 H3 fun y H4 => tv σ2 H4 fun z H5 => ∃ (es : List (NestedKey × Addr × V)) (kvs : List (NestedKey × W)) (φ : List Addr) (k : NestedKey) (b : Addr), y = .ref b ∧ H5 D = some (DicO X.w D es) ∧ DRs X.K X.w φ H5 kvs es ∧ es.length < sizeLine ∧ Dp X.K H5 (.ref b) k.data ∧ k.depth ≤ 8 ∧ Nx (upd H5 D (DicO X.w D (ePut k b z es))) else Nx H3)
theorem dcT_core {pins : List (Addr × Obj)} {s : Shared} {σ : L2.St} {H : Hp} {Q : VK} {kx vx tg iter : Expr} {ifs : List Expr} {scope : Scope} {own : List (Str × Nat)} {pos pos' : Pos} {wi : TI} {g : TG} {tt : TT} {tk tv : TE} {use : Option (Value → Sem Unit)} {Qf : Value → Shared → Prop}
    (hu : X.A.units + 8 < cLine) (hc : X.calm = true) (nodN : X.N.Nodup) (I : Inv X pins σ H s) (hi : PI X tg iter wi) (ok : BlkOk X.N X.env.scope scope own)
    (hg : ∀ (s : Shared) (H : Hp) (C : Addr) (cl : List (Str × Addr)) (fo : List Addr), PG (X.blk s H scope (compEnvC scope cl C X.env) fo) tg g) (ht : ∀ (s : Shared) (H : Hp) (C : Addr) (cl : List (Str × Addr)) (fo : List Addr), PTs (X.blk s H scope (compEnvC scope cl C X.env) fo) ifs tt)
    (hk : ∀ (s : Shared) (H : Hp) (C : Addr) (cl : List (Str × Addr)) (fo : List Addr), PE (X.blk s H scope (compEnvC scope cl C X.env) fo) kx tk)
    (he : ∀ (s : Shared) (H : Hp) (C : Addr) (cl : List (Str × Addr)) (fo : List Addr), PE (X.blk s H scope (compEnvC scope cl C X.env) fo) vx tv) (hs : ∀ x, foldedSetIterable iter X.env x = pure x)
    (h : tDcT X wi g tt tk tv (own.map (·.2)) σ H Q)
    (hRR : ∀ D C z' m G', Inv X pins σ G' z' → Q (.ref D) G' → z'.heap.Ns C m → FpOk X pins G' C → compPost (model X.prog X.w) X.A X.xe use Qf (.ref D) C (.ok .next) z') :
    wpAny (model X.prog X.w) X.A (comprehension (.DictComp kx vx [⟨tg, iter, ifs, 0⟩] scope pos) scope X.env pos' newDict false (eval iter X.env) use) Qf X.xe s := by
  have frees : ∀ y ∈ scope.names, y.2 = .free → ∃ c, X.env.cells.lookup y.1 = some c := fun y hy e => by
    rcases ok.free y hy e with k | k
    · exact I.ok.has _ (.inl k)
    · exact I.ok.has _ (.inr k)
  refine wpAny_comprehension_free (use := use) rfl hs (closure_ok frees) ok.kind (fun y hy e => by rw [ok.uniq y hy, e])
    (thn (hi.run pins s σ H _ I h) fun wv z1 hx => thn hx fun wt z2 h2 => ?_)
  obtain ⟨it, fo, tm, J, G2, e, J2, T, sx2, g2, q⟩ := h2
  subst e
  refine wpAny_newObj_type (newEnv_comp ?_)
  generalize atD : z2.heap.objs.size = D
  have nowD : G2 D = none := J2.hok.fresh (Nat.le_of_eq atD)
  obtain ⟨Wp, ⟨u0, v0⟩, each⟩ := q D nowD
  -- the new list
  generalize hs3 : ({ z2 with heap := z2.heap.push { cls := .type "dict", data := .dict #[] } } : Shared) = z3
  have J3 : Inv X pins σ (upd G2 D (DicO X.w D [])) z3 := by
    rw [← hs3]
    refine J2.laid (t' := z2.toks) (fun b o e => Heap.get?_push_of_some _ e) (Nat.le_of_eq atD) ?_
    rw [← atD]
    exact dicO_ok (xs := []) (Nat.zero_le _) (beq_eq_false_iff_ne.mpr (Ne.symm (Nat.ne_of_lt J2.big))) .nil (Heap.DictOfH.new _)
  have h3 : z3.heap = z2.heap.push { cls := .type "dict", data := .dict #[] } := by rw [← hs3]
  have small : ∀ b ∈ fo, b < z2.heap.objs.size := fun b hb => by
    obtain ⟨o, e, _⟩ := T.obj _ _ sx2 b hb
    exact Heap.lt_size e
  have g3 : ∀ b ∈ fo, FpOk X pins (upd G2 D (DicO X.w D [])) b ∧ b < z3.heap.objs.size := fun b hb => by
    have hlt := small b hb
    refine ⟨⟨?_, (g2 b hb).2⟩, by rw [h3, Heap.size_push]; exact Nat.lt_succ_of_lt hlt⟩
    rw [upd_ne (by rw [← atD]; exact Nat.ne_of_lt hlt)]
    exact (g2 b hb).1
  have sx3 : tm 0 z3.heap := T.keep _ _ _ sx2 fun b _ o e => by rw [h3]; exact Heap.get?_push_of_some _ e
  have J4 := block_start J3 ok nodN g3
  have qg := hg z3 (upd G2 D (DicO X.w D [])) z3.heap.objs.size (cellsFrom (z3.heap.objs.size + 1) scope.names (cloFrom X.env.cells scope.names [])) fo
  have qt := ht z3 (upd G2 D (DicO X.w D [])) z3.heap.objs.size (cellsFrom (z3.heap.objs.size + 1) scope.names (cloFrom X.env.cells scope.names [])) fo
  have qk := hk z3 (upd G2 D (DicO X.w D [])) z3.heap.objs.size (cellsFrom (z3.heap.objs.size + 1) scope.names (cloFrom X.env.cells scope.names [])) fo
  have qe := he z3 (upd G2 D (DicO X.w D [])) z3.heap.objs.size (cellsFrom (z3.heap.objs.size + 1) scope.names (cloFrom X.env.cells scope.names [])) fo
  show codeAny _ _ (.compStart (.DictComp kx vx [⟨tg, iter, ifs, 0⟩] scope pos) 0 (.ref it) (.ref D) (compEnvC scope (cellsFrom (z3.heap.objs.size + 1) scope.names (cloFrom X.env.cells scope.names [])) z3.heap.objs.size X.env)) (compPost (model X.prog X.w) X.A X.xe use Qf (.ref D) z3.heap.objs.size) { z3 with heap := pushCells (z3.heap.push { cls := .type "dict", data := .dict #[] }) scope.names }
  have nfo : ∀ b ∈ fo, (upd G2 D (DicO X.w D [])) b = none := fun b hb => (g3 b hb).1.1
  generalize ece : compEnvC scope (cellsFrom (z3.heap.objs.size + 1) scope.names (cloFrom X.env.cells scope.names [])) z3.heap.objs.size X.env = cenv at J4 qg qt qk qe ⊢
  have eL : cenv.locals = z3.heap.objs.size := by subst ece; rfl
  generalize hH3 : upd G2 D (DicO X.w D []) = G3 at J3 J4 qg qt qk qe v0 nfo g3
  generalize hs4 : ({ z3 with heap := pushCells (z3.heap.push { cls := .type "dict", data := .dict #[] }) scope.names } : Shared) = z4 at J4 ⊢
  have sx4 : tm 0 z4.heap := T.keep _ _ _ sx3 fun b _ o e => by rw [← hs4]; exact pushCells_keeps _ _ _ _ (Heap.get?_push_of_some _ e)
  have staysAt : ∀ {σ' : L2.St} {G' : Hp} {z' : Shared}, Inv (X.blk z3 G3 scope cenv fo) [] σ' G' z' → (∀ b ∈ fo, G' b = none) → ∀ b ∈ fo, FpOk (X.blk z3 G3 scope cenv fo) [] G' b := fun {σ' G' z'} J' nsC b hb =>
    ⟨nsC b hb, (J'.ok.exf b hb).1, J'.ok.exfs b hb, .inl hb, fun x c e => (J'.ok.exf b hb).2 x c e, fun p hp => absurd (show p ∈ ([] : List (Addr × Obj)) ++ [] from hp) (by simp)⟩
  have loop : codeAny (model X.prog X.w) X.A (.compLoop (.DictComp kx vx [⟨tg, iter, ifs, 0⟩] scope pos) 0 (.ref it) (.ref D) cenv) (compPost (model X.prog X.w) X.A X.xe use Qf (.ref D) z3.heap.objs.size) z4 := by
    refine compLoop_anyD (fun n z' => ∃ i G', Inv (X.blk z3 G3 scope cenv fo) [] (wipe σ (own.map (·.2))) G' z' ∧ tm i z'.heap ∧ (∀ b ∈ fo, G' b = none) ∧ Wp i n G') ?_ u0 ⟨0, G3, J4, sx4, nfo, v0⟩
    rintro n z5 ⟨i, G5, J5, sx5, n5, v5⟩
    rcases each i n G5 v5 with ⟨stop, qq⟩ | ⟨go, Nx, hNx, step⟩
    · have dn := T.done (X.blk z3 G3 scope cenv fo) rfl rfl rfl hc i [] z5 _ G5 (fun _ _ => False) J5 (staysAt J5 n5) sx5 stop
      refine thnF dn fun r z6 ⟨hr, J6⟩ => ?_
      subst hr
      -- back in the def's context
      have J7 : Inv X pins σ G5 z6 := J3.call' (ch := fo) J6.os J6.base J6.hok J6.bare fun b hb => ⟨(g3 b hb).1.2.2.2.1, (g3 b hb).1.2.1, (g3 b hb).1.2.2.2.2.1, (g3 b hb).1.2.2.2.2.2⟩
      have noC : G5 z3.heap.objs.size = none := by
        have z : G5 cenv.locals = none := J6.free
        rw [eL] at z
        exact z
      obtain ⟨m, nsC, _⟩ := J6.loc
      have nsC : z6.heap.Ns cenv.locals m := nsC
      rw [eL] at nsC
      obtain ⟨es0, eD, qq⟩ := qq
      obtain ⟨od, J8⟩ := J7.lock (d := D) (u := DicO X.w D es0) eD True.intro
      have noC2 : upd G5 D (.frz od (DicO X.w D es0)) z3.heap.objs.size = none := by
        rw [upd_ne (fun e => by rw [e, eD] at noC; cases noC)]
        exact noC
      exact hRR D z3.heap.objs.size z6 m _ J8 (qq od) nsC (J3.fpOk (Nat.le_refl _) noC2)
    · have im := T.item (X.blk z3 G3 scope cenv fo) rfl rfl rfl hc i [] z5 _ G5 (fun _ _ => False) J5 (staysAt J5 n5) sx5 go
      refine thnF im fun r z6 ⟨u, hr, h6⟩ => ?_
      subst hr
      refine thnF h6 fun _ z7 ⟨x, G7, J7, r7, y7, sx7, n7⟩ => ?_
      have J7' := J7.pinned (staysAt J7 n7) (T.obj _ _ sx7)
      refine thnF (qg.run _ z7 _ G7 x u _ J7' r7 (step x G7 y7)) fun _ z8 ⟨σ8, G8, J8, hw8, q8⟩ => ?_
      refine thnF (qt.run _ z8 σ8 G8 _ J8 q8) fun b z9 ⟨G9, J9, q9⟩ => ?_
      -- the turn's end
      have endT : ∀ {z' : Shared} {G' : Hp}, Inv (X.blk z3 G3 scope cenv fo) ([] ++ pinsAt fo z7.heap) σ8 G' z' → Nx G' → ∃ m, m < n ∧ ∃ i G', Inv (X.blk z3 G3 scope cenv fo) [] (wipe σ (own.map (·.2))) G' z' ∧ tm i z'.heap ∧ (∀ b ∈ fo, G' b = none) ∧ Wp i m G' := fun {z' G'} J' nx => by
        obtain ⟨m', hm, v'⟩ := hNx G' nx
        have pin' : ∀ b ∈ fo, ∀ o, z7.heap.get? b = some o → z'.heap.get? b = some o ∧ G' b = none := fun b hb o e =>
          let z := J'.pin (b, o) (List.mem_append_right _ (List.mem_append_right _ (mem_pinsAt hb e)))
          ⟨z.1, z.2.1⟩
        have len8 : (wipe σ (own.map (·.2))).length = σ8.length := by rw [← hw8, wipe_length]
        refine ⟨m', hm, i + 1, G', (J'.unpinned (pins := [])).weak len8 (fun j v e => ?_), T.keep _ _ _ sx7 fun b hb o e => (pin' b hb o e).1, fun b hb => ?_, v'⟩
        · rw [← hw8] at e
          exact (wipe_some e).1
        · obtain ⟨o, e, _⟩ := T.obj _ _ sx7 b hb
          exact (pin' b hb o e).2
      cases b with
      | false =>
        simp only [Bool.false_eq_true, if_false] at q9 ⊢
        exact endT J9 q9
      | true =>
        simp only [if_true] at q9 ⊢
        refine thnF (qk.run _ z9 σ8 G9 _ J9 q9) fun z za ⟨yk, Ga, Ja, r10, q10⟩ => ?_
        refine thnF (qe.run _ za σ8 Ga _ Ja q10) fun z2 zb ⟨yv, Gb, Jb, r11, es, kvs, phi, k, bk, ek, hD11, dr, hz11, hdk, hdd, nx⟩ => ?_
        subst ek
        obtain rfl : z = Value.ref bk := r10
        exact d_dictSetT (X := X.blk z3 G3 scope cenv fo) hu Jb hD11 dr hz11 hdk hdd r11 fun zc Jc => endT Jc nx
  exact codeAny_compStart_dict loop (T.self X.A 0 _ _ _ sx4 loop)
/-- as a value -/
theorem pe_dcT {kx vx tg iter : Expr} {ifs : List Expr} {scope : Scope} {own : List (Str × Nat)} {pos : Pos} {wi : TI} {g : TG} {tt : TT} {tk tv : TE} (hu : X.A.units + 8 < cLine) (hc : X.calm = true) (nodN : X.N.Nodup) (hi : PI X tg iter wi) (ok : BlkOk X.N X.env.scope scope own)
    (hg : ∀ (s : Shared) (H : Hp) (C : Addr) (cl : List (Str × Addr)) (fo : List Addr), PG (X.blk s H scope (compEnvC scope cl C X.env) fo) tg g) (ht : ∀ (s : Shared) (H : Hp) (C : Addr) (cl : List (Str × Addr)) (fo : List Addr), PTs (X.blk s H scope (compEnvC scope cl C X.env) fo) ifs tt)
    (hk : ∀ (s : Shared) (H : Hp) (C : Addr) (cl : List (Str × Addr)) (fo : List Addr), PE (X.blk s H scope (compEnvC scope cl C X.env) fo) kx tk)
    (he : ∀ (s : Shared) (H : Hp) (C : Addr) (cl : List (Str × Addr)) (fo : List Addr), PE (X.blk s H scope (compEnvC scope cl C X.env) fo) vx tv) (hs : ∀ x, foldedSetIterable iter X.env x = pure x := by intro _; rfl) :
    PE X (.DictComp kx vx [⟨tg, iter, ifs, 0⟩] scope pos) (tDcT X wi g tt tk tv (own.map (·.2))) := by
  refine ⟨fun pins s σ H Q I h => ?_⟩
  rw [arm_eval_DictComp]
  refine dcT_core hu hc nodN I hi ok hg ht hk he hs h fun D C z' m G' J' q nsC f => ⟨m, nsC, fun h'' sb => ?_⟩
  obtain ⟨f0, f1, g2, g3, f4, f5⟩ := f
  exact ⟨.ref D, G', J'.turned (t' := z'.toks) (fun b o hb e => (sb.2 b hb).trans e) f0 f1 g3 f4 f5, rfl, q⟩
end
end Hx
noncomputable section
namespace Hx
open PySem L2 Pd Gn PySem.Spec PyProof.Rows Zq
theorem ps_setDcT {X : Cx} {n : Nat} {y : Str} {py : Pos} {kx vx tg iter : Expr} {ifs : List Expr} {scope : Scope} {own : List (Str × Nat)} {pos spos : Pos} {wi : TI} {g : TG} {tt : TT} {tk tv : TE} (hu : X.A.units + 8 < cLine) (hc : X.calm = true) (hN : X.N.Nodup) (hy : X.N[n]? = some y) (hyl : X.env.scope.names.lookup y = some .local)
    (hsw : swapsWith (.DictComp kx vx [⟨tg, iter, ifs, 0⟩] scope pos) (some (.Name y py)) spos.line X.env = pure true) (hi : PI X tg iter wi) (ok : BlkOk X.N X.env.scope scope own)
    (hg : ∀ (s : Shared) (H : Hp) (C : Addr) (cl : List (Str × Addr)) (fp : List Addr), PG (X.blk s H scope (compEnvC scope cl C X.env) fp) tg g) (ht : ∀ (s : Shared) (H : Hp) (C : Addr) (cl : List (Str × Addr)) (fp : List Addr), PTs (X.blk s H scope (compEnvC scope cl C X.env) fp) ifs tt)
    (hk : ∀ (s : Shared) (H : Hp) (C : Addr) (cl : List (Str × Addr)) (fp : List Addr), PE (X.blk s H scope (compEnvC scope cl C X.env) fp) kx tk)
    (he : ∀ (s : Shared) (H : Hp) (C : Addr) (cl : List (Str × Addr)) (fp : List Addr), PE (X.blk s H scope (compEnvC scope cl C X.env) fp) vx tv) (hs : ∀ x, foldedSetIterable iter X.env x = pure x := by intro _; rfl) :
    PS X (.Assign [.Name y py] (.DictComp kx vx [⟨tg, iter, ifs, 0⟩] scope pos) spos) (tAsg (tDcT X wi g tt tk tv (own.map (·.2))) (gName n)) := by
  refine ⟨fun pins s σ H D0 I h => ?_⟩
  rw [exec_Assign_Name_used _ _ _ _ hsw]
  refine wpAny_bind (wpAny_standAt (wpAny_bind ?_))
  show wpAny _ X.A (do let _ ← comprehension (.DictComp kx vx [⟨tg, iter, ifs, 0⟩] scope pos) scope X.env (firstIterPos [⟨tg, iter, ifs, 0⟩] pos) newDict false (eval iter X.env) (some (assign (.Name y py) X.env))) _ _ s
  have h : tDcT X wi g tt tk tv (own.map (·.2)) σ H (fun x H1 => gName n x σ H1 D0.nx) := h
  refine wpAny_bind (thn (dcT_core (Qf := fun _ z => SP X pins D0 .next z) hu hc hN I hi ok hg ht hk he hs h fun L C z m G J q hn f => ?_) fun _ z hq => wpAny_pure (wpAny_pure hq))
  show wpAny _ _ (assign (.Name y py) X.env (.ref L)) _ _ _
  refine wpAny_assign_Name (store_ok2 (v := V.ref L) J hN hy (.inl hyl) rfl (fun z2 J2 ⟨ax, sb, hax⟩ => ?_) (.inr hyl))
  obtain ⟨u0, u1, u2, u3, u4, u5⟩ := f
  have far : C ≠ ax := by
    rcases hax with e | e
    · rw [e]; exact u1
    · exact fun q => u4 y ax e q.symm
  refine ⟨m, hn.sameBut sb far, fun h3 sb3 => ?_⟩
  exact ⟨_, G, J2.turned (t' := z2.toks) (fun b o hb e => (sb3.2 b hb).trans e) u0 u1 u3 u4 u5, q⟩
/-- what a dict comprehension asks -/
def DR (X : Cx) (t : TE) (ρ : Rho) (m : M (List (NestedKey × W))) : Prop :=
  ∀ {Wx : WX} {E : Xc → Hs → Prop} {P : List (NestedKey × W) → Hs → Prop} {hs : Hs} {φ : List Addr} {Ho Hk Hr : Hp} {σ : L2.St}, Pt X Wx E ρ hs φ Ho Hk Hr σ → (m hs).sat P E → ∀ Q : VK,
    (∀ kvs hs' v φ' Hk' Hr', P kvs hs' → Ok X.K X.w φ' hs' Ho Hk' Hr' → Ex φ Hk φ' Hk' → VR X.K X.w φ' Hk' (.dct kvs) v → Q v Hr') → t σ Hr Q
def dcM {β : Type} (u : W → Option β) (mt : β → M Bool) (mk mv : β → M W) : List W → List (NestedKey × W) → M (List (NestedKey × W))
  | [], acc => rt acc
  | w :: ws, acc => bd (lf (u w)) fun b => bd (mt b) fun k => match k with
    | true => bd (mk b) fun y => bd (mv b) fun z => bd (lf (gd (shortS acc.length) (tkey y))) fun q => dcM u mt mk mv ws (dPut q z acc)
    | false => dcM u mt mk mv ws acc
def dc1 {β : Type} (u : W → Option β) (mt : β → M Bool) (mk mv : β → M W) (mi : M (List W)) : M (List (NestedKey × W)) := bd mi fun ws => bd (lf (gd (short ws.length) (some ()))) fun _ => nox (dcM u mt mk mv ws [])
section
variable {X : Cx} {tg iter : Expr} {ρ : Rho} {mi : M (List W)} {β : Type} {vs : List Nat} {gt : TG} {tt : TT} {tk tv : TE}
theorem dcM_drop {u : W → Option β} {mt : β → M Bool} {mk mv : β → M W} {ws : List W} {i : Nat} {w : W} {acc : List (NestedKey × W)} (h : ws[i]? = some w) : dcM u mt mk mv (ws.drop i) acc = bd (lf (u w)) fun b => bd (mt b) fun k => match k with
    | true => bd (mk b) fun y => bd (mv b) fun z => bd (lf (gd (shortS acc.length) (tkey y))) fun q => dcM u mt mk mv (ws.drop (i + 1)) (dPut q z acc)
    | false => dcM u mt mk mv (ws.drop (i + 1)) acc := by
  obtain ⟨hl, he⟩ := List.getElem?_eq_some_iff.mp h
  rw [List.drop_eq_getElem_cons hl, he]
  rfl
theorem dr_dc {u : W → Option β} {f : β → Rho} {mt : β → M Bool} {mk mv : β → M W} (hi : IM X tg iter ρ mi) (hw : GW gt vs) (hv : ∀ i ∈ vs, ρ[i]? = some none) (hu : GM X.K X.w ρ gt u f) (ht : ∀ b, GTm X.K X.w tt (f b) (mt b)) (hkk : ∀ b, GEm X.K X.w tk (f b) (mk b)) (hvv : ∀ b, GEm X.K X.w tv (f b) (mv b)) :
    DR X (tDcT X (wI X tg iter) gt tt tk tv vs) ρ (dc1 u mt mk mv mi) := fun {Wx E P hs0 φ0 Ho Hk0 Hr0 σ} p s Q q => by
  refine hi p (sat_bind s) _ fun ws h1 J φ1 Hk1 Hr1 s1 p1 e1 wk D nD => ?_
  obtain ⟨_, hsh, s2⟩ := sat_lf (sat_bind s1)
  have hlen := short_le (gd_some hsh).1
  have s3 := sat_nox s2
  refine ⟨fun i m H => i + m = ws.length ∧ ∃ acc es hs' φ' Hk', Ok X.K X.w φ' hs' (upd Ho D (DicO X.w D es)) Hk' H ∧ Hk' D = none ∧ Ex φ1 Hk1 φ' Hk' ∧ DRs X.K X.w φ' Hk' acc es ∧ (dcM u mt mk mv (ws.drop i) acc hs').sat P FF,
    ⟨ws.length, by omega, [], [], h1, φ1, Hk1, p1.I.outer nD, far_of p1.I.kr nD, Ex.refl, .nil, by rw [List.drop_zero]; exact s3⟩, fun i m H hW => ?_⟩
  obtain ⟨em, acc, es, hs', φ', Hk', I', nk, e', hacc, s'⟩ := hW
  obtain ⟨w1, w2, w3⟩ := wk i H (e'.k.trans I'.kr)
  by_cases hi : i < ws.length
  · refine .inr ⟨w1 hi, fun H2 => ∃ acc es hs' φ' Hk', Ok X.K X.w φ' hs' (upd Ho D (DicO X.w D es)) Hk' H2 ∧ Hk' D = none ∧ Ex φ1 Hk1 φ' Hk' ∧ DRs X.K X.w φ' Hk' acc es ∧ (dcM u mt mk mv (ws.drop (i + 1)) acc hs').sat P FF,
      fun H2 hN => ⟨m - 1, by omega, by omega, hN⟩, fun xv H2 hy => ?_⟩
    obtain ⟨e2, fd⟩ := w3 xv H2 hy
    have hd := List.getElem?_eq_getElem hi
    rw [dcM_drop hd] at s'
    obtain ⟨b, hb, s4⟩ := sat_lf (sat_bind s')
    have I2 := I'.gro e2
    have eg := Ex.gro (φ := φ') I'.kr (H2 := H2)
    have nk2 : gro Hk' H H2 D = none := by rw [gro_old (I'.out _ _ upd_same)]; exact nk
    have hxv : VR X.K X.w φ' (gro Hk' H H2) (ws[i]) xv := (fd _ hd).mono e'.f (gro_le e'.k)
    have Rw : SR X.K X.w φ' (gro Hk' H H2) ρ (L2.wipe σ vs) := ((p1.R.ex e').ex eg).wipe hv
    refine hw _ _ _ _ (hu _ b hb φ' _ H2 _ xv I2.kr Rw hxv _ fun σ3 R3 wz => ?_)
    refine ht b I2 R3 (sat_bind s4) _ fun k h4 φ4 Hk4 Hr4 s5 I4 e4 => ?_
    cases k with
    | true =>
      refine iteT (hkk b I4 (R3.ex e4) (sat_bind s5) _ fun y h5 yv φ5 Hk5 Hr5 s6 I5 e5 hyv => hvv b I5 ((R3.ex e4).ex e5) (sat_bind s6) _ fun z h6 zv φ6 Hk6 Hr6 s7 I6 e6 hzv => ?_)
      obtain ⟨kk, hk, s8⟩ := sat_lf (sat_bind s7)
      obtain ⟨hl, hk⟩ := gd_some hk
      have hl := shortS_lt hl
      obtain ⟨bb, rfl, g3, g4⟩ := tkey_ok hk (hyv.ex e6)
      have ee : Ex φ' Hk' φ6 Hk6 := eg.trans (e4.trans (e5.trans e6))
      have hacc6 := hacc.mono ee.f ee.k
      have le := DRs.len hacc6
      exact ⟨es, acc, φ6, kk, bb, rfl, I6.out _ _ upd_same, hacc6.mono Fx.refl I6.kr, by rw [le]; exact lt_line hl, Dp.mono I6.kr _ g3, g4, dPut kk z acc, ePut kk bb zv es, h6, φ6, Hk6, I6.output I6.nk, I6.nk, e'.trans ee, put_D g4 g3 hzv hacc6, s8⟩
    | false => exact iteF ⟨acc, es, h4, φ4, Hk4, I4, I4.nk, e'.trans (eg.trans e4), hacc.mono (eg.trans e4).f (eg.trans e4).k, s5⟩
  · have : i = ws.length := by omega
    subst this
    rw [List.drop_length] at s'
    have s5 : P acc hs' := s'
    refine .inl ⟨w2 rfl, es, I'.out _ _ upd_same, fun od => ?_⟩
    obtain ⟨I6, e6⟩ := I'.claimD (far_of p1.I.out nD) (.frz od (DicO X.w D es))
    have ee : Ex φ' Hk' φ' _ := ⟨Fx.refl, e6⟩
    exact q acc hs' (.ref D) φ' _ _ s5 I6 (e1.trans (e'.trans ee)) (.dct upd_same (hacc.mono Fx.refl e6))
end
/-- a dict comprehension, as a value, for a name -/
structure DcP (X : Cx) (e : Expr) (t : TE) (ρ : Rho) (m : M (List (NestedKey × W))) : Prop where
  pe : PE X e t
  ps : ∀ {n : Nat} {y : Str} {py spos : Pos}, X.N.Nodup → X.N[n]? = some y → X.env.scope.names.lookup y = some .local → swapsWith e (some (.Name y py)) spos.line X.env = pure true → PS X (.Assign [.Name y py] e spos) (tAsg t (gName n))
  dr : DR X t ρ m
def dctW (m : M (List (NestedKey × W))) : M W := bd m fun kvs => rt (.dct kvs)
section
variable {X : Cx} {ρE ρ : Rho} {tg iter kx vx c : Expr} {mi : M (List W)} {β α : Type} {own : List (Str × Nat)} {gt : TG} {u : W → Option β} {f : β → Rho} {mt : β → M Bool} {mk mv : β → M W} {scope : Scope} {pos py spos : Pos} {k n : Nat} {t : TE} {y : Str} {rest : List Stmt} {g : α → Rho} {md : M (List (NestedKey × W))}
theorem dcp1 (hr : Room k X.A) (hi : IM X tg iter ρ mi) (hw : GW gt (own.map (·.2))) (hv : ∀ i ∈ own.map (·.2), ρ[i]? = some none) (hu : GM X.K X.w ρ gt u f) (ht : ∀ b, BTm X scope c (f b) (mt b)) (hk : ∀ b, BM X scope kx (f b) (mk b)) (he : ∀ b, BM X scope vx (f b) (mv b)) (hN : X.N.Nodup) (ok : BlkOk X.N X.env.scope scope own) (hg : PGb X scope tg gt)
    (hc : X.calm = true := by rfl) (hs : ∀ x, foldedSetIterable iter X.env x = pure x := by intro _; rfl) : DcP X (.DictComp kx vx [⟨tg, iter, [c], 0⟩] scope pos) (tDcT X (wI X tg iter) gt (bT X scope c) (bE X scope kx) (bE X scope vx) (own.map (·.2))) ρ (dc1 u mt mk mv mi) :=
  ⟨pe_dcT (by have := hr.un; omega) hc hN pi_w ok hg (fun s H C cl fp => pts_one (pt_b s H C cl fp)) pe_b pe_b hs, fun hN hy hyl hsw => ps_setDcT (by have := hr.un; omega) hc hN hy hyl hsw pi_w ok hg (fun s H C cl fp => pts_one (pt_b s H C cl fp)) pe_b pe_b hs, dr_dc hi hw hv hu (fun b => (ht b).gt) (fun b => (hk b).ge) fun b => (he b).ge⟩
theorem em_dc {e : Expr} (h : DcP X e t ρ md) : EM X e ρ (dctW md) := fun p s Q q => sE_of h.pe (h.dr p (sat_bind s) Q fun kvs hs' v φ' Hk' Hr' s1 I' e' hv => q _ _ _ _ _ _ s1 (p.go I' e') e' hv)
end
end Hx
namespace L2
open PySem PySem.Spec PyProof.Rows
section
end
end L2
noncomputable section
namespace Hx
open PySem L2 Pd Gn PySem.Spec PyProof.Rows Zq
section
end
end Hx
noncomputable section
namespace Hx
open PySem L2 Pd Gn PySem.Spec PyProof.Rows Zq
def plainW : W → W
  | .tpx ds => .dat (.tuple ds)
  | w => w
theorem VR.plain {K : PySem.W.Frag} {wd : World} {φ : List Addr} {H : Hp} : ∀ {w : W} {v : V}, VR K wd φ H w v → VR K wd φ H (plainW w) v
  | .tpx _, _, .tpx _ _ g => .dat g
  | .dat _, _, h => h
  | .ref _, _, h => h
  | .tup _, _, h => h
  | .lst _, _, h => h
  | .ins _ _, _, h => h
  | .scr, _, h => h
  | .dct _, _, h => h
section
end
end Hx
noncomputable section
namespace Hx
open PySem L2 Pd Gn PySem.Spec PyProof.Rows Zq
section
end
section
variable {prog : Program} {w : World} {A : Around} {E : Value → Shared → Prop} {s : Shared}
variable {K : PySem.W.Frag} {x C f L : Addr} {ox : Obj} {od : Option Obj} {h₀ : Heap} {m : Str → Option Value} {y tb : Value}
theorem ent_ne {Q : Fin → Shared → Prop} (hu : A.units < cLine) (X : K.In s.heap) (I : PySem.W.InstAt s.heap x ox C od) (hs : PySem.W.findIn K (.ref C) "__eq__" = some (some (.ref f))) (hf : PySem.W.isFn K (.ref f) = true)
    (h : wpAny (model prog w) A (call (.ref f) [.ref x, y]) (fun v s' => ∃ b, v = .bool b ∧ Q (.done (.ret (.bool (!b)))) s') E s) : wpAny (model prog w) A (Builtin.«object.__ne__» ⟨[.ref x, y], []⟩) Q E s := by
  unfold Builtin.«object.__ne__»
  repeat (first
    | with_reducible refine wpAny_cRoomFor hu ?_
    | (refine wpAny_bind (m := callSpecialIfBound? (.ref x) (Str.ofString "__eq__") [y])
        (PySem.W.ifBound_K X I hs hf (wpAny_mono h (fun r s' hr => by
          obtain ⟨b, rfl, hq⟩ := hr
          repeat (first | exact hq | exact wpAny_pure hq | exact wpAny_truthy_bool hq | (refine wpAny_bind (m := truthy (.bool _)) (wpAny_truthy_bool ?_)) | wp_step)) fun _ _ e => e)))
    | wp_step)
theorem bound_ne {M : Model} {args : List Value} {Q : Option Value → Shared → Prop} (X : K.In s.heap) (I : PySem.W.InstAt s.heap x ox C od) (hs : PySem.W.findIn K (.ref C) "__ne__" = some (some (.builtin "object.__ne__")))
    (h : wpAny M A (call (.builtin "object.__ne__") (.ref x :: args)) (fun v => Q (some v)) E s) : wpAny M A (callSpecialIfBound? (.ref x) "__ne__" args) Q E s := by
  simp only [callSpecialIfBound?, bindSpecialIfBound?]
  refine wpAny_holding (wpAny_bind (wpAny_bind (wpAny_bind (I.type.here ((PySem.W.looks_findIn X hs).here ?_)))))
  refine wpAny_bind (wpAny_askSetting (wpAny_ite ?_))
  have fin : wpAny M A (call (.builtin "object.__ne__") ([.ref x] ++ args) >>= fun v => pure (some v)) Q E s := wpAny_bind (wpAny_mono h (fun v s' h' => wpAny_pure h') fun _ _ h' => h')
  split
  · exact wpAny_bind (wpAny_of_eq (F.cmp_object.ne.bind _) (wpAny_pure (by exact fin)))
  · exact wpAny_tryCatch (wpAny_bind (wpAny_of_eq (F.cmp_object.ne.bind _) (wpAny_pure (by exact fin))))
end
end Hx
noncomputable section
namespace Hx
open PySem L2 Pd Gn PySem.Spec PyProof.Rows Zq
section
variable {X : Cx} {n k : Nat} {D : Eqv}
variable {C f : Addr} {fd : FuncData} {ps : List Str} {R : Addr → Addr → Hp → Prop}
theorem pass0 : Passes (L2.CX X.prog X.w) X (fun _ _ _ => False) := fun pins σ H s e s' I c => passAt (takes0 (X := X)) σ pins H s e s' I c
end
section
end
structure InsN (K : PySem.W.Frag) (c : Nat) : Prop where
  mr : ∀ C, insC K c C → PySem.W.mroIn K C (.type "object") = some true
  ne : ∀ C, insC K c C → PySem.W.findIn K (.ref C) "__ne__" = some (some (.builtin "object.__ne__"))
section
end
end Hx
noncomputable section
namespace Hx
open PySem L2 Pd Gn PySem.Spec PyProof.Rows Zq
section
end
section
end
end Hx
noncomputable section
namespace Hx
open PySem L2 Pd Gn PySem.Spec PyProof.Rows Zq
section
end
end Hx
noncomputable section
namespace Hx
open PySem L2 Pd Gn PySem.Spec PyProof.Rows Zq
def ZR (h : Heap) (z TI TO : Addr) (a b : Value) : Prop := h.get? z = some { cls := .type "zip", data := .fields #[a, b, .bool false, .ref TI, .ref TO] }
abbrev Row := Addr × Addr × Array Value
def tupO (vs : List Value) : Obj := { cls := .type "tuple", data := .seq vs.toArray }
def Rows (h : Heap) (rows : List Row) (i : Nat) : Prop := ∀ r ∈ rows, h.IsTupleIter r.1 r.2.1 i ∧ h.IsTuple r.2.1 r.2.2
section
end
end Hx
noncomputable section
namespace Hx
open PySem L2 Pd Gn PySem.Spec PyProof.Rows Zq
section
end
end Hx
noncomputable section
namespace Hx
open PySem L2 Pd Gn PySem.Spec PyProof.Rows Zq
def ZSt (h : Heap) (z TI TO : Addr) (rows : List Row) (j : Nat) : Prop :=
  ((j = 0 ∧ ZR h z TI TO .none (.bool false) ∧ h.get? TO = some (tupO (List.replicate rows.length Value.none))) ∨ (0 < j ∧ ∃ T fl col, ZR h z TI TO (rawInt (T : Nat)) (.bool fl) ∧ h.get? T = some (tupO col))) ∧
  h.get? TI = some (tupO (rows.map fun r => .ref r.1)) ∧ Rows h rows j
theorem isTupO {h : Heap} {a : Addr} {vs : List Value} (e : h.get? a = some (tupO vs)) : h.IsTuple a vs.toArray := ⟨_, e, rfl, _, rfl⟩
section
variable {prog : Program} {w : World} {A : Around} {E : Value → Shared → Prop} {s : Shared} {z TI TO S : Addr} {rows : List Row} {m : Nat}
variable {R : Result → Shared → Prop}
theorem ZSt.type {h : Heap} {z TI TO : Addr} {rows : List Row} {j : Nat} (Z : ZSt h z TI TO rows j) : ∃ a b, ZR h z TI TO a b := by
  obtain ⟨a, _, _⟩ := Z
  rcases a with ⟨_, hz, _⟩ | ⟨_, T, fl, col, hz, _⟩
  · exact ⟨_, _, hz⟩
  · exact ⟨_, _, hz⟩
end
end Hx
noncomputable section
namespace Hx
open PySem L2 Pd Gn PySem.Spec PyProof.Rows Zq
abbrev Tx := Addr × Array Value
section
end
end Hx
noncomputable section
namespace Hx
open PySem L2 Pd Gn PySem.Spec PyProof.Rows Zq
inductive ZK (K : PySem.W.Frag) (H : Hp) (m : Nat) : List V → List (List V) → Prop
  | nil : ZK K H m [] []
  | cons {a : Addr} {xs : List V} {vs : List V} {xss : List (List V)} : SqT K H a xs → xs.length = m → ZK K H m vs xss → ZK K H m (.ref a :: vs) (xs :: xss)
inductive TR (h : Heap) (m : Nat) : List Tx → List (List V) → Prop
  | nil : TR h m [] []
  | cons {p : Tx} {xs : List V} {ps : List Tx} {xss : List (List V)} : h.IsTuple p.1 p.2 → Vals xs p.2.toList → p.2.size = m → TR h m ps xss → TR h m (p :: ps) (xs :: xss)
theorem TR.tup {h : Heap} {m : Nat} : ∀ {tx : List Tx} {xss : List (List V)}, TR h m tx xss → ∀ p ∈ tx, h.IsTuple p.1 p.2 ∧ p.2.size = m
  | _, _, .nil, p, hp => by cases hp
  | _, _, .cons a b c d, p, hp => by
    rcases List.mem_cons.mp hp with rfl | hp
    · exact ⟨a, c⟩
    · exact d.tup p hp
end Hx
noncomputable section
namespace Hx
open PySem L2 Pd Gn PySem.Spec PyProof.Rows Zq
section
variable {K : PySem.W.Frag} {wd : World} {φ : List Addr} {H : Hp}
theorem ZK.mono {H' : Hp} {m : Nat} (e : Same H H') : ∀ {vs : List V} {xss : List (List V)}, ZK K H m vs xss → ZK K H' m vs xss
  | _, _, .nil => .nil
  | _, _, .cons a b c => .cons (same_t e a) b (c.mono e)
end
section
end
end Hx
noncomputable section
namespace Hx
open PySem L2 Pd Gn PySem.Spec PyProof.Rows Zq
def dDel (k : NestedKey) : List (NestedKey × W) → List (NestedKey × W)
  | [] => []
  | (j, u) :: r => match NestedKey.beq j k with | true => dDel k r | false => (j, u) :: dDel k r
def eDel (k : NestedKey) : List (NestedKey × Addr × V) → List (NestedKey × Addr × V)
  | [] => []
  | (j, u) :: r => match NestedKey.beq j k with | true => eDel k r | false => (j, u) :: eDel k r
section
variable {K : PySem.W.Frag} {wd : World} {φ : List Addr} {H : Hp} {k : NestedKey}
theorem del_D : ∀ {kvs : List (NestedKey × W)} {es : List (NestedKey × Addr × V)}, DRs K wd φ H kvs es → DRs K wd φ H (dDel k kvs) (eDel k es)
  | _, _, .nil => .nil
  | (j, w') :: _, _, .cons h1 h2 h3 h4 => by
    unfold dDel eDel
    cases z : NestedKey.beq j k with
    | true => exact del_D h4
    | false => exact .cons h1 h2 h3 (del_D h4)
theorem del_E : ∀ {es : List (NestedKey × Addr × V)} {xs : List (NestedKey × Addr × Value)}, EX es xs → EX (eDel k es) (withoutH xs k)
  | _, _, .nil => .nil
  | (j, c, v') :: _, (j', c', u') :: _, .cons ⟨q1, q2, q3⟩ r => by
    have q1 : j = j' := q1
    subst q1
    unfold eDel withoutH
    cases z : NestedKey.beq j k with
    | true =>
      rw [List.filter_cons_of_neg (by simpa using NestedKey.eq_of_beq _ _ z)]
      exact del_E r
    | false =>
      rw [List.filter_cons_of_pos (by simpa using beq_no z)]
      exact .cons ⟨rfl, q2, q3⟩ (del_E r)
theorem del_len : ∀ {es : List (NestedKey × Addr × V)}, (eDel k es).length ≤ es.length
  | [] => Nat.le_refl _
  | (j, c, u) :: r => by
    unfold eDel
    cases z : NestedKey.beq j k with
    | true => exact Nat.le_succ_of_le del_len
    | false => exact Nat.succ_le_succ del_len
end
def popDM (mo me mf : M W) : M W := bd mo fun x => bd (fun h => lf (isD h x) h) fun _ => bd me fun y => bd mf fun z => bd (isDm x) fun p => bd (lf (tkey y)) fun k => match dLook k p.2 with
  | some w => bd (putDm p.1 (dDel k p.2)) fun _ => rt w
  | none => rt z
section
variable {X : Cx} {ρ : Rho} {o e f : Expr} {apos cpos : Pos} {n : Nat}
theorem em_popD {mo me mf : M W} (hr : Room n X.A) (ho : EM X o ρ mo) (he : EM X e ρ me) (hf : EM X f ρ mf) (md : M2 X o "pop" apos e f cpos := by exact ⟨rfl, rfl, rfl, rfl⟩) : EM X (.Call (.Attribute o "pop" apos) [e, f] [] cpos) ρ (popDM mo me mf) := fun p s Q q => by
  refine sE_of (pe_dm2 PySem.F.slot_dict_pop PySem.F.type_dict_pop pe_s pe_s pe_s md) (ho p (sat_bind s) _ fun x h1 xv φ1 Hk1 Hr1 s1 p1 e1 hx => ?_)
  obtain ⟨kv0, hk0, s1⟩ := sat_lf (sat_bind s1)
  obtain ⟨ad0, es0, rfl, g0, _⟩ := isD_ok p1.I hx hk0
  refine ⟨⟨ad0, es0, rfl, g0⟩, he p1 (sat_bind s1) _ fun y h2 yv φ2 Hk2 Hr2 s2 p2 e2 hy => hf p2 (sat_bind s2) _ fun z h3 zv φ3 Hk3 Hr3 s3 p3 e3 hz => ?_⟩
  obtain ⟨i, kvs, rfl, gi, s4⟩ := isDm_ok (sat_bind s3)
  obtain ⟨k, h5, s5⟩ := sat_lf (sat_bind s4)
  obtain ⟨bb, rfl, g3, g4⟩ := tkey_ok h5 (hy.ex e3)
  have hx3 := hx.ex (e2.trans e3)
  have ee := e1.trans (e2.trans e3)
  cases hx3 with
  | ref ha =>
    obtain ⟨ad, q1, q2, q3, es, q4, q5⟩ := p3.I.obj i _ gi
    rw [ha] at q1
    cases q1
    intro pins st τ us I' rv
    cases rv with
    | @cons _ u1 _ _ r1 rv =>
      cases rv with
      | @cons _ u2 _ _ r2 rv =>
        cases rv with
        | @cons _ u3 _ _ r3 rv =>
          cases rv
          have r1 : u1 = .ref ad0 := r1
          subst r1
          have r2 : u2 = .ref bb := r2
          subst r2
          obtain ⟨z1, z2, xs, ex, dd⟩ := dic_rd I' (.inl q4) (DRs.mono Fx.refl p3.I.kr q5)
          have lx : xs.length = es.length := (Paired.length ex).symm
          cases zz : dLook k kvs with
          | none =>
            simp only [zz] at s5
            exact call_pop_default_heap (hsz := by rw [lx]; exact z1) (roomD hr) (key_is I' (Dp.mono p3.I.kr _ g3) g4) z2 dd (look_none q5 ex zz) fun tk => ⟨zv, Hr3, I'.tok _, r3, q _ _ _ _ _ _ s5 p3 ee hz⟩
          | some w' =>
            simp only [zz] at s5
            obtain ⟨pp', v', hp', rv', hvr⟩ := look_some q5 ex zz
            refine call_pop_heap (hsz := by rw [lx]; exact z1) (.inr ⟨u3, rfl⟩) (PySem.F.args_dict_pop_3 _ _ _) (roomD hr) (key_is I' (Dp.mono p3.I.kr _ g3) g4) z2 dd hp' fun h' dd' hs => ?_
            have hq : ∃ q, h'.get? ad0 = some q := by
              obtain ⟨o', _, _, ho', _⟩ := dd'
              exact ⟨o', ho'⟩
            have hlen : (eDel k es).length ≤ sizeLine := Nat.le_trans del_len z1
            have J := p3.I.put (o' := .dic (dDel k kvs)) (u := DicO X.w ad0 (eDel k es)) gi ha ⟨_, upd_same, del_D q5⟩
            exact ⟨v', _, d_write (ob := DicO X.w ad0 (eDel k es)) I' (by rw [q4]; exact True.intro) hs hq (dicO_ok hlen z2 (del_E ex) dd'), rv', q _ _ _ _ _ _ s5 (p3.go J Ex.refl) ee hvr⟩
end
end Hx
set_option pp.maxSteps 200
noncomputable section
namespace Hx
open PySem L2 Pd Gn PySem.Spec PyProof.Rows Zq
section
end
section
end
section
variable {X : Cx} {ρ : Rho} {a b o e : Expr} {m1 m2 : M W} {pos apos cpos : Pos} {n : Nat}
def tDm1 (X : Cx) (id : String) (to te : TE) : TE := fun σ H Q => to σ H fun x H1 => (∃ ad es, x = .ref ad ∧ Rd H1 ad (DicO X.w ad es)) ∧ te σ H1 fun y H2 => wMt X id [x, y] H2 Q
theorem pe_dm1 {nm : Str} {id : String} {to te : TE} (slot : Slot "dict" nm id) (hty : typeOf (.builtin id) = pure (.type "method_descriptor")) (ho : PE X o to) (he : PE X e te) (md : M1 X o nm apos e cpos) : PE X (.Call (.Attribute o nm apos) [e] [] cpos) (tDm1 X id to te) := by
  refine ⟨fun pins s σ H Q I h => wpAny_Call_method md.base md.few md.line PySem.F.plainAttrs_dict slot hty (thn (ho.run pins s σ H _ I h) fun u s1 hh => ?_)⟩
  obtain ⟨x, H1, I1, rx, ⟨ad, es, ex, d⟩, q1⟩ := hh
  subst ex
  obtain rfl : u = Value.ref ad := rx
  obtain ⟨t1, t2⟩ := dic_type I1 d
  refine ⟨t1, t2, ?_⟩
  rw [md.trees]
  exact Calls.callWith_builtin rfl (Calls.evalArgs_plain (Calls.spliced_cons (thn (he.run pins s1 σ H1 _ I1 q1) fun iv s2 ⟨y, H2, I2, ry, q2⟩ => Calls.spliced_nil (q2 pins s2 σ _ I2 (.cons rfl (.cons ry .nil))))))
end
end Hx
set_option pp.maxSteps 200
noncomputable section
namespace Hx
open PySem L2 Pd Gn PySem.Spec PyProof.Rows Zq
structure XCl0 (K : PySem.W.Frag) (mg : Str → Option Value) (x : Str) (C : Addr) : Prop where
  q : PySem.W.excIn K C [.type "ValueError", .type "Exception", .type "BaseException", .type "object"] "ValueError.__new__" = true
  kC : PySem.W.keepIn K (.ref C) = true
  exC : PySem.W.subIn K (.ref C) (.type "BaseException") = some true
  tyC : PySem.W.typeIn K (.ref C) = some (.type "type")
  gC : mg x = some (.ref C)
  te : PySem.W.exmOne K (.ref C) (.ref C) = some true
theorem exm_of {K : PySem.W.Frag} {D : Addr} {c : Value} {b : Bool} (T : OexC K D) (h : PySem.W.subIn K c (.ref D) = some b) : PySem.W.exmOne K c (.ref D) = some b := by
  have h1 : (PySem.W.clsIn K D).isSome = true := by
    obtain ⟨nm, q, N, bs, bm, sn, sub, ab, col, dd, k0, k1, k2, k3, k5, e, _⟩ := T.cls
    unfold PySem.W.clsIn
    rw [e]
    rfl
  unfold PySem.W.exmOne
  rw [T.exC, if_pos (by rfl)]
  unfold PySem.W.kitCls
  simp only [h1, T.tyC]
  rw [if_pos (by rfl)]
  exact h
section
variable {X : Cx} {ρE ρ : Rho} {rest : List Stmt} {α β : Type} {g : α → Rho} {x : Str}
def raiseT {β : Type} (c : Nat) : M β := fun h => .exc ⟨c, .none⟩ h
theorem sm_raiseT {c : Nat} {C : Addr} {tx : Str} {j : Nat} {p0 p2 cpos pos : Pos} (T : XCl0 X.K X.mg x C) (hxn : xName c = x) (hxf : xFld c = none) (hc : X.calm = true := by rfl) (hg : Gl X x := by rfl) (hdb : (x == ("__debug__" : Str)) = false := by decide) :
    SM X ρE (.Raise (some (.Call (.Name x p0) [.Constant (.str tx) j p2] [] cpos)) none pos :: rest) ρ (raiseT c : M (Res W α)) g := fun {Wx E P hs φ Ho Hk Hr σ} ps s D nx r =>
  sSs_of (pss_cons (ps_raise hc ps.tk (pmk_own PySem.F.excBase_ValueError T.q T.gC T.kC (raises_own T.exC T.tyC) hg hdb)) pss_s) (ps.x ⟨c, .none⟩ hs C none φ Hk Hr σ s ps.I Ex.refl ⟨by rw [hxn]; exact T.gC, by show match xFld c with | some f => _ | none => _; rw [hxf]⟩ (ps.sub.sr ps.R))
end
section
end
section
end
end Hx
set_option pp.maxSteps 200
noncomputable section
namespace Hx
open PySem L2 Pd Gn PySem.Spec PyProof.Rows Zq
section
end
section
end
section
end
end Hx
set_option pp.maxSteps 200
noncomputable section
namespace Hx
open PySem L2 Pd Gn PySem.Spec PyProof.Rows Zq
section
variable {prog : Program} {w : World} {A : Around} {E : Value → Shared → Prop} {s : Shared} {K : PySem.W.Frag} {x C f L : Addr} {ox : Obj} {od : Option Obj} {h₀ : Heap} {m : Str → Option Value} {y tb : Value}
theorem rc_insNeT {Q : Value → Shared → Prop} (hu : A.units + 1 < cLine) (X : K.In s.heap) (I : PySem.W.InstAt s.heap x ox C od) (hb : PySem.W.Looks (model prog w) s.heap (typeOf y) tb) (hk : PySem.W.notFirst K C tb = true) (hm : PySem.W.mroIn K C (.type "object") = some true)
    (hn : PySem.W.findIn K (.ref C) "__ne__" = some (some (.builtin "object.__ne__"))) (hs : PySem.W.findIn K (.ref C) "__eq__" = some (some (.ref f))) (hf : PySem.W.isFn K (.ref f) = true)
    (h : wpAny (model prog w) A.in1 (call (.ref f) [.ref x, y]) (fun v s' => ∃ b, v = .bool b ∧ Q (.bool (!b)) s') E s) : wpAny (model prog w) A (richCompare .NotEq (.ref x) y) Q E s := by
  have one : wpAny (model prog w) A (tryCompare (.ref x) "__ne__" y) (fun r s' => ∃ v, r = some v ∧ Q v s') E s := by
    unfold tryCompare
    refine wpAny_bind (bound_ne X I hn (wpAny_call (codeAny_call_builtin F.cmp_object.ne.plain F.cmpEntry_ne (PySem.W.check_slot F.cmpKind_ne F.cmpSplit_ne (I.type.andThen (PySem.W.looks_mroIn X hm)) (F.cmpArgs_ne _ _)
      (ent_ne (A := A.in1) hu X I hs hf (wpAny_mono h (fun v s' hv => ?_) fun _ _ e => e))))))
    obtain ⟨b, rfl, hq⟩ := hv
    first | exact ⟨b, rfl, wpAny_pure ⟨_, rfl, hq⟩⟩ | exact ⟨b, rfl, wpAny_pure (wpAny_pure ⟨_, rfl, hq⟩)⟩ | exact ⟨b, rfl, ⟨_, rfl, hq⟩⟩
  unfold richCompare
  simp only [oneThing_ref]
  refine wpAny_holding (wpAny_bind (wpAny_cRoomFor (Nat.lt_of_succ_lt hu) ?_))
  rw [cmpInfo_NotEq]
  dsimp only
  refine wpAny_bind (I.type.here (wpAny_bind (hb.here ?_)))
  split
  · rename_i q
    have e : PySem.W.subIn K tb (.ref C) = some false := by
      rcases Bool.or_eq_true_iff.mp hk with e | e
      · rw [beq_iff_eq.mp e] at q; simp at q
      · exact beq_iff_eq.mp e
    refine wpAny_bind ((PySem.W.looks_subIn X e).here ?_)
    simp only [Bool.false_eq_true, if_false]
    refine wpAny_bind (wpAny_mono one (fun r s' z => ?_) fun _ _ e => e)
    obtain ⟨v, rfl, hq⟩ := z
    exact wpAny_pure hq
  · refine wpAny_bind (wpAny_pure ?_)
    simp only [Bool.false_eq_true, if_false]
    refine wpAny_bind (wpAny_mono one (fun r s' z => ?_) fun _ _ e => e)
    obtain ⟨v, rfl, hq⟩ := z
    exact wpAny_pure hq
end
/-- what is asked: x an instance, y of any known type, and what the own == does -/
def rOwnA (K : PySem.W.Frag) (C : Addr) (sp : Sp) (F : Bool → Bool) : R2 := fun x y H Q => ∃ a dx fs t, x = .ref a ∧ H a = some (.ins C dx fs) ∧ TyX K H y t ∧ PySem.W.notFirst K C t = true ∧ sp [.ref a, y] H (fun v H' => ∃ b, v = .bl b ∧ Q (.bl (F b)) H') (fun _ _ _ => False)
section
variable {X : Cx} {k : Nat} {f C : Addr} {fd : FuncData} {ps : List Str} {sp : Sp}
theorem op_neA (F : FnOk X.prog X.w X.K X.mg X.base (L2.CX X.prog X.w) k f fd ps sp) (hr : Room (k + 1) X.A) (hu : X.A.units + 1 < cLine) (hb : Binds X.K fd ps []) (M : Meth X.K C "__eq__" f)
    (hm : PySem.W.mroIn X.K C (.type "object") = some true) (hne : PySem.W.findIn X.K (.ref C) "__ne__" = some (some (.builtin "object.__ne__"))) : OpR X (compareOp .NotEq) (rOwnA X.K C sp not) := by
  intro pins s σ H x y v u Q I rx ry h
  obtain ⟨a, dx, fs, t, rfl, ha, ty, hn, q⟩ := h
  cases rx
  obtain ⟨mA, J, _⟩ := ins_get I.hok ha
  obtain ⟨od, J, _⟩ := J.look
  obtain ⟨P, Z, hP, _⟩ := L2.kit_of I ry ty
  show wpAny (model X.prog X.w) X.A (richCompare .NotEq (.ref a) u) (EP X pins σ Q) X.xe s
  refine rc_insNeT hu I.kIn J (Z.ty _ _ I.kIn hP) hn hm hne M.at_ M.fn ?_
  have e0 : Env0 X.prog X.w X.K X.mg X.base X.A.in1 X.stack s H := by
    have e := I.env0
    exact ⟨e.frames, e.mod, e.bs, e.bsz, e.funs, e.frf, e.hok, e.bare⟩
  have hl := F.len _ _ _ _ q
  have r2 : Vals [V.ref a, y] [Value.ref a, u] := .cons rfl (.cons ry .nil)
  refine wpAny_call (codeAny_mono (F.run X.A.in1 X.stack s H ⟨[.ref a, u], []⟩ [.ref a, u] [.ref a, y] _ _ hr.in1 e0 (by
    have := hb s [.ref a, u] I.kIn (by simpa using hl)
    simpa using this) r2 q) fun r s' hq => ?_)
  cases r with
  | error e => exact pass0 pins σ H s e s' I hq
  | ok fl =>
    cases fl with
    | ret w =>
      obtain ⟨z, H', I', rz, b, ez, hq2⟩ := I.after hq
      subst ez
      cases rz
      exact ⟨b, rfl, .bl (!b), H', I', rfl, hq2⟩
    | next => exact False.elim hq
    | brk => exact False.elim hq
    | cont => exact False.elim hq
theorem ownTy {c : Nat} {φ : List Addr} {H : Hp} {w : W} {v : V} {r : Bool} (T : InsI X.K X.mg c C) (hv : VR X.K X.w φ H w v) (e : isOwnW c w = some r) : ∃ t, TyX X.K H v t ∧ PySem.W.notFirst X.K C t = true := by
  cases r with
  | false =>
    obtain ⟨t, h1, h2⟩ := isOwn_ok T hv e
    refine ⟨t, h1, ?_⟩
    unfold PySem.W.kitOne at h2
    split at h2
    · cases h2
    · unfold PySem.W.kitCls at h2
      dsimp only at h2
      split at h2
      · unfold PySem.W.notFirst
        rw [h2]
        simp
      · cases h2
  | true =>
    cases w with
    | ins d fs =>
      have e : (match Nat.beq d c with | true => some true | false => none : Option Bool) = some true := e
      cases z : Nat.beq d c with
      | false => rw [z] at e; cases e
      | true =>
        have := Nat.eq_of_beq_eq_true z
        subst this
        cases hv with
        | ins h1 h2 h3 h4 =>
          cases insC_eq T.tx.nc h1
          exact ⟨.ref C, .base (.ins h2 T.ic.cl T.ic.ha T.ic.hn T.ic.htk T.ic.hm), by unfold PySem.W.notFirst; simp⟩
    | dat d => cases d <;> cases e
    | _ => cases e
end
def isoF (F : Bool → Bool) (h : Hs) : T W → T W
  | .ok (.dat (.bool b)) _ => .ok (.dat (.bool (F b))) h
  | _ => .bad
theorem sat_isoF {F : Bool → Bool} {h : Hs} {P : W → Hs → Prop} {E : Xc → Hs → Prop} : ∀ {t : T W}, (isoF F h t).sat P E → t.sat (fun w _ => ∃ b, w = .dat (.bool b) ∧ P (.dat (.bool (F b))) h) FF
  | .ok w _, s => by
    unfold isoF at s
    split at s
    · rename_i e
      cases e
      exact ⟨_, rfl, s⟩
    · exact s.elim
  | .exc x _, s => s.elim
  | .draw n k, s => s.elim
  | .bad, s => s.elim
section
variable {X : Cx} {ρ : Rho} {a b : Expr} {m1 m2 : M W} {mm : List W → M W} {pos : Pos} {c k : Nat} {ps : List Str} {C : Addr}
theorem ownA_ok {F : Bool → Bool} {φ2 : List Addr} {P : W → Hs → Prop} {E : Xc → Hs → Prop} {h2 : Hs} {Ho Hk2 Hr2 : Hp} {u v : V} {x y : W} (T : InsI X.K X.mg c C) (I2 : Ok X.K X.w φ2 h2 Ho Hk2 Hr2)
    (hu : VR X.K X.w φ2 Hk2 x u) (hv : VR X.K X.w φ2 Hk2 y v) (s : ((bd (lf (gd (norefs [x, y]) ((isI c x).bind fun _ => isOwnW c y))) fun _ => fun h => normWs [x, y] fun ws => isoF F h (mm ws ⟨0, []⟩)) h2).sat P E) (Q : VK)
    (q : ∀ b Hk' H', P (.dat (.bool b)) h2 → Ok X.K X.w φ2 h2 Ho Hk' H' → Same Hk2 Hk' → Q (.bl b) H') : rOwnA X.K C (spM X.K X.w X.mg 2 mm) F u v Hr2 Q := by
  obtain ⟨g, hg, s3⟩ := sat_lf (sat_bind s)
  obtain ⟨g1, g2⟩ := gd_some hg
  obtain ⟨fx, hx, hy⟩ := bnd g2
  obtain ⟨a, dx, vs, rfl, a1, _, _⟩ := isI_ok hu hx T.tx.nc
  obtain ⟨t, ty, hn⟩ := ownTy T (hv.mono Fx.refl I2.kr) hy
  rw [normWs_eq] at s3
  refine ⟨a, dx, _, t, rfl, I2.kr _ _ a1, ty, hn, [], ⟨0, []⟩, _, Hk2, [x, y], _, FF, rfl, I2.iso, VRs.nr g1 (.cons hu (.cons hv .nil)), sat_isoF s3, fun w hs' v φ' Hk' H' hp I e hv => ?_, fun x hs' C d φ' Hk' H' hp I e ha => hp.elim⟩
  obtain ⟨b, rfl, hp⟩ := hp
  cases hv with
  | dat hv =>
    cases hv
    exact ⟨b, rfl, q _ Hk' H' hp (I2.back I e.k) e.k⟩
end
end Hx
set_option pp.maxSteps 200
noncomputable section
namespace Hx
open PySem L2 Pd Gn PySem.Spec PyProof.Rows Zq
section
end
section
end
end Hx
set_option pp.maxSteps 200
noncomputable section
namespace Hx
open PySem L2 Pd Gn PySem.Spec PyProof.Rows Zq
section
end
end Hx
set_option pp.maxSteps 200
noncomputable section
namespace Hx
open PySem L2 Pd Gn PySem.Spec PyProof.Rows Zq
section
end
end Hx
set_option pp.maxSteps 200
noncomputable section
namespace Hx
open PySem L2 Pd Gn PySem.Spec PyProof.Rows Zq PySem.W PySem.Calls
section
end
end Hx
set_option pp.maxSteps 300
noncomputable section
namespace Hx
open PySem L2 Pd Gn PySem.Spec PyProof.Rows Zq
section
end
section
end
end Hx
set_option pp.maxSteps 300
noncomputable section
namespace Hx
open PySem L2 Pd Gn PySem.Spec PyProof.Rows Zq
section
end
section
end
section
end
end Hx
set_option pp.maxSteps 300
noncomputable section
namespace Hx
open PySem L2 Pd Gn PySem.Spec PyProof.Rows Zq
section
end
section
end
section
end
end Hx
set_option pp.maxSteps 300
noncomputable section
namespace Hx
open PySem L2 Pd Gn PySem.Spec PyProof.Rows Zq
/-- a scalar and its value -/
def ScR (d : PyData) (v : V) : Prop := ∀ (K : PySem.W.Frag) (wd : World) (φ : List Addr) (H : Hp), VR K wd φ H (.dat d) v
theorem ScR.str (z : Str) : ScR (.str z) (.str z) := fun _ _ _ _ => .dat (.str _)
theorem ScR.bl (z : Bool) : ScR (.bool z) (.bl z) := fun _ _ _ _ => .dat (.bl _)
section
end
end Hx
set_option pp.maxSteps 300
noncomputable section
namespace Hx
open PySem L2 Pd Gn PySem.Spec PyProof.Rows Zq
section
end
section
end
end Hx
set_option pp.maxSteps 300
noncomputable section
namespace Sy
open PySem L2 Pd Gn PySem.Spec PyProof.Rows Zq Hx
theorem tb {α β : Type} (x : α) (h : Hs) (f : α → Hs → T β) : T.bind (.ok x h) f = f x h := rfl
theorem gdt {α : Type} (o : Option α) : gd true o = o := rfl
theorem isoT_ok {h h' : Hs} {w : W} (e : noref w = true) : isoT h (.ok w h') = .ok w h := by
  show (match noref w with | true => T.ok w h | false => T.bad : T W) = _
  rw [e]
theorem callI_eq {n : Nat} {ma : M (List W)} {mm : List W → M W} {h h' : Hs} {ws : List W} {w : W} (h1 : ma h = .ok ws h) (h2 : (Nat.beq ws.length n && norefs ws) = true) (h3 : mm ws ⟨0, []⟩ = .ok w h') (h4 : noref w = true) : callI n ma mm h = .ok w h := by
  simp only [callI, bd, h1, tb, h2, gdt, lf, normWs_eq, h3, isoT_ok h4]
theorem inR_of {lo hi i : Int} (h1 : lo ≤ i) (h2 : i ≤ hi) : Gn.inR lo hi i = true := by
  unfold Gn.inR
  rw [decide_eq_true h1, decide_eq_true h2]
  rfl
theorem bd_ok {α β : Type} {m : M α} {f : α → M β} {h h' : Hs} {a : α} (e : m h = .ok a h') : bd m f h = f a h' := by
  show (m h).bind f = _
  rw [e]
  rfl
theorem cmp_eq {F : W → W → Option Bool} {m1 m2 : M W} {h : Hs} {x y : W} {k : Bool} (h1 : m1 h = .ok x h) (h2 : m2 h = .ok y h) (e : F (view h x) (view h y) = some k) : cmpM F m1 m2 h = .ok k h := by
  unfold cmpM
  rw [bd_ok h1, bd_ok h2]
  show lf (F (view h x) (view h y)) h = _
  rw [e]
  rfl
theorem if_t {α : Type} {c : M Bool} {m1 m2 : M α} {h h' : Hs} (e : c h = .ok true h') : ifM c m1 m2 h = m1 h' := by
  unfold ifM
  rw [bd_ok e]
theorem if_f {α : Type} {c : M Bool} {m1 m2 : M α} {h h' : Hs} (e : c h = .ok false h') : ifM c m1 m2 h = m2 h' := by
  unfold ifM
  rw [bd_ok e]
theorem ret_ok {α : Type} {m : M (Res W Empty)} {h h' : Hs} {w : W} (e : m h = .ok (.ret w) h') : (retE m : M (Res W α)) h = .ok (.ret w) h' := by
  unfold retE
  rw [bd_ok e]
  rfl
theorem seq_nx {α β : Type} {m : M (Res W α)} {f : α → M (Res W β)} {h h' : Hs} {a : α} (e : m h = .ok (.nxt a) h') : seqM m f h = f a h' := by
  unfold seqM
  rw [bd_ok e]
abbrev iW (i : Int) : W := .dat (.int i)
theorem ap2 {m1 m2 : M W} {h : Hs} {x y : W} (h1 : m1 h = .ok x h) (h2 : m2 h = .ok y h) : apM m1 (apM m2 (rt [])) h = .ok [x, y] h := by
  unfold apM
  rw [bd_ok h1, bd_ok (a := [y]) (h' := h)]
  · rfl
  · rw [bd_ok h2]
    rfl
theorem ap1 {m1 : M W} {h : Hs} {x : W} (h1 : m1 h = .ok x h) : apM m1 (rt []) h = .ok [x] h := by
  unfold apM
  rw [bd_ok h1]
  rfl
theorem tv_ok {m : M W} {h : Hs} {b : Bool} (e : m h = .ok (.dat (.bool b)) h) : tvM m h = .ok b h := by
  unfold tvM
  rw [bd_ok e]
  rfl
theorem bv_ok {m : M W} {h : Hs} {b : Bool} (e : m h = .ok (.dat (.bool b)) h) : bvM m h = .ok b h := by
  unfold bvM
  rw [bd_ok e]
  rfl
theorem not_ok {m : M Bool} {h : Hs} {b : Bool} (e : m h = .ok b h) : Hx.notM m h = .ok (!b) h := by
  unfold Hx.notM
  rw [bd_ok e]
  rfl
theorem and_t {m1 m2 : M Bool} {h : Hs} {b : Bool} (e : m1 h = .ok true h) (e2 : m2 h = .ok b h) : Hx.andM m1 m2 h = .ok b h := by
  unfold Hx.andM
  rw [bd_ok e]
  exact e2
theorem bW_ok {m : M Bool} {h : Hs} {b : Bool} (e : m h = .ok b h) : bW m h = .ok (.dat (.bool b)) h := by
  unfold bW
  rw [bd_ok e]
  rfl
section
variable {α β : Type} {m m1 m2 : M W} {ma : M (List W)} {mm : List W → M W} {x y z : PyData} {i j p q p' q' a b : Int} {w : W} {ws : List W} {h' : Hs} {n : Nat}
def Ev {α : Type} (m : M α) (x : α) : Prop := ∀ h : Hs, m h = .ok x h
theorem ev_rt (x : α) : Ev (rt x) x := fun _ => rfl
theorem ev_cmp {F : W → W → Option Bool} {k : Bool} (h1 : Ev m1 (.dat x)) (h2 : Ev m2 (.dat y)) (e : F (.dat x) (.dat y) = some k) : Ev (cmpM F m1 m2) k := fun h => cmp_eq (h1 h) (h2 h) e
theorem ev_ap1 {x : W} (h1 : Ev m1 x) : Ev (apM m1 (rt [])) [x] := fun h => ap1 (h1 h)
theorem ev_ap2 {x y : W} (h1 : Ev m1 x) (h2 : Ev m2 y) : Ev (apM m1 (apM m2 (rt []))) [x, y] := fun h => ap2 (h1 h) (h2 h)
theorem ev_call (h1 : Ev ma ws) (h2 : (Nat.beq ws.length n && norefs ws) = true) (h3 : mm ws ⟨0, []⟩ = .ok w h') (h4 : noref w = true) : Ev (callI n ma mm) w := fun h => callI_eq (h1 h) h2 h3 h4
theorem ev_eqI (h1 : Ev m1 (iW i)) (h2 : Ev m2 (iW j)) : Ev (cmpM (c2 cEq) m1 m2) (decide (i = j)) := ev_cmp h1 h2 rfl
theorem ev_gtI (h1 : Ev m1 (iW i)) (h2 : Ev m2 (iW j)) : Ev (cmpM (c2 cGt) m1 m2) (decide (i > j)) := ev_cmp h1 h2 rfl
theorem ev_bW {m : M Bool} {b : Bool} (e : Ev m b) : Ev (bW m) (.dat (.bool b)) := fun h => bW_ok (e h)
theorem ev_bv {b : Bool} (e : Ev m (.dat (.bool b))) : Ev (bvM m) b := fun h => bv_ok (e h)
theorem ev_tv {b : Bool} (e : Ev m (.dat (.bool b))) : Ev (tvM m) b := fun h => tv_ok (e h)
theorem ev_not {m : M Bool} {b : Bool} (e : Ev m b) : Ev (Hx.notM m) (!b) := fun h => not_ok (e h)
theorem ev_and {m1 m2 : M Bool} {b : Bool} (e : Ev m1 true) (e2 : Ev m2 b) : Ev (Hx.andM m1 m2) b := fun h => and_t (e h) (e2 h)
theorem ev_bd {m : M α} {f : α → M β} {x : α} {y : β} (e : Ev m x) (e2 : Ev (f x) y) : Ev (bd m f) y := fun h => by
  rw [bd_ok (e h)]
  exact e2 h
theorem ev_fin {mb : M (Res W Unit)} (e : Ev mb (.ret w)) : Ev (finM mb) w := ev_bd e (ev_rt w)
theorem ev_ret (e : Ev m w) : Ev (bd m fun w => rt (.ret w) : M (Res W α)) (.ret w) := ev_bd e (ev_rt _)
theorem ev_ift {c : M Bool} {m1 m2 : M α} {x : α} (e : Ev c true) (e2 : Ev m1 x) : Ev (ifM c m1 m2) x := fun h => by rw [if_t (e h)]; exact e2 h
theorem ev_iff {c : M Bool} {m1 m2 : M α} {x : α} (e : Ev c false) (e2 : Ev m2 x) : Ev (ifM c m1 m2) x := fun h => by rw [if_f (e h)]; exact e2 h
theorem ev_retE {m : M (Res W Empty)} (e : Ev m (.ret w)) : Ev (retE m : M (Res W α)) (.ret w) := fun h => ret_ok (e h)
theorem ev_nx {m : M (Res W α)} {k : α → M (Res W β)} {x : α} {r : Res W β} (e : Ev m (.nxt x)) (e2 : Ev (k x) r) : Ev (seqM m k) r := fun h => by rw [seq_nx (e h)]; exact e2 h
theorem of_ev {m : M W} (e : Ev m w) : m ⟨0, []⟩ = .ok w ⟨0, []⟩ := e _
end
theorem ev_step {α : Type} {mb : W → α → M (Res W α)} {w : W} {a : α} {x : Res W α} (e : Ev (mb w a) x) : Ev (stepM tgN mb w a) x := ev_bd (x := w) (fun h => rfl) e
theorem ev_nil {α : Type} {st : W → α → M (Res W α)} {a : α} : Ev (forM st [] a) (.nxt a) := ev_rt _
theorem ev_cons {α : Type} {st : W → α → M (Res W α)} {w : W} {ws : List W} {a a' : α} {x : Res W α} (e : Ev (st w a) (.nxt a')) (e2 : Ev (forM st ws a') x) : Ev (forM st (w :: ws) a) x := ev_nx e e2
section
end
theorem datsOf_map : ∀ ds : List PyData, datsOf (ds.map .dat) = some ds
  | [] => rfl
  | d :: r => by
    show (match datsOf (r.map W.dat) with | some ds => some (d :: ds) | none => none) = _
    rw [datsOf_map r]
theorem mkL_dat (ds : List PyData) : mkL (ds.map .dat) = .dat (.list ds) := by
  unfold mkL
  rw [datsOf_map]
theorem mkT_dat (ds : List PyData) : mkT (ds.map .dat) = .dat (.tuple ds) := by
  unfold mkT
  rw [datsOf_map]
section
variable {β : Type} {u : W → Option β} {me : β → M W} {mi : M (List W)}
theorem ev_frz {ma : M (List W)} {ds : List PyData} (e : Ev ma (ds.map .dat)) : Ev (frzW ma) (.dat (.list ds)) := fun h => by
  unfold frzW
  rw [bd_ok (e h), mkL_dat]
  rfl
end
theorem ev_sqM {m : M W} {w : W} {ws : List W} (e : Ev m w) (h : seqW w = some ws) : Ev (sqM m) ws := fun hp => by
  unfold sqM
  rw [bd_ok (e hp), h]
  rfl
end Sy
set_option pp.maxSteps 300
noncomputable section
namespace Hx
open PySem L2 Pd Gn PySem.Spec PyProof.Rows Zq
section
end
end Hx
set_option pp.maxSteps 300
noncomputable section
namespace Sy
open PySem L2 TL Pd Gn PySem.Spec PyProof.Rows Zq Hx PySem.NumText
section
variable {m m1 m2 : M W} {a b : Str} {d : PyData} {i : Int}
theorem ev_u1 {F : PyData → Option PyData} {x : PyData} (e : Ev m (.dat x)) (h : F x = some d) : Ev (biM (u1 F) (apM m (rt []))) (.dat d) := fun hp => by
  unfold biM
  rw [bd_ok (ap1 (e hp))]
  show lf ((F x).map W.dat) hp = _
  rw [h]
  rfl
end
def mk (l : List Nat) : Str := ⟨l.toArray⟩
end Sy
set_option pp.maxSteps 300
noncomputable section
namespace Hx
open PySem L2 Pd Gn PySem.Spec PyProof.Rows Zq
section
end
section
end
section
end
section
end
end Hx
set_option pp.maxSteps 300
noncomputable section
namespace Hx
open PySem L2 Pd Gn PySem.Spec PyProof.Rows Zq
section
end
end Hx
noncomputable section
namespace L3
open PySem PySem.Spec PyProof.Rows L2
section
end
section
end
section
end
end L3
noncomputable section
namespace Hx
open PySem L2 Pd Gn PySem.Spec PyProof.Rows Zq L3
section
end
section
end
end Hx
noncomputable section
namespace Hx
open PySem L2 Pd Gn PySem.Spec PyProof.Rows Zq
section
end
end Hx
namespace Hx
open PySem L2 Pd Gn PySem.Spec PyProof.Rows Zq
section
end
end Hx
noncomputable section
namespace Hx
open PySem L2 Pd Gn PySem.Spec PyProof.Rows Zq
def numsK : List NestedKey → Option (List Int)
  | [] => some []
  | .num i :: r => (numsK r).map fun l => hashInt i :: l
  | _ => none
def hshK : NestedKey → Option Int
  | .tup ks => (numsK ks).map fun l => reduceHash (Builtin.Tuple.tupleHashOf l)
  | _ => none
theorem numsK_ok {w : World} : ∀ {ks : List NestedKey} {l : List Int}, numsK ks = some l → NestedKey.hashes w ks = l
  | [], l, h => by cases h; simp [NestedKey.hashes]
  | .num i :: r, l, h => by
    obtain ⟨l', h1, h2⟩ := mpd (show (numsK r).map (fun l => hashInt i :: l) = some l from h)
    subst h2
    simp [NestedKey.hashes, NestedKey.hash, numsK_ok h1]
  | .none :: r, l, h => by cases h
  | .text x :: r, l, h => by cases h
  | .tup ks :: r, l, h => by cases h
theorem hshK_ok {w : World} {k : NestedKey} {i : Int} (h : hshK k = some i) : k.hash w = i ∧ ∃ ks, k = .tup ks := by
  cases k with
  | tup ks =>
    obtain ⟨l, h1, h2⟩ := mpd (show (numsK ks).map (fun l => reduceHash (Builtin.Tuple.tupleHashOf l)) = some i from h)
    subst h2
    exact ⟨by simp [NestedKey.hash, numsK_ok h1], ks, rfl⟩
  | _ => cases h
def hshs : List (NestedKey × W) → Option (List Int)
  | [] => some []
  | (k, _) :: r => (hshK k).bind fun i => (hshs r).map fun l => i :: l
def notIn (i : Int) : List Int → Bool
  | [] => true
  | j :: r => match decide (i = j) with | true => false | false => notIn i r
def distI : List Int → Bool
  | [] => true
  | i :: r => match notIn i r with | true => distI r | false => false
theorem notIn_ok {i : Int} : ∀ {l : List Int}, notIn i l = true → i ∉ l
  | [], _ => by simp
  | j :: r, h => by
    have h : (match decide (i = j) with | true => false | false => notIn i r) = true := h
    cases c : decide (i = j) with
    | true => rw [c] at h; cases h
    | false =>
      rw [c] at h
      have := notIn_ok h
      simp only [List.mem_cons, not_or]
      exact ⟨of_decide_eq_false c, this⟩
theorem distI_ok : ∀ {l : List Int}, distI l = true → l.Nodup
  | [], _ => by simp
  | i :: r, h => by
    have h : (match notIn i r with | true => distI r | false => false) = true := h
    cases c : notIn i r with
    | false => rw [c] at h; cases h
    | true =>
      rw [c] at h
      exact List.nodup_cons.mpr ⟨notIn_ok c, distI_ok h⟩
theorem hshs_ok {w : World} : ∀ {kvs : List (NestedKey × W)} {l : List Int}, hshs kvs = some l → (kvs.map fun e => e.1.hash w) = l ∧ ∀ e ∈ kvs, ∃ ks, e.1 = .tup ks
  | [], l, h => by cases h; exact ⟨rfl, fun e h => by cases h⟩
  | (k, v) :: r, l, h => by
    obtain ⟨i, h1, h2⟩ := bnd (show ((hshK k).bind fun i => (hshs r).map fun l => i :: l) = some l from h)
    obtain ⟨l', h3, h4⟩ := mpd h2
    subst h4
    obtain ⟨e1, e2⟩ := hshK_ok (w := w) h1
    obtain ⟨e3, e4⟩ := hshs_ok (w := w) h3
    refine ⟨by rw [List.map_cons, e3]; exact congrArg (· :: l') e1, fun e he => ?_⟩
    rcases List.mem_cons.mp he with rfl | he
    · exact e2
    · exact e4 e he
section
variable {prog : Program} {w : World} {K : Type} [DecidableEq K] {knd : HeapKind prog w K} {A : Around} {E : Value → Shared → Prop} {s : Shared}
theorem call_dict_heap {o : Addr} {more : List (K × Addr × Value)} {Q : Value → Shared → Prop} (hu : knd.room A.in1.in1) (hoS : (o == sysModules) = false) (ho : s.heap.DictOfH knd o more) (hsz : more.length ≤ sizeLine) (hty : ∀ x ∈ more, s.TypeIs (.ref x.2.1) "tuple") (hap : (more.map fun x => knd.hash x.1).Nodup)
    (hst : ∀ h' : Heap, (∀ b o, s.heap.get? b = some o → h'.get? b = some o) → ∀ x ∈ more, knd.is h' x.1 x.2.1)
    (h : ∀ h', h'.DictOfH knd s.heap.objs.size more → (∀ b o, s.heap.get? b = some o → h'.get? b = some o) → Q (.ref s.heap.objs.size) { s with heap := h' }) : wpAny (model prog w) A (call (.type "dict") [.ref o]) Q E s := by
  have lo : o < s.heap.objs.size := by
    obtain ⟨_, _, _, hg, _⟩ := ho
    exact Heap.lt_size hg
  refine callType_codes (Q₁ := fun z t => z = .ref s.heap.objs.size ∧ t = { s with heap := s.heap.push { cls := .type "dict", data := .dict #[] } }) F.kt_called_dict (F.kt_typeCall_dict_1 _) F.entry_dict_init (kt_code_dict_new _ ⟨rfl, rfl⟩) ?_
  rintro z t ⟨rfl, rfl⟩
  have kp : ∀ b o, s.heap.get? b = some o → (s.heap.push { cls := .type "dict", data := .dict #[] }).get? b = some o := fun b o e => Heap.get?_push_of_some _ e
  have n1 : (s.heap.push { cls := .type "dict", data := .dict #[] }).DictOfH knd s.heap.objs.size [] := Heap.DictOfH.new s.heap
  have n2 : (s.heap.push { cls := .type "dict", data := .dict #[] }).DictOfH knd o more := ho.at' (fun o e => kp _ o e) (hst _ kp)
  have nd : s.heap.objs.size ≠ o := fun e => absurd lo (by rw [e]; exact Nat.lt_irrefl _)
  refine ⟨n1.typeIs, F.args_dict_init_2 _ _, ?_⟩
  unfold Builtin.«dict.__init__»
  refine wpAny_bind ?_
  unfold Builtin.Dict.selfAndRest
  refine wpAny_bind (wpAny_notOrdered_dict n1.typeIs ?_)
  show wpAny _ _ (pure (s.heap.objs.size, [Value.ref o])) _ _ _
  refine wpAny_pure ?_
  show wpAny _ _ (Builtin.Dict.updateFrom "dict.__init__" s.heap.objs.size (.ref o) [] .none) _ _ _
  refine updateFrom_dictH .none hu nd hoS n1 n2 (.inr ⟨fun x hx => ?_, hap⟩) (by simpa using hsz) fun h' d1 d2 sb => ?_
  · obtain ⟨ob, q1, q2⟩ := hty x hx
    exact ⟨ob, kp _ _ q1, q2⟩
  · rw [storedAllH_nil_of_nodup] at d1
    · refine ⟨rfl, h h' d1 fun b ob e => ?_⟩
      rw [sb.2 _ (Nat.ne_of_lt (Heap.lt_size e))]
      exact kp b ob e
    · obtain ⟨_, _, _, _, _, _, _, _, hn⟩ := ho
      exact hn
end
theorem ex_keys {K : PySem.W.Frag} {wd : World} {φ : List Addr} {H : Hp} : ∀ {kvs : List (NestedKey × W)} {es : List (NestedKey × Addr × V)} {xs : List (NestedKey × Addr × Value)}, EX es xs → DRs K wd φ H kvs es → xs.map (fun x => x.1) = kvs.map (fun x => x.1)
  | _, _, _, .nil, .nil => rfl
  | _, _, _, .cons r1 r2, .cons h1 h2 h3 h4 => by
    obtain ⟨q1, q2, q3⟩ := r1
    rw [List.map_cons, List.map_cons, ex_keys r2 h4, ← q1]
theorem roomD2 {A : Around} {k : Nat} (hr : Room k A) : A.in1.in1.units + 8 < cLine := by
  have := hr.un
  show A.units + 1 + 1 + 8 < cLine
  omega
def copD (kvs : List (NestedKey × W)) : Option (List (NestedKey × W)) := (hshs kvs).bind fun l => gd (distI l) (some kvs)
def rCopD (X : Cx) : List V → Hp → VK → Prop := fun xs H Q => ∃ (p : Addr) (es : List (NestedKey × Addr × V)) (kvs : List (NestedKey × W)) (φ : List Addr), xs = [.ref p] ∧ Rd H p (DicO X.w p es) ∧ DRs X.K X.w φ H kvs es ∧ copD kvs = some kvs ∧ ∀ q, H q = none → Q (.ref q) (upd H q (DicO X.w q es))
theorem cr_copD {X : Cx} (hr : X.A.in1.in1.units + 8 < cLine) : CallR X (.type "dict") (rCopD X) := by
  intro pins s σ H xs us Q I r h
  obtain ⟨p, es, kvs, φ, e, hk, D, hc, q⟩ := h
  subst e
  obtain rfl := Vals.ref1 r
  obtain ⟨z1, z2, xs, ex, dd⟩ := dic_rd I hk D
  have lx : xs.length = es.length := (Paired.length ex).symm
  obtain ⟨l, h1, h2⟩ := bnd hc
  obtain ⟨h3, _⟩ := gd_some h2
  obtain ⟨h4, h5⟩ := hshs_ok (w := X.w) h1
  have ek : xs.map (fun x => x.1) = kvs.map (fun x => x.1) := ex_keys ex D
  have I2 : ∀ h' : Heap, (∀ b o, s.heap.get? b = some o → h'.get? b = some o) → Inv X pins σ H { s with heap := h' } := fun h' kp => I.kept (t' := s.toks) kp
  refine call_dict_heap (knd := nestedKind X.prog X.w) hr z2 dd (by rw [lx]; exact z1) (fun x hx => ?_) ?_ (fun h' kp x hx => ex_is (I2 h' kp) D ex x hx) fun h' d1 kp => ?_
  · exact nestedKind_stays.tuple (ex_is I D ex x hx)
  · have : (xs.map fun x => x.1.hash X.w) = l := by
      rw [← h4]
      have := congrArg (List.map (fun k : NestedKey => k.hash X.w)) ek
      rw [List.map_map, List.map_map] at this
      exact this
    show (xs.map fun x => x.1.hash X.w).Nodup
    rw [this]
    exact distI_ok h3
  · have I3 := I2 h' kp
    have big := I.big
    exact ⟨.ref s.heap.objs.size, upd H s.heap.objs.size (DicO X.w s.heap.objs.size es), I.laid kp (Nat.le_refl _) (dicO_ok (xs := xs) z1 (beq_eq_false_iff_ne.mpr (Ne.symm (Nat.ne_of_lt I.big))) ex d1), rfl, q _ (I.hok.fresh (Nat.le_refl _))⟩
def cpDM (m : M W) : M W := bd m fun w => fun h => match (isD h w).bind copD with
  | some kvs => T.ok (.ref h.nx) (h.new (.dic kvs))
  | none => T.bad
theorem copD_eq {kvs kvs' : List (NestedKey × W)} (h : copD kvs = some kvs') : kvs' = kvs := by
  obtain ⟨l, h1, h2⟩ := bnd h
  obtain ⟨h3, h4⟩ := gd_some h2
  cases h4
  rfl
theorem em_cpD {X : Cx} {ρ : Rho} {e : Expr} {m : M W} {p0 pos : Pos} (hr : X.A.in1.in1.units + 8 < cLine) (hm : X.mg "dict" = none) (ha : EM X e ρ m) (hg : Gl X "dict" := by rfl) (he : starEach [e] X.env = [(false, eval e X.env)] := by rfl) (hpl : (backTo pos (starEach ([] : List Expr) X.env)).any (·.1) = false := by rfl) : EM X (.Call (.Name "dict" p0) [e] [] pos) ρ (cpDM m) := fun p s Q q => by
  refine sE_of (pe_callTy (cr_copD hr) hg hm (by decide +kernel) pa_s (by decide) (by decide) he hpl) (am_one ha he p (sat_bind s) _ fun w h1 v φ1 Hk1 Hr1 s1 p1 e1 hv => ?_)
  cases zz : (isD h1 w).bind copD with
  | none =>
    rw [zz] at s1
    exact s1.elim
  | some kvs =>
    rw [zz] at s1
    obtain ⟨kvs', hk, hc⟩ := bnd zz
    have := copD_eq hc
    subst this
    obtain ⟨ad, es, rfl, g1, g2⟩ := isD_ok p1.I hv hk
    refine ⟨ad, es, kvs, φ1, rfl, g1, DRs.mono Fx.refl p1.I.kr g2, hc, fun l hl => ?_⟩
    have e3 : Ex φ1 Hk1 (φ1 ++ [l]) Hk1 := ⟨Fx.app, Same.refl _⟩
    exact q (.ref h1.nx) _ _ _ _ _ s1 (p1.go (p1.I.new (o := .dic kvs) hl (new_same hl _) ⟨es, upd_same, DRs.mono Fx.app (Same.refl _) g2⟩) e3) (e1.trans e3) (.ref (by rw [← p1.I.len]; simp))
end Hx
noncomputable section
namespace Hx
open PySem L2 Pd Gn PySem.Spec PyProof.Rows Zq
def dget0M (mo me : M W) : M W := bd mo fun x => bd (fun h => lf (isD h x) h) fun _ => bd me fun y => fun h => lf ((isD h x).bind fun kvs => (tkey y).map fun k => (dLook k kvs).getD (.dat .none)) h
section
variable {X : Cx} {ρ : Rho} {o e : Expr} {pos apos cpos : Pos} {n : Nat}
theorem em_dget0 {mo me : M W} (hr : Room n X.A) (ho : EM X o ρ mo) (he : EM X e ρ me) (md : M1 X o "get" apos e cpos := by exact ⟨rfl, rfl, rfl, rfl⟩) : EM X (.Call (.Attribute o "get" apos) [e] [] cpos) ρ (dget0M mo me) := fun p s Q q => by
  refine sE_of (pe_dm1 PySem.F.slot_dict_get PySem.F.type_dict_get pe_s pe_s md) (ho p (sat_bind s) _ fun x h1 xv φ1 Hk1 Hr1 s1 p1 e1 hx => ?_)
  obtain ⟨kv0, hk0, s1⟩ := sat_lf (sat_bind s1)
  obtain ⟨ad0, es0, rfl, g0, _⟩ := isD_ok p1.I hx hk0
  refine ⟨⟨ad0, es0, rfl, g0⟩, he p1 (sat_bind s1) _ fun y h2 yv φ2 Hk2 Hr2 s2 p2 e2 hy => ?_⟩
  obtain ⟨w, hw, s4⟩ := sat_lf s2
  obtain ⟨kvs, h4, hw⟩ := bnd hw
  obtain ⟨k, h5, hw⟩ := mpd hw
  subst hw
  obtain ⟨ad, es, ea, g1, g2⟩ := isD_ok p2.I (hx.ex e2) h4
  cases ea
  obtain ⟨bb, rfl, g3, g4⟩ := tkey_ok h5 hy
  intro pins st τ us I' rv
  cases rv with
  | @cons _ u1 _ _ r1 rv =>
    cases rv with
    | @cons _ u2 _ _ r2 rv =>
      cases rv
      have r1 : u1 = .ref ad0 := r1
      subst r1
      have r2 : u2 = .ref bb := r2
      subst r2
      obtain ⟨z1, z2, xs, ex, dd⟩ := dic_rd I' g1 (DRs.mono Fx.refl p2.I.kr g2)
      refine call_meetsIn PySem.F.slot_dict_get dd.typeIs PySem.F.entry_dict_get (PySem.F.args_dict_get_2 _ _) (meetsH_dict_get (knd := nestedKind X.prog X.w) (d := ad0) (a := bb) z2) ⟨roomD hr, k, xs, key_is I' (Dp.mono p2.I.kr _ g3) g4, dd, ?_⟩
      cases zz : dLook k kvs with
      | some w =>
        rw [zz] at s4
        obtain ⟨pp, v', hp, rv', hvr⟩ := look_some g2 ex zz
        rw [hp]
        exact ⟨v', Hr2, I'.tok _, rv', q _ _ _ _ _ _ s4 p2 (e1.trans e2) hvr⟩
      | none =>
        rw [zz] at s4
        rw [look_none g2 ex zz]
        exact ⟨.non, Hr2, I'.tok _, rfl, q _ _ _ _ _ _ s4 p2 (e1.trans e2) (.dat .non)⟩
end
section
variable {prog : Program} {w : World} {A : Around} {E : Value → Shared → Prop} {s : Shared} {K : PySem.W.Frag} {y C f : Addr} {oy : Obj} {od : Option Obj}
theorem rc_noneNe {Q : Value → Shared → Prop} (hu : A.units + 1 < cLine) (X : K.In s.heap) (I : PySem.W.InstAt s.heap y oy C od) (hk : PySem.W.subIn K (.ref C) (.type "NoneType") = some false) (hm : PySem.W.mroIn K C (.type "object") = some true)
    (hn : PySem.W.findIn K (.ref C) "__ne__" = some (some (.builtin "object.__ne__"))) (hs : PySem.W.findIn K (.ref C) "__eq__" = some (some (.ref f))) (hf : PySem.W.isFn K (.ref f) = true)
    (h : wpAny (model prog w) A.in1 (call (.ref f) [.ref y, .none]) (fun v s' => ∃ b, v = .bool b ∧ Q (.bool (!b)) s') E s) : wpAny (model prog w) A (richCompare .NotEq .none (.ref y)) Q E s := by
  have one : wpAny (model prog w) A (tryCompare (.ref y) "__ne__" .none) (fun r s' => ∃ v, r = some v ∧ Q v s') E s := by
    unfold tryCompare
    refine wpAny_bind (bound_ne X I hn (wpAny_call (codeAny_call_builtin F.cmp_object.ne.plain F.cmpEntry_ne (PySem.W.check_slot F.cmpKind_ne F.cmpSplit_ne (I.type.andThen (PySem.W.looks_mroIn X hm)) (F.cmpArgs_ne _ _)
      (ent_ne (A := A.in1) hu X I hs hf (wpAny_mono h (fun v s' hv => ?_) fun _ _ e => e))))))
    obtain ⟨b, rfl, hq⟩ := hv
    first | exact ⟨b, rfl, wpAny_pure ⟨_, rfl, hq⟩⟩ | exact ⟨b, rfl, wpAny_pure (wpAny_pure ⟨_, rfl, hq⟩)⟩ | exact ⟨b, rfl, ⟨_, rfl, hq⟩⟩
  have two : wpAny (model prog w) A (tryCompare .none "__ne__" (.ref y)) (fun r s' => r = none ∧ s' = s) E s :=
    wpAny_tryCompare_declines (show s.TypeIs .none "NoneType" from rfl) F.slot_NoneType_ne (call_gives F.slot_NoneType_ne rfl F.entry_NoneType_ne (F.args_NoneType_ne_2 _ _) (PySem.SeqAt.NoneType___ne___none_ref_0 y) ⟨rfl, rfl, rfl⟩)
  unfold richCompare
  refine wpAny_holding (wpAny_bind (wpAny_cRoomFor (Nat.lt_of_succ_lt hu) ?_))
  rw [show oneThing? .NotEq .none (.ref y) = none from rfl, cmpInfo_NotEq]
  dsimp only
  refine wpAny_bind (wpAny_typeOf (T := "NoneType") rfl (wpAny_bind (I.type.here ?_)))
  rw [show (Value.type "NoneType" != Value.ref C) = true from rfl]
  simp only [if_true]
  refine wpAny_bind ((PySem.W.looks_subIn X hk).here ?_)
  simp only [Bool.false_eq_true, if_false, Bool.not_false, if_true]
  refine wpAny_bind (wpAny_mono two (fun r s' z => ?_) fun _ _ e => e)
  obtain ⟨rfl, rfl⟩ := z
  refine wpAny_bind (wpAny_mono one (fun r s' z => ?_) fun _ _ e => e)
  obtain ⟨v, rfl, hq⟩ := z
  exact wpAny_pure hq
end
structure InsU (K : PySem.W.Frag) (c : Nat) : Prop where
  un : ∀ C, insC K c C → PySem.W.subIn K (.ref C) (.type "NoneType") = some false
def rOwnN (C : Addr) (sp : Sp) (F : Bool → Bool) : R2 := fun x y H Q => ∃ a dx fs, x = .non ∧ y = .ref a ∧ H a = some (.ins C dx fs) ∧ sp [.ref a, .non] H (fun v H' => ∃ b, v = .bl b ∧ Q (.bl (F b)) H') (fun _ _ _ => False)
section
variable {X : Cx} {k : Nat} {f C : Addr} {fd : FuncData} {ps : List Str} {sp : Sp}
theorem op_neX (F : FnOk X.prog X.w X.K X.mg X.base (L2.CX X.prog X.w) k f fd ps sp) (hr : Room (k + 1) X.A) (hu : X.A.units + 1 < cLine) (hb : Binds X.K fd ps []) (M : Meth X.K C "__eq__" f)
    (hk : PySem.W.subIn X.K (.ref C) (.type "NoneType") = some false) (hm : PySem.W.mroIn X.K C (.type "object") = some true) (hne : PySem.W.findIn X.K (.ref C) "__ne__" = some (some (.builtin "object.__ne__"))) : OpR X (compareOp .NotEq) (fun x y H Q => rOwnA X.K C sp not x y H Q ∨ rOwnN C sp not x y H Q) := by
  intro pins s σ H x y v u Q I rx ry h
  rcases h with h | h
  · exact op_neA F hr hu hb M hm hne pins s σ H x y v u Q I rx ry h
  obtain ⟨a, dx, fs, rfl, rfl, ha, q⟩ := h
  cases rx
  cases ry
  obtain ⟨mA, J, _⟩ := ins_get I.hok ha
  obtain ⟨od, J, _⟩ := J.look
  show wpAny (model X.prog X.w) X.A (richCompare .NotEq .none (.ref a)) (EP X pins σ Q) X.xe s
  refine rc_noneNe hu I.kIn J hk hm hne M.at_ M.fn ?_
  have e0 : Env0 X.prog X.w X.K X.mg X.base X.A.in1 X.stack s H := by
    have e := I.env0
    exact ⟨e.frames, e.mod, e.bs, e.bsz, e.funs, e.frf, e.hok, e.bare⟩
  have hl := F.len _ _ _ _ q
  have r2 : Vals [V.ref a, V.non] [Value.ref a, Value.none] := .cons rfl (.cons rfl .nil)
  refine wpAny_call (codeAny_mono (F.run X.A.in1 X.stack s H ⟨[.ref a, .none], []⟩ [.ref a, .none] [.ref a, .non] _ _ hr.in1 e0 (by
    have := hb s [.ref a, .none] I.kIn (by simpa using hl)
    simpa using this) r2 q) fun r s' hq => ?_)
  cases r with
  | error e => exact pass0 pins σ H s e s' I hq
  | ok fl =>
    cases fl with
    | ret w =>
      obtain ⟨z, H', I', rz, b, ez, hq2⟩ := I.after hq
      subst ez
      cases rz
      exact ⟨b, rfl, .bl (!b), H', I', rfl, hq2⟩
    | next => exact False.elim hq
    | brk => exact False.elim hq
    | cont => exact False.elim hq
end
def ownX (c : Nat) (mm : List W → M W) (x y : W) : M W := match x with
  | .dat .none => bd (lf (gd (norefs [y, x]) ((isI c y).map fun _ => ()))) fun _ => fun h => normWs [y, x] fun ws => isoF not h (mm ws ⟨0, []⟩)
  | _ => bd (lf (gd (norefs [x, y]) ((isI c x).bind fun _ => isOwnW c y))) fun _ => fun h => normWs [x, y] fun ws => isoF not h (mm ws ⟨0, []⟩)
def neXM (c : Nat) (mm : List W → M W) (m1 m2 : M W) : M W := bd m1 fun x => bd m2 fun y => ownX c mm x y
section
variable {X : Cx} {ρ : Rho} {a b : Expr} {m1 m2 : M W} {mm : List W → M W} {pos : Pos} {c k : Nat} {ps : List Str} {C : Addr}
theorem ownX_ok {φ2 : List Addr} {P : W → Hs → Prop} {E : Xc → Hs → Prop} {h2 : Hs} {Ho Hk2 Hr2 : Hp} {u v : V} {x y : W} (T : InsI X.K X.mg c C) (I2 : Ok X.K X.w φ2 h2 Ho Hk2 Hr2)
    (hu : VR X.K X.w φ2 Hk2 x u) (hv : VR X.K X.w φ2 Hk2 y v) (s : (ownX c mm x y h2).sat P E) (Q : VK)
    (q : ∀ b Hk' H', P (.dat (.bool b)) h2 → Ok X.K X.w φ2 h2 Ho Hk' H' → Same Hk2 Hk' → Q (.bl b) H') : rOwnA X.K C (spM X.K X.w X.mg 2 mm) not u v Hr2 Q ∨ rOwnN C (spM X.K X.w X.mg 2 mm) not u v Hr2 Q := by
  unfold ownX at s
  split at s
  · obtain ⟨g, hg, s3⟩ := sat_lf (sat_bind s)
    obtain ⟨g1, g2⟩ := gd_some hg
    obtain ⟨fx, hx, _⟩ := mpd g2
    obtain ⟨a, dx, vs, rfl, a1, _, _⟩ := isI_ok hv hx T.tx.nc
    have eu : u = .non := by
      cases hu with
      | dat h => cases h; rfl
    subst eu
    rw [normWs_eq] at s3
    refine .inr ⟨a, dx, _, rfl, rfl, I2.kr _ _ a1, [], ⟨0, []⟩, _, Hk2, [y, .dat .none], _, FF, rfl, I2.iso, VRs.nr g1 (.cons hv (.cons hu .nil)), sat_isoF s3, fun w hs' v φ' Hk' H' hp I e hv => ?_, fun x hs' C d φ' Hk' H' hp I e ha => hp.elim⟩
    obtain ⟨b, rfl, hp⟩ := hp
    cases hv with
    | dat hv =>
      cases hv
      exact ⟨b, rfl, q _ Hk' H' hp (I2.back I e.k) e.k⟩
  · exact .inl (ownA_ok T I2 hu hv s Q q)
theorem tm_neX (cl : CalO X.prog X.w X.K X.mg X.base k c "__eq__" ps 2 mm) (T : InsI X.K X.mg c C) (N : InsN X.K c) (U : InsU X.K c) (hr : Room (k + 1) X.A) (ha : EM X a ρ m1) (hb : EM X b ρ m2) (hm : behindInMarks .NotEq b = false := by rfl) : TM X (.Compare a [.NotEq] [b] pos) ρ (bvM (neXM c mm m1 m2)) := fun p s Q q => by
  obtain ⟨C', f, fd, TT, F, M, bb⟩ := cl.ex
  cases insC_eq T.tx.nc TT.nc
  refine sT_of (pt_cmpR (op_neX F hr (by have := hr.un; omega) bb M (U.un _ T.tx.nc) (N.mr _ T.tx.nc) (N.ne _ T.tx.nc)) pe_s pe_s hm) (ha p (sat_bind (sat_bind s)) _ fun x h1 u φ1 Hk1 Hr1 s1 p1 e1 hu => hb p1 (sat_bind s1) _ fun y h2 v φ2 Hk2 Hr2 s2 p2 e2 hv => ?_)
  refine ownX_ok T p2.I (hu.ex e2) hv s2 _ fun b Hk' H' hp I ek => ?_
  have ee : Ex φ2 Hk2 φ2 Hk' := ⟨Fx.refl, ek⟩
  exact ⟨b, rfl, q _ _ _ _ _ hp (p2.go I ee) ((e1.trans e2).trans ee)⟩
end
end Hx
set_option maxHeartbeats 1000000
set_option pp.maxSteps 300
noncomputable section
namespace KG
open PySem L2 Pd Gn PySem.Spec PyProof.Rows Zq Hx Sy
abbrev iL (c : List Nat) : List W := c.map fun x : Nat => iW (x : Nat)
theorem at_nat {ws : List W} {i : Nat} {w : W} (g : ws[i]? = some w) : atI ws ((i : Nat) : Int) = some w := by
  have hi : i < ws.length := (List.getElem?_eq_some_iff.mp g).1
  have z : ixN ws.length ((i : Nat) : Int) = some i := by
    unfold ixN
    simp [hi]
  unfold atI
  rw [z]
  exact g
theorem isL_ref {h : Hs} {r : Nat} {ws : List W} (g : h.get r = some (.lst ws)) : isL (.ref r) h = .ok (r, ws) h := by
  show (match h.get r with | some (.lst ws) => T.ok (r, ws) h | _ => T.bad) = _
  rw [g]
theorem app_ref {h h1 : Hs} {m1 m2 : M W} {r : Nat} {ws ws1 : List W} {w : W} (e1 : m1 h = .ok (.ref r) h) (g : h.get r = some (.lst ws)) (e2 : m2 h = .ok w h1) (g1 : h1.get r = some (.lst ws1)) (hl : ws1.length < 1000) : appM m1 m2 h = .ok (.dat .none) (h1.put r (.lst (ws1 ++ [w]))) := by
  unfold appM
  rw [bd_ok e1, bd_ok (isL_ref g), bd_ok e2, bd_ok (isL_ref g1)]
  rw [bd_ok (show lf (gd (shortS ws1.length) (some ())) h1 = .ok () h1 by
    rw [show shortS ws1.length = true from Nat.blt_eq.mpr (by omega)]
    rfl)]
  rfl
theorem rtok {α : Type} {a : α} {h : Hs} : rt a h = .ok a h := rfl
def bsG (row : List Nat) (x : Nat) : Nat → Nat → Nat → Nat
  | 0, _, lo => lo
  | f + 1, hi, lo => match Nat.blt lo hi with
    | true => match Nat.blt x (row.getD ((lo + hi) / 2) 0) with
      | true => bsG row x f ((lo + hi) / 2) lo
      | false => bsG row x f hi ((lo + hi) / 2 + 1)
    | false => lo
def bs (row : List Nat) (x : Nat) : Nat := bsG row x 100 row.length 0
abbrev RW := List (List Nat)
abbrev iD (x : Nat) : PyData := .int (x : Int)
def H0 : Hs := ⟨2, [(1, .lst []), (0, .lst [])]⟩
def tN (xs : List Nat) : W := .dat (.tuple (xs.map iD))
variable {h : Hs} {n : Nat} {P Q : RW} {C : List (Nat × Nat)}
variable {h : Hs} {n : Nat} {P Q : RW} {C : List (Nat × Nat)}
theorem mkL_iL (c : List Nat) : mkL (iL c) = .dat (.list (c.map iD)) := by
  have := mkL_dat (c.map iD)
  rw [List.map_map] at this
  exact this
variable {h : Hs} {n : Nat} {P Q : RW} {C : List (Nat × Nat)}
theorem beq_no {a b : Nat} (h : ¬ a = b) : Nat.beq a b = false := by
  cases z : Nat.beq a b with
  | false => rfl
  | true => exact absurd (Nat.eq_of_beq_eq_true z) h
theorem rg_nat {m : M W} {n : Nat} {h : Hs} (e : m h = .ok (iW (n : Nat)) h) (hn : n ≤ 1000) : rg1 m h = .ok ((List.range n).map fun j : Nat => iW (j : Nat)) h := by
  unfold rg1
  rw [bd_ok e]
  show lf (gd (small ((n : Nat) : Int)) (some ((rngD 0 ((n : Nat) : Int).toNat).map W.dat))) h = _
  rw [show small ((n : Nat) : Int) = true from inR_of (by omega) (by omega), Int.toNat_natCast]
  show T.ok ((rngD 0 n).map W.dat) h = _
  unfold rngD
  rw [List.map_map]
  congr 1
  refine List.map_congr_left fun j _ => ?_
  show W.dat (.int ((0 : Int) + (j : Nat))) = _
  rw [Int.zero_add]
theorem ix_tup {w : List Nat} {m : M W} {h : Hs} {i : Nat} (e : m h = .ok (iW (i : Nat)) h) (hi : i < w.length) : ixM (rt (tN w)) m h = .ok (iW (w.getD i 0 : Nat)) h := by
  unfold ixM
  rw [bd_ok (show rt (tN w) h = .ok (tN w) h from rfl), bd_ok e]
  show lf (atI ((w.map iD).map W.dat) ((i : Nat) : Int)) h = _
  rw [at_nat (w := iW (w.getD i 0 : Nat)) (by
    rw [List.getElem?_map, List.getElem?_map, List.getElem?_eq_getElem hi, List.getD_eq_getElem?_getD, List.getElem?_eq_getElem hi]
    rfl)]
  rfl
section
variable {β γ : Type} {u : W → Option β} {me : β → M W} {mi : M (List W)} {g f : γ → W}
theorem lcM_g : ∀ xs : List γ, (∀ x ∈ xs, ∃ b, u (g x) = some b ∧ Ev (me b) (f x)) → Ev (lcM u (fun _ => rt true) me (xs.map g)) (xs.map f)
  | [], _ => ev_rt _
  | x :: xs, h => by
    obtain ⟨b, h1, h2⟩ := h x (by simp)
    have e : Ev (lf (u (g x))) b := fun h => by rw [h1]; rfl
    exact ev_bd e (ev_bd (ev_rt true) (ev_bd h2 (ev_bd (lcM_g xs fun z hz => h z (List.mem_cons_of_mem _ hz)) (ev_rt _))))
theorem ev_lcg {xs : List γ} (hi : Ev mi (xs.map g)) (hs : short xs.length = true) (h : ∀ x ∈ xs, ∃ b, u (g x) = some b ∧ Ev (me b) (f x)) : Ev (lc1 u (fun _ => rt true) me mi) (xs.map f) := fun hp => by
  unfold lc1
  rw [bd_ok (hi hp), bd_ok (show lf (gd (short (xs.map g).length) (some ())) hp = .ok () hp by rw [List.length_map, hs]; rfl)]
  show nox (lcM u (fun _ => rt true) me (xs.map g)) hp = _
  have e := lcM_g xs h hp
  unfold nox
  rw [e]
  rfl
end
theorem sh {n : Nat} (h : n ≤ 100) : short n = true := by
  unfold short
  exact Nat.ble_eq_true_of_le (by omega)
theorem boolsOf_map : ∀ bs : List Bool, boolsOf (bs.map PyData.bool) = some bs
  | [] => rfl
  | b :: r => by
    show (boolsOf (r.map PyData.bool)).map (b :: ·) = _
    rw [boolsOf_map r]
    rfl
theorem all_eq (bs : List Bool) : dAll (.list (bs.map PyData.bool)) = some (.bool (bs.all id)) := by
  show ((boolsOf (bs.map PyData.bool)).map fun ns => ns.all id).map PyData.bool = _
  rw [boolsOf_map]
  rfl
theorem ev_all {β γ : Type} {u : W → Option β} {me : β → M W} {mi : M (List W)} {g : γ → W} {b : γ → Bool} {xs : List γ} (hi : Ev mi (xs.map g)) (hs : short xs.length = true) (h : ∀ x ∈ xs, ∃ y, u (g x) = some y ∧ Ev (me y) (.dat (.bool (b x)))) :
    Ev (biM (u1 dAll) (apM (frzW (lc1 u (fun _ => rt true) me mi)) (rt []))) (.dat (.bool (xs.all b))) := by
  have e := ev_lcg (f := fun x => W.dat (.bool (b x))) hi hs h
  have e2 : Ev (frzW (lc1 u (fun _ => rt true) me mi)) (.dat (.list ((xs.map b).map PyData.bool))) := ev_frz (by
    rw [List.map_map, List.map_map]
    exact e)
  have e3 := ev_u1 e2 (all_eq _)
  rw [List.all_map] at e3
  exact e3
def bl (x k : Nat) : Nat := match Nat.beq x k with | true => 1 | false => 0
def S (f : Nat × Nat → Nat) (cs : List (Nat × Nat)) : Nat := (cs.map f).sum
abbrev p2 (h w : Nat) : W × W × Unit := (iW (h : Nat), iW (w : Nat), ())
section
end
abbrev hS : Hs := ⟨1, [(0, .st)]⟩
theorem nox_sat {α : Type} {P : α → Hs → Prop} : ∀ {t : T α}, t.sat P FF → (nox.go t).sat P FF
  | .ok a h, s => s
  | .exc _ _, s => s.elim
  | .draw n k, s => fun v hv => nox_sat (t := k v) (s v hv)
  | .bad, s => s.elim
def pE (r : Res W Unit) (_ : Hs) : Prop := r = .ret (.dat (.bool true))
theorem fin_sat {t : Hx.T (Res W Unit)} (e : t.sat pE FF) : t.sat (fun r h' => ((match r with | .ret w => rt w | .nxt _ => rt (.dat .none) : M W) h').sat (fun w _ => w = .dat (.bool true)) FF) FF :=
  sat_mono (fun r h hr => by
    have hr : r = .ret (.dat (.bool true)) := hr
    subst hr
    exact (show W.dat (.bool true) = .dat (.bool true) from rfl)) (fun _ _ x => x) e
end KG
noncomputable section
namespace K10
open PySem L2 Pd Gn PySem.Spec PyProof.Rows
def top (i : Nat) : Stmt := PySem.Challenge.pw_fivebases_k10_symmetry_of_polynomials.main.body.getD i (.Pass ⟨0, 0, 0, 0⟩)
abbrev sState : Stmt := top 41
abbrev sTake : Stmt := top 42
theorem scState : FnScope ["script", "seed", "total_v", "cell"] ["script"] (defScope sState) := ⟨rfl, rfl, rfl, by decide +kernel, rfl, by decide +kernel, by decide +kernel⟩
theorem scTake : FnScope ["state", "m", "value"] ["state", "m"] (defScope sTake) := ⟨rfl, rfl, rfl, by decide +kernel, rfl, by decide +kernel, by decide +kernel⟩
/-- the built-in names that the top leaves as they are -/
structure Mg (mg : Str → Option Value) : Prop where
  len : mg "len" = none
  int : mg "int" = none
  abs : mg "abs" = none
  min : mg "min" = none
  range : mg "range" = none
def stepS (p : Int × Int) (x : Int) : Int × Int := (p.1 * 1000003 + (if x < 0 then -x else x), (p.2 * 48271 + x) % 2147483647)
def stateOf (ns : List Int) : Int × Int := (ns.take 63).foldl stepS (0, 1)
def phState : List PyData → List Int → Prop := fun ds ms => ∃ ns : List Int, ds = [.list (ns.map .int)] ∧ ms = [(stateOf ns).1, (stateOf ns).2]
theorem cut63 (ns : List Int) : Pd.cutD (ns.map PyData.int) none (some 63) = (ns.take 63).map PyData.int := by
  unfold Pd.cutD
  have e : HT.sIx (ns.map PyData.int).length (ns.map PyData.int).length (some 63) = min 63 (ns.map PyData.int).length := HT.sIx_nat _ _ 63
  rw [e]
  show ((ns.map PyData.int).drop 0).take (min 63 (ns.map PyData.int).length - 0) = _
  rw [List.drop_zero, Nat.sub_zero, ← List.map_take]
  congr 1
  rw [List.length_map, List.take_eq_take_iff]
  omega
theorem int_at {ns : List Int} {i : Nat} {d : PyData} (h : (ns.map PyData.int)[i]? = some d) : ∃ x, ns[i]? = some x ∧ d = .int x := by
  rw [List.getElem?_map] at h
  cases q : ns[i]? with
  | none => rw [q] at h; cases h
  | some x => rw [q] at h; exact ⟨x, rfl, (Option.some.inj h).symm⟩
theorem take_succ_at {α : Type} {ns : List α} {i : Nat} {x : α} (h : ns[i]? = some x) : ns.take (i + 1) = ns.take i ++ [x] := by
  rw [List.take_add_one, h]
  rfl
section
variable {P : Program} {w : World} {K : PySem.W.Frag} {mg : Str → Option Value} {base : Heap} {f : Addr} {fd : FuncData}
theorem ok_state (F : Fun K "_law_state" "_law_state" sState f fd) (T : Mg mg) : FnOk P w K mg base CX0 1 f fd ["script"] (spN K 1 phState) := by
  refine fdN_of F scState (by decide) (fun cdv A outer s H E hr ds ms h hl => ?_)
  obtain ⟨ns, rfl, rfl⟩ := h
  refine ss_set (n := 1) scState.nd rfl (by decide) ee_int ?_
  refine ss_set (n := 2) scState.nd rfl (by decide) ee_int ?_
  refine ss_for (fun i ρ => ∃ c, ρ = [.val (.list (ns.map .int)), .val (.int (((ns.take 63).take i).foldl stepS (0, 1)).1), .val (.int (((ns.take 63).take i).foldl stepS (0, 1)).2), c])
    (ei_list (ee_sliceL (ee_var (n := 0) rfl rfl) eo_none (eo_some ee_int))) (pg_name (i := 3) scState.nd rfl (.inl rfl)) ⟨_, rfl⟩ (fun i d ρi hd h => ?_) (fun ρ' h => ?_)
  · obtain ⟨c, rfl⟩ := h
    rw [cut63] at hd
    obtain ⟨x, hx, rfl⟩ := int_at hd
    refine ⟨_, eg_name (by decide), ?_⟩
    refine ss_set (n := 1) scState.nd rfl (by decide) (ee_op op_add (ee_op op_mul (ee_var (n := 1) rfl rfl) ee_int (rd_int (C := CMul) (.inr (by decide)))) (ee_abs T.abs (ee_var (n := 3) rfl rfl)) rd_int0) ?_
    refine ss_set (n := 2) scState.nd rfl (by decide) (ee_op op_mod (ee_toInt T.int (ee_op op_add (ee_op op_mul (ee_var (n := 2) rfl rfl) ee_int (rd_int (C := CMul) (.inr (by decide)))) (ee_var (n := 3) rfl rfl) rd_int0)) ee_int (rd_int (by decide))) ?_
    refine ss_nil ⟨.val (.int x), ?_⟩
    rw [take_succ_at hx, List.foldl_append]
    rfl
  · obtain ⟨c, rfl⟩ := h
    rw [cut63, List.length_map, List.take_length]
    exact ss_retNew (ns := [(stateOf ns).1, (stateOf ns).2]) (ea_cons (ee_var (n := 1) rfl rfl) (ea_cons (ee_var (n := 2) rfl rfl) ea_nil)) rfl
end
def take (s t m : Int) : Int × Int × Int := if 0 < s then (s % m, s / m, t) else ((((t * 48271 + 11) % 2147483647) / 7) % m, s, (t * 48271 + 11) % 2147483647)
theorem take_lt (s t m : Int) (h : 0 < m) : 0 ≤ (take s t m).1 ∧ (take s t m).1 < m := by
  unfold take
  split
  · exact ⟨Int.emod_nonneg _ (by omega), Int.emod_lt_of_pos _ h⟩
  · exact ⟨Int.emod_nonneg _ (by omega), Int.emod_lt_of_pos _ h⟩
def phTake : List PyData → List PyData → PyData → List PyData → Prop := fun cs ds d cs' => ∃ s t m : Int, cs = [.int s, .int t] ∧ ds = [.int m] ∧ 0 < m ∧ m < 1000000 ∧ d = .int (take s t m).1 ∧ cs' = [.int (take s t m).2.1, .int (take s t m).2.2]
section
variable {P : Program} {w : World} {K : PySem.W.Frag} {mg : Str → Option Value} {base : Heap} {f g : Addr} {fd gd : FuncData}
theorem ok_take (F : Fun K "_law_take" "_law_take" sTake f fd) (T : Mg mg) : FnOk P w K mg base CX0 1 f fd ["state", "m"] (spB K 1 phTake) := by
  refine fdB_of F scTake rfl (by decide) (fun cdv A outer s H E hr cs ds d cs' h hl => ?_)
  obtain ⟨s, t, m, rfl, rfl, h0, h1, rfl, rfl⟩ := h
  refine ss_ifR (et_cmp op_gt (own_ix (n := 0) rfl rfl ee_int rfl) ee_int rd_cmp) (fun hs => ?_) (fun hs => ?_)
  · have hs : 0 < s := of_decide_eq_true hs
    have e : take s t m = (s % m, s / m, t) := if_pos hs
    rw [e]
    refine ss_set (n := 2) scTake.nd rfl (by decide) (ee_op op_mod (ee_toInt T.int (own_ix (n := 0) rfl rfl ee_int rfl)) (ee_var (n := 1) rfl rfl) (rd_int h0)) ?_
    refine ss_put (n := 0) rfl rfl (ee_op op_fdiv (own_ix (n := 0) rfl rfl ee_int rfl) (ee_var (n := 1) rfl rfl) (rd_int (C := CDiv) ?_)) ee_int rfl ?_ (ps_asg pe_s (pg_sub (pv 0) pe_s set_list))
    · exact ⟨h0, by omega⟩
    · exact ss_ret (ee_var (n := 2) rfl rfl) ⟨rfl, rfl⟩
  · have hs : ¬ 0 < s := of_decide_eq_false hs
    have e : take s t m = ((((t * 48271 + 11) % 2147483647) / 7) % m, s, (t * 48271 + 11) % 2147483647) := if_neg hs
    rw [e]
    refine ss_put (n := 0) rfl rfl (ee_op op_mod (ee_toInt T.int (ee_op op_add (ee_op op_mul (own_ix (n := 0) rfl rfl ee_int rfl) ee_int (rd_int (C := CMul) (.inr (by decide)))) ee_int rd_int0)) ee_int (rd_int (by decide))) ee_int rfl ?_ (ps_asg pe_s (pg_sub (pv 0) pe_s set_list))
    exact ss_ret (ee_op op_mod (ee_toInt T.int (ee_op op_fdiv (own_ix (n := 0) rfl rfl ee_int rfl) ee_int (rd_int (C := CDiv) ⟨by decide, by decide⟩))) (ee_var (n := 1) rfl rfl) (rd_int h0)) ⟨rfl, rfl⟩
end
def m__law_state : List Hx.W → Hx.M Hx.W := Hx.mState
def m__law_take : List Hx.W → Hx.M Hx.W := Hx.mTake
section
variable {P : Program} {w : World} {K : PySem.W.Frag} {mg : Str → Option Value} {base : Heap} {f : Addr} {fd : FuncData}
theorem fnState (F : Fun K "_law_state" "_law_state" sState f fd) (T : Mg mg) : FnOk P w K mg base (L2.CX P w) 1 f fd ["script"] (Hx.spM K w mg 1 m__law_state) := Hx.fn_state (φ := phState) (fun ns => ⟨_, _, ns, rfl, rfl⟩) (ok_state F T)
theorem fnTake (F : Fun K "_law_take" "_law_take" sTake f fd) (T : Mg mg) : FnOk P w K mg base (L2.CX P w) 1 f fd ["state", "m"] (Hx.spM K w mg 2 m__law_take) := Hx.fn_take (φ := phTake) (fun s t m h0 h1 => by
  have h := take_lt s t m h0
  refine ⟨(take s t m).1.toNat, (take s t m).2.1, (take s t m).2.2, by omega, s, t, m, rfl, rfl, h0, h1, ?_, rfl⟩
  exact congrArg PyData.int (by omega)) (ok_take F T)
end
end K10
noncomputable section
namespace K10
open PySem L2 Pd Gn PySem.Spec PyProof.Rows Zq Hx
abbrev s_is_integer : Stmt := top 10
theorem sc_is_integer : FnScope ["value"] ["value"] (defScope s_is_integer) := ⟨rfl, rfl, rfl, by decide +kernel, rfl, by decide +kernel, by decide +kernel⟩
def g_is_integer (value_0 : W) : M (Res W Unit) :=
  (bd (bW (andM (bvM (isiM isIntO (rt value_0))) (bvM (bW (notM (tvM (isiM isBoolO (rt value_0)))))))) fun w => rt (.ret w))
def b_is_integer : List W → M (Res W Unit)
  | [value_0] => g_is_integer value_0
  | _ => fun _ => .bad
def m_is_integer (ws : List W) : M W := finM (b_is_integer ws)
set_option maxHeartbeats 4000000 in
theorem ok_is_integer {P : Program} {w : World} {K : PySem.W.Frag} {mg : Str → Option Value} {base : Heap} {f : Addr} {fd : FuncData} (F : FunY K "is_integer" "is_integer" s_is_integer f fd) (T : MgB mg) : FnOk P w K mg base (L2.CX P w) 2 f fd ["value"] (spM K w mg 1 m_is_integer) :=
  defM (g := fun _ => noR 1) (mb := b_is_integer) F sc_is_integer (by decide) (fun cdv A outer s H E hr hp ws hlen => by
    match ws, hlen with
    | [value_0], _ =>
      show SM _ _ _ _ (g_is_integer value_0) _
      unfold g_is_integer
      exact (
(sm_ret (em_and (em_isInt T.isinstance T.int (em_var (n := 0) (w := value_0) rfl rfl)) (em_one (em_notV (em_isBool T.isinstance T.bool (em_var (n := 0) (w := value_0) rfl rfl))))))))
abbrev s_Ratio_init : Stmt := inClass (top 14) 0
theorem sc_Ratio_init : FnScope ["self", "n", "d", "shared"] ["self", "n", "d"] (defScope s_Ratio_init) := ⟨rfl, rfl, rfl, by decide +kernel, rfl, by decide +kernel, by decide +kernel⟩
def g_Ratio_init (self_0 n_0 d_0 : W) : M (Res W Unit) :=
  (ifM (cmpM (c2 cEq) (rt d_0) (rt (.dat (.int 0)))) (retE (fun _ => .bad)) (bd (ifM (cmpM (c2 cGt) (rt d_0) (rt (.dat (.int 0)))) (gcdM (rt n_0) (rt d_0)) (negM (gcdM (rt n_0) (rt d_0)))) fun shared_1 => (bd (setAM 0 0 (binM (l2 pFdiv) (rt n_0) (rt shared_1)) (rt self_0)) fun _ => (bd (setAM 0 1 (binM (l2 pFdiv) (rt d_0) (rt shared_1)) (rt self_0)) fun _ => (rt (.nxt ()))))))
def b_Ratio_init : List W → M (Res W Unit)
  | [self_0, n_0, d_0] => g_Ratio_init self_0 n_0 d_0
  | _ => fun _ => .bad
def m_Ratio_init (ws : List W) : M W := finM (b_Ratio_init ws)
set_option maxHeartbeats 4000000 in
theorem ok_Ratio_init {P : Program} {w : World} {K : PySem.W.Frag} {mg : Str → Option Value} {base : Heap} {f : Addr} {fd : FuncData} (F : FunY K "__init__" "Ratio.__init__" s_Ratio_init f fd) (T : MgB mg) (gg_gcd : mg "gcd" = some (.builtin "math.gcd")) {C_0 : Addr} (ix_0 : InsX K mg 0 C_0) : FnOk P w K mg base (L2.CX P w) 2 f fd ["self", "n", "d"] (spM K w mg 3 m_Ratio_init) :=
  defM (g := fun _ => noR 4) (mb := b_Ratio_init) F sc_Ratio_init (by decide) (fun cdv A outer s H E hr hp ws hlen => by
    match ws, hlen with
    | [self_0, n_0, d_0], _ =>
      show SM _ _ _ _ (g_Ratio_init self_0 n_0 d_0) _
      unfold g_Ratio_init
      exact (
(sm_ifR (g0 := fun _ => noR 4) (tm_cmp (eqF hr) (em_var (n := 2) (w := d_0) rfl rfl) em_int)
 (by exact sm_bad)
 (sm_set (n := 3) sc_Ratio_init.nd rfl rfl (em_if (tm_cmp gtF (em_var (n := 2) (w := d_0) rfl rfl) em_int) (em_gcd gg_gcd (em_var (n := 1) (w := n_0) rfl rfl) (em_var (n := 2) (w := d_0) rfl rfl)) (em_neg (em_gcd gg_gcd (em_var (n := 1) (w := n_0) rfl rfl) (em_var (n := 2) (w := d_0) rfl rfl)))) (fun shared_1 =>
 (sm_setA ix_0 (by rfl) (by decide) (em_bin fdiv_f (em_var (n := 1) (w := n_0) rfl rfl) (em_var (n := 3) (w := shared_1) rfl rfl)) (em_var (n := 0) (w := self_0) rfl rfl) (sm_setA ix_0 (by rfl) (by decide) (em_bin fdiv_f (em_var (n := 2) (w := d_0) rfl rfl) (em_var (n := 3) (w := shared_1) rfl rfl)) (em_var (n := 0) (w := self_0) rfl rfl) (sm_nil (z := ()) (by exact le_noR rfl) (by exact LeR.refl)))))))))
abbrev s_Ratio_add : Stmt := inClass (top 14) 1
theorem sc_Ratio_add : FnScope ["self", "other"] ["self", "other"] (defScope s_Ratio_add) := ⟨rfl, rfl, rfl, by decide +kernel, rfl, by decide +kernel, by decide +kernel⟩
def g_Ratio_add (self_0 other_0 : W) : M (Res W Unit) :=
  (bd (makeM 0 3 [] (apM (binM (l2 pAddX) (binM (l2 pMulY) (fldM 0 0 (rt self_0)) (fldM 0 1 (rt other_0))) (binM (l2 pMulY) (fldM 0 0 (rt other_0)) (fldM 0 1 (rt self_0)))) (apM (binM (l2 pMulY) (fldM 0 1 (rt self_0)) (fldM 0 1 (rt other_0))) (rt []))) m_Ratio_init) fun w => rt (.ret w))
def b_Ratio_add : List W → M (Res W Unit)
  | [self_0, other_0] => g_Ratio_add self_0 other_0
  | _ => fun _ => .bad
def m_Ratio_add (ws : List W) : M W := finM (b_Ratio_add ws)
set_option maxHeartbeats 4000000 in
theorem ok_Ratio_add {P : Program} {w : World} {K : PySem.W.Frag} {mg : Str → Option Value} {base : Heap} {f : Addr} {fd : FuncData} (F : FunY K "__add__" "Ratio.__add__" s_Ratio_add f fd) (T : MgB mg) (cc_Ratio_2 : CalC P w K mg base 2 0 ["self", "n", "d"] 3 [] m_Ratio_init) {C_0 : Addr} (ix_0 : InsX K mg 0 C_0) : FnOk P w K mg base (L2.CX P w) 4 f fd ["self", "other"] (spM K w mg 2 m_Ratio_add) :=
  defM (g := fun _ => noR 2) (mb := b_Ratio_add) F sc_Ratio_add (by decide) (fun cdv A outer s H E hr hp ws hlen => by
    match ws, hlen with
    | [self_0, other_0], _ =>
      show SM _ _ _ _ (g_Ratio_add self_0 other_0) _
      unfold g_Ratio_add
      exact (
(sm_ret (em_make cc_Ratio_2 rfl (hr.mono (by omega)) (am_cons (em_bin add_f (em_bin mul_f (em_fld ix_0 (by rfl) (em_var (n := 0) (w := self_0) rfl rfl)) (em_fld ix_0 (by rfl) (em_var (n := 1) (w := other_0) rfl rfl))) (em_bin mul_f (em_fld ix_0 (by rfl) (em_var (n := 1) (w := other_0) rfl rfl)) (em_fld ix_0 (by rfl) (em_var (n := 0) (w := self_0) rfl rfl)))) (am_cons (em_bin mul_f (em_fld ix_0 (by rfl) (em_var (n := 0) (w := self_0) rfl rfl)) (em_fld ix_0 (by rfl) (em_var (n := 1) (w := other_0) rfl rfl))) am_nil))))))
abbrev s_Ratio_eq : Stmt := inClass (top 14) 5
theorem sc_Ratio_eq : FnScope ["self", "other"] ["self", "other"] (defScope s_Ratio_eq) := ⟨rfl, rfl, rfl, by decide +kernel, rfl, by decide +kernel, by decide +kernel⟩
def g_Ratio_eq (self_0 other_0 : W) : M (Res W Unit) :=
  (bd (bW (andM (bvM (isOwnM 0 (rt other_0))) (andM (bvM (bW (cmpM (c2 cEq) (fldM 0 0 (rt self_0)) (fldM 0 0 (rt other_0))))) (bvM (bW (cmpM (c2 cEq) (fldM 0 1 (rt self_0)) (fldM 0 1 (rt other_0)))))))) fun w => rt (.ret w))
def b_Ratio_eq : List W → M (Res W Unit)
  | [self_0, other_0] => g_Ratio_eq self_0 other_0
  | _ => fun _ => .bad
def m_Ratio_eq (ws : List W) : M W := finM (b_Ratio_eq ws)
set_option maxHeartbeats 4000000 in
theorem ok_Ratio_eq {P : Program} {w : World} {K : PySem.W.Frag} {mg : Str → Option Value} {base : Heap} {f : Addr} {fd : FuncData} (F : FunY K "__eq__" "Ratio.__eq__" s_Ratio_eq f fd) (T : MgB mg) {D_0 : Addr} (ii_0 : InsI K mg 0 D_0) {C_0 : Addr} (ix_0 : InsX K mg 0 C_0) : FnOk P w K mg base (L2.CX P w) 2 f fd ["self", "other"] (spM K w mg 2 m_Ratio_eq) :=
  defM (g := fun _ => noR 2) (mb := b_Ratio_eq) F sc_Ratio_eq (by decide) (fun cdv A outer s H E hr hp ws hlen => by
    match ws, hlen with
    | [self_0, other_0], _ =>
      show SM _ _ _ _ (g_Ratio_eq self_0 other_0) _
      unfold g_Ratio_eq
      exact (
(sm_ret (em_and (em_isOwn ii_0 rfl T.isinstance (em_var (n := 1) (w := other_0) rfl rfl)) (em_and (em_cmp (eqF hr) (em_fld ix_0 (by rfl) (em_var (n := 0) (w := self_0) rfl rfl)) (em_fld ix_0 (by rfl) (em_var (n := 1) (w := other_0) rfl rfl))) (em_one (em_cmp (eqF hr) (em_fld ix_0 (by rfl) (em_var (n := 0) (w := self_0) rfl rfl)) (em_fld ix_0 (by rfl) (em_var (n := 1) (w := other_0) rfl rfl)))))))))
abbrev s_Ratio_is_zero : Stmt := inClass (top 14) 14
theorem sc_Ratio_is_zero : FnScope ["self"] ["self"] (defScope s_Ratio_is_zero) := ⟨rfl, rfl, rfl, by decide +kernel, rfl, by decide +kernel, by decide +kernel⟩
def g_Ratio_is_zero (self_0 : W) : M (Res W Unit) :=
  (bd (bW (cmpM (c2 cEq) (fldM 0 0 (rt self_0)) (rt (.dat (.int 0))))) fun w => rt (.ret w))
def b_Ratio_is_zero : List W → M (Res W Unit)
  | [self_0] => g_Ratio_is_zero self_0
  | _ => fun _ => .bad
def m_Ratio_is_zero (ws : List W) : M W := finM (b_Ratio_is_zero ws)
set_option maxHeartbeats 4000000 in
theorem ok_Ratio_is_zero {P : Program} {w : World} {K : PySem.W.Frag} {mg : Str → Option Value} {base : Heap} {f : Addr} {fd : FuncData} (F : FunY K "is_zero" "Ratio.is_zero" s_Ratio_is_zero f fd) (T : MgB mg) {C_0 : Addr} (ix_0 : InsX K mg 0 C_0) : FnOk P w K mg base (L2.CX P w) 2 f fd ["self"] (spM K w mg 1 m_Ratio_is_zero) :=
  defM (g := fun _ => noR 1) (mb := b_Ratio_is_zero) F sc_Ratio_is_zero (by decide) (fun cdv A outer s H E hr hp ws hlen => by
    match ws, hlen with
    | [self_0], _ =>
      show SM _ _ _ _ (g_Ratio_is_zero self_0) _
      unfold g_Ratio_is_zero
      exact (
(sm_ret (em_cmp (eqF hr) (em_fld ix_0 (by rfl) (em_var (n := 0) (w := self_0) rfl rfl)) em_int))))
end K10
noncomputable section
namespace K10
open PySem L2 Pd Gn PySem.Spec PyProof.Rows Zq Hx
abbrev s__checked_number : Stmt := top 19
theorem sc__checked_number : FnScope ["value"] ["value"] (defScope s__checked_number) := ⟨rfl, rfl, rfl, by decide +kernel, rfl, by decide +kernel, by decide +kernel⟩
def g__checked_number (value_0 : W) : M (Res W Unit) :=
  (ifM (tvM (isOwnM 0 (rt value_0))) (retE (bd (rt value_0) fun w => rt (.ret w))) (ifM (notM (tvM (callI 1 (apM (rt value_0) (rt [])) m_is_integer))) (retE (fun _ => .bad)) (bd (makeM 0 3 [.dat (.int 1)] (apM (rt value_0) (rt [])) m_Ratio_init) fun w => rt (.ret w))))
def b__checked_number : List W → M (Res W Unit)
  | [value_0] => g__checked_number value_0
  | _ => fun _ => .bad
def m__checked_number (ws : List W) : M W := finM (b__checked_number ws)
set_option maxHeartbeats 4000000 in
theorem ok__checked_number {P : Program} {w : World} {K : PySem.W.Frag} {mg : Str → Option Value} {base : Heap} {f : Addr} {fd : FuncData} (F : FunY K "_checked_number" "_checked_number" s__checked_number f fd) (T : MgB mg) (cc_Ratio_1 : CalC P w K mg base 2 0 ["self", "n", "d"] 3 [.dat (.int 1)] m_Ratio_init) {D_0 : Addr} (ii_0 : InsI K mg 0 D_0) (c_is_integer : CalM P w K mg base 2 "is_integer" ["value"] 1 m_is_integer) : FnOk P w K mg base (L2.CX P w) 4 f fd ["value"] (spM K w mg 1 m__checked_number) :=
  defM (g := fun _ => noR 1) (mb := b__checked_number) F sc__checked_number (by decide) (fun cdv A outer s H E hr hp ws hlen => by
    match ws, hlen with
    | [value_0], _ =>
      show SM _ _ _ _ (g__checked_number value_0) _
      unfold g__checked_number
      exact (
(sm_ifR (g0 := fun _ => noR 1) (tm_val (em_isOwn ii_0 rfl T.isinstance (em_var (n := 0) (w := value_0) rfl rfl)))
 (sm_ret (em_var (n := 0) (w := value_0) rfl rfl))
 (sm_ifR (g0 := fun _ => noR 1) (tm_not (tm_val (em_callI c_is_integer (hr.mono (by omega)) (am_cons (em_var (n := 0) (w := value_0) rfl rfl) am_nil))))
 (by exact sm_bad)
 (sm_ret (em_make cc_Ratio_1 rfl (hr.mono (by omega)) (am_cons (em_var (n := 0) (w := value_0) rfl rfl) am_nil)))))))
abbrev s_checked_pairs : Stmt := top 20
theorem sc_checked_pairs : FnScope ["pairs", "checked", "pair", "key", "number"] ["pairs"] (defScope s_checked_pairs) := ⟨rfl, rfl, rfl, by decide +kernel, rfl, by decide +kernel, by decide +kernel⟩
def g_checked_pairs (pairs_0 : W) : M (Res W Unit) :=
  (ifM (notM (tvM (isSqM (rt pairs_0)))) (retE (fun _ => .bad)) (bd (ownW (lstM (rt []))) fun checked_1 => (bd (sqM (rt pairs_0)) fun ws => seqM (forM (stepM tgN fun x_2 (st_3 : Unit) => (ifM (orM (notM (tvM (isiM isTupO (rt x_2)))) (cmpM (c2 cNe) (biM fLen (apM (rt x_2) (rt []))) (rt (.dat (.int 2))))) (retE (fun _ => .bad)) (bd (rt x_2) fun w => bd (lf ((tgT 2 (tgsC tgN (tgsC tgN tgs0))) w)) fun p_4 => (bd (appM (rt checked_1) (tupM (apM (rt p_4.1) (apM (callI 1 (apM (rt p_4.2.1) (rt [])) m__checked_number) (rt []))))) fun _ => (rt (.nxt ())))))) ws ()) fun st_3 => (bd (frzM checked_1) fun checked_5 => (bd (rt checked_5) fun w => rt (.ret w))))))
def b_checked_pairs : List W → M (Res W Unit)
  | [pairs_0] => g_checked_pairs pairs_0
  | _ => fun _ => .bad
def m_checked_pairs (ws : List W) : M W := finM (b_checked_pairs ws)
set_option maxHeartbeats 4000000 in
theorem ok_checked_pairs {P : Program} {w : World} {K : PySem.W.Frag} {mg : Str → Option Value} {base : Heap} {f : Addr} {fd : FuncData} (F : FunY K "checked_pairs" "checked_pairs" s_checked_pairs f fd) (T : MgB mg) (c__checked_number : CalM P w K mg base 4 "_checked_number" ["value"] 1 m__checked_number) : FnOk P w K mg base (L2.CX P w) 5 f fd ["pairs"] (spM K w mg 1 m_checked_pairs) :=
  defM (g := fun _ => noR 5) (mb := b_checked_pairs) F sc_checked_pairs (by decide) (fun cdv A outer s H E hr hp ws hlen => by
    match ws, hlen with
    | [pairs_0], _ =>
      show SM _ _ _ _ (g_checked_pairs pairs_0) _
      unfold g_checked_pairs
      exact (
(sm_ifR (g0 := fun _ => noR 5) (tm_not (tm_val (em_isSq T.isinstance T.list T.tuple (em_var (n := 0) (w := pairs_0) rfl rfl))))
 (by exact sm_bad)
 (sm_set (n := 1) sc_checked_pairs.nd rfl rfl (em_own (lm_lst am_nil)) (fun checked_1 =>
 (sm_for (F := fun (st_3 : Unit) => [some pairs_0, some checked_1, none, none, none]) (Fb := fun x_2 (st_3 : Unit) => [some pairs_0, some checked_1, some x_2, none, none]) (z0 := ()) (im_val (em_var (n := 0) (w := pairs_0) rfl rfl)) (pg_name (i := 2) sc_checked_pairs.nd rfl (by first | exact .inl rfl | exact .inr rfl)) (by exact (.keep (.keep (.drop (.drop (.drop LeR.nil)))))) (by exact le_noR rfl) (fun _ => gm_name) (fun _ _ => by exact le_noR rfl) (fun x_2 st_3 => by exact (
 (sm_ifR (g0 := fun _ => noR 5) (tm_w (wm_or (tm_not (tm_val (em_isTup T.isinstance T.tuple (em_var (n := 2) (w := x_2) rfl rfl)))) (wm_or1 (tm_cmp (neF hr) (em_B len_f T.len (by decide +kernel) (am_cons (em_var (n := 2) (w := x_2) rfl rfl) am_nil)) em_int))))
 (by exact sm_bad)
 (sm_asg (em_var (n := 2) (w := x_2) rfl rfl) (pg_tup rfl (pgs_cons (pg_name (i := 3) sc_checked_pairs.nd rfl (by first | exact .inl rfl | exact .inr rfl)) (pgs_cons (pg_name (i := 4) sc_checked_pairs.nd rfl (by first | exact .inl rfl | exact .inr rfl)) pgs_nil))) (gm_tup (gms_cons gm_name fun _ => (gms_cons gm_name fun _ => gms_nil))) (fun _ => by exact le_noR rfl) (fun p_4 =>
 (sm_expr (em_append (em_var (n := 1) (w := checked_1) rfl rfl) (em_tup (am_cons (em_var (n := 3) (w := p_4.1) rfl rfl) (am_cons (em_callI c__checked_number (hr.mono (by omega)) (am_cons (em_var (n := 4) (w := p_4.2.1) rfl rfl) am_nil)) am_nil))) (pe_bm PySem.F.plainAttrs_list PySem.F.slot_list_append PySem.F.type_list_append mt_append pe_s (pa_cons pe_s pa_nil)))
 (sm_nil (z := ()) (by exact (.keep (.keep (.drop (.drop (.drop LeR.nil)))))) (by exact le_noR rfl)))))))) (fun st_3 => by exact (
 (sm_frz (n := 1) (w := checked_1) rfl rfl (fun checked_5 => (sm_ret (em_var (n := 1) (w := checked_5) rfl rfl)))))) hp))))))
abbrev s_added_up : Stmt := top 21
theorem sc_added_up : FnScope ["pairs", "sums", "key", "number"] ["pairs"] (defScope s_added_up) := ⟨rfl, rfl, rfl, by decide +kernel, rfl, by decide +kernel, by decide +kernel⟩
def g_added_up (pairs_0 : W) : M (Res W Unit) :=
  (bd dnewM fun sums_1 => (bd (sqM (rt pairs_0)) fun ws => seqM (forM (stepM (tgT 2 (tgsC tgN (tgsC tgN tgs0))) fun x_2 (st_3 : Unit) => (seqM (ifM (dinM false (rt x_2.1) (rt sums_1)) (bd (setD (bopM 0 m_Ratio_add (ixD (rt sums_1) (rt x_2.1)) (rt x_2.2.1)) (rt sums_1) (rt x_2.1)) fun _ => (rt (.nxt ()))) ((bd (setD (rt x_2.2.1) (rt sums_1) (rt x_2.1)) fun _ => (rt (.nxt ()))) : M (Res W (Unit)))) fun st_4 => (rt (.nxt ())))) ws ()) fun st_3 => (bd (frzDM sums_1) fun sums_5 => (bd (dctW (dc1 tgN (fun x_6 => (notM (tvM (methM 0 1 (ixD (rt sums_5) (rt x_6)) (rt []) m_Ratio_is_zero)))) (fun x_6 => (rt x_6)) (fun x_6 => (ixD (rt sums_5) (rt x_6))) (sqD (rt sums_5)))) fun w => rt (.ret w)))))
def b_added_up : List W → M (Res W Unit)
  | [pairs_0] => g_added_up pairs_0
  | _ => fun _ => .bad
def m_added_up (ws : List W) : M W := finM (b_added_up ws)
set_option maxHeartbeats 4000000 in
theorem ok_added_up {P : Program} {w : World} {K : PySem.W.Frag} {mg : Str → Option Value} {base : Heap} {f : Addr} {fd : FuncData} (F : FunY K "added_up" "added_up" s_added_up f fd) (T : MgB mg) (co_Ratio_add : CalO P w K mg base 4 0 (PySem.dunder (PySem.Operator.Add).info.2) ["self", "other"] 2 m_Ratio_add) (co_Ratio_is_zero : CalO P w K mg base 2 0 "is_zero" ["self"] 1 m_Ratio_is_zero) (sf_0 : ∀ C, insC K 0 C → PySem.W.selfFirst K C = true) : FnOk P w K mg base (L2.CX P w) 5 f fd ["pairs"] (spM K w mg 1 m_added_up) :=
  defM (g := fun _ => noR 4) (mb := b_added_up) F sc_added_up (by decide) (fun cdv A outer s H E hr hp ws hlen => by
    match ws, hlen with
    | [pairs_0], _ =>
      show SM _ _ _ _ (g_added_up pairs_0) _
      unfold g_added_up
      exact (
(sm_set (n := 1) sc_added_up.nd rfl rfl em_dnew (fun sums_1 =>
 (sm_for (F := fun (st_3 : Unit) => [some pairs_0, some sums_1, none, none]) (Fb := fun x_2 (st_3 : Unit) => [some pairs_0, some sums_1, some x_2.1, some x_2.2.1]) (z0 := ()) (im_val (em_var (n := 0) (w := pairs_0) rfl rfl)) (pg_tup rfl (pgs_cons (pg_name (i := 2) sc_added_up.nd rfl (by first | exact .inl rfl | exact .inr rfl)) (pgs_cons (pg_name (i := 3) sc_added_up.nd rfl (by first | exact .inl rfl | exact .inr rfl)) pgs_nil))) (by exact (.keep (.keep (.drop (.drop LeR.nil))))) (by exact le_noR rfl) (fun _ => (gm_tup (gms_cons gm_name fun _ => (gms_cons gm_name fun _ => gms_nil)))) (fun _ _ => by exact le_noR rfl) (fun x_2 st_3 => by exact (
 (sm_if (g1 := fun (st_4 : Unit) => [some pairs_0, some sums_1, some x_2.1, some x_2.2.1]) (tm_din hr (em_var (n := 2) (w := x_2.1) rfl rfl) (em_var (n := 1) (w := sums_1) rfl rfl))
 (sm_putD hr (em_bop (op := .Add) co_Ratio_add sf_0 (hr.mono (by omega)) (em_ixD hr (em_var (n := 1) (w := sums_1) rfl rfl) (em_var (n := 2) (w := x_2.1) rfl rfl)) (em_var (n := 3) (w := x_2.2.1) rfl rfl)) (em_var (n := 1) (w := sums_1) rfl rfl) (em_var (n := 2) (w := x_2.1) rfl rfl) (sm_nil (z := ()) (by exact (.keep (.keep (.keep (.keep LeR.nil))))) (by exact le_noR rfl)) (ps_asg pe_s (pg_sub pe_s pe_s wSet_r)))
 (sm_putD hr (em_var (n := 3) (w := x_2.2.1) rfl rfl) (em_var (n := 1) (w := sums_1) rfl rfl) (em_var (n := 2) (w := x_2.1) rfl rfl) (sm_nil (z := ()) (by exact (.keep (.keep (.keep (.keep LeR.nil))))) (by exact le_noR rfl)) (ps_asg pe_s (pg_sub pe_s pe_s wSet_r)))
 (fun st_4 => (sm_nil (z := ()) (by exact (.keep (.keep (.drop (.drop LeR.nil))))) (by exact le_noR rfl)))))) (fun st_3 => by exact (
 (sm_frzD (n := 1) (w := sums_1) rfl rfl (fun sums_5 => (sm_ret (em_dc (dcp1 hr (own := [("key", 2)]) (im_valD (em_var (n := 1) (w := sums_5) rfl rfl)) (GWx.gw (gwx_name (by decide)) mon_name) (by intro k hk; simp at hk; rcases hk with rfl <;> rfl) gm_name (fun x_6 _ _ _ _ _ => (tm_not (tm_val (em_meth0 co_Ratio_is_zero (by decide +kernel) (hr.mono (by omega)) (em_ixD hr (em_var (n := 1) (w := sums_5) rfl rfl) (em_var (n := 2) (w := x_6) rfl rfl)))))) (fun x_6 _ _ _ _ _ => (em_var (n := 2) (w := x_6) rfl rfl)) (fun x_6 _ _ _ _ _ => (em_ixD hr (em_var (n := 1) (w := sums_5) rfl rfl) (em_var (n := 2) (w := x_6) rfl rfl))) sc_added_up.nd (blkOk_by (N := ["pairs", "sums", "key", "number"]) (sc := defScope s_added_up) (by decide +kernel)) (fun _ _ _ _ _ => (pg_name (i := 2) sc_added_up.nd rfl (by first | exact .inl rfl | exact .inr rfl)))))))))) hp)))))
abbrev s_check_number : Stmt := top 26
theorem sc_check_number : FnScope ["n"] ["n"] (defScope s_check_number) := ⟨rfl, rfl, rfl, by decide +kernel, rfl, by decide +kernel, by decide +kernel⟩
def g_check_number (n_0 : W) : M (Res W Unit) :=
  (ifM (notM (tvM (callI 1 (apM (rt n_0) (rt [])) m_is_integer))) (retE (raiseT 2)) (ifM (cmpM (c2 cGt) (rt n_0) (rt (.dat (.int 8)))) (retE (raiseM 0 (rt (.dat (.str "letters"))))) (ifM (cmpM (c2 cLt) (rt n_0) (rt (.dat (.int 0)))) (retE (raiseT 2)) (rt (.nxt ())))))
def b_check_number : List W → M (Res W Unit)
  | [n_0] => g_check_number n_0
  | _ => fun _ => .bad
def m_check_number (ws : List W) : M W := finM (b_check_number ws)
set_option maxHeartbeats 4000000 in
theorem ok_check_number {P : Program} {w : World} {K : PySem.W.Frag} {mg : Str → Option Value} {base : Heap} {f : Addr} {fd : FuncData} (F : FunY K "check_number" "check_number" s_check_number f fd) (T : MgB mg) {CM_Malformed : Addr} (XM_Malformed : XCl0 K mg "Malformed" CM_Malformed) (c_is_integer : CalM P w K mg base 2 "is_integer" ["value"] 1 m_is_integer) {C_Refused fI_Refused : Addr} {fd_Refused : FuncData} (TX_Refused : XCls K mg "Refused" "reason" C_Refused fI_Refused) (FI_Refused : FnOk P w K mg base CX0 1 fI_Refused fd_Refused [Str.ofString "self", Str.ofString "reason"] (spI K C_Refused "reason")) (bI_Refused : Binds K fd_Refused [Str.ofString "self", Str.ofString "reason"] []) {tk__MOST_LETTERS : Tok} (k__MOST_LETTERS : mg "_MOST_LETTERS" = some (.int 8 tk__MOST_LETTERS)) : FnOk P w K mg base (L2.CX P w) 3 f fd ["n"] (spM K w mg 1 m_check_number) :=
  defM (g := fun _ => noR 1) (mb := b_check_number) F sc_check_number (by decide) (fun cdv A outer s H E hr hp ws hlen => by
    match ws, hlen with
    | [n_0], _ =>
      show SM _ _ _ _ (g_check_number n_0) _
      unfold g_check_number
      exact (
(sm_ifR (g0 := fun _ => noR 1) (tm_not (tm_val (em_callI c_is_integer (hr.mono (by omega)) (am_cons (em_var (n := 0) (w := n_0) rfl rfl) am_nil))))
 (sm_raiseT (c := 2) XM_Malformed rfl rfl)
 (sm_ifR (g0 := fun _ => noR 1) (tm_cmp gtF (em_var (n := 0) (w := n_0) rfl rfl) (em_glob (by exact rfl) k__MOST_LETTERS ⟨_, rfl⟩))
 (sm_raise (c := 0) TX_Refused rfl rfl FI_Refused (hr.mono (by omega)) bI_Refused em_str)
 (sm_ifR (g0 := fun _ => noR 1) (tm_cmp (ltF hr) (em_var (n := 0) (w := n_0) rfl rfl) em_int)
 (sm_raiseT (c := 2) XM_Malformed rfl rfl)
 (sm_nil (z := ()) (by exact le_noR rfl) (by exact LeR.refl)))))))
abbrev s__is_exponent : Stmt := top 27
theorem sc__is_exponent : FnScope ["value", "n", "item"] ["value", "n"] (defScope s__is_exponent) := ⟨rfl, rfl, rfl, by decide +kernel, rfl, by decide +kernel, by decide +kernel⟩
def g__is_exponent (value_0 n_0 : W) : M (Res W Unit) :=
  (ifM (orM (notM (tvM (isiM isTupO (rt value_0)))) (cmpM (c2 cNe) (biM fLen (apM (rt value_0) (rt []))) (rt n_0))) (retE (bd (rt (.dat (.bool false))) fun w => rt (.ret w))) (bd (biM (u1 dAll) (apM (frzW (lc1 tgN (fun _ => rt true) (fun x_1 => (bW (andM (bvM (callI 1 (apM (rt x_1) (rt [])) m_is_integer)) (bvM (bW (cmpM (c2 cGe) (rt x_1) (rt (.dat (.int 0))))))))) (sqM (rt value_0)))) (rt []))) fun w => rt (.ret w)))
def b__is_exponent : List W → M (Res W Unit)
  | [value_0, n_0] => g__is_exponent value_0 n_0
  | _ => fun _ => .bad
def m__is_exponent (ws : List W) : M W := finM (b__is_exponent ws)
set_option maxHeartbeats 4000000 in
theorem ok__is_exponent {P : Program} {w : World} {K : PySem.W.Frag} {mg : Str → Option Value} {base : Heap} {f : Addr} {fd : FuncData} (F : FunY K "_is_exponent" "_is_exponent" s__is_exponent f fd) (T : MgB mg) (c_is_integer : CalM P w K mg base 2 "is_integer" ["value"] 1 m_is_integer) : FnOk P w K mg base (L2.CX P w) 3 f fd ["value", "n"] (spM K w mg 2 m__is_exponent) :=
  defM (g := fun _ => noR 3) (mb := b__is_exponent) F sc__is_exponent (by decide) (fun cdv A outer s H E hr hp ws hlen => by
    match ws, hlen with
    | [value_0, n_0], _ =>
      show SM _ _ _ _ (g__is_exponent value_0 n_0) _
      unfold g__is_exponent
      exact (
(sm_ifR (g0 := fun _ => noR 3) (tm_w (wm_or (tm_not (tm_val (em_isTup T.isinstance T.tuple (em_var (n := 0) (w := value_0) rfl rfl)))) (wm_or1 (tm_cmp (neF hr) (em_B len_f T.len (by decide +kernel) (am_cons (em_var (n := 0) (w := value_0) rfl rfl) am_nil)) (em_var (n := 1) (w := n_0) rfl rfl)))))
 (sm_ret em_bl)
 (sm_ret (em_B (all_f rfl) T.all (by decide +kernel) (am_cons (em_frz (LcP.lm (lcp0 (own := [("item", 2)]) (im_val (em_var (n := 0) (w := value_0) rfl rfl)) (GWx.gw (gwx_name (by decide)) mon_name) (by intro k hk; simp at hk; rcases hk with rfl <;> rfl) gm_name (fun x_1 _ _ _ _ _ => (em_and (em_callI c_is_integer (hr.mono (by omega)) (am_cons (em_var (n := 2) (w := x_1) rfl rfl) am_nil)) (em_one (em_cmp geF (em_var (n := 2) (w := x_1) rfl rfl) em_int)))) sc__is_exponent.nd (blkOk_by (N := ["value", "n", "item"]) (sc := defScope s__is_exponent) (by decide +kernel)) (fun _ _ _ _ _ => (pg_name (i := 2) sc__is_exponent.nd rfl (by first | exact .inl rfl | exact .inr rfl)))))) am_nil))))))
abbrev s__swapped : Stmt := top 29
theorem sc__swapped : FnScope ["exponent", "i", "j", "items"] ["exponent", "i", "j"] (defScope s__swapped) := ⟨rfl, rfl, rfl, by decide +kernel, rfl, by decide +kernel, by decide +kernel⟩
def g__swapped (exponent_0 i_0 j_0 : W) : M (Res W Unit) :=
  (bd (ownW (loM (rt exponent_0))) fun items_1 => (bd (setM (ixM (rt exponent_0) (rt j_0)) (rt items_1) (rt i_0)) fun _ => (bd (setM (ixM (rt exponent_0) (rt i_0)) (rt items_1) (rt j_0)) fun _ => (bd (toM (rt items_1)) fun w => rt (.ret w)))))
def b__swapped : List W → M (Res W Unit)
  | [exponent_0, i_0, j_0] => g__swapped exponent_0 i_0 j_0
  | _ => fun _ => .bad
def m__swapped (ws : List W) : M W := finM (b__swapped ws)
set_option maxHeartbeats 4000000 in
theorem ok__swapped {P : Program} {w : World} {K : PySem.W.Frag} {mg : Str → Option Value} {base : Heap} {f : Addr} {fd : FuncData} (F : FunY K "_swapped" "_swapped" s__swapped f fd) (T : MgB mg) : FnOk P w K mg base (L2.CX P w) 2 f fd ["exponent", "i", "j"] (spM K w mg 3 m__swapped) :=
  defM (g := fun _ => noR 4) (mb := b__swapped) F sc__swapped (by decide) (fun cdv A outer s H E hr hp ws hlen => by
    match ws, hlen with
    | [exponent_0, i_0, j_0], _ =>
      show SM _ _ _ _ (g__swapped exponent_0 i_0 j_0) _
      unfold g__swapped
      exact (
(sm_set (n := 3) sc__swapped.nd rfl rfl (em_own (lm_list T.list (em_var (n := 0) (w := exponent_0) rfl rfl))) (fun items_1 =>
 (sm_put (em_ix (em_var (n := 0) (w := exponent_0) rfl rfl) (em_var (n := 2) (w := j_0) rfl rfl)) (em_var (n := 3) (w := items_1) rfl rfl) (em_var (n := 1) (w := i_0) rfl rfl) (sm_put (em_ix (em_var (n := 0) (w := exponent_0) rfl rfl) (em_var (n := 1) (w := i_0) rfl rfl)) (em_var (n := 3) (w := items_1) rfl rfl) (em_var (n := 2) (w := j_0) rfl rfl) (sm_ret (em_tuple T.tuple (em_var (n := 3) (w := items_1) rfl rfl))) (ps_asg pe_s (pg_sub pe_s pe_s set_list))) (ps_asg pe_s (pg_sub pe_s pe_s set_list)))))))
abbrev s_Letters_init : Stmt := inClass (top 38) 0
theorem sc_Letters_init : FnScope ["self", "n", "pairs", "checked", "exponent", "_", "sums"] ["self", "n", "pairs"] (defScope s_Letters_init) := ⟨rfl, rfl, rfl, by decide +kernel, rfl, by decide +kernel, by decide +kernel⟩
def g_Letters_init (self_0 n_0 pairs_0 : W) : M (Res W Unit) :=
  (bd (callI 1 (apM (rt n_0) (rt [])) m_check_number) fun _ => (bd (callI 1 (apM (rt pairs_0) (rt [])) m_checked_pairs) fun checked_1 => (ifM (notM (tvM (biM (u1 dAll) (apM (frzW (lc1 (tgT 2 (tgsC tgN (tgsC tgN tgs0))) (fun _ => rt true) (fun x_2 => (callI 2 (apM (rt x_2.1) (apM (rt n_0) (rt []))) m__is_exponent)) (sqM (rt checked_1)))) (rt []))))) (retE (fun _ => .bad)) (bd (callI 1 (apM (rt checked_1) (rt [])) m_added_up) fun sums_3 => (bd (setAM 2 0 (rt n_0) (rt self_0)) fun _ => (bd (setAM 2 1 (toM (frzW (lc1 tgN (fun _ => rt true) (fun x_4 => (tupM (apM (rt x_4) (apM (ixD (rt sums_3) (rt x_4)) (rt []))))) (sqM (frzW (srtDRM (frzW (listDM (rt sums_3))))))))) (rt self_0)) fun _ => (bd (setAM 2 2 (rt sums_3) (rt self_0)) fun _ => (rt (.nxt ())))))))))
def b_Letters_init : List W → M (Res W Unit)
  | [self_0, n_0, pairs_0] => g_Letters_init self_0 n_0 pairs_0
  | _ => fun _ => .bad
def m_Letters_init (ws : List W) : M W := finM (b_Letters_init ws)
set_option maxHeartbeats 4000000 in
theorem ok_Letters_init {P : Program} {w : World} {K : PySem.W.Frag} {mg : Str → Option Value} {base : Heap} {f : Addr} {fd : FuncData} (F : FunY K "__init__" "Letters.__init__" s_Letters_init f fd) (T : MgB mg) {C_2 : Addr} (ix_2 : InsX K mg 2 C_2) (c_check_number : CalM P w K mg base 3 "check_number" ["n"] 1 m_check_number) (c_checked_pairs : CalM P w K mg base 5 "checked_pairs" ["pairs"] 1 m_checked_pairs) (c__is_exponent : CalM P w K mg base 3 "_is_exponent" ["value", "n"] 2 m__is_exponent) (c_added_up : CalM P w K mg base 5 "added_up" ["pairs"] 1 m_added_up) : FnOk P w K mg base (L2.CX P w) 6 f fd ["self", "n", "pairs"] (spM K w mg 3 m_Letters_init) :=
  defM (g := fun _ => noR 7) (mb := b_Letters_init) F sc_Letters_init (by decide) (fun cdv A outer s H E hr hp ws hlen => by
    match ws, hlen with
    | [self_0, n_0, pairs_0], _ =>
      show SM _ _ _ _ (g_Letters_init self_0 n_0 pairs_0) _
      unfold g_Letters_init
      exact (
(sm_expr (em_callI c_check_number (hr.mono (by omega)) (am_cons (em_var (n := 1) (w := n_0) rfl rfl) am_nil))
 (sm_set (n := 3) sc_Letters_init.nd rfl rfl (em_callI c_checked_pairs (hr.mono (by omega)) (am_cons (em_var (n := 2) (w := pairs_0) rfl rfl) am_nil)) (fun checked_1 =>
 (sm_ifR (g0 := fun _ => noR 7) (tm_not (tm_val (em_B (all_f rfl) T.all (by decide +kernel) (am_cons (em_frz (LcP.lm (lcp0 (own := [("exponent", 4), ("_", 5)]) (im_val (em_var (n := 3) (w := checked_1) rfl rfl)) (GWx.gw (gwx_tup (gwxs_cons (gwx_name (by decide)) mon_name (gwxs_cons (gwx_name (by decide)) mon_name gwxs_nil mons_nil) (mons_cons mon_name mons_nil))) (mon_tup (mons_cons mon_name (mons_cons mon_name mons_nil)))) (by intro k hk; simp at hk; rcases hk with rfl | rfl <;> rfl) (gm_tup (gms_cons gm_name fun _ => (gms_cons gm_name fun _ => gms_nil))) (fun x_2 _ _ _ _ _ => (em_callI c__is_exponent (hr.mono (by omega)) (am_cons (em_var (n := 4) (w := x_2.1) rfl rfl) (am_cons (em_var (n := 1) (w := n_0) rfl rfl) am_nil)))) sc_Letters_init.nd (blkOk_by (N := ["self", "n", "pairs", "checked", "exponent", "_", "sums"]) (sc := defScope s_Letters_init) (by decide +kernel)) (fun _ _ _ _ _ => (pg_tup rfl (pgs_cons (pg_name (i := 4) sc_Letters_init.nd rfl (by first | exact .inl rfl | exact .inr rfl)) (pgs_cons (pg_name (i := 5) sc_Letters_init.nd rfl (by first | exact .inl rfl | exact .inr rfl)) pgs_nil))))))) am_nil))))
 (by exact sm_bad)
 (sm_set (n := 6) sc_Letters_init.nd rfl rfl (em_callI c_added_up (hr.mono (by omega)) (am_cons (em_var (n := 3) (w := checked_1) rfl rfl) am_nil)) (fun sums_3 =>
 (sm_setA ix_2 (by rfl) (by decide) (em_var (n := 1) (w := n_0) rfl rfl) (em_var (n := 0) (w := self_0) rfl rfl) (sm_setA ix_2 (by rfl) (by decide) (em_tuple T.tuple (em_frz (LcP.lm (lcp0 (own := [("exponent", 4)]) (im_val (em_frz (lm_sortDR hr (em_frz (lm_listD rfl T.list (em_var (n := 6) (w := sums_3) rfl rfl))) (hp := by exact pe_callBK (cr_sortR2 hr) rfl T.sorted (by decide +kernel) pa_s (pk_cons pe_bl pk_nil))))) (GWx.gw (gwx_name (by decide)) mon_name) (by intro k hk; simp at hk; rcases hk with rfl <;> rfl) gm_name (fun x_4 _ _ _ _ _ => (em_tup (am_cons (em_var (n := 4) (w := x_4) rfl rfl) (am_cons (em_ixD hr (em_var (n := 6) (w := sums_3) rfl rfl) (em_var (n := 4) (w := x_4) rfl rfl)) am_nil)))) sc_Letters_init.nd (blkOk_by (N := ["self", "n", "pairs", "checked", "exponent", "_", "sums"]) (sc := defScope s_Letters_init) (by decide +kernel)) (fun _ _ _ _ _ => (pg_name (i := 4) sc_Letters_init.nd rfl (by first | exact .inl rfl | exact .inr rfl))))))) (em_var (n := 0) (w := self_0) rfl rfl) (sm_setA ix_2 (by rfl) (by decide) (em_var (n := 6) (w := sums_3) rfl rfl) (em_var (n := 0) (w := self_0) rfl rfl) (sm_nil (z := ()) (by exact le_noR rfl) (by exact LeR.refl)))))))))))))
abbrev s_Letters_is_symmetric : Stmt := inClass (top 38) 17
theorem sc_Letters_is_symmetric : FnScope ["self", "exponent", "coefficient", "k"] ["self"] (defScope s_Letters_is_symmetric) := ⟨rfl, rfl, rfl, by decide +kernel, rfl, by decide +kernel, by decide +kernel⟩
def g_Letters_is_symmetric (self_0 : W) : M (Res W Unit) :=
  (bd (sqM (fldM 2 1 (rt self_0))) fun ws => seqM (forM (stepM (tgT 2 (tgsC tgN (tgsC tgN tgs0))) fun x_1 (st_2 : Unit) => (bd (rg1 (binM (l2 pSub) (fldM 2 0 (rt self_0)) (rt (.dat (.int 1))))) fun ws => seqM (forM (stepM tgN fun x_3 (st_4 : Unit) => (ifM (bvM (neXM 0 m_Ratio_eq (dget0M (fldM 2 2 (rt self_0)) (callI 3 (apM (rt x_1.1) (apM (rt x_3) (apM (binM (l2 pAddX) (rt x_3) (rt (.dat (.int 1)))) (rt [])))) m__swapped)) (rt x_1.2.1))) (retE (bd (rt (.dat (.bool false))) fun w => rt (.ret w))) (rt (.nxt ())))) ws ()) fun st_4 => (rt (.nxt ())))) ws ()) fun st_2 => (bd (rt (.dat (.bool true))) fun w => rt (.ret w)))
def b_Letters_is_symmetric : List W → M (Res W Unit)
  | [self_0] => g_Letters_is_symmetric self_0
  | _ => fun _ => .bad
def m_Letters_is_symmetric (ws : List W) : M W := finM (b_Letters_is_symmetric ws)
set_option maxHeartbeats 4000000 in
theorem ok_Letters_is_symmetric {P : Program} {w : World} {K : PySem.W.Frag} {mg : Str → Option Value} {base : Heap} {f : Addr} {fd : FuncData} (F : FunY K "is_symmetric" "Letters.is_symmetric" s_Letters_is_symmetric f fd) (T : MgB mg) (co_Ratio_eq : CalO P w K mg base 2 0 "__eq__" ["self", "other"] 2 m_Ratio_eq) {D_0 : Addr} (ii_0 : InsI K mg 0 D_0) {C_2 : Addr} (ix_2 : InsX K mg 2 C_2) (nu_0 : InsU K 0) (nx_0 : InsN K 0) (c__swapped : CalM P w K mg base 2 "_swapped" ["exponent", "i", "j"] 3 m__swapped) : FnOk P w K mg base (L2.CX P w) 4 f fd ["self"] (spM K w mg 1 m_Letters_is_symmetric) :=
  defM (g := fun _ => noR 4) (mb := b_Letters_is_symmetric) F sc_Letters_is_symmetric (by decide) (fun cdv A outer s H E hr hp ws hlen => by
    match ws, hlen with
    | [self_0], _ =>
      show SM _ _ _ _ (g_Letters_is_symmetric self_0) _
      unfold g_Letters_is_symmetric
      exact (
(sm_for (F := fun (st_2 : Unit) => [some self_0, none, none, none]) (Fb := fun x_1 (st_2 : Unit) => [some self_0, some x_1.1, some x_1.2.1, none]) (z0 := ()) (im_val (em_fld ix_2 (by rfl) (em_var (n := 0) (w := self_0) rfl rfl))) (pg_tup rfl (pgs_cons (pg_name (i := 1) sc_Letters_is_symmetric.nd rfl (by first | exact .inl rfl | exact .inr rfl)) (pgs_cons (pg_name (i := 2) sc_Letters_is_symmetric.nd rfl (by first | exact .inl rfl | exact .inr rfl)) pgs_nil))) (by exact (.keep (.drop (.drop (.drop LeR.nil))))) (by exact le_noR rfl) (fun _ => (gm_tup (gms_cons gm_name fun _ => (gms_cons gm_name fun _ => gms_nil)))) (fun _ _ => by exact le_noR rfl) (fun x_1 st_2 => by exact (
 (sm_for (F := fun (st_4 : Unit) => [some self_0, some x_1.1, some x_1.2.1, none]) (Fb := fun x_3 (st_4 : Unit) => [some self_0, some x_1.1, some x_1.2.1, some x_3]) (z0 := ()) (im_range1 T.range (em_bin sub_f (em_fld ix_2 (by rfl) (em_var (n := 0) (w := self_0) rfl rfl)) em_int)) (pg_name (i := 3) sc_Letters_is_symmetric.nd rfl (by first | exact .inl rfl | exact .inr rfl)) (by exact (.keep (.keep (.keep (.drop LeR.nil))))) (by exact le_noR rfl) (fun _ => gm_name) (fun _ _ => by exact le_noR rfl) (fun x_3 st_4 => by exact (
 (sm_ifR (g0 := fun _ => noR 4) (tm_neX co_Ratio_eq ii_0 nx_0 nu_0 (hr.mono (by omega)) (em_dget0 hr (em_fld ix_2 (by rfl) (em_var (n := 0) (w := self_0) rfl rfl)) (em_callI c__swapped (hr.mono (by omega)) (am_cons (em_var (n := 1) (w := x_1.1) rfl rfl) (am_cons (em_var (n := 3) (w := x_3) rfl rfl) (am_cons (em_bin add_f (em_var (n := 3) (w := x_3) rfl rfl) em_int) am_nil))))) (em_var (n := 2) (w := x_1.2.1) rfl rfl))
 (sm_ret em_bl)
 (sm_nil (z := ()) (by exact (.keep (.keep (.keep (.drop LeR.nil))))) (by exact le_noR rfl))))) (fun st_4 => by exact (
 (sm_nil (z := ()) (by exact (.keep (.drop (.drop (.drop LeR.nil))))) (by exact le_noR rfl)))) hp))) (fun st_2 => by exact (
 (sm_ret em_bl))) hp)))
end K10
noncomputable section
namespace K10
open PySem L2 Pd Gn PySem.Spec PyProof.Rows Zq Hx
abbrev s__law_gcd : Stmt := top 43
theorem sc__law_gcd : FnScope ["a", "b"] ["a", "b"] (defScope s__law_gcd) := ⟨rfl, rfl, rfl, by decide +kernel, rfl, by decide +kernel, by decide +kernel⟩
def g__law_gcd (a_0 b_0 : W) : M (Res W Unit) :=
  (bd (biM (u1 dAbs) (apM (rt a_0) (rt []))) fun a_1 => (bd (biM (u1 dAbs) (apM (rt b_0) (rt []))) fun b_2 => (seqM (whM (fun (st_3 : W × W) => (cmpM (c2 cNe) (rt st_3.2) (rt (.dat (.int 0))))) (fun st_3 => (bd (rt st_3.2) fun a_4 => bd (binM (l2 pMod) (biM (u1 dInt) (apM (rt st_3.1) (rt []))) (rt st_3.2)) fun b_5 => (rt (.nxt (a_4, b_5))))) 100 (a_1, b_2)) fun st_3 => (bd (rt st_3.1) fun w => rt (.ret w)))))
def b__law_gcd : List W → M (Res W Unit)
  | [a_0, b_0] => g__law_gcd a_0 b_0
  | _ => fun _ => .bad
def m__law_gcd (ws : List W) : M W := finM (b__law_gcd ws)
set_option maxHeartbeats 4000000 in
theorem ok__law_gcd {P : Program} {w : World} {K : PySem.W.Frag} {mg : Str → Option Value} {base : Heap} {f : Addr} {fd : FuncData} (F : FunY K "_law_gcd" "_law_gcd" s__law_gcd f fd) (T : MgB mg) : FnOk P w K mg base (L2.CX P w) 2 f fd ["a", "b"] (spM K w mg 2 m__law_gcd) :=
  defM (g := fun _ => noR 2) (mb := b__law_gcd) F sc__law_gcd (by decide) (fun cdv A outer s H E hr hp ws hlen => by
    match ws, hlen with
    | [a_0, b_0], _ =>
      show SM _ _ _ _ (g__law_gcd a_0 b_0) _
      unfold g__law_gcd
      exact (
(sm_set (n := 0) sc__law_gcd.nd rfl rfl (em_B abs_f T.abs (by decide +kernel) (am_cons (em_var (n := 0) (w := a_0) rfl rfl) am_nil)) (fun a_1 =>
 (sm_set (n := 1) sc__law_gcd.nd rfl rfl (em_B abs_f T.abs (by decide +kernel) (am_cons (em_var (n := 1) (w := b_0) rfl rfl) am_nil)) (fun b_2 =>
 (sm_while (f := fun (st_3 : W × W) => [some st_3.1, some st_3.2]) (z0 := (a_1, b_2)) rfl (fun st_3 => by exact (tm_cmp (neF hr) (em_var (n := 1) (w := st_3.2) rfl rfl) em_int)) (fun st_3 => by exact (
 (sm_par (i := 0) (j := 1) rfl sc__law_gcd.nd rfl rfl (by decide) rfl rfl (em_var (n := 1) (w := st_3.2) rfl rfl) (em_bin mod_f (em_Ty int_f T.int (by decide +kernel) (am_cons (em_var (n := 0) (w := st_3.1) rfl rfl) am_nil)) (em_var (n := 1) (w := st_3.2) rfl rfl)) (fun a_4 b_5 =>
 (sm_nil (z := (a_4, b_5)) (by exact (.keep (.keep LeR.nil))) (by exact le_noR rfl))) (ps_par rfl sc__law_gcd.nd rfl rfl (by decide) rfl rfl pa_s (by first | exact rfl | with_unfolding_all rfl))))) (fun st_3 => by exact (
 (sm_ret (em_var (n := 0) (w := st_3.1) rfl rfl)))) hp)))))))
abbrev s__law_frac : Stmt := top 44
theorem sc__law_frac : FnScope ["n", "d", "g"] ["n", "d"] (defScope s__law_frac) := ⟨rfl, rfl, rfl, by decide +kernel, rfl, by decide +kernel, by decide +kernel⟩
def g__law_frac (n_0 d_0 : W) : M (Res W Unit) :=
  (seqM (ifM (cmpM (c2 cLt) (rt d_0) (rt (.dat (.int 0)))) (bd (negM (rt n_0)) fun n_2 => bd (negM (rt d_0)) fun d_3 => (rt (.nxt (n_2, d_3)))) ((rt (.nxt (n_0, d_0))) : M (Res W (W × W)))) fun st_1 => (bd (callI 2 (apM (rt st_1.1) (apM (rt st_1.2) (rt []))) m__law_gcd) fun g_4 => (bd (tupM (apM (binM (l2 pFdiv) (rt st_1.1) (rt g_4)) (apM (binM (l2 pFdiv) (rt st_1.2) (rt g_4)) (rt [])))) fun w => rt (.ret w))))
def b__law_frac : List W → M (Res W Unit)
  | [n_0, d_0] => g__law_frac n_0 d_0
  | _ => fun _ => .bad
def m__law_frac (ws : List W) : M W := finM (b__law_frac ws)
set_option maxHeartbeats 4000000 in
theorem ok__law_frac {P : Program} {w : World} {K : PySem.W.Frag} {mg : Str → Option Value} {base : Heap} {f : Addr} {fd : FuncData} (F : FunY K "_law_frac" "_law_frac" s__law_frac f fd) (T : MgB mg) (c__law_gcd : CalM P w K mg base 2 "_law_gcd" ["a", "b"] 2 m__law_gcd) : FnOk P w K mg base (L2.CX P w) 3 f fd ["n", "d"] (spM K w mg 2 m__law_frac) :=
  defM (g := fun _ => noR 3) (mb := b__law_frac) F sc__law_frac (by decide) (fun cdv A outer s H E hr hp ws hlen => by
    match ws, hlen with
    | [n_0, d_0], _ =>
      show SM _ _ _ _ (g__law_frac n_0 d_0) _
      unfold g__law_frac
      exact (
(sm_if (g1 := fun (st_1 : W × W) => [some st_1.1, some st_1.2, none]) (tm_cmp (ltF hr) (em_var (n := 1) (w := d_0) rfl rfl) em_int)
 (sm_par (i := 0) (j := 1) rfl sc__law_frac.nd rfl rfl (by decide) rfl rfl (em_neg (em_var (n := 0) (w := n_0) rfl rfl)) (em_neg (em_var (n := 1) (w := d_0) rfl rfl)) (fun n_2 d_3 =>
 (sm_nil (z := (n_2, d_3)) (by exact (.keep (.keep (.drop LeR.nil)))) (by exact le_noR rfl))) (ps_par rfl sc__law_frac.nd rfl rfl (by decide) rfl rfl pa_s (by first | exact rfl | with_unfolding_all rfl)))
 (sm_nil (z := (n_0, d_0)) (by exact (.keep (.keep (.drop LeR.nil)))) (by exact le_noR rfl))
 (fun st_1 => (sm_set (n := 2) sc__law_frac.nd rfl rfl (em_callI c__law_gcd (hr.mono (by omega)) (am_cons (em_var (n := 0) (w := st_1.1) rfl rfl) (am_cons (em_var (n := 1) (w := st_1.2) rfl rfl) am_nil))) (fun g_4 =>
 (sm_ret (em_tup (am_cons (em_bin fdiv_f (em_var (n := 0) (w := st_1.1) rfl rfl) (em_var (n := 2) (w := g_4) rfl rfl)) (am_cons (em_bin fdiv_f (em_var (n := 1) (w := st_1.2) rfl rfl) (em_var (n := 2) (w := g_4) rfl rfl)) am_nil))))))))))
abbrev s__law_add : Stmt := top 45
theorem sc__law_add : FnScope ["a", "b"] ["a", "b"] (defScope s__law_add) := ⟨rfl, rfl, rfl, by decide +kernel, rfl, by decide +kernel, by decide +kernel⟩
def g__law_add (a_0 b_0 : W) : M (Res W Unit) :=
  (bd (callI 2 (apM (binM (l2 pAddX) (binM (l2 pMulY) (ixM (rt a_0) (rt (.dat (.int 0)))) (ixM (rt b_0) (rt (.dat (.int 1))))) (binM (l2 pMulY) (ixM (rt b_0) (rt (.dat (.int 0)))) (ixM (rt a_0) (rt (.dat (.int 1)))))) (apM (binM (l2 pMulY) (ixM (rt a_0) (rt (.dat (.int 1)))) (ixM (rt b_0) (rt (.dat (.int 1))))) (rt []))) m__law_frac) fun w => rt (.ret w))
def b__law_add : List W → M (Res W Unit)
  | [a_0, b_0] => g__law_add a_0 b_0
  | _ => fun _ => .bad
def m__law_add (ws : List W) : M W := finM (b__law_add ws)
set_option maxHeartbeats 4000000 in
theorem ok__law_add {P : Program} {w : World} {K : PySem.W.Frag} {mg : Str → Option Value} {base : Heap} {f : Addr} {fd : FuncData} (F : FunY K "_law_add" "_law_add" s__law_add f fd) (T : MgB mg) (c__law_frac : CalM P w K mg base 3 "_law_frac" ["n", "d"] 2 m__law_frac) : FnOk P w K mg base (L2.CX P w) 4 f fd ["a", "b"] (spM K w mg 2 m__law_add) :=
  defM (g := fun _ => noR 2) (mb := b__law_add) F sc__law_add (by decide) (fun cdv A outer s H E hr hp ws hlen => by
    match ws, hlen with
    | [a_0, b_0], _ =>
      show SM _ _ _ _ (g__law_add a_0 b_0) _
      unfold g__law_add
      exact (
(sm_ret (em_callI c__law_frac (hr.mono (by omega)) (am_cons (em_bin add_f (em_bin mul_f (em_ix (em_var (n := 0) (w := a_0) rfl rfl) em_int) (em_ix (em_var (n := 1) (w := b_0) rfl rfl) em_int)) (em_bin mul_f (em_ix (em_var (n := 1) (w := b_0) rfl rfl) em_int) (em_ix (em_var (n := 0) (w := a_0) rfl rfl) em_int))) (am_cons (em_bin mul_f (em_ix (em_var (n := 0) (w := a_0) rfl rfl) em_int) (em_ix (em_var (n := 1) (w := b_0) rfl rfl) em_int)) am_nil))))))
abbrev s__law_item : Stmt := top 46
theorem sc__law_item : FnScope ["state"] ["state"] (defScope s__law_item) := ⟨rfl, rfl, rfl, by decide +kernel, rfl, by decide +kernel, by decide +kernel⟩
def g__law_item (state_0 : W) : M (Res W Unit) :=
  (bd (callI 2 (apM (binM (l2 pSub) (callM 2 (apM (rt state_0) (apM (rt (.dat (.int 5))) (rt []))) m__law_take) (rt (.dat (.int 2)))) (apM (binM (l2 pAddX) (rt (.dat (.int 1))) (biM (u1 dInt) (apM (bW (cmpM (c2 cEq) (callM 2 (apM (rt state_0) (apM (rt (.dat (.int 5))) (rt []))) m__law_take) (rt (.dat (.int 0))))) (rt [])))) (rt []))) m__law_frac) fun w => rt (.ret w))
def b__law_item : List W → M (Res W Unit)
  | [state_0] => g__law_item state_0
  | _ => fun _ => .bad
def m__law_item (ws : List W) : M W := finM (b__law_item ws)
set_option maxHeartbeats 4000000 in
theorem ok__law_item {P : Program} {w : World} {K : PySem.W.Frag} {mg : Str → Option Value} {base : Heap} {f : Addr} {fd : FuncData} (F : FunY K "_law_item" "_law_item" s__law_item f fd) (T : MgB mg) (c__law_take : CalM P w K mg base 1 "_law_take" ["state", "m"] 2 m__law_take) (c__law_frac : CalM P w K mg base 3 "_law_frac" ["n", "d"] 2 m__law_frac) : FnOk P w K mg base (L2.CX P w) 4 f fd ["state"] (spM K w mg 1 m__law_item) :=
  defM (g := fun _ => noR 1) (mb := b__law_item) F sc__law_item (by decide) (fun cdv A outer s H E hr hp ws hlen => by
    match ws, hlen with
    | [state_0], _ =>
      show SM _ _ _ _ (g__law_item state_0) _
      unfold g__law_item
      exact (
(sm_ret (em_callI c__law_frac (hr.mono (by omega)) (am_cons (em_bin sub_f (em_call c__law_take (hr.mono (by omega)) (am_cons (em_var (n := 0) (w := state_0) rfl rfl) (am_cons em_int am_nil))) em_int) (am_cons (em_bin add_f em_int (em_Ty int_f T.int (by decide +kernel) (am_cons (em_cmp (eqF hr) (em_call c__law_take (hr.mono (by omega)) (am_cons (em_var (n := 0) (w := state_0) rfl rfl) (am_cons em_int am_nil))) em_int) am_nil))) am_nil))))))
abbrev s__law_ratio : Stmt := top 47
theorem sc__law_ratio : FnScope ["q"] ["q"] (defScope s__law_ratio) := ⟨rfl, rfl, rfl, by decide +kernel, rfl, by decide +kernel, by decide +kernel⟩
def g__law_ratio (q_0 : W) : M (Res W Unit) :=
  (bd (makeM 0 3 [] (apM (ixM (rt q_0) (rt (.dat (.int 0)))) (apM (ixM (rt q_0) (rt (.dat (.int 1)))) (rt []))) m_Ratio_init) fun w => rt (.ret w))
def b__law_ratio : List W → M (Res W Unit)
  | [q_0] => g__law_ratio q_0
  | _ => fun _ => .bad
def m__law_ratio (ws : List W) : M W := finM (b__law_ratio ws)
set_option maxHeartbeats 4000000 in
theorem ok__law_ratio {P : Program} {w : World} {K : PySem.W.Frag} {mg : Str → Option Value} {base : Heap} {f : Addr} {fd : FuncData} (F : FunY K "_law_ratio" "_law_ratio" s__law_ratio f fd) (T : MgB mg) (cc_Ratio_2 : CalC P w K mg base 2 0 ["self", "n", "d"] 3 [] m_Ratio_init) : FnOk P w K mg base (L2.CX P w) 4 f fd ["q"] (spM K w mg 1 m__law_ratio) :=
  defM (g := fun _ => noR 1) (mb := b__law_ratio) F sc__law_ratio (by decide) (fun cdv A outer s H E hr hp ws hlen => by
    match ws, hlen with
    | [q_0], _ =>
      show SM _ _ _ _ (g__law_ratio q_0) _
      unfold g__law_ratio
      exact (
(sm_ret (em_make cc_Ratio_2 rfl (hr.mono (by omega)) (am_cons (em_ix (em_var (n := 0) (w := q_0) rfl rfl) em_int) (am_cons (em_ix (em_var (n := 0) (w := q_0) rfl rfl) em_int) am_nil))))))
abbrev s__law_plus : Stmt := top 48
theorem sc__law_plus : FnScope ["table", "exponent", "c", "total_v"] ["table", "exponent", "c"] (defScope s__law_plus) := ⟨rfl, rfl, rfl, by decide +kernel, rfl, by decide +kernel, by decide +kernel⟩
def g__law_plus (table_0 exponent_0 c_0 : W) : M (Res W Unit) :=
  (bd (callI 2 (apM (dgetM (rt table_0) (rt exponent_0) (tupM (apM (rt (.dat (.int 0))) (apM (rt (.dat (.int 1))) (rt []))))) (apM (rt c_0) (rt []))) m__law_add) fun total_v_1 => (seqM (ifM (cmpM (c2 cEq) (ixM (rt total_v_1) (rt (.dat (.int 0)))) (rt (.dat (.int 0)))) (bd (popDM (rt table_0) (rt exponent_0) (rt (.dat .none))) fun _ => (rt (.nxt ()))) ((bd (setD (rt total_v_1) (rt table_0) (rt exponent_0)) fun _ => (rt (.nxt ()))) : M (Res W (Unit)))) fun st_2 => (rt (.nxt ()))))
def b__law_plus : List W → M (Res W Unit)
  | [table_0, exponent_0, c_0] => g__law_plus table_0 exponent_0 c_0
  | _ => fun _ => .bad
def m__law_plus (ws : List W) : M W := finM (b__law_plus ws)
set_option maxHeartbeats 4000000 in
theorem ok__law_plus {P : Program} {w : World} {K : PySem.W.Frag} {mg : Str → Option Value} {base : Heap} {f : Addr} {fd : FuncData} (F : FunY K "_law_plus" "_law_plus" s__law_plus f fd) (T : MgB mg) (c__law_add : CalM P w K mg base 4 "_law_add" ["a", "b"] 2 m__law_add) : FnOk P w K mg base (L2.CX P w) 5 f fd ["table", "exponent", "c"] (spM K w mg 3 m__law_plus) :=
  defM (g := fun _ => noR 4) (mb := b__law_plus) F sc__law_plus (by decide) (fun cdv A outer s H E hr hp ws hlen => by
    match ws, hlen with
    | [table_0, exponent_0, c_0], _ =>
      show SM _ _ _ _ (g__law_plus table_0 exponent_0 c_0) _
      unfold g__law_plus
      exact (
(sm_set (n := 3) sc__law_plus.nd rfl rfl (em_callI c__law_add (hr.mono (by omega)) (am_cons (em_dgetD hr (em_var (n := 0) (w := table_0) rfl rfl) (em_var (n := 1) (w := exponent_0) rfl rfl) (em_tup (am_cons em_int (am_cons em_int am_nil)))) (am_cons (em_var (n := 2) (w := c_0) rfl rfl) am_nil))) (fun total_v_1 =>
 (sm_if (g1 := fun (st_2 : Unit) => [some table_0, some exponent_0, some c_0, some total_v_1]) (tm_cmp (eqF hr) (em_ix (em_var (n := 3) (w := total_v_1) rfl rfl) em_int) em_int)
 (sm_expr (em_popD hr (em_var (n := 0) (w := table_0) rfl rfl) (em_var (n := 1) (w := exponent_0) rfl rfl) em_non)
 (sm_nil (z := ()) (by exact (.keep (.keep (.keep (.keep LeR.nil))))) (by exact le_noR rfl)))
 (sm_putD hr (em_var (n := 3) (w := total_v_1) rfl rfl) (em_var (n := 0) (w := table_0) rfl rfl) (em_var (n := 1) (w := exponent_0) rfl rfl) (sm_nil (z := ()) (by exact (.keep (.keep (.keep (.keep LeR.nil))))) (by exact le_noR rfl)) (ps_asg pe_s (pg_sub pe_s pe_s wSet_r)))
 (fun st_2 => (sm_nil (z := ()) (by exact le_noR rfl) (by exact LeR.refl))))))))
abbrev s__law_drawn : Stmt := top 49
theorem sc__law_drawn : FnScope ["state", "n", "most", "table", "turn", "exponent", "k"] ["state", "n", "most"] (defScope s__law_drawn) := ⟨rfl, rfl, rfl, by decide +kernel, rfl, by decide +kernel, by decide +kernel⟩
def g__law_drawn (state_0 n_0 most_0 : W) : M (Res W Unit) :=
  (bd dnewM fun table_1 => (bd (rg1 (callM 2 (apM (rt state_0) (apM (rt (.dat (.int 5))) (rt []))) m__law_take)) fun ws => seqM (forM (stepM tgN fun x_2 (st_3 : Unit) => (bd (toM (frzW (lc1 tgN (fun _ => rt true) (fun x_5 => (callM 2 (apM (rt state_0) (apM (binM (l2 pAddX) (rt most_0) (rt (.dat (.int 1)))) (rt []))) m__law_take)) (rg1 (rt n_0))))) fun exponent_4 => (bd (callM 3 (apM (rt table_1) (apM (rt exponent_4) (apM (callM 1 (apM (rt state_0) (rt [])) m__law_item) (rt [])))) m__law_plus) fun _ => (rt (.nxt ()))))) ws ()) fun st_3 => (bd (frzDM table_1) fun table_6 => (bd (rt table_6) fun w => rt (.ret w)))))
def b__law_drawn : List W → M (Res W Unit)
  | [state_0, n_0, most_0] => g__law_drawn state_0 n_0 most_0
  | _ => fun _ => .bad
def m__law_drawn (ws : List W) : M W := finM (b__law_drawn ws)
set_option maxHeartbeats 4000000 in
theorem ok__law_drawn {P : Program} {w : World} {K : PySem.W.Frag} {mg : Str → Option Value} {base : Heap} {f : Addr} {fd : FuncData} (F : FunY K "_law_drawn" "_law_drawn" s__law_drawn f fd) (T : MgB mg) (c__law_take : CalM P w K mg base 1 "_law_take" ["state", "m"] 2 m__law_take) (c__law_item : CalM P w K mg base 4 "_law_item" ["state"] 1 m__law_item) (c__law_plus : CalM P w K mg base 5 "_law_plus" ["table", "exponent", "c"] 3 m__law_plus) : FnOk P w K mg base (L2.CX P w) 6 f fd ["state", "n", "most"] (spM K w mg 3 m__law_drawn) :=
  defM (g := fun _ => noR 7) (mb := b__law_drawn) F sc__law_drawn (by decide) (fun cdv A outer s H E hr hp ws hlen => by
    match ws, hlen with
    | [state_0, n_0, most_0], _ =>
      show SM _ _ _ _ (g__law_drawn state_0 n_0 most_0) _
      unfold g__law_drawn
      exact (
(sm_set (n := 3) sc__law_drawn.nd rfl rfl em_dnew (fun table_1 =>
 (sm_for (F := fun (st_3 : Unit) => [some state_0, some n_0, some most_0, some table_1, none, none, none]) (Fb := fun x_2 (st_3 : Unit) => [some state_0, some n_0, some most_0, some table_1, some x_2, none, none]) (z0 := ()) (im_range1 T.range (em_call c__law_take (hr.mono (by omega)) (am_cons (em_var (n := 0) (w := state_0) rfl rfl) (am_cons em_int am_nil)))) (pg_name (i := 4) sc__law_drawn.nd rfl (by first | exact .inl rfl | exact .inr rfl)) (by exact (.keep (.keep (.keep (.keep (.drop (.drop (.drop LeR.nil)))))))) (by exact le_noR rfl) (fun _ => gm_name) (fun _ _ => by exact le_noR rfl) (fun x_2 st_3 => by exact (
 (sm_set (n := 5) sc__law_drawn.nd rfl rfl (em_tuple T.tuple (em_frz (LcP.lm (lcp0 (own := [("k", 6)]) (im_range1 T.range (em_var (n := 1) (w := n_0) rfl rfl)) (GWx.gw (gwx_name (by decide)) mon_name) (by intro k hk; simp at hk; rcases hk with rfl <;> rfl) gm_name (fun x_5 _ _ _ _ _ => (em_call c__law_take (hr.mono (by omega)) (am_cons (em_var (n := 0) (w := state_0) rfl rfl) (am_cons (em_bin add_f (em_var (n := 2) (w := most_0) rfl rfl) em_int) am_nil)))) sc__law_drawn.nd (blkOk_by (N := ["state", "n", "most", "table", "turn", "exponent", "k"]) (sc := defScope s__law_drawn) (by decide +kernel)) (fun _ _ _ _ _ => (pg_name (i := 6) sc__law_drawn.nd rfl (by first | exact .inl rfl | exact .inr rfl))))))) (fun exponent_4 =>
 (sm_expr (em_call c__law_plus (hr.mono (by omega)) (am_cons (em_var (n := 3) (w := table_1) rfl rfl) (am_cons (em_var (n := 5) (w := exponent_4) rfl rfl) (am_cons (em_call c__law_item (hr.mono (by omega)) (am_cons (em_var (n := 0) (w := state_0) rfl rfl) am_nil)) am_nil))))
 (sm_nil (z := ()) (by exact (.keep (.keep (.keep (.keep (.drop (.drop (.drop LeR.nil)))))))) (by exact le_noR rfl))))))) (fun st_3 => by exact (
 (sm_frzD (n := 3) (w := table_1) rfl rfl (fun table_6 => (sm_ret (em_var (n := 3) (w := table_6) rfl rfl)))))) hp)))))
abbrev s__law_letters : Stmt := top 50
theorem sc__law_letters : FnScope ["n", "table", "exponent"] ["n", "table"] (defScope s__law_letters) := ⟨rfl, rfl, rfl, by decide +kernel, rfl, by decide +kernel, by decide +kernel⟩
def g__law_letters (n_0 table_0 : W) : M (Res W Unit) :=
  (bd (makeM 2 3 [] (apM (rt n_0) (apM (frzW (lc1 tgN (fun _ => rt true) (fun x_1 => (tupM (apM (rt x_1) (apM (callI 1 (apM (ixD (rt table_0) (rt x_1)) (rt [])) m__law_ratio) (rt []))))) (sqD (rt table_0)))) (rt []))) m_Letters_init) fun w => rt (.ret w))
def b__law_letters : List W → M (Res W Unit)
  | [n_0, table_0] => g__law_letters n_0 table_0
  | _ => fun _ => .bad
def m__law_letters (ws : List W) : M W := finM (b__law_letters ws)
set_option maxHeartbeats 4000000 in
theorem ok__law_letters {P : Program} {w : World} {K : PySem.W.Frag} {mg : Str → Option Value} {base : Heap} {f : Addr} {fd : FuncData} (F : FunY K "_law_letters" "_law_letters" s__law_letters f fd) (T : MgB mg) (cc_Letters_2 : CalC P w K mg base 6 2 ["self", "n", "pairs"] 3 [] m_Letters_init) (c__law_ratio : CalM P w K mg base 4 "_law_ratio" ["q"] 1 m__law_ratio) : FnOk P w K mg base (L2.CX P w) 8 f fd ["n", "table"] (spM K w mg 2 m__law_letters) :=
  defM (g := fun _ => noR 3) (mb := b__law_letters) F sc__law_letters (by decide) (fun cdv A outer s H E hr hp ws hlen => by
    match ws, hlen with
    | [n_0, table_0], _ =>
      show SM _ _ _ _ (g__law_letters n_0 table_0) _
      unfold g__law_letters
      exact (
(sm_ret (em_make cc_Letters_2 rfl (hr.mono (by omega)) (am_cons (em_var (n := 0) (w := n_0) rfl rfl) (am_cons (em_frz (LcP.lm (lcp0 (own := [("exponent", 2)]) (im_valD (em_var (n := 1) (w := table_0) rfl rfl)) (GWx.gw (gwx_name (by decide)) mon_name) (by intro k hk; simp at hk; rcases hk with rfl <;> rfl) gm_name (fun x_1 _ _ _ _ _ => (em_tup (am_cons (em_var (n := 2) (w := x_1) rfl rfl) (am_cons (em_callI c__law_ratio (hr.mono (by omega)) (am_cons (em_ixD hr (em_var (n := 1) (w := table_0) rfl rfl) (em_var (n := 2) (w := x_1) rfl rfl)) am_nil)) am_nil)))) sc__law_letters.nd (blkOk_by (N := ["n", "table", "exponent"]) (sc := defScope s__law_letters) (by decide +kernel)) (fun _ _ _ _ _ => (pg_name (i := 2) sc__law_letters.nd rfl (by first | exact .inl rfl | exact .inr rfl)))))) am_nil))))))
abbrev s__law_orders : Stmt := top 51
theorem sc__law_orders : FnScope ["v", "found", "k", "rest"] ["v"] (defScope s__law_orders) := ⟨rfl, rfl, rfl, by decide +kernel, rfl, by decide +kernel, by decide +kernel⟩
def g__law_orders (rec : List W → M W) (v_0 : W) : M (Res W Unit) :=
  (ifM (cmpM (c2 cEq) (biM fLen (apM (rt v_0) (rt []))) (rt (.dat (.int 0)))) (retE (bd (frzW (lstM (apM (tupM (rt [])) (rt [])))) fun w => rt (.ret w))) (bd (ownW (lstM (rt []))) fun found_1 => (bd (rg1 (biM fLen (apM (rt v_0) (rt [])))) fun ws => seqM (forM (stepM tgN fun x_2 (st_3 : Unit) => (bd (sqM (callI 1 (apM (binM (l2 pAddX) (slM (rt v_0) (rt none) (soM (rt x_2))) (slM (rt v_0) (soM (binM (l2 pAddX) (rt x_2) (rt (.dat (.int 1))))) (rt none))) (rt [])) rec)) fun ws => seqM (forM (stepM tgN fun x_4 (st_5 : Unit) => (bd (appM (rt found_1) (binM (l2 pAddX) (tupM (apM (ixM (rt v_0) (rt x_2)) (rt []))) (rt x_4))) fun _ => (rt (.nxt ())))) ws ()) fun st_5 => (rt (.nxt ())))) ws ()) fun st_3 => (bd (frzM found_1) fun found_6 => (bd (rt found_6) fun w => rt (.ret w))))))
def b__law_orders (rec : List W → M W) : List W → M (Res W Unit)
  | [v_0] => g__law_orders rec v_0
  | _ => fun _ => .bad
def r__law_orders : Nat → List W → M W
  | 0, _ => fun _ => .bad
  | n + 1, ws => finM (b__law_orders (r__law_orders n) ws)
def m__law_orders : List W → M W := r__law_orders 9
set_option maxHeartbeats 4000000 in
theorem ok__law_orders {P : Program} {w : World} {K : PySem.W.Frag} {mg : Str → Option Value} {base : Heap} {f : Addr} {fd : FuncData} (F : FunY K "_law_orders" "_law_orders" s__law_orders f fd) (T : MgB mg) (m0 : mg "_law_orders" = some (.ref f)) (b0 : Binds K fd ["v"] []) : ∀ n : Nat, FnOk P w K mg base (L2.CX P w) (1 + n) f fd ["v"] (spM K w mg 1 (r__law_orders n))
  | 0 => FnOk.bad rfl
  | n + 1 => by
    have ih := ok__law_orders (P := P) (w := w) (base := base) F T m0 b0 n
    have c__law_orders : CalM P w K mg base (1 + n) "_law_orders" ["v"] 1 (r__law_orders n) := ⟨f, fd, ih, m0, F.kp, b0⟩
    exact defM (g := fun _ => noR 4) (mb := b__law_orders (r__law_orders n)) F sc__law_orders (by decide) (fun cdv A outer s H E hr hp ws hlen => by
    match ws, hlen with
    | [v_0], _ =>
      show SM _ _ _ _ (g__law_orders (r__law_orders n) v_0) _
      unfold g__law_orders
      exact (
(sm_ifR (g0 := fun _ => noR 4) (tm_cmp (eqF hr) (em_B len_f T.len (by decide +kernel) (am_cons (em_var (n := 0) (w := v_0) rfl rfl) am_nil)) em_int)
 (sm_ret (em_frz (lm_lst (am_cons (em_tup am_nil) am_nil))))
 (sm_set (n := 1) sc__law_orders.nd rfl rfl (em_own (lm_lst am_nil)) (fun found_1 =>
 (sm_for (F := fun (st_3 : Unit) => [some v_0, some found_1, none, none]) (Fb := fun x_2 (st_3 : Unit) => [some v_0, some found_1, some x_2, none]) (z0 := ()) (im_range1 T.range (em_B len_f T.len (by decide +kernel) (am_cons (em_var (n := 0) (w := v_0) rfl rfl) am_nil))) (pg_name (i := 2) sc__law_orders.nd rfl (by first | exact .inl rfl | exact .inr rfl)) (by exact (.keep (.keep (.drop (.drop LeR.nil))))) (by exact le_noR rfl) (fun _ => gm_name) (fun _ _ => by exact le_noR rfl) (fun x_2 st_3 => by exact (
 (sm_for (F := fun (st_5 : Unit) => [some v_0, some found_1, some x_2, none]) (Fb := fun x_4 (st_5 : Unit) => [some v_0, some found_1, some x_2, some x_4]) (z0 := ()) (im_val (em_callI c__law_orders hr (am_cons (em_bin add_f (em_cut (em_var (n := 0) (w := v_0) rfl rfl) om_none (om_some (em_var (n := 2) (w := x_2) rfl rfl))) (em_cut (em_var (n := 0) (w := v_0) rfl rfl) (om_some (em_bin add_f (em_var (n := 2) (w := x_2) rfl rfl) em_int)) om_none)) am_nil))) (pg_name (i := 3) sc__law_orders.nd rfl (by first | exact .inl rfl | exact .inr rfl)) (by exact (.keep (.keep (.keep (.drop LeR.nil))))) (by exact le_noR rfl) (fun _ => gm_name) (fun _ _ => by exact le_noR rfl) (fun x_4 st_5 => by exact (
 (sm_expr (em_append (em_var (n := 1) (w := found_1) rfl rfl) (em_bin add_f (em_tup (am_cons (em_ix (em_var (n := 0) (w := v_0) rfl rfl) (em_var (n := 2) (w := x_2) rfl rfl)) am_nil)) (em_var (n := 3) (w := x_4) rfl rfl)) (pe_bm PySem.F.plainAttrs_list PySem.F.slot_list_append PySem.F.type_list_append mt_append pe_s (pa_cons pe_s pa_nil)))
 (sm_nil (z := ()) (by exact (.keep (.keep (.keep (.drop LeR.nil))))) (by exact le_noR rfl))))) (fun st_5 => by exact (
 (sm_nil (z := ()) (by exact (.keep (.keep (.drop (.drop LeR.nil))))) (by exact le_noR rfl)))) hp))) (fun st_3 => by exact (
 (sm_frz (n := 1) (w := found_1) rfl rfl (fun found_6 => (sm_ret (em_var (n := 1) (w := found_6) rfl rfl)))))) hp))))))
abbrev s__law_is_symmetric : Stmt := top 52
theorem sc__law_is_symmetric : FnScope ["table", "v", "other"] ["table"] (defScope s__law_is_symmetric) := ⟨rfl, rfl, rfl, by decide +kernel, rfl, by decide +kernel, by decide +kernel⟩
def g__law_is_symmetric (table_0 : W) : M (Res W Unit) :=
  (bd (sqD (rt table_0)) fun ws => seqM (forM (stepM tgN fun x_1 (st_2 : Unit) => (bd (sqM (callI 1 (apM (rt x_1) (rt [])) m__law_orders)) fun ws => seqM (forM (stepM tgN fun x_3 (st_4 : Unit) => (ifM (cmpM (c2 cNe) (dget0M (rt table_0) (rt x_3)) (ixD (rt table_0) (rt x_1))) (retE (bd (rt (.dat (.bool false))) fun w => rt (.ret w))) (rt (.nxt ())))) ws ()) fun st_4 => (rt (.nxt ())))) ws ()) fun st_2 => (bd (rt (.dat (.bool true))) fun w => rt (.ret w)))
def b__law_is_symmetric : List W → M (Res W Unit)
  | [table_0] => g__law_is_symmetric table_0
  | _ => fun _ => .bad
def m__law_is_symmetric (ws : List W) : M W := finM (b__law_is_symmetric ws)
set_option maxHeartbeats 4000000 in
theorem ok__law_is_symmetric {P : Program} {w : World} {K : PySem.W.Frag} {mg : Str → Option Value} {base : Heap} {f : Addr} {fd : FuncData} (F : FunY K "_law_is_symmetric" "_law_is_symmetric" s__law_is_symmetric f fd) (T : MgB mg) (c__law_orders : CalM P w K mg base 10 "_law_orders" ["v"] 1 m__law_orders) : FnOk P w K mg base (L2.CX P w) 11 f fd ["table"] (spM K w mg 1 m__law_is_symmetric) :=
  defM (g := fun _ => noR 3) (mb := b__law_is_symmetric) F sc__law_is_symmetric (by decide) (fun cdv A outer s H E hr hp ws hlen => by
    match ws, hlen with
    | [table_0], _ =>
      show SM _ _ _ _ (g__law_is_symmetric table_0) _
      unfold g__law_is_symmetric
      exact (
(sm_for (F := fun (st_2 : Unit) => [some table_0, none, none]) (Fb := fun x_1 (st_2 : Unit) => [some table_0, some x_1, none]) (z0 := ()) (im_valD (em_var (n := 0) (w := table_0) rfl rfl)) (pg_name (i := 1) sc__law_is_symmetric.nd rfl (by first | exact .inl rfl | exact .inr rfl)) (by exact (.keep (.drop (.drop LeR.nil)))) (by exact le_noR rfl) (fun _ => gm_name) (fun _ _ => by exact le_noR rfl) (fun x_1 st_2 => by exact (
 (sm_for (F := fun (st_4 : Unit) => [some table_0, some x_1, none]) (Fb := fun x_3 (st_4 : Unit) => [some table_0, some x_1, some x_3]) (z0 := ()) (im_val (em_callI c__law_orders (hr.mono (by omega)) (am_cons (em_var (n := 1) (w := x_1) rfl rfl) am_nil))) (pg_name (i := 2) sc__law_is_symmetric.nd rfl (by first | exact .inl rfl | exact .inr rfl)) (by exact (.keep (.keep (.drop LeR.nil)))) (by exact le_noR rfl) (fun _ => gm_name) (fun _ _ => by exact le_noR rfl) (fun x_3 st_4 => by exact (
 (sm_ifR (g0 := fun _ => noR 3) (tm_cmp (neF hr) (em_dget0 hr (em_var (n := 0) (w := table_0) rfl rfl) (em_var (n := 2) (w := x_3) rfl rfl)) (em_ixD hr (em_var (n := 0) (w := table_0) rfl rfl) (em_var (n := 1) (w := x_1) rfl rfl)))
 (sm_ret em_bl)
 (sm_nil (z := ()) (by exact (.keep (.keep (.drop LeR.nil)))) (by exact le_noR rfl))))) (fun st_4 => by exact (
 (sm_nil (z := ()) (by exact (.keep (.drop (.drop LeR.nil)))) (by exact le_noR rfl)))) hp))) (fun st_2 => by exact (
 (sm_ret em_bl))) hp)))
end K10
noncomputable section
namespace K10
open PySem L2 Pd Gn PySem.Spec PyProof.Rows Zq Hx
abbrev s_law : Stmt := top 53
theorem sc_law : FnScope ["script", "state", "n", "one_v", "whole", "v", "other", "bent", "k", "table"] ["script"] (defScope s_law) := ⟨rfl, rfl, rfl, by decide +kernel, rfl, by decide +kernel, by decide +kernel⟩
def g_law (script_0 : W) : M (Res W Unit) :=
  (bd (callM 1 (apM (rt script_0) (rt [])) m__law_state) fun state_1 => (bd (callM 2 (apM (rt state_1) (apM (rt (.dat (.int 4))) (rt []))) m__law_take) fun n_2 => (bd (callM 3 (apM (rt state_1) (apM (rt n_2) (apM (rt (.dat (.int 3))) (rt [])))) m__law_drawn) fun one_v_3 => (bd dnewM fun whole_4 => (bd (sqD (rt one_v_3)) fun ws => seqM (forM (stepM tgN fun x_5 (st_6 : Unit) => (bd (sqM (callI 1 (apM (rt x_5) (rt [])) m__law_orders)) fun ws => seqM (forM (stepM tgN fun x_7 (st_8 : Unit) => (bd (callM 3 (apM (rt whole_4) (apM (rt x_7) (apM (ixD (rt one_v_3) (rt x_5)) (rt [])))) m__law_plus) fun _ => (rt (.nxt ())))) ws ()) fun st_8 => (rt (.nxt ())))) ws ()) fun st_6 => (bd (cpDM (rt whole_4)) fun bent_9 => (seqM (ifM (cmpM (c2 cGt) (rt n_2) (rt (.dat (.int 0)))) (bd (toM (frzW (lc1 tgN (fun _ => rt true) (fun x_12 => (callM 2 (apM (rt state_1) (apM (rt (.dat (.int 4))) (rt []))) m__law_take)) (rg1 (rt n_2))))) fun v_11 => (bd (callM 3 (apM (rt bent_9) (apM (rt v_11) (apM (tupM (apM (rt (.dat (.int 1))) (apM (rt (.dat (.int 1))) (rt [])))) (rt [])))) m__law_plus) fun _ => (rt (.nxt ())))) ((rt (.nxt ())) : M (Res W (Unit)))) fun st_10 => (bd (frzDM whole_4) fun whole_13 => (bd (frzDM bent_9) fun bent_14 => (bd (sqM (tupM (apM (rt one_v_3) (apM (rt whole_13) (apM (rt bent_14) (rt [])))))) fun ws => seqM (forM (stepM tgN fun x_15 (st_16 : Unit) => (ifM (cmpM (c2 cNe) (methM 2 1 (callI 2 (apM (rt n_2) (apM (rt x_15) (rt []))) m__law_letters) (rt []) m_Letters_is_symmetric) (callI 1 (apM (rt x_15) (rt [])) m__law_is_symmetric)) (retE (bd (rt (.dat (.bool false))) fun w => rt (.ret w))) (rt (.nxt ())))) ws ()) fun st_16 => (bd (rt (.dat (.bool true))) fun w => rt (.ret w))))))))))))
def b_law : List W → M (Res W Unit)
  | [script_0] => g_law script_0
  | _ => fun _ => .bad
def m_law (ws : List W) : M W := finM (b_law ws)
set_option maxHeartbeats 4000000 in
theorem ok_law {P : Program} {w : World} {K : PySem.W.Frag} {mg : Str → Option Value} {base : Heap} {f : Addr} {fd : FuncData} (F : Fun K "law" "law" s_law f fd) (T : MgB mg) (co_Letters_is_symmetric : CalO P w K mg base 4 2 "is_symmetric" ["self"] 1 m_Letters_is_symmetric) (zz_dict : mg "dict" = none) (c__law_state : CalM P w K mg base 1 "_law_state" ["script"] 1 m__law_state) (c__law_take : CalM P w K mg base 1 "_law_take" ["state", "m"] 2 m__law_take) (c__law_drawn : CalM P w K mg base 6 "_law_drawn" ["state", "n", "most"] 3 m__law_drawn) (c__law_orders : CalM P w K mg base 10 "_law_orders" ["v"] 1 m__law_orders) (c__law_plus : CalM P w K mg base 5 "_law_plus" ["table", "exponent", "c"] 3 m__law_plus) (c__law_letters : CalM P w K mg base 8 "_law_letters" ["n", "table"] 2 m__law_letters) (c__law_is_symmetric : CalM P w K mg base 11 "_law_is_symmetric" ["table"] 1 m__law_is_symmetric) : FnOk P w K mg base CX0 12 f fd ["script"] (spM0 K w 1 m_law) :=
  defM0 (g := fun _ => noR 10) (mb := b_law) F sc_law (by decide) (fun cdv A outer s H E hr hp ws hlen => by
    match ws, hlen with
    | [script_0], _ =>
      show SM _ _ _ _ (g_law script_0) _
      unfold g_law
      exact (
(sm_set (n := 1) sc_law.nd rfl rfl (em_call c__law_state (hr.mono (by omega)) (am_cons (em_var (n := 0) (w := script_0) rfl rfl) am_nil)) (fun state_1 =>
 (sm_set (n := 2) sc_law.nd rfl rfl (em_call c__law_take (hr.mono (by omega)) (am_cons (em_var (n := 1) (w := state_1) rfl rfl) (am_cons em_int am_nil))) (fun n_2 =>
 (sm_set (n := 3) sc_law.nd rfl rfl (em_call c__law_drawn (hr.mono (by omega)) (am_cons (em_var (n := 1) (w := state_1) rfl rfl) (am_cons (em_var (n := 2) (w := n_2) rfl rfl) (am_cons em_int am_nil)))) (fun one_v_3 =>
 (sm_set (n := 4) sc_law.nd rfl rfl em_dnew (fun whole_4 =>
 (sm_for (F := fun (st_6 : Unit) => [some script_0, some state_1, some n_2, some one_v_3, some whole_4, none, none, none, none, none]) (Fb := fun x_5 (st_6 : Unit) => [some script_0, some state_1, some n_2, some one_v_3, some whole_4, some x_5, none, none, none, none]) (z0 := ()) (im_valD (em_var (n := 3) (w := one_v_3) rfl rfl)) (pg_name (i := 5) sc_law.nd rfl (by first | exact .inl rfl | exact .inr rfl)) (by exact (.keep (.keep (.keep (.keep (.keep (.drop (.drop (.drop (.drop (.drop LeR.nil))))))))))) (by exact le_noR rfl) (fun _ => gm_name) (fun _ _ => by exact le_noR rfl) (fun x_5 st_6 => by exact (
 (sm_for (F := fun (st_8 : Unit) => [some script_0, some state_1, some n_2, some one_v_3, some whole_4, some x_5, none, none, none, none]) (Fb := fun x_7 (st_8 : Unit) => [some script_0, some state_1, some n_2, some one_v_3, some whole_4, some x_5, some x_7, none, none, none]) (z0 := ()) (im_val (em_callI c__law_orders (hr.mono (by omega)) (am_cons (em_var (n := 5) (w := x_5) rfl rfl) am_nil))) (pg_name (i := 6) sc_law.nd rfl (by first | exact .inl rfl | exact .inr rfl)) (by exact (.keep (.keep (.keep (.keep (.keep (.keep (.drop (.drop (.drop (.drop LeR.nil))))))))))) (by exact le_noR rfl) (fun _ => gm_name) (fun _ _ => by exact le_noR rfl) (fun x_7 st_8 => by exact (
 (sm_expr (em_call c__law_plus (hr.mono (by omega)) (am_cons (em_var (n := 4) (w := whole_4) rfl rfl) (am_cons (em_var (n := 6) (w := x_7) rfl rfl) (am_cons (em_ixD hr (em_var (n := 3) (w := one_v_3) rfl rfl) (em_var (n := 5) (w := x_5) rfl rfl)) am_nil))))
 (sm_nil (z := ()) (by exact (.keep (.keep (.keep (.keep (.keep (.keep (.drop (.drop (.drop (.drop LeR.nil))))))))))) (by exact le_noR rfl))))) (fun st_8 => by exact (
 (sm_nil (z := ()) (by exact (.keep (.keep (.keep (.keep (.keep (.drop (.drop (.drop (.drop (.drop LeR.nil))))))))))) (by exact le_noR rfl)))) hp))) (fun st_6 => by exact (
 (sm_set (n := 7) sc_law.nd rfl rfl (em_cpD (roomD2 hr) zz_dict (em_var (n := 4) (w := whole_4) rfl rfl)) (fun bent_9 =>
 (sm_if (g1 := fun (st_10 : Unit) => [some script_0, some state_1, some n_2, some one_v_3, some whole_4, none, none, some bent_9, none, none]) (tm_cmp gtF (em_var (n := 2) (w := n_2) rfl rfl) em_int)
 (sm_set (n := 5) sc_law.nd rfl rfl (em_tuple T.tuple (em_frz (LcP.lm (lcp0 (own := [("k", 8)]) (im_range1 T.range (em_var (n := 2) (w := n_2) rfl rfl)) (GWx.gw (gwx_name (by decide)) mon_name) (by intro k hk; simp at hk; rcases hk with rfl <;> rfl) gm_name (fun x_12 _ _ _ _ _ => (em_call c__law_take (hr.mono (by omega)) (am_cons (em_var (n := 1) (w := state_1) rfl rfl) (am_cons em_int am_nil)))) sc_law.nd (blkOk_by (N := ["script", "state", "n", "one_v", "whole", "v", "other", "bent", "k", "table"]) (sc := defScope s_law) (by decide +kernel)) (fun _ _ _ _ _ => (pg_name (i := 8) sc_law.nd rfl (by first | exact .inl rfl | exact .inr rfl))))))) (fun v_11 =>
 (sm_expr (em_call c__law_plus (hr.mono (by omega)) (am_cons (em_var (n := 7) (w := bent_9) rfl rfl) (am_cons (em_var (n := 5) (w := v_11) rfl rfl) (am_cons (em_tup (am_cons em_int (am_cons em_int am_nil))) am_nil))))
 (sm_nil (z := ()) (by exact (.keep (.keep (.keep (.keep (.keep (.drop (.drop (.keep (.drop (.drop LeR.nil))))))))))) (by exact le_noR rfl)))))
 (sm_nil (z := ()) (by exact (.keep (.keep (.keep (.keep (.keep (.drop (.drop (.keep (.drop (.drop LeR.nil))))))))))) (by exact le_noR rfl))
 (fun st_10 => (sm_frzD (n := 4) (w := whole_4) rfl rfl (fun whole_13 => (sm_frzD (n := 7) (w := bent_9) rfl rfl (fun bent_14 => (sm_for (F := fun (st_16 : Unit) => [some script_0, some state_1, some n_2, some one_v_3, some whole_13, none, none, some bent_14, none, none]) (Fb := fun x_15 (st_16 : Unit) => [some script_0, some state_1, some n_2, some one_v_3, some whole_13, none, none, some bent_14, none, some x_15]) (z0 := ()) (im_val (em_tup (am_cons (em_var (n := 3) (w := one_v_3) rfl rfl) (am_cons (em_var (n := 4) (w := whole_13) rfl rfl) (am_cons (em_var (n := 7) (w := bent_14) rfl rfl) am_nil))))) (pg_name (i := 9) sc_law.nd rfl (by first | exact .inl rfl | exact .inr rfl)) (by exact (.keep (.keep (.keep (.keep (.keep (.drop (.drop (.keep (.drop (.drop LeR.nil))))))))))) (by exact le_noR rfl) (fun _ => gm_name) (fun _ _ => by exact le_noR rfl) (fun x_15 st_16 => by exact (
 (sm_ifR (g0 := fun _ => noR 10) (tm_cmp (neF hr) (em_meth0 co_Letters_is_symmetric (by decide +kernel) (hr.mono (by omega)) (em_callI c__law_letters (hr.mono (by omega)) (am_cons (em_var (n := 2) (w := n_2) rfl rfl) (am_cons (em_var (n := 9) (w := x_15) rfl rfl) am_nil)))) (em_callI c__law_is_symmetric (hr.mono (by omega)) (am_cons (em_var (n := 9) (w := x_15) rfl rfl) am_nil)))
 (sm_ret em_bl)
 (sm_nil (z := ()) (by exact (.keep (.keep (.keep (.keep (.keep (.drop (.drop (.keep (.drop (.drop LeR.nil))))))))))) (by exact le_noR rfl))))) (fun st_16 => by exact (
 (sm_ret em_bl))) hp))))))))))) hp)))))))))))
end K10
set_option maxHeartbeats 1000000
set_option pp.maxSteps 300
noncomputable section
namespace K10
open PySem L2 Pd Gn PySem.Spec PyProof.Rows Zq Hx Sy KG
def nu (k : Int) : Int := match decide (k % 2 = 0) with | true => k / 2 | false => k
def de (k : Int) : Int := match decide (k % 2 = 0) with | true => 1 | false => 2
def frW (k : Int) : W := .dat (.tuple [.int (nu k), .int (de k)])
def rW (k : Int) : W := .ins 0 [.dat (.int (nu k)), .dat (.int (de k))]
def ky (v : List Nat) : NestedKey := .tup (v.map fun x : Nat => .num (x : Int))
theorem keysOf_nat : ∀ v : List Nat, keysOf (v.map iD) = some (v.map fun x : Nat => .num (x : Int))
  | [] => by simp [keysOf]
  | x :: v => by
    have ih := keysOf_nat v
    rw [List.map_cons, List.map_cons]
    show keysOf (.int (x : Int) :: v.map iD) = _
    simp only [keysOf, Hx.keyOf, ih]
    rfl
theorem ky_depth (v : List Nat) : (ky v).depth ≤ 8 := by
  have h : ∀ v : List Nat, NestedKey.depthAll (v.map fun x : Nat => NestedKey.num (x : Int)) ≤ 1 := fun v => by
    induction v with
    | nil => simp [NestedKey.depthAll]
    | cons x v ih => simp [NestedKey.depthAll, NestedKey.depth] at *; exact ih
  unfold ky
  simp only [NestedKey.depth]
  have := h v
  omega
theorem tkey_ky (v : List Nat) : tkey (tN v) = some (ky v) := by
  show ((Hx.keyOf (.tuple (v.map iD))).bind fun k => gd (Nat.ble k.depth 8) (some k)) = _
  simp only [Hx.keyOf, keysOf_nat]
  show gd (Nat.ble (ky v).depth 8) (some (ky v)) = _
  rw [Nat.ble_eq_true_of_le (ky_depth v)]
  rfl
theorem num_inj : ∀ {v w : List Nat}, v.map (fun x : Nat => NestedKey.num (x : Int)) = w.map (fun x : Nat => NestedKey.num (x : Int)) → v = w
  | [], [], _ => rfl
  | [], y :: w, h => by cases h
  | x :: v, [], h => by cases h
  | x :: v, y :: w, h => by
    rw [List.map_cons, List.map_cons] at h
    obtain ⟨h1, h2⟩ := List.cons.inj h
    have : (x : Int) = y := NestedKey.num.inj h1
    rw [num_inj h2, show x = y by omega]
theorem ky_inj {v w : List Nat} (h : ky v = ky w) : v = w := num_inj (NestedKey.tup.inj h)
theorem ky_beq (v w : List Nat) : NestedKey.beq (ky v) (ky w) = decide (v = w) := by
  by_cases c : v = w
  · rw [c, NestedKey.beq_self, decide_eq_true rfl]
  · rw [decide_eq_false c]
    cases z : NestedKey.beq (ky v) (ky w) with
    | false => rfl
    | true => exact absurd (ky_inj (NestedKey.eq_of_beq _ _ z)) c
theorem ky_data (v : List Nat) : (ky v).data = .tuple (v.map iD) := keyOf_data (d := .tuple (v.map iD)) (by
  simp only [Hx.keyOf, keysOf_nat]
  rfl)
abbrev Tb := List (List Nat × Int)
def lk (v : List Nat) : Tb → Option Int
  | [] => none
  | (w, k) :: T => match decide (w = v) with | true => some k | false => lk v T
def pt (v : List Nat) (k : Int) : Tb → Tb
  | [] => [(v, k)]
  | (w, j) :: T => match decide (w = v) with | true => (w, k) :: T | false => (w, j) :: pt v k T
def dl (v : List Nat) : Tb → Tb
  | [] => []
  | (w, j) :: T => match decide (w = v) with | true => dl v T | false => (w, j) :: dl v T
def en (f : Int → W) (T : Tb) : List (NestedKey × W) := T.map fun e => (ky e.1, f e.2)
theorem lk_en (f : Int → W) (v : List Nat) : ∀ T : Tb, dLook (ky v) (en f T) = (lk v T).map f
  | [] => rfl
  | (w, k) :: T => by
    have ih := lk_en f v T
    show (match NestedKey.beq (ky w) (ky v) with | true => some (f k) | false => dLook (ky v) (en f T)) = (match decide (w = v) with | true => some k | false => lk v T).map f
    rw [ky_beq]
    cases decide (w = v) with
    | true => rfl
    | false => exact ih
theorem pt_en (f : Int → W) (v : List Nat) (k : Int) : ∀ T : Tb, dPut (ky v) (f k) (en f T) = en f (pt v k T)
  | [] => rfl
  | (w, j) :: T => by
    have ih := pt_en f v k T
    show (match NestedKey.beq (ky w) (ky v) with | true => (ky w, f k) :: en f T | false => (ky w, f j) :: dPut (ky v) (f k) (en f T)) = en f (match decide (w = v) with | true => (w, k) :: T | false => (w, j) :: pt v k T)
    rw [ky_beq]
    cases decide (w = v) with
    | true => rfl
    | false => rw [ih]; rfl
theorem dl_en (f : Int → W) (v : List Nat) : ∀ T : Tb, dDel (ky v) (en f T) = en f (dl v T)
  | [] => rfl
  | (w, j) :: T => by
    have ih := dl_en f v T
    show (match NestedKey.beq (ky w) (ky v) with | true => dDel (ky v) (en f T) | false => (ky w, f j) :: dDel (ky v) (en f T)) = en f (match decide (w = v) with | true => dl v T | false => (w, j) :: dl v T)
    rw [ky_beq]
    cases decide (w = v) with
    | true => exact ih
    | false => rw [ih]; rfl
theorem keys_en (f : Int → W) : ∀ T : Tb, keysW (en f T) = T.map fun e => tN e.1
  | [] => rfl
  | (w, j) :: T => by
    have ih := keys_en f T
    show W.dat (ky w).data :: keysW (en f T) = _
    rw [ih, ky_data]
    rfl
end K10
set_option maxHeartbeats 1000000
set_option pp.maxSteps 300
noncomputable section
namespace K10
open PySem L2 Pd Gn PySem.Spec PyProof.Rows Zq Hx Sy KG
def resB (b : Bool) : T W → Bool
  | .ok (.dat (.bool a)) _ => decide (a = b)
  | _ => false
def resF (n d : Int) : T W → Bool
  | .ok (.dat (.tuple [.int a, .int b])) _ => decide (a = n) && decide (b = d)
  | _ => false
def resR (n d : Int) : T W → Bool
  | .ok (.ins 0 [.dat (.int a), .dat (.int b)]) _ => decide (a = n) && decide (b = d)
  | _ => false
def resN : T W → Bool
  | .ok (.dat .none) _ => true
  | _ => false
theorem resB_at {i : Bool} {t : T W} (h : resB i t = true) : ∃ g, t = .ok (.dat (.bool i)) g := by
  unfold resB at h
  split at h
  · rw [of_decide_eq_true h]; exact ⟨_, rfl⟩
  · cases h
theorem resF_at {n d : Int} {t : T W} (h : resF n d t = true) : ∃ g, t = .ok (.dat (.tuple [.int n, .int d])) g := by
  unfold resF at h
  split at h
  · rw [Bool.and_eq_true] at h
    rw [of_decide_eq_true h.1, of_decide_eq_true h.2]; exact ⟨_, rfl⟩
  · cases h
theorem resR_at {n d : Int} {t : T W} (h : resR n d t = true) : ∃ g, t = .ok (.ins 0 [.dat (.int n), .dat (.int d)]) g := by
  unfold resR at h
  split at h
  · rw [Bool.and_eq_true] at h
    rw [of_decide_eq_true h.1, of_decide_eq_true h.2]; exact ⟨_, rfl⟩
  · cases h
theorem resN_at {t : T W} (h : resN t = true) : ∃ g, t = .ok (.dat .none) g := by
  unfold resN at h
  split at h
  · exact ⟨_, rfl⟩
  · cases h
def onAll (f : Int → Bool) : Bool := (List.range 201).all fun i => f ((i : Int) - 100)
theorem on_at {f : Int → Bool} (h : onAll f = true) {k : Int} (h1 : -100 ≤ k) (h2 : k ≤ 100) : f k = true := by
  have z := List.all_eq_true.mp h (k + 100).toNat (List.mem_range.mpr (by omega))
  have e : (((k + 100).toNat : Nat) : Int) - 100 = k := by omega
  rw [e] at z
  exact z
abbrev h0 : Hs := ⟨0, []⟩
theorem c_ratio : onAll (fun k => resR (nu k) (de k) (m__law_ratio [frW k] h0)) = true := by decide +kernel
theorem c_zero : onAll (fun k => resB (decide (k = 0)) (m_Ratio_is_zero [rW k] h0)) = true := by decide +kernel
theorem c_add : onAll (fun a => (List.range 33).all fun j => resF (nu (a + ((j : Int) - 16))) (de (a + ((j : Int) - 16))) (m__law_add [frW a, frW ((j : Int) - 16)] h0)) = true := by decide +kernel
theorem c_num : ((List.range 4).all fun n => resN (m_check_number [.dat (.int ((n : Nat) : Int))] h0)) = true := by decide +kernel
end K10
set_option maxHeartbeats 1000000
set_option pp.maxSteps 300
noncomputable section
namespace K10
open PySem L2 Pd Gn PySem.Spec PyProof.Rows Zq Hx Sy KG
def Ex (n : Nat) (v : List Nat) : Prop := v.length = n ∧ ∀ x ∈ v, x ≤ 3
def allV : Nat → List (List Nat)
  | 0 => [[]]
  | n + 1 => (allV n).flatMap fun v => [0 :: v, 1 :: v, 2 :: v, 3 :: v]
theorem mem_allV : ∀ {n : Nat} {v : List Nat}, Ex n v → v ∈ allV n
  | 0, [], _ => by simp [allV]
  | 0, x :: v, h => by have := h.1; simp at this
  | n + 1, [], h => by have := h.1; simp at this
  | n + 1, x :: v, h => by
    have ih : v ∈ allV n := mem_allV ⟨by have := h.1; simpa using this, fun y hy => h.2 y (List.mem_cons_of_mem _ hy)⟩
    refine List.mem_flatMap.mpr ⟨v, ih, ?_⟩
    have := h.2 x (by simp)
    match x, this with
    | 0, _ => simp
    | 1, _ => simp
    | 2, _ => simp
    | 3, _ => simp
abbrev kd (v : List Nat) : PyData := .tuple (v.map iD)
def prB (v w : List Nat) : Bool := PySem.W.alike (kd v) (kd w) && (decide (v = w) || (dLt (kd v) (kd w) || dLt (kd w) (kd v)))
theorem c_pair : ((List.range 4).all fun n => (allV n).all fun v => (allV n).all fun w => prB v w) = true := by decide +kernel
theorem c_exp : ((List.range 4).all fun n => (allV n).all fun v => resB true (m__is_exponent [tN v, .dat (.int ((n : Nat) : Int))] h0)) = true := by decide +kernel
theorem c_ne : ((List.range 3).all fun n => (allV (n + 1)).all fun v => tupNE (kd v) && Nat.ble (kd v).depth 32) = true := by decide +kernel
theorem pair_at {n : Nat} (hn : n ≤ 3) {v w : List Nat} (hv : Ex n v) (hw : Ex n w) : prB v w = true := List.all_eq_true.mp (List.all_eq_true.mp (List.all_eq_true.mp c_pair n (List.mem_range.mpr (by omega))) v (mem_allV hv)) w (mem_allV hw)
theorem asc_cons {y z : PyData} {r : List PyData} : ascD (y :: z :: r) = match dLt y z with | true => ascD (z :: r) | false => false := rfl
theorem ins_asc {x : PyData} : ∀ {l : List PyData}, ascD l = true → (∀ y ∈ l, dLt y x = true ∨ dLt x y = true) → ascD (Hx.insD x l) = true
  | [], _, _ => rfl
  | y :: r, h, hx => by
    unfold Hx.insD
    cases c : dLt y x with
    | false =>
      have cy : dLt x y = true := (hx y (by simp)).elim (fun q => by rw [c] at q; cases q) id
      show ascD (x :: y :: r) = true
      rw [asc_cons, cy]
      exact h
    | true =>
      show ascD (y :: Hx.insD x r) = true
      cases r with
      | nil =>
        show ascD [y, x] = true
        rw [asc_cons, c]
        rfl
      | cons z r =>
        rw [asc_cons] at h
        cases d : dLt y z with
        | false => rw [d] at h; cases h
        | true =>
          rw [d] at h
          have ih := ins_asc (x := x) (l := z :: r) h fun y hy => hx y (List.mem_cons_of_mem _ hy)
          unfold Hx.insD at ih ⊢
          cases e : dLt z x with
          | true =>
            rw [e] at ih
            show ascD (y :: z :: Hx.insD x r) = true
            rw [asc_cons, d]
            exact ih
          | false =>
            rw [e] at ih
            show ascD (y :: x :: z :: r) = true
            rw [asc_cons, c]
            exact ih
theorem srt_asc {n : Nat} (hn : n ≤ 3) : ∀ vs : List (List Nat), vs.Nodup → (∀ v ∈ vs, Ex n v) → ascD (srtD (vs.map kd)) = true
  | [], _, _ => rfl
  | v :: vs, nd, h => by
    have ih := srt_asc hn vs (List.nodup_cons.mp nd).2 fun w hw => h w (List.mem_cons_of_mem _ hw)
    refine ins_asc ih fun y hy => ?_
    obtain ⟨w, hw, rfl⟩ := List.mem_map.mp (srtD_perm.mem_iff.mp hy)
    have p := pair_at hn (h v (by simp)) (h w (List.mem_cons_of_mem _ hw))
    unfold prB at p
    rw [Bool.and_eq_true, Bool.or_eq_true, Bool.or_eq_true] at p
    rcases p.2 with q | q | q
    · exact absurd (of_decide_eq_true q) fun e => (List.nodup_cons.mp nd).1 (by rw [e]; exact hw)
    · exact .inr q
    · exact .inl q
theorem ok_sort {n : Nat} (h0 : 0 < n) (hn : n ≤ 3) {vs : List (List Nat)} (nd : vs.Nodup) (h : ∀ v ∈ vs, Ex n v) : okSort (vs.map kd) = true := by
  have ne : ∀ v ∈ vs, (tupNE (kd v) && Nat.ble (kd v).depth 32) = true := fun v hv => by
    have z := List.all_eq_true.mp c_ne (n - 1) (List.mem_range.mpr (by omega))
    rw [show n - 1 + 1 = n by omega] at z
    exact List.all_eq_true.mp z v (mem_allV (h v hv))
  unfold okSort
  rw [srt_asc hn vs nd h]
  simp only [Bool.and_eq_true, List.all_eq_true, List.mem_map, forall_exists_index, and_imp, forall_apply_eq_imp_iff₂]
  refine ⟨trivial, fun v hv w hw => ?_, fun v hv => ?_, fun v hv => ?_⟩
  · have p := pair_at hn (h v hv) (h w hw)
    unfold prB at p
    rw [Bool.and_eq_true] at p
    exact p.1
  · have := ne v hv; rw [Bool.and_eq_true] at this; exact this.1
  · have := ne v hv; rw [Bool.and_eq_true] at this; exact this.2
/-- the keys in the order that both sides use -/
theorem sorted_keys {n : Nat} (hn : n ≤ 3) {vs : List (List Nat)} (nd : vs.Nodup) (h : ∀ v ∈ vs, Ex n v) : ∃ us : List (List Nat), us.Perm vs ∧ (match Nat.ble (vs.map kd).length 1 with
    | true => some ((vs.map kd).map W.dat)
    | false => gd (okSort (vs.map kd)) (some ((srtD (vs.map kd)).reverse.map .dat))) = some (us.map tN) := by
  cases c : Nat.ble (vs.map kd).length 1 with
  | true => exact ⟨vs, .refl _, by rw [List.map_map]; rfl⟩
  | false =>
    have n0 : 0 < n := by
      cases n with
      | succ n => omega
      | zero =>
        have a : vs.length ≤ 1 := by
          match vs, nd, h with
          | [], _, _ => simp
          | [v], _, _ => simp
          | v :: w :: r, nd, h =>
            have e1 : v = [] := List.length_eq_zero_iff.mp (h v (by simp)).1
            have e2 : w = [] := List.length_eq_zero_iff.mp (h w (by simp)).1
            rw [e1, e2] at nd
            simp at nd
        rw [List.length_map, Nat.ble_eq_true_of_le a] at c
        cases c
    rw [ok_sort n0 hn nd h]
    have pm : (srtD (vs.map kd)).reverse.Perm (vs.map kd) := (List.reverse_perm _).trans srtD_perm
    obtain ⟨us, p1, p2⟩ : ∃ us : List (List Nat), us.Perm vs ∧ (srtD (vs.map kd)).reverse = us.map kd := by
      have key : ∀ (l : List PyData) (vs : List (List Nat)), l.Perm (vs.map kd) → ∃ us : List (List Nat), us.Perm vs ∧ l = us.map kd := fun l => by
        induction l with
        | nil => exact fun vs p => ⟨[], by
            have := p.symm.eq_nil
            rw [List.map_eq_nil_iff] at this
            rw [this], rfl⟩
        | cons d l ih =>
          intro vs p
          have hm : d ∈ vs.map kd := p.mem_iff.mp (by simp)
          obtain ⟨v, hv, rfl⟩ := List.mem_map.mp hm
          obtain ⟨a, b, rfl⟩ := List.append_of_mem hv
          have p2 : l.Perm ((a ++ b).map kd) := by
            rw [List.map_append, List.map_cons] at p
            have q := p.trans (List.perm_middle (l₁ := a.map kd) (a := kd v) (l₂ := b.map kd))
            rw [List.map_append]
            exact List.Perm.cons_inv q
          obtain ⟨us, q1, q2⟩ := ih (a ++ b) p2
          exact ⟨v :: us, (q1.cons v).trans (List.perm_middle.symm), by rw [q2]; rfl⟩
      exact key _ vs pm
    refine ⟨us, p1, ?_⟩
    show some ((srtD (vs.map kd)).reverse.map W.dat) = _
    rw [p2, List.map_map]
    rfl
end K10
set_option maxHeartbeats 1000000
set_option pp.maxSteps 300
noncomputable section
namespace K10
open PySem L2 Pd Gn PySem.Spec PyProof.Rows Zq Hx Sy KG
def plusT (v : List Nat) (c : Int) (T : Tb) : Tb := match decide ((lk v T).getD 0 + c = 0) with
  | true => dl v T
  | false => pt v ((lk v T).getD 0 + c) T
theorem dl_none {v : List Nat} : ∀ {T : Tb}, lk v T = none → dl v T = T
  | [], _ => rfl
  | (w, k) :: T, h => by
    have h : (match decide (w = v) with | true => some k | false => lk v T) = none := h
    show (match decide (w = v) with | true => dl v T | false => (w, k) :: dl v T) = _
    cases c : decide (w = v) with
    | true => rw [c] at h; cases h
    | false =>
      rw [c] at h
      show (w, k) :: dl v T = _
      rw [dl_none h]
theorem nu_zero (k : Int) : decide (nu k = 0) = decide (k = 0) := by
  unfold nu
  by_cases c : k % 2 = 0
  · rw [decide_eq_true c]
    show decide (k / 2 = 0) = _
    by_cases d : k = 0
    · rw [d]; rfl
    · rw [decide_eq_false d, decide_eq_false (by omega)]
  · rw [decide_eq_false c]
theorem frW_0 (k : Int) (h : Hs) : ixM (rt (frW k)) (rt (.dat (.int 0))) h = .ok (.dat (.int (nu k))) h := rfl
theorem eq_int {m1 m2 : M W} {a b : Int} {h : Hs} (e1 : m1 h = .ok (.dat (.int a)) h) (e2 : m2 h = .ok (.dat (.int b)) h) : cmpM (c2 cEq) m1 m2 h = .ok (decide (a = b)) h := Sy.cmp_eq e1 e2 rfl
theorem en_len (f : Int → W) (T : Tb) : (en f T).length = T.length := List.length_map _
abbrev hD1 (N : Nat) (R : List (Nat × Ob)) (T : Tb) : Hs := ⟨N, (1, .dic (en frW T)) :: R⟩
theorem plus_ok1 {N : Nat} {R : List (Nat × Ob)} {T : Tb} {v : List Nat} {c : Int} (hl : T.length ≤ 100) (hk : -100 ≤ (lk v T).getD 0 ∧ (lk v T).getD 0 ≤ 100) (hc : -16 ≤ c ∧ c ≤ 16) : m__law_plus [.ref 1, tN v, frW c] ((hD1 N R) T) = .ok (.dat .none) ((hD1 N R) (plusT v c T)) := by
  have z := List.all_eq_true.mp (on_at c_add hk.1 hk.2) (c + 16).toNat (List.mem_range.mpr (by omega))
  have ec : (((c + 16).toNat : Nat) : Int) - 16 = c := by omega
  rw [ec] at z
  obtain ⟨g, ad⟩ := resF_at z
  have dg : dgetM (rt (.ref 1)) (rt (tN v)) (tupM (apM (rt (.dat (.int 0))) (apM (rt (.dat (.int 1))) (rt [])))) ((hD1 N R) T) = .ok (frW ((lk v T).getD 0)) ((hD1 N R) T) := by
    show lf ((tkey (tN v)).map fun k => (dLook k (en frW T)).getD (.dat (.tuple [.int 0, .int 1]))) ((hD1 N R) T) = _
    rw [tkey_ky]
    show Hx.T.ok ((dLook (ky v) (en frW T)).getD (.dat (.tuple [.int 0, .int 1]))) ((hD1 N R) T) = _
    rw [lk_en]
    cases lk v T <;> rfl
  have cl : callI 2 (apM (dgetM (rt (.ref 1)) (rt (tN v)) (tupM (apM (rt (.dat (.int 0))) (apM (rt (.dat (.int 1))) (rt []))))) (apM (rt (frW c)) (rt []))) m__law_add ((hD1 N R) T) = .ok (frW ((lk v T).getD 0 + c)) ((hD1 N R) T) := callI_eq (Sy.ap2 dg rtok) rfl ad rfl
  show finM (g__law_plus (.ref 1) (tN v) (frW c)) ((hD1 N R) T) = _
  have body : g__law_plus (.ref 1) (tN v) (frW c) ((hD1 N R) T) = .ok (.nxt ()) ((hD1 N R) (plusT v c T)) := by
    unfold g__law_plus
    rw [bd_ok cl]
    have ce := eq_int (frW_0 ((lk v T).getD 0 + c) ((hD1 N R) T)) (show rt (W.dat (.int 0)) ((hD1 N R) T) = .ok (.dat (.int 0)) ((hD1 N R) T) from rfl)
    rw [nu_zero] at ce
    unfold plusT
    cases q : decide ((lk v T).getD 0 + c = 0) with
    | true =>
      rw [q] at ce
      refine (seq_nx (a := ()) (h' := (hD1 N R) (dl v T)) ?_).trans rfl
      rw [if_t ce]
      have pp : popDM (rt (.ref 1)) (rt (tN v)) (rt (.dat .none)) ((hD1 N R) T) = .ok (match lk v T with | some k => frW k | none => .dat .none) ((hD1 N R) (dl v T)) := by
        show (bd (lf (tkey (tN v))) fun k => match dLook k (en frW T) with | some w => bd (putDm 1 (dDel k (en frW T))) fun _ => rt w | none => rt (.dat .none)) ((hD1 N R) T) = _
        rw [tkey_ky]
        show (match dLook (ky v) (en frW T) with | some w => bd (putDm 1 (dDel (ky v) (en frW T))) fun _ => rt w | none => rt (.dat .none) : M W) ((hD1 N R) T) = _
        rw [lk_en]
        cases l : lk v T with
        | none => rw [dl_none l]; rfl
        | some k => rw [dl_en]; rfl
      rw [bd_ok pp]
      rfl
    | false =>
      rw [q] at ce
      refine (seq_nx (a := ()) (h' := (hD1 N R) (pt v ((lk v T).getD 0 + c) T)) ?_).trans rfl
      rw [if_f ce]
      have ss : setD (rt (frW ((lk v T).getD 0 + c))) (rt (.ref 1)) (rt (tN v)) ((hD1 N R) T) = .ok () ((hD1 N R) (pt v ((lk v T).getD 0 + c) T)) := by
        show (bd (isDm (.ref 1)) fun p => bd (lf (gd (shortS p.2.length) (tkey (tN v)))) fun k => putDm p.1 (dPut k (frW ((lk v T).getD 0 + c)) p.2)) ((hD1 N R) T) = _
        rw [bd_ok (show isDm (.ref 1) ((hD1 N R) T) = .ok (1, en frW T) ((hD1 N R) T) from rfl)]
        rw [bd_ok (show lf (gd (shortS (1, en frW T).2.length) (tkey (tN v))) ((hD1 N R) T) = .ok (ky v) ((hD1 N R) T) by
          rw [tkey_ky, show shortS (1, en frW T).2.length = true by
            show shortS (en frW T).length = true
            rw [en_len]
            unfold shortS
            exact Nat.ble_eq_true_of_le (by omega)]
          rfl)]
        show Hx.T.ok () ⟨N, (1, .dic (dPut (ky v) (frW ((lk v T).getD 0 + c)) (en frW T))) :: R⟩ = _
        rw [pt_en]
      rw [bd_ok ss]
      rfl
  unfold finM
  rw [bd_ok body]
  rfl
abbrev hD2 (N : Nat) (R : List (Nat × Ob)) (T : Tb) : Hs := ⟨N, (2, .dic (en frW T)) :: R⟩
theorem plus_ok2 {N : Nat} {R : List (Nat × Ob)} {T : Tb} {v : List Nat} {c : Int} (hl : T.length ≤ 100) (hk : -100 ≤ (lk v T).getD 0 ∧ (lk v T).getD 0 ≤ 100) (hc : -16 ≤ c ∧ c ≤ 16) : m__law_plus [.ref 2, tN v, frW c] ((hD2 N R) T) = .ok (.dat .none) ((hD2 N R) (plusT v c T)) := by
  have z := List.all_eq_true.mp (on_at c_add hk.1 hk.2) (c + 16).toNat (List.mem_range.mpr (by omega))
  have ec : (((c + 16).toNat : Nat) : Int) - 16 = c := by omega
  rw [ec] at z
  obtain ⟨g, ad⟩ := resF_at z
  have dg : dgetM (rt (.ref 2)) (rt (tN v)) (tupM (apM (rt (.dat (.int 0))) (apM (rt (.dat (.int 1))) (rt [])))) ((hD2 N R) T) = .ok (frW ((lk v T).getD 0)) ((hD2 N R) T) := by
    show lf ((tkey (tN v)).map fun k => (dLook k (en frW T)).getD (.dat (.tuple [.int 0, .int 1]))) ((hD2 N R) T) = _
    rw [tkey_ky]
    show Hx.T.ok ((dLook (ky v) (en frW T)).getD (.dat (.tuple [.int 0, .int 1]))) ((hD2 N R) T) = _
    rw [lk_en]
    cases lk v T <;> rfl
  have cl : callI 2 (apM (dgetM (rt (.ref 2)) (rt (tN v)) (tupM (apM (rt (.dat (.int 0))) (apM (rt (.dat (.int 1))) (rt []))))) (apM (rt (frW c)) (rt []))) m__law_add ((hD2 N R) T) = .ok (frW ((lk v T).getD 0 + c)) ((hD2 N R) T) := callI_eq (Sy.ap2 dg rtok) rfl ad rfl
  show finM (g__law_plus (.ref 2) (tN v) (frW c)) ((hD2 N R) T) = _
  have body : g__law_plus (.ref 2) (tN v) (frW c) ((hD2 N R) T) = .ok (.nxt ()) ((hD2 N R) (plusT v c T)) := by
    unfold g__law_plus
    rw [bd_ok cl]
    have ce := eq_int (frW_0 ((lk v T).getD 0 + c) ((hD2 N R) T)) (show rt (W.dat (.int 0)) ((hD2 N R) T) = .ok (.dat (.int 0)) ((hD2 N R) T) from rfl)
    rw [nu_zero] at ce
    unfold plusT
    cases q : decide ((lk v T).getD 0 + c = 0) with
    | true =>
      rw [q] at ce
      refine (seq_nx (a := ()) (h' := (hD2 N R) (dl v T)) ?_).trans rfl
      rw [if_t ce]
      have pp : popDM (rt (.ref 2)) (rt (tN v)) (rt (.dat .none)) ((hD2 N R) T) = .ok (match lk v T with | some k => frW k | none => .dat .none) ((hD2 N R) (dl v T)) := by
        show (bd (lf (tkey (tN v))) fun k => match dLook k (en frW T) with | some w => bd (putDm 2 (dDel k (en frW T))) fun _ => rt w | none => rt (.dat .none)) ((hD2 N R) T) = _
        rw [tkey_ky]
        show (match dLook (ky v) (en frW T) with | some w => bd (putDm 2 (dDel (ky v) (en frW T))) fun _ => rt w | none => rt (.dat .none) : M W) ((hD2 N R) T) = _
        rw [lk_en]
        cases l : lk v T with
        | none => rw [dl_none l]; rfl
        | some k => rw [dl_en]; rfl
      rw [bd_ok pp]
      rfl
    | false =>
      rw [q] at ce
      refine (seq_nx (a := ()) (h' := (hD2 N R) (pt v ((lk v T).getD 0 + c) T)) ?_).trans rfl
      rw [if_f ce]
      have ss : setD (rt (frW ((lk v T).getD 0 + c))) (rt (.ref 2)) (rt (tN v)) ((hD2 N R) T) = .ok () ((hD2 N R) (pt v ((lk v T).getD 0 + c) T)) := by
        show (bd (isDm (.ref 2)) fun p => bd (lf (gd (shortS p.2.length) (tkey (tN v)))) fun k => putDm p.1 (dPut k (frW ((lk v T).getD 0 + c)) p.2)) ((hD2 N R) T) = _
        rw [bd_ok (show isDm (.ref 2) ((hD2 N R) T) = .ok (2, en frW T) ((hD2 N R) T) from rfl)]
        rw [bd_ok (show lf (gd (shortS (2, en frW T).2.length) (tkey (tN v))) ((hD2 N R) T) = .ok (ky v) ((hD2 N R) T) by
          rw [tkey_ky, show shortS (2, en frW T).2.length = true by
            show shortS (en frW T).length = true
            rw [en_len]
            unfold shortS
            exact Nat.ble_eq_true_of_le (by omega)]
          rfl)]
        show Hx.T.ok () ⟨N, (2, .dic (dPut (ky v) (frW ((lk v T).getD 0 + c)) (en frW T))) :: R⟩ = _
        rw [pt_en]
      rw [bd_ok ss]
      rfl
  unfold finM
  rw [bd_ok body]
  rfl
abbrev hD3 (N : Nat) (R : List (Nat × Ob)) (T : Tb) : Hs := ⟨N, (3, .dic (en frW T)) :: R⟩
theorem plus_ok3 {N : Nat} {R : List (Nat × Ob)} {T : Tb} {v : List Nat} {c : Int} (hl : T.length ≤ 100) (hk : -100 ≤ (lk v T).getD 0 ∧ (lk v T).getD 0 ≤ 100) (hc : -16 ≤ c ∧ c ≤ 16) : m__law_plus [.ref 3, tN v, frW c] ((hD3 N R) T) = .ok (.dat .none) ((hD3 N R) (plusT v c T)) := by
  have z := List.all_eq_true.mp (on_at c_add hk.1 hk.2) (c + 16).toNat (List.mem_range.mpr (by omega))
  have ec : (((c + 16).toNat : Nat) : Int) - 16 = c := by omega
  rw [ec] at z
  obtain ⟨g, ad⟩ := resF_at z
  have dg : dgetM (rt (.ref 3)) (rt (tN v)) (tupM (apM (rt (.dat (.int 0))) (apM (rt (.dat (.int 1))) (rt [])))) ((hD3 N R) T) = .ok (frW ((lk v T).getD 0)) ((hD3 N R) T) := by
    show lf ((tkey (tN v)).map fun k => (dLook k (en frW T)).getD (.dat (.tuple [.int 0, .int 1]))) ((hD3 N R) T) = _
    rw [tkey_ky]
    show Hx.T.ok ((dLook (ky v) (en frW T)).getD (.dat (.tuple [.int 0, .int 1]))) ((hD3 N R) T) = _
    rw [lk_en]
    cases lk v T <;> rfl
  have cl : callI 2 (apM (dgetM (rt (.ref 3)) (rt (tN v)) (tupM (apM (rt (.dat (.int 0))) (apM (rt (.dat (.int 1))) (rt []))))) (apM (rt (frW c)) (rt []))) m__law_add ((hD3 N R) T) = .ok (frW ((lk v T).getD 0 + c)) ((hD3 N R) T) := callI_eq (Sy.ap2 dg rtok) rfl ad rfl
  show finM (g__law_plus (.ref 3) (tN v) (frW c)) ((hD3 N R) T) = _
  have body : g__law_plus (.ref 3) (tN v) (frW c) ((hD3 N R) T) = .ok (.nxt ()) ((hD3 N R) (plusT v c T)) := by
    unfold g__law_plus
    rw [bd_ok cl]
    have ce := eq_int (frW_0 ((lk v T).getD 0 + c) ((hD3 N R) T)) (show rt (W.dat (.int 0)) ((hD3 N R) T) = .ok (.dat (.int 0)) ((hD3 N R) T) from rfl)
    rw [nu_zero] at ce
    unfold plusT
    cases q : decide ((lk v T).getD 0 + c = 0) with
    | true =>
      rw [q] at ce
      refine (seq_nx (a := ()) (h' := (hD3 N R) (dl v T)) ?_).trans rfl
      rw [if_t ce]
      have pp : popDM (rt (.ref 3)) (rt (tN v)) (rt (.dat .none)) ((hD3 N R) T) = .ok (match lk v T with | some k => frW k | none => .dat .none) ((hD3 N R) (dl v T)) := by
        show (bd (lf (tkey (tN v))) fun k => match dLook k (en frW T) with | some w => bd (putDm 3 (dDel k (en frW T))) fun _ => rt w | none => rt (.dat .none)) ((hD3 N R) T) = _
        rw [tkey_ky]
        show (match dLook (ky v) (en frW T) with | some w => bd (putDm 3 (dDel (ky v) (en frW T))) fun _ => rt w | none => rt (.dat .none) : M W) ((hD3 N R) T) = _
        rw [lk_en]
        cases l : lk v T with
        | none => rw [dl_none l]; rfl
        | some k => rw [dl_en]; rfl
      rw [bd_ok pp]
      rfl
    | false =>
      rw [q] at ce
      refine (seq_nx (a := ()) (h' := (hD3 N R) (pt v ((lk v T).getD 0 + c) T)) ?_).trans rfl
      rw [if_f ce]
      have ss : setD (rt (frW ((lk v T).getD 0 + c))) (rt (.ref 3)) (rt (tN v)) ((hD3 N R) T) = .ok () ((hD3 N R) (pt v ((lk v T).getD 0 + c) T)) := by
        show (bd (isDm (.ref 3)) fun p => bd (lf (gd (shortS p.2.length) (tkey (tN v)))) fun k => putDm p.1 (dPut k (frW ((lk v T).getD 0 + c)) p.2)) ((hD3 N R) T) = _
        rw [bd_ok (show isDm (.ref 3) ((hD3 N R) T) = .ok (3, en frW T) ((hD3 N R) T) from rfl)]
        rw [bd_ok (show lf (gd (shortS (3, en frW T).2.length) (tkey (tN v))) ((hD3 N R) T) = .ok (ky v) ((hD3 N R) T) by
          rw [tkey_ky, show shortS (3, en frW T).2.length = true by
            show shortS (en frW T).length = true
            rw [en_len]
            unfold shortS
            exact Nat.ble_eq_true_of_le (by omega)]
          rfl)]
        show Hx.T.ok () ⟨N, (3, .dic (dPut (ky v) (frW ((lk v T).getD 0 + c)) (en frW T))) :: R⟩ = _
        rw [pt_en]
      rw [bd_ok ss]
      rfl
  unfold finM
  rw [bd_ok body]
  rfl
end K10
set_option maxHeartbeats 1000000
set_option pp.maxSteps 2000
noncomputable section
namespace K10
open PySem L2 Pd Gn PySem.Spec PyProof.Rows Zq Hx Sy KG
theorem take_eq {h : Hs} (g : h.get 0 = some .st) {m : M W} {k : Nat} (e : m h = .ok (iW (k : Nat)) h) (h0 : 0 < k) (h1 : k < 1000000) : callM 2 (apM (rt (.ref 0)) (apM m (rt []))) m__law_take h = .draw k fun v => .ok (iW (v : Nat)) h := by
  unfold callM
  rw [bd_ok (Sy.ap2 (show rt (W.ref 0) h = .ok (.ref 0) h from rfl) e)]
  show (match h.get 0 with
    | some .st => (match decide ((0 : Int) < (k : Nat)) && decide (((k : Nat) : Int) < 1000000) with | true => T.draw ((k : Nat) : Int).toNat fun v => T.ok (W.dat (.int (v : Nat))) h | false => T.bad : T W)
    | _ => T.bad) = _
  rw [g]
  show (match decide ((0 : Int) < (k : Nat)) && decide (((k : Nat) : Int) < 1000000) with | true => T.draw ((k : Nat) : Int).toNat fun v => T.ok (W.dat (.int (v : Nat))) h | false => T.bad : T W) = _
  rw [decide_eq_true (show (0 : Int) < (k : Nat) by omega), decide_eq_true (show ((k : Nat) : Int) < 1000000 by omega)]
  rfl
theorem take_sat {α : Type} {m : M W} {f : W → M α} {k : Nat} {h : Hs} {P : α → Hs → Prop} (g : h.get 0 = some .st) (e : m h = .ok (iW (k : Nat)) h) (h0 : 0 < k) (h1 : k < 1000000) (s : ∀ v, v < k → (f (iW (v : Nat)) h).sat P FF) : (bd (callM 2 (apM (rt (.ref 0)) (apM m (rt []))) m__law_take) f h).sat P FF := by
  refine sat_bd ?_
  rw [take_eq g e h0 h1]
  exact fun v hv => s v hv
theorem nox_sat {α : Type} {P : α → Hs → Prop} : ∀ {t : T α}, t.sat P FF → (nox.go t).sat P FF
  | .ok a h, s => s
  | .exc _ _, s => s.elim
  | .draw n k, s => fun v hv => nox_sat (t := k v) (s v hv)
  | .bad, s => s.elim
def dd (u : Nat) : Int := match decide ((u : Int) = 0) with | true => 1 | false => 0
def cc (v u : Nat) : Int := match decide ((u : Int) = 0) with | true => (v : Int) - 2 | false => 2 * ((v : Int) - 2)
theorem c_frac : ((List.range 5).all fun v => (List.range 5).all fun u => resF (nu (cc v u)) (de (cc v u)) (m__law_frac [.dat (.int ((v : Nat) - 2 : Int)), .dat (.int (1 + dd u))] h0)) = true := by decide +kernel
theorem item_sat {h : Hs} (g : h.get 0 = some .st) : (m__law_item [.ref 0] h).sat (fun w h' => h' = h ∧ ∃ c : Int, (-4 ≤ c ∧ c ≤ 4) ∧ w = frW c) FF := by
  show (bd (g__law_item (.ref 0)) _ h).sat _ _
  refine sat_bd ?_
  unfold g__law_item
  refine sat_bd ?_
  unfold callI
  refine sat_bd ?_
  show (bd (binM (Hx.l2 pSub) (callM 2 (apM (rt (.ref 0)) (apM (rt (.dat (.int 5))) (rt []))) m__law_take) (rt (.dat (.int 2)))) _ h).sat _ _
  refine sat_bd ?_
  unfold binM
  refine take_sat g (show rt (iW ((5 : Nat) : Int)) h = .ok (iW ((5 : Nat) : Int)) h from rfl) (by omega) (by omega) fun v hv => ?_
  rw [bd_ok (show rt (W.dat (.int 2)) h = .ok (iW 2) h from rfl)]
  show (bd (apM (bd (rt (W.dat (.int 1))) _) (rt [])) _ h).sat _ _
  refine sat_bd ?_
  show (bd (bd (rt (W.dat (.int 1))) _) _ h).sat _ _
  refine sat_bd ?_
  rw [bd_ok (show rt (W.dat (.int 1)) h = .ok (iW 1) h from rfl)]
  refine sat_bd ?_
  unfold biM
  refine sat_bd ?_
  show (bd (bW _) _ h).sat _ _
  refine sat_bd ?_
  unfold bW
  refine sat_bd ?_
  unfold cmpM
  refine take_sat g (show rt (iW ((5 : Nat) : Int)) h = .ok (iW ((5 : Nat) : Int)) h from rfl) (by omega) (by omega) fun u hu => ?_
  obtain ⟨g1, e⟩ := resF_at (List.all_eq_true.mp (List.all_eq_true.mp c_frac v (List.mem_range.mpr hv)) u (List.mem_range.mpr hu))
  have fin : ∀ {d c : Int}, (-4 ≤ c ∧ c ≤ 4) → (∃ g1, m__law_frac [W.dat (.int ((v : Int) - 2)), W.dat (.int (1 + d))] h0 = .ok (frW c) g1) → T.sat (fun a h' => T.sat (fun a h' => T.sat (fun w h' => h' = h ∧ ∃ c : Int, (-4 ≤ c ∧ c ≤ 4) ∧ w = frW c) FF ((match a with | Res.ret w => rt w | Res.nxt (a : Unit) => rt (W.dat .none) : M W) h')) FF (rt (Res.ret a) h')) FF (callI 2 (apM (rt (W.dat (.int ((v : Int) - 2)))) (apM (rt (W.dat (.int (1 + d)))) (rt []))) m__law_frac h) := fun {d c} hc ⟨g2, e2⟩ => by
    rw [callI_eq (Sy.ap2 rtok rtok) rfl e2 rfl]
    exact ⟨rfl, c, hc, rfl⟩
  show T.sat _ FF (T.ok (decide ((u : Int) = 0)) h)
  unfold dd cc at e
  cases q : decide ((u : Int) = 0) with
  | true =>
    rw [q] at e
    exact fin (d := 1) (c := (v : Int) - 2) (by omega) ⟨_, e⟩
  | false =>
    rw [q] at e
    exact fin (d := 0) (c := 2 * ((v : Int) - 2)) (by omega) ⟨_, e⟩
def S : Tb → Nat
  | [] => 0
  | e :: T => e.2.natAbs + S T
structure Tab (n : Nat) (B : Nat) (T : Tb) : Prop where
  nd : (T.map (·.1)).Nodup
  ex : ∀ e ∈ T, Ex n e.1
  nz : ∀ e ∈ T, e.2 ≠ 0
  sm : S T ≤ B
theorem S_mem : ∀ {T : Tb}, ∀ e ∈ T, e.2.natAbs ≤ S T
  | [], e, h => by cases h
  | d :: T, e, h => by
    rcases List.mem_cons.mp h with rfl | h
    · exact Nat.le_add_right _ _
    · exact Nat.le_trans (S_mem e h) (Nat.le_add_left _ _)
theorem lk_mem {v : List Nat} {k : Int} : ∀ {T : Tb}, lk v T = some k → (v, k) ∈ T
  | [], h => by cases h
  | (w, j) :: T, h => by
    have h : (match decide (w = v) with | true => some j | false => lk v T) = some k := h
    cases c : decide (w = v) with
    | true =>
      rw [c] at h
      cases h
      rw [of_decide_eq_true c]
      simp
    | false =>
      rw [c] at h
      exact List.mem_cons_of_mem _ (lk_mem h)
theorem lk_no {v : List Nat} : ∀ {T : Tb}, lk v T = none → v ∉ T.map (·.1)
  | [], _ => by simp
  | (w, j) :: T, h => by
    have h : (match decide (w = v) with | true => some j | false => lk v T) = none := h
    cases c : decide (w = v) with
    | true => rw [c] at h; cases h
    | false =>
      rw [c] at h
      have := lk_no h
      have ne := of_decide_eq_false c
      simp only [List.map_cons, List.mem_cons, not_or]
      exact ⟨fun e => ne e.symm, this⟩
theorem pt_keys {v : List Nat} {k : Int} : ∀ T : Tb, (pt v k T).map (·.1) = match lk v T with | some _ => T.map (·.1) | none => T.map (·.1) ++ [v]
  | [] => rfl
  | (w, j) :: T => by
    have ih := pt_keys (v := v) (k := k) T
    unfold pt lk
    cases decide (w = v) with
    | true => rfl
    | false =>
      show w :: (pt v k T).map (fun e : List Nat × Int => e.1) = _
      rw [ih]
      show _ = match lk v T with | some _ => w :: T.map (fun e : List Nat × Int => e.1) | none => w :: (T.map (fun e : List Nat × Int => e.1) ++ [v])
      cases lk v T <;> rfl
theorem pt_mem {v : List Nat} {k : Int} {e : List Nat × Int} : ∀ {T : Tb}, e ∈ pt v k T → e = (v, k) ∨ e ∈ T
  | [], h => by
    have h : e ∈ [(v, k)] := h
    exact .inl (List.mem_singleton.mp h)
  | (w, j) :: T, h => by
    have h : e ∈ (match decide (w = v) with | true => (w, k) :: T | false => (w, j) :: pt v k T) := h
    cases c : decide (w = v) with
    | true =>
      rw [c] at h
      rcases List.mem_cons.mp h with h | h
      · rw [of_decide_eq_true c] at h; exact .inl h
      · exact .inr (List.mem_cons_of_mem _ h)
    | false =>
      rw [c] at h
      rcases List.mem_cons.mp h with h | h
      · rw [h]; exact .inr (by simp)
      · exact (pt_mem h).elim .inl fun q => .inr (List.mem_cons_of_mem _ q)
theorem dl_sub {v : List Nat} : ∀ T : Tb, (dl v T).Sublist T
  | [] => .slnil
  | (w, j) :: T => by
    have ih := dl_sub (v := v) T
    show (match decide (w = v) with | true => dl v T | false => (w, j) :: dl v T).Sublist ((w, j) :: T)
    cases decide (w = v) with
    | true => exact ih.cons _
    | false => exact ih.cons₂ _
theorem S_pt {v : List Nat} {k : Int} : ∀ T : Tb, S (pt v k T) + ((lk v T).getD 0).natAbs = S T + k.natAbs
  | [] => by show (k.natAbs + 0) + 0 = 0 + k.natAbs; omega
  | (w, j) :: T => by
    have ih := S_pt (v := v) (k := k) T
    show S (match decide (w = v) with | true => (w, k) :: T | false => (w, j) :: pt v k T) + ((match decide (w = v) with | true => some j | false => lk v T : Option Int).getD 0).natAbs = (j.natAbs + S T) + k.natAbs
    cases decide (w = v) with
    | true => show (k.natAbs + S T) + j.natAbs = _; omega
    | false => show (j.natAbs + S (pt v k T)) + ((lk v T).getD 0).natAbs = _; omega
theorem S_dl {v : List Nat} : ∀ T : Tb, S (dl v T) ≤ S T
  | [] => Nat.le_refl _
  | (w, j) :: T => by
    have ih := S_dl (v := v) T
    show S (match decide (w = v) with | true => dl v T | false => (w, j) :: dl v T) ≤ j.natAbs + S T
    cases decide (w = v) with
    | true => show S (dl v T) ≤ _; omega
    | false => show j.natAbs + S (dl v T) ≤ _; omega
theorem Tab.at {n B : Nat} {T : Tb} (k : Tab n B T) (v : List Nat) : ((lk v T).getD 0).natAbs ≤ B := by
  cases l : lk v T with
  | none => exact Nat.zero_le _
  | some j => exact Nat.le_trans (S_mem _ (lk_mem l)) k.sm
theorem Tab.bd {n B : Nat} {T : Tb} (k : Tab n B T) (h : B ≤ 100) (e : List Nat × Int) (he : e ∈ T) : e.2 ≠ 0 ∧ -100 ≤ e.2 ∧ e.2 ≤ 100 := by
  have := S_mem e he
  have := k.sm
  exact ⟨k.nz e he, by omega, by omega⟩
theorem Tab.mono {n B B' : Nat} {T : Tb} (k : Tab n B T) (h : B ≤ B') : Tab n B' T := ⟨k.nd, k.ex, k.nz, Nat.le_trans k.sm h⟩
theorem plus_tab {n B C : Nat} {T : Tb} {v : List Nat} {c : Int} (k : Tab n B T) (hv : Ex n v) (hc : c.natAbs ≤ C) : Tab n (B + C) (plusT v c T) ∧ (plusT v c T).length ≤ T.length + 1 := by
  unfold plusT
  cases q : decide ((lk v T).getD 0 + c = 0) with
  | true =>
    have s := dl_sub (v := v) T
    exact ⟨⟨(s.map _).nodup k.nd, fun e he => k.ex e (s.subset he), fun e he => k.nz e (s.subset he), by have := S_dl (v := v) T; have := k.sm; show S (dl v T) ≤ _; omega⟩, by have := s.length_le; show (dl v T).length ≤ _; omega⟩
  | false =>
    have ne := of_decide_eq_false q
    refine ⟨⟨?_, fun e he => ?_, fun e he => ?_, ?_⟩, ?_⟩
    · show ((pt v ((lk v T).getD 0 + c) T).map (·.1)).Nodup
      rw [pt_keys]
      cases l : lk v T with
      | some j => exact k.nd
      | none =>
        have no := lk_no l
        show (T.map (·.1) ++ [v]).Nodup
        rw [List.nodup_append]
        exact ⟨k.nd, by simp, fun a ha b hb e => by rw [List.mem_singleton.mp hb] at e; rw [e] at ha; exact no ha⟩
    · rcases pt_mem he with rfl | h
      · exact hv
      · exact k.ex e h
    · rcases pt_mem he with rfl | h
      · exact ne
      · exact k.nz e h
    · have := S_pt (v := v) (k := (lk v T).getD 0 + c) T
      have := k.sm
      show S (pt v ((lk v T).getD 0 + c) T) ≤ _
      omega
    · have := congrArg List.length (pt_keys (v := v) (k := (lk v T).getD 0 + c) T)
      rw [List.length_map] at this
      show (pt v ((lk v T).getD 0 + c) T).length ≤ _
      rw [this]
      cases lk v T with
      | some j => show (T.map (·.1)).length ≤ _; rw [List.length_map]; omega
      | none => show (T.map (·.1) ++ [v]).length ≤ _; rw [List.length_append, List.length_map]; simp
end K10
set_option maxHeartbeats 1000000
set_option pp.maxSteps 800
noncomputable section
namespace K10
open PySem L2 Pd Gn PySem.Spec PyProof.Rows Zq Hx Sy KG
theorem lc_satH {h : Hs} {me : W → M W} {A : W → Prop} (hm : ∀ w, (me w h).sat (fun v g => g = h ∧ A v) FF) : ∀ ws : List W, (lcM tgN (fun _ => rt true) me ws h).sat (fun ys g => g = h ∧ ys.length = ws.length ∧ ∀ y ∈ ys, A y) FF
  | [] => ⟨rfl, rfl, fun y h => (by cases h)⟩
  | w :: ws => by
    have ih := lc_satH hm ws
    show (bd (lf (some w)) _ h).sat _ _
    rw [bd_ok (show lf (some w) h = .ok w h from rfl), bd_ok (show rt true h = .ok true h from rfl)]
    show (bd (me w) _ h).sat _ _
    refine sat_bd (sat_mono (fun v g hv => ?_) (fun _ _ x => x) (hm w))
    obtain ⟨rfl, hv⟩ := hv
    refine sat_bd (sat_mono (fun ys g' hr => ?_) (fun _ _ x => x) ih)
    obtain ⟨rfl, q1, q2⟩ := hr
    exact ⟨rfl, by rw [List.length_cons, q1, List.length_cons], fun y hy => (List.mem_cons.mp hy).elim (fun e => by rw [e]; exact hv) (q2 y)⟩
theorem all_natB {b : Nat} : ∀ ys : List W, (∀ y ∈ ys, ∃ x : Nat, y = iW (x : Nat) ∧ x ≤ b) → ∃ xs : List Nat, ys = iL xs ∧ xs.length = ys.length ∧ ∀ x ∈ xs, x ≤ b
  | [], _ => ⟨[], rfl, rfl, fun x h => (by cases h)⟩
  | y :: ys, h => by
    obtain ⟨xs, e, l, q⟩ := all_natB ys fun y hy => h y (List.mem_cons_of_mem _ hy)
    obtain ⟨x, e1, q1⟩ := h y (by simp)
    refine ⟨x :: xs, by rw [e, e1]; rfl, by rw [List.length_cons, l, List.length_cons], fun z hz => ?_⟩
    rcases List.mem_cons.mp hz with rfl | hz
    · exact q1
    · exact q z hz
theorem exp_sat {h : Hs} {n : Nat} (g : h.get 0 = some .st) (hn : n ≤ 3) : (toM (frzW (lc1 tgN (fun _ => rt true) (fun x_5 => (callM 2 (apM (rt (.ref 0)) (apM (binM (Hx.l2 pAddX) (rt (.dat (.int 3))) (rt (.dat (.int 1)))) (rt []))) m__law_take)) (rg1 (rt (iW (n : Nat)))))) h).sat (fun w h' => h' = h ∧ ∃ v : List Nat, w = tN v ∧ Ex n v) FF := by
  unfold toM
  refine sat_bd ?_
  unfold frzW
  refine sat_bd ?_
  unfold lc1
  rw [bd_ok (rg_nat (m := rt (iW (n : Nat))) (h := h) rtok (by omega)), bd_ok (show lf (gd (short ((List.range n).map fun j : Nat => iW (j : Nat)).length) (some ())) h = .ok () h by
    rw [show short ((List.range n).map fun j : Nat => iW (j : Nat)).length = true from Nat.ble_eq_true_of_le (by rw [List.length_map, List.length_range]; omega)]
    rfl)]
  show T.sat _ FF (nox.go (lcM _ _ _ _ h))
  refine nox_sat (sat_mono (fun ys h' hr => ?_) (fun _ _ x => x) (lc_satH (A := fun y => ∃ x : Nat, y = iW (x : Nat) ∧ x ≤ 3) (fun w => ?_) _))
  · obtain ⟨rfl, q1, q2⟩ := hr
    rw [List.length_map, List.length_range] at q1
    obtain ⟨xs, rfl, l, q⟩ := all_natB ys q2
    show T.sat _ FF (lf ((itemsH h' (mkL (iL xs))).map mkT) h')
    rw [mkL_iL]
    show (h' = h' ∧ ∃ v : List Nat, mkT ((xs.map iD).map W.dat) = tN v ∧ Ex n v)
    exact ⟨rfl, xs, by rw [mkT_dat]; rfl, by omega, q⟩
  · have s := take_sat (f := fun v => rt v) (P := fun v g => g = h ∧ ∃ x : Nat, v = iW (x : Nat) ∧ x ≤ 3) (m := binM (Hx.l2 pAddX) (rt (.dat (.int 3))) (rt (.dat (.int 1)))) (k := 4) g (show _ = T.ok (iW ((4 : Nat) : Int)) h from rfl) (by omega) (by omega) fun v hv => ⟨rfl, v, rfl, by omega⟩
    have rid : ∀ t : T W, t.bind (fun v => rt v) = t := fun t => by
      induction t with
      | ok a h => rfl
      | exc x h => rfl
      | draw n k ih =>
        show T.draw n (fun v => (k v).bind fun v => rt v) = _
        congr 1
        exact funext ih
      | bad => rfl
    have s2 : ((callM 2 (apM (rt (.ref 0)) (apM (binM (Hx.l2 pAddX) (rt (.dat (.int 3))) (rt (.dat (.int 1)))) (rt []))) m__law_take h).bind (fun v => rt v)).sat (fun v g => g = h ∧ ∃ x : Nat, v = iW (x : Nat) ∧ x ≤ 3) FF := s
    rw [rid] at s2
    exact s2
abbrev drB (n : Nat) (x_2 : W) (st_3 : Unit) : M (Res W Unit) := (bd (toM (frzW (lc1 tgN (fun _ => rt true) (fun x_5 => (callM 2 (apM (rt (.ref 0)) (apM (binM (Hx.l2 pAddX) (rt (.dat (.int 3))) (rt (.dat (.int 1)))) (rt []))) m__law_take)) (rg1 (rt (iW (n : Nat))))))) fun exponent_4 => (bd (callM 3 (apM (rt (.ref 1)) (apM (rt exponent_4) (apM (callM 1 (apM (rt (.ref 0)) (rt [])) m__law_item) (rt [])))) m__law_plus) fun _ => (rt (.nxt ()))))
abbrev hD (T : Tb) : Hs := hD1 2 [(0, .st)] T
theorem dr_step {n : Nat} (hn : n ≤ 3) {B : Nat} {T : Tb} (hB : B ≤ 12) (k : Tab n B T) (hl : T.length ≤ 90) (w : W) : (drB n w () (hD T)).sat (fun r g => r = .nxt () ∧ ∃ T', g = hD T' ∧ Tab n (B + 4) T' ∧ T'.length ≤ T.length + 1) FF := by
  refine sat_bd (sat_mono (fun x g hx => ?_) (fun _ _ x => x) (exp_sat (h := hD T) rfl hn))
  obtain ⟨rfl, v, rfl, hv⟩ := hx
  refine sat_bd ?_
  unfold callM
  refine sat_bd ?_
  show (bd (rt (W.ref 1)) _ (hD T)).sat _ _
  rw [bd_ok (show rt (W.ref 1) (hD T) = .ok (.ref 1) (hD T) from rfl)]
  show (bd (bd (rt (tN v)) _) _ (hD T)).sat _ _
  refine sat_bd ?_
  rw [bd_ok (show rt (tN v) (hD T) = .ok (tN v) (hD T) from rfl)]
  show (bd (bd (callM 1 (apM (rt (.ref 0)) (rt [])) m__law_item) _) _ (hD T)).sat _ _
  refine sat_bd ?_
  refine sat_bd ?_
  have it : callM 1 (apM (rt (.ref 0)) (rt [])) m__law_item (hD T) = m__law_item [.ref 0] (hD T) := rfl
  show (callM 1 (apM (rt (.ref 0)) (rt [])) m__law_item (hD T)).sat _ _
  rw [it]
  refine sat_mono (fun y g hy => ?_) (fun _ _ x => x) (item_sat (h := hD T) rfl)
  obtain ⟨rfl, c, hc, rfl⟩ := hy
  have lb := k.at v
  have pl := plus_ok1 (N := 2) (R := [(0, .st)]) (T := T) (v := v) (c := c) (by omega) (by omega) (by omega)
  obtain ⟨t1, t2⟩ := plus_tab (C := 4) k hv (c := c) (by omega)
  show (m__law_plus [.ref 1, tN v, frW c] (hD T)).sat _ _
  rw [pl]
  exact ⟨rfl, _, rfl, t1, t2⟩
theorem dr_loop {n : Nat} (hn : n ≤ 3) : ∀ (ws : List W) (i : Nat) (T : Tb), Tab n (4 * i) T → T.length ≤ i → i + ws.length ≤ 4 → (forM (stepM tgN (drB n)) ws () (hD T)).sat (fun r g => r = .nxt () ∧ ∃ T', g = hD T' ∧ Tab n 16 T' ∧ T'.length ≤ 4) FF
  | [], i, T, k, hl, hi => ⟨rfl, T, rfl, k.mono (by simp at hi; omega), by simp at hi; omega⟩
  | w :: ws, i, T, k, hl, hi => by
    rw [List.length_cons] at hi
    show (bd (bd (lf (some w)) fun b => drB n b ()) _ (hD T)).sat _ _
    refine sat_bd ?_
    rw [bd_ok (show lf (some w) (hD T) = .ok w (hD T) from rfl)]
    refine sat_mono (fun r g hr => ?_) (fun _ _ x => x) (dr_step hn (by omega) k (by omega) w)
    obtain ⟨rfl, T', rfl, t1, t2⟩ := hr
    exact dr_loop hn ws (i + 1) T' (t1.mono (by omega)) (by omega) (by omega)
abbrev hS : Hs := ⟨1, [(0, .st)]⟩
abbrev hE : Hs := ⟨2, [(0, .st)]⟩
theorem drawn_sat {n : Nat} (hn : n ≤ 3) : (m__law_drawn [.ref 0, iW (n : Nat), .dat (.int 3)] hS).sat (fun w h => h = hE ∧ ∃ T : Tb, w = .dct (en frW T) ∧ Tab n 16 T ∧ T.length ≤ 4) FF := by
  show (bd (g__law_drawn (.ref 0) (iW (n : Nat)) (.dat (.int 3))) _ hS).sat _ _
  refine sat_bd ?_
  unfold g__law_drawn
  rw [bd_ok (show dnewM hS = .ok (.ref 1) (hD []) from rfl)]
  refine sat_bd ?_
  unfold rg1
  refine take_sat rfl (show rt (iW ((5 : Nat) : Int)) (hD []) = .ok (iW ((5 : Nat) : Int)) (hD []) from rfl) (by omega) (by omega) fun t ht => ?_
  have rg : lf (gd (small ((t : Nat) : Int)) (some ((rngD 0 ((t : Nat) : Int).toNat).map W.dat))) (hD []) = .ok ((rngD 0 t).map W.dat) (hD []) := by
    rw [show small ((t : Nat) : Int) = true from inR_of (by omega) (by omega), Int.toNat_natCast]
    rfl
  show T.sat _ FF (lf (gd (small ((t : Nat) : Int)) (some ((rngD 0 ((t : Nat) : Int).toNat).map W.dat))) (hD []))
  rw [rg]
  show (bd (forM (stepM tgN (drB n)) ((rngD 0 t).map W.dat) ()) _ (hD [])).sat _ _
  refine sat_bd (sat_mono (fun r g hr => ?_) (fun _ _ x => x) (dr_loop hn ((rngD 0 t).map W.dat) 0 [] ⟨by simp, fun e h => (by cases h), fun e h => (by cases h), Nat.le_refl _⟩ (by simp) (by rw [List.length_map, rngD_len]; omega)))
  obtain ⟨rfl, T', rfl, t1, t2⟩ := hr
  exact ⟨rfl, T', rfl, t1, t2⟩
end K10
set_option maxHeartbeats 1000000
set_option pp.maxSteps 800
noncomputable section
namespace K10
open PySem L2 Pd Gn PySem.Spec PyProof.Rows Zq Hx Sy KG
theorem make_ev {c n : Nat} {dv ws fs : List W} {ma : M (List W)} {mm : List W → M W} {h' : Hs} (e1 : Ev ma ws) (e2 : (Nat.beq ((ws ++ dv).length + 1) n && norefs (ws ++ dv)) = true) (e3 : mm (.ref 0 :: (ws ++ dv)) ⟨1, [(0, .ins c [])]⟩ = .ok (.dat .none) h') (e4 : h'.get 0 = some (.ins c fs)) (e5 : (Nat.beq fs.length (insF c).length && norefs fs) = true) : Ev (makeM c n dv ma mm) (.ins c fs) := fun h => by
  unfold makeM
  rw [bd_ok (e1 h), bd_ok (show lf (gd (Nat.beq ((ws ++ dv).length + 1) n && norefs (ws ++ dv)) (some ())) h = .ok () h by rw [e2]; rfl)]
  show normWs (ws ++ dv) (fun ws => mkI c h (mm (.ref 0 :: ws) ⟨1, [(0, .ins c [])]⟩)) = _
  rw [normWs_eq, e3]
  show (match h'.get 0 with | some (.ins d fs) => (match Nat.beq d c && (Nat.beq fs.length (insF c).length && norefs fs) with | true => T.ok (W.ins c fs) h | false => T.bad) | _ => T.bad) = _
  rw [e4]
  show (match Nat.beq c c && (Nat.beq fs.length (insF c).length && norefs fs) with | true => T.ok (W.ins c fs) h | false => T.bad) = _
  rw [e5, Nat.beq_refl]
  rfl
theorem meth_ev {c n : Nat} {o w : W} {fs ws : List W} {m : M W} {ma : M (List W)} {mm : List W → M W} {h' : Hs} (h1 : Ev m o) (h2 : isI c o = some fs) (h3 : Ev ma ws) (h4 : (Nat.beq (ws.length + 1) n && (noref o && norefs ws)) = true) (h5 : mm (o :: ws) ⟨0, []⟩ = .ok w h') (h6 : noref w = true) : Ev (methM c n m ma mm) w := fun h => by
  unfold methM
  rw [bd_ok (h1 h), bd_ok (show lf (isI c o) h = .ok fs h by rw [h2]; rfl), bd_ok (h3 h), bd_ok (show lf (gd (Nat.beq (ws.length + 1) n && (noref o && norefs ws)) (some ())) h = .ok () h by rw [h4]; rfl)]
  show normWs (o :: ws) (fun ws => isoT h (mm ws ⟨0, []⟩)) = _
  rw [normWs_eq, h5, isoT_ok h6]
theorem nrs_map {α : Type} {f : α → W} (hf : ∀ a, noref (f a) = true) : ∀ l : List α, norefs (l.map f) = true
  | [] => rfl
  | a :: l => by
    show (match noref (f a) with | true => norefs (l.map f) | false => false) = true
    rw [hf a]
    exact nrs_map hf l
theorem nr_mkL {ws : List W} (h : norefs ws = true) : noref (mkL ws) = true := by
  unfold mkL
  split
  · rfl
  · exact h
theorem nr_mkT {ws : List W} (h : norefs ws = true) : noref (mkT ws) = true := by
  unfold mkT
  split
  · rfl
  · exact h
theorem nrd_en {f : Int → W} (hf : ∀ k, noref (f k) = true) : ∀ T : Tb, norefD (en f T) = true
  | [] => rfl
  | (v, k) :: T => by
    show (match noref (f k) with | true => norefD (en f T) | false => false) = true
    rw [hf k]
    exact nrd_en hf T
theorem ev_frzL {ml : M (List W)} {ws : List W} (e : Ev ml ws) : Ev (frzW ml) (mkL ws) := fun h => by
  unfold frzW
  rw [bd_ok (e h)]
  rfl
theorem ev_toL {m : M W} {ws : List W} (e : Ev m (mkL ws)) : Ev (toM m) (mkT ws) := fun h => by
  unfold toM
  rw [bd_ok (e h)]
  show lf ((itemsH h (mkL ws)).map mkT) h = _
  have : itemsH h (mkL ws) = some ws := by
    unfold mkL
    split
    · rename_i ds q
      rw [datsOf_eq q]
      rfl
    · rfl
  rw [this]
  rfl
def prW (f : Int → W) (e : List Nat × Int) : W := .tup [tN e.1, f e.2]
theorem nr_pr (e : List Nat × Int) : noref (prW rW e) = true := rfl
abbrev LL (T : Tb) : W := mkL (T.map (prW rW))
theorem tup_pr (v : List Nat) (k : Int) {m1 m2 : M W} (e1 : Ev m1 (tN v)) (e2 : Ev m2 (rW k)) : Ev (tupM (apM m1 (apM m2 (rt [])))) (prW rW (v, k)) := ev_bd (ev_ap2 e1 e2) fun h => rfl
theorem ix_en {f : Int → W} {T : Tb} {v : List Nat} {k : Int} {m1 m2 : M W} (e1 : Ev m1 (.dct (en f T))) (e2 : Ev m2 (tN v)) (hk : lk v T = some k) : Ev (ixD m1 m2) (f k) := fun h => by
  unfold ixD
  rw [bd_ok (e1 h), bd_ok (e2 h)]
  show lf ((tkey (tN v)).bind fun q => dLook q (en f T)) h = _
  rw [tkey_ky]
  show lf (dLook (ky v) (en f T)) h = _
  rw [lk_en, hk]
  rfl
theorem lk_of : ∀ {T : Tb}, (T.map (·.1)).Nodup → ∀ e ∈ T, lk e.1 T = some e.2
  | [], _, e, he => by cases he
  | (w, j) :: T, nd, e, he => by
    have nd := List.nodup_cons.mp nd
    show (match decide (w = e.1) with | true => some j | false => lk e.1 T) = _
    rcases List.mem_cons.mp he with rfl | he
    · rw [decide_eq_true rfl]
    · have ne : w ≠ e.1 := fun q => nd.1 (List.mem_map.mpr ⟨e, he, q.symm⟩)
      rw [decide_eq_false ne]
      exact lk_of nd.2 e he
theorem sqD_en {f : Int → W} {T : Tb} {m : M W} (e : Ev m (.dct (en f T))) : Ev (sqD m) (T.map fun e => tN e.1) := fun h => by
  unfold sqD
  rw [bd_ok (e h)]
  show Hx.T.ok (keysW (en f T)) h = _
  rw [keys_en]
theorem cp_ok {T : Tb} (hl : T.length ≤ 50) : ∃ h', m_checked_pairs [LL T] h0 = .ok (LL T) h' := by
  have loop : ∀ (R D : Tb), D.length + R.length ≤ 50 → forM (stepM tgN fun x_2 (st_3 : Unit) => (ifM (Hx.orM (Hx.notM (tvM (isiM isTupO (rt x_2)))) (cmpM (c2 cNe) (biM fLen (apM (rt x_2) (rt []))) (rt (.dat (.int 2))))) (retE (fun _ => .bad)) (bd (rt x_2) fun w => bd (lf ((tgT 2 (tgsC tgN (tgsC tgN tgs0))) w)) fun p_4 => (bd (appM (rt (.ref 0)) (tupM (apM (rt p_4.1) (apM (callI 1 (apM (rt p_4.2.1) (rt [])) m__checked_number) (rt []))))) fun _ => (rt (.nxt ())))) : M (Res W Unit))) (R.map (prW rW)) () ⟨1, [(0, .lst (D.map (prW rW)))]⟩ = .ok (.nxt ()) ⟨1, [(0, .lst ((D ++ R).map (prW rW)))]⟩ := fun R => by
    induction R with
    | nil => intro D hD; rw [List.append_nil]; rfl
    | cons e R ih =>
      intro D hD
      rw [List.length_cons] at hD
      obtain ⟨v, k⟩ := e
      have cn : Ev (callI 1 (apM (rt (rW k)) (rt [])) m__checked_number) (rW k) := ev_call (ev_ap1 (ev_rt _)) rfl (show m__checked_number [rW k] h0 = .ok (rW k) h0 from rfl) rfl
      have ap : appM (rt (.ref 0)) (tupM (apM (rt (tN v)) (apM (callI 1 (apM (rt (rW k)) (rt [])) m__checked_number) (rt [])))) ⟨1, [(0, .lst (D.map (prW rW)))]⟩ = .ok (.dat .none) ⟨1, [(0, .lst (D.map (prW rW) ++ [prW rW (v, k)]))]⟩ := app_ref (r := 0) (ws := D.map (prW rW)) (ws1 := D.map (prW rW)) rtok rfl (tup_pr v k (ev_rt _) cn _) rfl (by rw [List.length_map]; omega)
      have ih := ih (D ++ [(v, k)]) (by rw [List.length_append, List.length_singleton]; omega)
      rw [List.append_assoc] at ih
      refine (seq_nx (a := ()) (h' := ⟨1, [(0, .lst ((D ++ [(v, k)]).map (prW rW)))]⟩) ?_).trans ih
      show (bd (appM (rt (.ref 0)) (tupM (apM (rt (tN v)) (apM (callI 1 (apM (rt (rW k)) (rt [])) m__checked_number) (rt []))))) fun _ => (rt (.nxt ()) : M (Res W Unit))) ⟨1, [(0, .lst (D.map (prW rW)))]⟩ = _
      rw [bd_ok ap, List.map_append]
      rfl
  have lp := loop T [] (by simpa using hl)
  refine ⟨⟨1, []⟩, ?_⟩
  have body : g_checked_pairs (LL T) h0 = .ok (.ret (LL T)) ⟨1, []⟩ := by
    unfold g_checked_pairs
    have sq : isSqW (LL T) = some (.dat (.bool true)) := by
      show isSqW (mkL _) = _
      unfold mkL
      split <;> rfl
    have c1 : Hx.notM (tvM (isSqM (rt (LL T)))) h0 = .ok false h0 := not_ok (b := true) (tv_ok (by
      unfold isSqM
      rw [bd_ok (show rt (LL T) h0 = .ok (LL T) h0 from rfl), sq]
      rfl))
    rw [if_f c1, bd_ok (show ownW (lstM (rt [])) h0 = .ok (.ref 0) ⟨1, [(0, .lst [])]⟩ from rfl), bd_ok (show sqM (rt (LL T)) ⟨1, [(0, .lst [])]⟩ = .ok (T.map (prW rW)) ⟨1, [(0, .lst [])]⟩ by
      show lf (seqW (mkL _)) _ = _
      rw [seq_mkL]
      rfl)]
    refine (seq_nx lp).trans ?_
    rw [List.nil_append]
    have fz : frzM (.ref 0) ⟨1, [(0, .lst (T.map (prW rW)))]⟩ = .ok (LL T) ⟨1, []⟩ := rfl
    rw [bd_ok fz]
    rfl
  show finM (g_checked_pairs (LL T)) h0 = _
  unfold finM
  rw [bd_ok body]
  rfl
end K10
set_option maxHeartbeats 1000000
set_option pp.maxSteps 800
noncomputable section
namespace K10
open PySem L2 Pd Gn PySem.Spec PyProof.Rows Zq Hx Sy KG
theorem lk_none : ∀ {T : Tb} {v : List Nat}, v ∉ T.map (·.1) → lk v T = none
  | [], _, _ => rfl
  | (w, j) :: T, v, h => by
    simp only [List.map_cons, List.mem_cons, not_or] at h
    show (match decide (w = v) with | true => some j | false => lk v T) = _
    rw [decide_eq_false fun e => h.1 e.symm]
    exact lk_none h.2
theorem pt_new {v : List Nat} {k : Int} : ∀ {T : Tb}, lk v T = none → pt v k T = T ++ [(v, k)]
  | [], _ => rfl
  | (w, j) :: T, h => by
    have h : (match decide (w = v) with | true => some j | false => lk v T) = none := h
    show (match decide (w = v) with | true => (w, k) :: T | false => (w, j) :: pt v k T) = _
    cases c : decide (w = v) with
    | true => rw [c] at h; cases h
    | false =>
      rw [c] at h
      show (w, j) :: pt v k T = _
      rw [pt_new h]
      rfl
theorem mid_no {D R : Tb} {e : List Nat × Int} (nd : ((D ++ e :: R).map (·.1)).Nodup) : lk e.1 D = none := lk_none fun hm => by
  rw [List.map_append, List.map_cons, List.nodup_append] at nd
  exact nd.2.2 e.1 hm e.1 (by simp) rfl
theorem mid_lk {D R : Tb} {e : List Nat × Int} (nd : ((D ++ e :: R).map (·.1)).Nodup) : lk e.1 (D ++ e :: R) = some e.2 := lk_of nd e (by simp)
theorem short_en {T : Tb} (h : T.length ≤ 100) : shortS (en rW T).length = true := by
  rw [en_len]
  unfold shortS
  exact Nat.ble_eq_true_of_le (by omega)
theorem au_ok {T : Tb} (nd : (T.map (·.1)).Nodup) (hl : T.length ≤ 50) (hk : ∀ e ∈ T, e.2 ≠ 0 ∧ -100 ≤ e.2 ∧ e.2 ≤ 100) : ∃ h', m_added_up [LL T] h0 = .ok (.dct (en rW T)) h' := by
  have loop : ∀ (R D : Tb), ((D ++ R).map (·.1)).Nodup → D.length + R.length ≤ 50 → forM (stepM (tgT 2 (tgsC tgN (tgsC tgN tgs0))) fun x_2 (st_3 : Unit) => (seqM (ifM (dinM false (rt x_2.1) (rt (.ref 0))) (bd (setD (bopM 0 m_Ratio_add (ixD (rt (.ref 0)) (rt x_2.1)) (rt x_2.2.1)) (rt (.ref 0)) (rt x_2.1)) fun _ => (rt (.nxt ()))) ((bd (setD (rt x_2.2.1) (rt (.ref 0)) (rt x_2.1)) fun _ => (rt (.nxt ()))) : M (Res W (Unit)))) fun st_4 => (rt (.nxt ()) : M (Res W Unit)))) (R.map (prW rW)) () ⟨1, [(0, .dic (en rW D))]⟩ = .ok (.nxt ()) ⟨1, [(0, .dic (en rW (D ++ R)))]⟩ := fun R => by
    induction R with
    | nil => intro D _ hD; rw [List.append_nil]; rfl
    | cons e R ih =>
      intro D nd hD
      rw [List.length_cons] at hD
      have no := mid_no nd
      obtain ⟨v, k⟩ := e
      have no : lk v D = none := no
      have ih := ih (D ++ [(v, k)]) (by rw [List.append_assoc]; exact nd) (by rw [List.length_append, List.length_singleton]; omega)
      rw [List.append_assoc] at ih
      refine (seq_nx (a := ()) (h' := ⟨1, [(0, .dic (en rW (D ++ [(v, k)])))]⟩) ?_).trans ih
      have di : dinM false (rt (tN v)) (rt (.ref 0)) ⟨1, [(0, .dic (en rW D))]⟩ = .ok false ⟨1, [(0, .dic (en rW D))]⟩ := by
        show lf ((tkey (tN v)).map fun q => false != (dLook q (en rW D)).isSome) _ = _
        rw [tkey_ky]
        show lf (some (false != (dLook (ky v) (en rW D)).isSome)) _ = _
        rw [lk_en, no]
        rfl
      have ss : setD (rt (rW k)) (rt (.ref 0)) (rt (tN v)) ⟨1, [(0, .dic (en rW D))]⟩ = .ok () ⟨1, [(0, .dic (en rW (D ++ [(v, k)])))]⟩ := by
        show (bd (isDm (.ref 0)) fun p => bd (lf (gd (shortS p.2.length) (tkey (tN v)))) fun q => putDm p.1 (dPut q (rW k) p.2)) ⟨1, [(0, .dic (en rW D))]⟩ = _
        rw [bd_ok (show isDm (.ref 0) ⟨1, [(0, .dic (en rW D))]⟩ = .ok (0, en rW D) ⟨1, [(0, .dic (en rW D))]⟩ from rfl), bd_ok (show lf (gd (shortS (0, en rW D).2.length) (tkey (tN v))) ⟨1, [(0, .dic (en rW D))]⟩ = .ok (ky v) ⟨1, [(0, .dic (en rW D))]⟩ by
          rw [tkey_ky, show shortS (0, en rW D).2.length = true from short_en (by omega)]
          rfl)]
        show Hx.T.ok () ⟨1, [(0, .dic (dPut (ky v) (rW k) (en rW D)))]⟩ = _
        rw [pt_en, pt_new no]
      show (seqM (ifM (dinM false (rt (tN v)) (rt (.ref 0))) _ ((bd (setD (rt (rW k)) (rt (.ref 0)) (rt (tN v))) fun _ => (rt (.nxt ()))) : M (Res W (Unit)))) fun st_4 => (rt (.nxt ()) : M (Res W Unit))) ⟨1, [(0, .dic (en rW D))]⟩ = _
      refine (seq_nx (a := ()) (h' := ⟨1, [(0, .dic (en rW (D ++ [(v, k)])))]⟩) ?_).trans rfl
      rw [if_f di, bd_ok ss]
      rfl
  have lp := loop T [] (by simpa using nd) (by simpa using hl)
  rw [List.nil_append] at lp
  have comp : ∀ (R D : Tb), D ++ R = T → Ev (dcM tgN (fun x_6 => (Hx.notM (tvM (methM 0 1 (ixD (rt (.dct (en rW T))) (rt x_6)) (rt []) m_Ratio_is_zero)))) (fun x_6 => (rt x_6)) (fun x_6 => (ixD (rt (.dct (en rW T))) (rt x_6))) (R.map fun e => tN e.1) (en rW D)) (en rW T) := fun R => by
    induction R with
    | nil => intro D e; rw [List.append_nil] at e; rw [e]; exact ev_rt _
    | cons e R ih =>
      intro D eq
      have nd' : ((D ++ e :: R).map (·.1)).Nodup := by rw [eq]; exact nd
      have no := mid_no nd'
      have lv := mid_lk nd'
      rw [eq] at lv
      have be := hk e (by rw [← eq]; simp)
      obtain ⟨v, k⟩ := e
      have no : lk v D = none := no
      have lv : lk v T = some k := lv
      have be : k ≠ 0 ∧ -100 ≤ k ∧ k ≤ 100 := be
      have ih := ih (D ++ [(v, k)]) (by rw [List.append_assoc]; exact eq)
      obtain ⟨g, z⟩ := resB_at (on_at c_zero be.2.1 be.2.2)
      rw [decide_eq_false be.1] at z
      have ix : Ev (ixD (rt (.dct (en rW T))) (rt (tN v))) (rW k) := ix_en (ev_rt _) (ev_rt _) lv
      have mt : Ev (Hx.notM (tvM (methM 0 1 (ixD (rt (.dct (en rW T))) (rt (tN v))) (rt []) m_Ratio_is_zero))) true := ev_not (b := false) (ev_tv (meth_ev ix rfl (ev_rt _) rfl z rfl))
      have ln : D.length ≤ 50 := by
        have := congrArg List.length eq
        rw [List.length_append] at this
        omega
      have kq : Ev (lf (gd (shortS (en rW D).length) (tkey (tN v)))) (ky v) := fun h => by
        rw [tkey_ky, short_en (by omega)]
        rfl
      refine ev_bd (x := tN v) (fun h => rfl) (ev_bd mt (ev_bd (x := tN v) (ev_rt _) (ev_bd ix (ev_bd kq ?_))))
      rw [pt_en, pt_new no]
      exact ih
  have body : g_added_up (LL T) h0 = .ok (.ret (.dct (en rW T))) ⟨1, []⟩ := by
    unfold g_added_up
    rw [bd_ok (show dnewM h0 = .ok (.ref 0) ⟨1, [(0, .dic [])]⟩ from rfl), bd_ok (show sqM (rt (LL T)) ⟨1, [(0, .dic [])]⟩ = .ok (T.map (prW rW)) ⟨1, [(0, .dic [])]⟩ by
      show lf (seqW (mkL _)) _ = _
      rw [seq_mkL]
      rfl)]
    refine (seq_nx lp).trans ?_
    have fz : frzDM (.ref 0) ⟨1, [(0, .dic (en rW T))]⟩ = .ok (.dct (en rW T)) ⟨1, []⟩ := rfl
    rw [bd_ok fz]
    have dc : Ev (dctW (dc1 tgN (fun x_6 => (Hx.notM (tvM (methM 0 1 (ixD (rt (.dct (en rW T))) (rt x_6)) (rt []) m_Ratio_is_zero)))) (fun x_6 => (rt x_6)) (fun x_6 => (ixD (rt (.dct (en rW T))) (rt x_6))) (sqD (rt (.dct (en rW T)))))) (.dct (en rW T)) := ev_bd (x := en rW T) (fun h => by
      unfold dc1
      rw [bd_ok (sqD_en (ev_rt _) h), bd_ok (show lf (gd (short (T.map fun e => tN e.1).length) (some ())) h = .ok () h by
        rw [List.length_map, sh (by omega)]
        rfl)]
      show nox.go (dcM _ _ _ _ _ (en rW []) h) = _
      rw [comp T [] rfl h]
      rfl) (ev_rt _)
    rw [bd_ok (dc _)]
    rfl
  refine ⟨⟨1, []⟩, ?_⟩
  show finM (g_added_up (LL T)) h0 = _
  unfold finM
  rw [bd_ok body]
  rfl
end K10
set_option maxHeartbeats 1000000
set_option pp.maxSteps 800
noncomputable section
namespace K10
open PySem L2 Pd Gn PySem.Spec PyProof.Rows Zq Hx Sy KG
def srtQ (vs : List (List Nat)) : Option (List W) := match Nat.ble (vs.map kd).length 1 with
  | true => some ((vs.map kd).map W.dat)
  | false => gd (okSort (vs.map kd)) (some ((srtD (vs.map kd)).reverse.map .dat))
def kv (T : Tb) (v : List Nat) : Int := (lk v T).getD 0
abbrev TW (us : List (List Nat)) (T : Tb) : W := mkT (us.map fun v => prW rW (v, kv T v))
abbrev LW (n : Nat) (us : List (List Nat)) (T : Tb) : W := .ins 2 [iW (n : Nat), TW us T, .dct (en rW T)]
/-- a table and its keys in order -/
structure Tu (n : Nat) (T : Tb) (us : List (List Nat)) : Prop where
  t : Tab n 100 T
  l : T.length ≤ 30
  p : us.Perm (T.map (·.1))
  s : srtQ (T.map (·.1)) = some (us.map tN)
theorem Tu.lk {n : Nat} {T : Tb} {us : List (List Nat)} (k : Tu n T us) {v : List Nat} (hv : v ∈ us) : lk v T = some (kv T v) ∧ Ex n v ∧ kv T v ≠ 0 ∧ -100 ≤ kv T v ∧ kv T v ≤ 100 := by
  obtain ⟨e, he, rfl⟩ := List.mem_map.mp (k.p.mem_iff.mp hv)
  have l := lk_of k.t.nd e he
  have b := k.t.bd (Nat.le_refl _) e he
  unfold kv
  rw [l]
  exact ⟨rfl, k.t.ex e he, b⟩
theorem Tu.len {n : Nat} {T : Tb} {us : List (List Nat)} (k : Tu n T us) : us.length ≤ 30 := by
  have := k.p.length_eq
  rw [List.length_map] at this
  have := k.l
  omega
theorem srt_ev {vs us : List (List Nat)} {m : M W} (e : Ev m (.dat (.list (vs.map kd)))) (h : srtQ vs = some (us.map tN)) : Ev (srtDRM m) (us.map tN) := fun hp => by
  unfold srtDRM
  rw [bd_ok (e hp)]
  unfold srtQ at h
  show lf ((some ((vs.map kd).map W.dat)).bind fun ws => match Nat.ble ws.length 1 with | true => some ws | false => (datsOf ws).bind fun ds => gd (okSort ds) (some ((srtD ds).reverse.map .dat))) hp = _
  show lf (match Nat.ble ((vs.map kd).map W.dat).length 1 with | true => some ((vs.map kd).map W.dat) | false => (datsOf ((vs.map kd).map W.dat)).bind fun ds => gd (okSort ds) (some ((srtD ds).reverse.map .dat))) hp = _
  rw [datsOf_map, List.length_map (f := W.dat)]
  show lf (match Nat.ble (vs.map kd).length 1 with | true => some ((vs.map kd).map W.dat) | false => gd (okSort (vs.map kd)) (some ((srtD (vs.map kd)).reverse.map .dat))) hp = _
  rw [h]
  rfl
theorem keys_ev {T : Tb} {m : M W} (e : Ev m (.dct (en rW T))) : Ev (frzW (listDM m)) (.dat (.list ((T.map (·.1)).map kd))) := ev_frz (fun h => by
  unfold listDM
  rw [bd_ok (e h)]
  show Hx.T.ok (keysW (en rW T)) h = _
  rw [keys_en, List.map_map, List.map_map]
  rfl)
theorem terms_ev {n : Nat} {T : Tb} {us : List (List Nat)} (k : Tu n T us) : Ev (toM (frzW (lc1 tgN (fun _ => rt true) (fun x_4 => (tupM (apM (rt x_4) (apM (ixD (rt (.dct (en rW T))) (rt x_4)) (rt []))))) (sqM (frzW (srtDRM (frzW (listDM (rt (.dct (en rW T)))))))))) ) (TW us T) := ev_toL (ev_frzL (by
  have kl := k.len
  have sq : Ev (sqM (frzW (srtDRM (frzW (listDM (rt (.dct (en rW T)))))))) (us.map tN) := ev_sqM (ev_frzL (srt_ev (keys_ev (ev_rt _)) k.s)) (seq_mkL _)
  exact ev_lcg (u := tgN) (me := fun x_4 => (tupM (apM (rt x_4) (apM (ixD (rt (.dct (en rW T))) (rt x_4)) (rt []))))) (g := tN) (f := fun v => prW rW (v, kv T v)) (xs := us) sq (sh (by omega)) fun v hv => ⟨tN v, rfl, tup_pr v _ (ev_rt _) (ix_en (ev_rt _) (ev_rt _) (k.lk hv).1)⟩))
theorem num_ok {n : Nat} (hn : n ≤ 3) : Ev (callI 1 (apM (rt (iW (n : Nat))) (rt [])) m_check_number) (.dat .none) := by
  obtain ⟨g, e⟩ := resN_at (List.all_eq_true.mp c_num n (List.mem_range.mpr (by omega)))
  exact ev_call (ev_ap1 (ev_rt _)) rfl e rfl
theorem exp_ok {n : Nat} (hn : n ≤ 3) {v : List Nat} (hv : Ex n v) {m1 : M W} (e1 : Ev m1 (tN v)) : Ev (callI 2 (apM m1 (apM (rt (iW (n : Nat))) (rt []))) m__is_exponent) (.dat (.bool true)) := by
  obtain ⟨g, e⟩ := resB_at (List.all_eq_true.mp (List.all_eq_true.mp c_exp n (List.mem_range.mpr (by omega))) v (mem_allV hv))
  exact ev_call (ev_ap2 e1 (ev_rt _)) rfl e rfl
abbrev hL (fs : List W) : Hs := ⟨1, [(0, .ins 2 fs)]⟩
theorem set_ev {k : Nat} {m : M W} {v : W} {fs : List W} (e : Ev m v) (hk : Nat.beq fs.length k = true) : setAM 2 k m (rt (.ref 0)) (hL fs) = .ok () (hL (fs ++ [v])) := by
  unfold setAM
  rw [bd_ok (e _), bd_ok (show rt (W.ref 0) (hL fs) = .ok (.ref 0) (hL fs) from rfl)]
  show (match Nat.beq 2 2 && Nat.beq fs.length k with | true => T.ok () ((hL fs).put 0 (.ins 2 (fs ++ [v]))) | false => T.bad : T Unit) = _
  rw [hk]
  rfl
theorem linit_ok {n : Nat} (hn : n ≤ 3) {T : Tb} {us : List (List Nat)} (k : Tu n T us) : m_Letters_init [.ref 0, iW (n : Nat), LL T] (hL []) = .ok (.dat .none) (hL [iW (n : Nat), TW us T, .dct (en rW T)]) := by
  have kl := k.l
  obtain ⟨g1, e1⟩ := cp_ok (T := T) (by omega)
  obtain ⟨g2, e2⟩ := au_ok (T := T) k.t.nd (by omega) (k.t.bd (Nat.le_refl _))
  have nl : noref (LL T) = true := nr_mkL (nrs_map nr_pr T)
  have c1 : Ev (callI 1 (apM (rt (LL T)) (rt [])) m_checked_pairs) (LL T) := ev_call (ev_ap1 (ev_rt _)) (by
    show (true && (match noref (LL T) with | true => true | false => false)) = true
    rw [nl]
    rfl) e1 nl
  have c2 : Ev (callI 1 (apM (rt (LL T)) (rt [])) m_added_up) (.dct (en rW T)) := ev_call (ev_ap1 (ev_rt _)) (by
    show (true && (match noref (LL T) with | true => true | false => false)) = true
    rw [nl]
    rfl) e2 (show norefD (en rW T) = true from nrd_en (fun _ => rfl) T)
  have al := ev_all (u := tgT 2 (tgsC tgN (tgsC tgN tgs0))) (me := fun x_2 => (callI 2 (apM (rt x_2.1) (apM (rt (iW (n : Nat))) (rt []))) m__is_exponent)) (g := prW rW) (b := fun _ => true) (xs := T) (ev_sqM (ev_rt (LL T)) (seq_mkL _)) (sh (by omega)) fun e he => ⟨(tN e.1, rW e.2, ()), rfl, exp_ok hn (k.t.ex e he) (ev_rt _)⟩
  rw [show (T.all fun _ => true) = true from List.all_eq_true.mpr fun _ _ => rfl] at al
  have cc := ev_not (ev_tv al)
  show finM (g_Letters_init (.ref 0) (iW (n : Nat)) (LL T)) (hL []) = _
  have body : g_Letters_init (.ref 0) (iW (n : Nat)) (LL T) (hL []) = .ok (.nxt ()) (hL [iW (n : Nat), TW us T, .dct (en rW T)]) := by
    unfold g_Letters_init
    rw [bd_ok (num_ok hn _), bd_ok (c1 _), if_f (cc _), bd_ok (c2 _), bd_ok (set_ev (k := 0) (fs := []) (ev_rt (iW (n : Nat))) rfl), bd_ok (set_ev (k := 1) (fs := [] ++ [iW (n : Nat)]) (terms_ev k) rfl), bd_ok (set_ev (k := 2) (fs := [] ++ [iW (n : Nat)] ++ [TW us T]) (ev_rt (W.dct (en rW T))) rfl)]
    rfl
  unfold finM
  rw [bd_ok body]
  rfl
theorem ratio_ev {k : Int} (h : -100 ≤ k ∧ k ≤ 100) {m : M W} (e : Ev m (frW k)) : Ev (callI 1 (apM m (rt [])) m__law_ratio) (rW k) := by
  obtain ⟨g, z⟩ := resR_at (on_at c_ratio h.1 h.2)
  exact ev_call (ev_ap1 e) rfl z rfl
theorem nr_TW (us : List (List Nat)) (T : Tb) : noref (TW us T) = true := nr_mkT (nrs_map (fun v => rfl) us)
theorem letters_ok {n : Nat} (hn : n ≤ 3) {T : Tb} {us : List (List Nat)} (k : Tu n T us) : ∃ h', m__law_letters [iW (n : Nat), .dct (en frW T)] h0 = .ok (LW n us T) h' := by
  have kl := k.l
  have nl : noref (LL T) = true := nr_mkL (nrs_map nr_pr T)
  have ls : Ev (frzW (lc1 tgN (fun _ => rt true) (fun x_1 => (tupM (apM (rt x_1) (apM (callI 1 (apM (ixD (rt (.dct (en frW T))) (rt x_1)) (rt [])) m__law_ratio) (rt []))))) (sqD (rt (.dct (en frW T)))))) (LL T) := ev_frzL (ev_lcg (u := tgN) (me := fun x_1 => (tupM (apM (rt x_1) (apM (callI 1 (apM (ixD (rt (.dct (en frW T))) (rt x_1)) (rt [])) m__law_ratio) (rt []))))) (g := fun e : List Nat × Int => tN e.1) (f := prW rW) (xs := T) (sqD_en (ev_rt _)) (sh (by omega)) fun e he => ⟨tN e.1, rfl, tup_pr e.1 e.2 (ev_rt _) (ratio_ev (by have := k.t.bd (Nat.le_refl _) e he; omega) (ix_en (ev_rt _) (ev_rt _) (lk_of k.t.nd e he)))⟩)
  have mk : Ev (makeM 2 3 [] (apM (rt (iW (n : Nat))) (apM (frzW (lc1 tgN (fun _ => rt true) (fun x_1 => (tupM (apM (rt x_1) (apM (callI 1 (apM (ixD (rt (.dct (en frW T))) (rt x_1)) (rt [])) m__law_ratio) (rt []))))) (sqD (rt (.dct (en frW T)))))) (rt []))) m_Letters_init) (LW n us T) := make_ev (ev_ap2 (ev_rt _) ls) (by
    show (true && (match noref (LL T) with | true => true | false => false)) = true
    rw [nl]
    rfl) (linit_ok hn k) rfl (by
    show (true && (match noref (TW us T) with | true => (match noref (.dct (en rW T)) with | true => true | false => false) | false => false)) = true
    rw [nr_TW, show noref (.dct (en rW T)) = true from nrd_en (fun _ => rfl) T]
    rfl)
  refine ⟨h0, ?_⟩
  show finM (g__law_letters (iW (n : Nat)) (.dct (en frW T))) h0 = _
  unfold g__law_letters
  exact of_ev (ev_fin (ev_ret mk))
end K10
set_option maxHeartbeats 4000000
set_option pp.maxSteps 800
noncomputable section
namespace K10
open PySem L2 Pd Gn PySem.Spec PyProof.Rows Zq Hx Sy KG
def noH : T W → Option W
  | .ok w _ => some w
  | _ => none
theorem noH_at {t : T W} {w : W} (h : noH t = some w) : ∃ g, t = .ok w g := by
  unfold noH at h
  split at h
  · cases h; exact ⟨_, rfl⟩
  · cases h
def ords : List Nat → List (List Nat)
  | [] => [[]]
  | [a] => [[a]]
  | [a, b] => [[a, b], [b, a]]
  | [a, b, c] => [[a, b, c], [a, c, b], [b, a, c], [b, c, a], [c, a, b], [c, b, a]]
  | _ => []
def sw : Nat → List Nat → List Nat
  | 0, a :: b :: r => b :: a :: r
  | k + 1, a :: r => a :: sw k r
  | _, v => v
def eqN : List PyData → List Nat → Bool
  | [], [] => true
  | .int i :: ds, x :: xs => decide (i = (x : Int)) && eqN ds xs
  | _, _ => false
def eqO : List PyData → List (List Nat) → Bool
  | [], [] => true
  | .tuple ds :: es, v :: vs => eqN ds v && eqO es vs
  | _, _ => false
def resO (vs : List (List Nat)) : T W → Bool
  | .ok (.dat (.list es)) _ => eqO es vs
  | _ => false
theorem eqN_at : ∀ {ds : List PyData} {v : List Nat}, eqN ds v = true → ds = v.map iD
  | [], [], _ => rfl
  | [], _ :: _, h => by simp [eqN] at h
  | d :: ds, [], h => by cases d <;> simp [eqN] at h
  | d :: ds, x :: xs, h => by
    cases d with
    | int i =>
      have h : (decide (i = (x : Int)) && eqN ds xs) = true := h
      rw [Bool.and_eq_true] at h
      rw [of_decide_eq_true h.1, eqN_at h.2]
      rfl
    | _ => simp [eqN] at h
theorem eqO_at : ∀ {es : List PyData} {vs : List (List Nat)}, eqO es vs = true → es = vs.map kd
  | [], [], _ => rfl
  | [], _ :: _, h => by simp [eqO] at h
  | d :: ds, [], h => by cases d <;> simp [eqO] at h
  | d :: ds, x :: xs, h => by
    cases d with
    | tuple es =>
      have h : (eqN es x && eqO ds xs) = true := h
      rw [Bool.and_eq_true] at h
      rw [eqN_at h.1, eqO_at h.2]
      rfl
    | _ => simp [eqO] at h
theorem resO_at {vs : List (List Nat)} {t : T W} (h : resO vs t = true) : ∃ g, t = .ok (.dat (.list (vs.map kd))) g := by
  unfold resO at h
  split at h
  · rw [eqO_at h]; exact ⟨_, rfl⟩
  · cases h
theorem c_ord : ((List.range 4).all fun n => (allV n).all fun v => resO (ords v) (m__law_orders [tN v] h0)) = true := by decide +kernel
theorem ord_at {n : Nat} (hn : n ≤ 3) {v : List Nat} (hv : Ex n v) : ∃ g, m__law_orders [tN v] h0 = .ok (.dat (.list ((ords v).map kd))) g := resO_at (List.all_eq_true.mp (List.all_eq_true.mp c_ord n (List.mem_range.mpr (by omega))) v (mem_allV hv))
theorem sw20 : ∀ a b : Nat, noH (m__swapped [tN [a, b], iW ((0 : Nat) : Int), iW (((0 : Nat) : Int) + 1)] h0) = some (tN (sw 0 [a, b])) := by intro a b; kernel_rfl
theorem sw30 : ∀ a b c : Nat, noH (m__swapped [tN [a, b, c], iW ((0 : Nat) : Int), iW (((0 : Nat) : Int) + 1)] h0) = some (tN (sw 0 [a, b, c])) := by intro a b c; kernel_rfl
theorem sw31 : ∀ a b c : Nat, noH (m__swapped [tN [a, b, c], iW ((1 : Nat) : Int), iW (((1 : Nat) : Int) + 1)] h0) = some (tN (sw 1 [a, b, c])) := by intro a b c; kernel_rfl
end K10
set_option maxHeartbeats 4000000
set_option pp.maxSteps 800
noncomputable section
namespace K10
open PySem L2 Pd Gn PySem.Spec PyProof.Rows Zq Hx Sy KG
def rb (b : Bool) : Res W Unit := match b with
  | true => .nxt ()
  | false => .ret (.dat (.bool false))
theorem for_rb {γ β : Type} {u : W → Option β} {g : γ → W} {f : β → Unit → M (Res W Unit)} {P : γ → Bool} : ∀ xs : List γ, (∀ x ∈ xs, ∃ b, u (g x) = some b ∧ Ev (f b ()) (rb (P x))) → Ev (forM (stepM u f) (xs.map g) ()) (rb (xs.all P))
  | [], _ => ev_rt _
  | x :: xs, h => by
    obtain ⟨b, h1, h2⟩ := h x (by simp)
    have ih := for_rb (u := u) (g := g) (f := f) (P := P) xs fun y hy => h y (List.mem_cons_of_mem _ hy)
    have st : Ev (stepM u f (g x) ()) (rb (P x)) := ev_bd (x := b) (fun h => by rw [h1]; rfl) h2
    show Ev (seqM (stepM u f (g x) ()) (forM (stepM u f) (xs.map g))) (rb (P x && xs.all P))
    cases c : P x with
    | true =>
      rw [c] at st
      exact ev_nx (x := ()) st ih
    | false =>
      rw [c] at st
      exact ev_bd st (ev_rt _)
theorem seq_rb {m : M (Res W Unit)} {b : Bool} (e : Ev m (rb b)) : Ev (seqM m fun _ => (rt (.nxt ()) : M (Res W Unit))) (rb b) := by
  cases b with
  | true => exact ev_nx (x := ()) e (ev_rt _)
  | false => exact ev_bd e (ev_rt _)
theorem fin_rb {m : M (Res W Unit)} {b : Bool} (e : Ev m (rb b)) : Ev (seqM m fun _ => (bd (rt (.dat (.bool true))) fun w => rt (.ret w) : M (Res W Unit))) (.ret (.dat (.bool b))) := by
  cases b with
  | true => exact ev_nx (x := ()) e (ev_rt _)
  | false => exact ev_bd e (ev_rt _)
theorem if_rb {c : M Bool} {b : Bool} (e : Ev c (!b)) : Ev (ifM c (retE (bd (rt (.dat (.bool false))) fun w => rt (.ret w))) (rt (.nxt ())) : M (Res W Unit)) (rb b) := by
  cases b with
  | true => exact ev_iff e (ev_rt _)
  | false => exact ev_ift e (ev_retE (ev_rt _))
theorem ev_and2 {m1 m2 : M Bool} {a b : Bool} (e : Ev m1 a) (e2 : Ev m2 b) : Ev (Hx.andM m1 m2) (a && b) := by
  cases a with
  | true => exact ev_and e e2
  | false => exact ev_bd e (ev_rt _)
theorem num_eq (a b : Int) : (decide (nu a = nu b) && decide (de a = de b)) = decide (a = b) := by
  by_cases h : a = b
  · subst h
    rw [decide_eq_true rfl, decide_eq_true rfl, decide_eq_true rfl]
    rfl
  · rw [decide_eq_false h, Bool.and_eq_false_iff]
    by_cases c : nu a = nu b
    · right
      refine decide_eq_false fun d => h ?_
      unfold nu at c
      unfold de at d
      by_cases p : a % 2 = 0 <;> by_cases q : b % 2 = 0
      · rw [decide_eq_true p, decide_eq_true q] at c
        have c : a / 2 = b / 2 := c
        omega
      · rw [decide_eq_true p, decide_eq_false q] at d
        cases d
      · rw [decide_eq_false p, decide_eq_true q] at d
        cases d
      · rw [decide_eq_false p, decide_eq_false q] at c
        exact c
    · left
      exact decide_eq_false c
theorem req (a b : Int) : m_Ratio_eq [rW a, rW b] ⟨0, []⟩ = .ok (.dat (.bool (decide (a = b)))) ⟨0, []⟩ := by
  rw [← num_eq]
  exact of_ev (ev_fin (ev_ret (ev_bW (ev_and2 (a := true) (ev_bv fun h => rfl) (ev_and2 (ev_bv (ev_bW (ev_eqI (fun h => rfl) fun h => rfl))) (ev_bv (ev_bW (ev_eqI (fun h => rfl) fun h => rfl))))))))
def og (f : Int → W) : Option Int → W
  | some j => f j
  | none => .dat .none
theorem dget_ev {f : Int → W} {T : Tb} {m1 m2 : M W} {u : List Nat} (e1 : Ev m1 (.dct (en f T))) (e2 : Ev m2 (tN u)) : Ev (dget0M m1 m2) (og f (lk u T)) :=
  ev_bd e1 (ev_bd (x := en f T) (fun h => rfl) (ev_bd e2 fun h => by
    show lf ((tkey (tN u)).map fun k => (dLook k (en f T)).getD (.dat .none)) h = _
    rw [tkey_ky]
    show lf (some ((dLook (ky u) (en f T)).getD (.dat .none))) h = _
    rw [lk_en]
    cases lk u T <;> rfl))
theorem neX_ev {m1 m2 : M W} {o : Option Int} {k : Int} (e1 : Ev m1 (og rW o)) (e2 : Ev m2 (rW k)) : Ev (bvM (neXM 0 m_Ratio_eq m1 m2)) (!decide (o = some k)) := by
  refine ev_bv (ev_bd e1 (ev_bd e2 fun h => ?_))
  cases o with
  | none => rfl
  | some j =>
    show isoF not h (m_Ratio_eq [rW j, rW k] ⟨0, []⟩) = _
    rw [req]
    have : decide (j = k) = decide (some j = some k) := by
      by_cases c : j = k
      · rw [c, decide_eq_true rfl, decide_eq_true rfl]
      · rw [decide_eq_false c, decide_eq_false fun e => c (Option.some.inj e)]
    rw [this]
    rfl
theorem neF_ev {m1 m2 : M W} {o : Option Int} {k : Int} (e1 : Ev m1 (og frW o)) (e2 : Ev m2 (frW k)) : Ev (cmpM (c2 cNe) m1 m2) (!decide (o = some k)) := by
  cases o with
  | none => exact ev_cmp (x := .none) e1 e2 rfl
  | some j =>
    refine ev_cmp e1 e2 ?_
    have : decide (some j = some k) = (decide (nu j = nu k) && (decide (de j = de k) && true)) := by
      rw [Bool.and_true, num_eq]
      by_cases c : j = k
      · rw [c, decide_eq_true rfl, decide_eq_true rfl]
      · rw [decide_eq_false c, decide_eq_false fun e => c (Option.some.inj e)]
    rw [this]
    rfl
theorem sw_ev {n : Nat} (hn : n ≤ 3) {v : List Nat} (hv : Ex n v) {k : Nat} (hk : k + 1 < n) : Ev (callI 3 (apM (rt (tN v)) (apM (rt (iW (k : Nat))) (apM (binM (Hx.l2 pAddX) (rt (iW (k : Nat))) (rt (.dat (.int 1)))) (rt [])))) m__swapped) (tN (sw k v)) := by
  have z : noH (m__swapped [tN v, iW (k : Nat), iW ((k : Nat) + 1)] h0) = some (tN (sw k v)) := by
    have l := hv.1
    match v, n, k with
    | [a, b], _, 0 => exact sw20 a b
    | [a, b, c], _, 0 => exact sw30 a b c
    | [a, b, c], _, 1 => exact sw31 a b c
    | [], 0, _ => omega
    | [a], 1, _ => omega
    | [a, b], 2, k + 1 => omega
    | [a, b, c], 3, k + 2 => omega
    | a :: b :: c :: d :: r, n, k => simp at l; omega
  obtain ⟨g, e⟩ := noH_at z
  exact ev_call (fun h => rfl) rfl e rfl
def symP (n : Nat) (T : Tb) (us : List (List Nat)) : Bool := us.all fun v => (List.range (n - 1)).all fun k => decide (lk (sw k v) T = some (kv T v))
theorem seq_mkT (ws : List W) : seqW (mkT ws) = some ws := by
  unfold mkT
  split
  · rename_i ds q
    rw [datsOf_eq q]
    rfl
  · rfl
theorem sq_TW (us : List (List Nat)) (T : Tb) : seqW (TW us T) = some (us.map fun v => prW rW (v, kv T v)) := seq_mkT _
theorem rgs {n : Nat} {T : Tb} {us : List (List Nat)} (hn : n ≤ 3) : Ev (rg1 (binM (Hx.l2 pSub) (fldM 2 0 (rt (LW n us T))) (rt (.dat (.int 1))))) ((List.range (n - 1)).map fun j : Nat => iW (j : Nat)) := by
  match n, hn with
  | 0, _ => exact fun h => rfl
  | 1, _ => exact fun h => rfl
  | 2, _ => exact fun h => rfl
  | 3, _ => exact fun h => rfl
theorem issym_ok {n : Nat} (hn : n ≤ 3) {T : Tb} {us : List (List Nat)} (k : Tu n T us) : m_Letters_is_symmetric [LW n us T] ⟨0, []⟩ = .ok (.dat (.bool (symP n T us))) ⟨0, []⟩ := by
  refine of_ev (ev_fin ?_)
  show Ev (g_Letters_is_symmetric (LW n us T)) _
  unfold g_Letters_is_symmetric
  refine ev_bd (ev_sqM (w := TW us T) (fun h => rfl) (sq_TW us T)) (fin_rb (for_rb us fun v hv => ?_))
  obtain ⟨l, ex, _⟩ := k.lk hv
  refine ⟨(tN v, rW (kv T v), ()), rfl, ?_⟩
  refine ev_bd (rgs hn) (seq_rb (for_rb (P := fun k => decide (lk (sw k v) T = some (kv T v))) _ fun j hj => ⟨_, rfl, ?_⟩))
  have hj := List.mem_range.mp hj
  exact if_rb (neX_ev (dget_ev (fun h => rfl) (sw_ev hn ex (by omega))) (ev_rt _))
def symL (T : Tb) : Bool := (T.map fun e : List Nat × Int => e.1).all fun v => (ords v).all fun o => decide (lk o T = some (kv T v))
theorem ord_ev {n : Nat} (hn : n ≤ 3) {v : List Nat} (hv : Ex n v) : Ev (callI 1 (apM (rt (tN v)) (rt [])) m__law_orders) (.dat (.list ((ords v).map kd))) := by
  obtain ⟨g, e⟩ := ord_at hn hv
  exact ev_call (fun h => rfl) rfl e rfl
theorem sq_kd (vs : List (List Nat)) : seqW (.dat (.list (vs.map kd))) = some (vs.map tN) := by
  show some ((vs.map kd).map W.dat) = _
  rw [List.map_map]
  rfl
theorem lsym_ok {n : Nat} (hn : n ≤ 3) {B : Nat} {T : Tb} (k : Tab n B T) : m__law_is_symmetric [.dct (en frW T)] ⟨0, []⟩ = .ok (.dat (.bool (symL T))) ⟨0, []⟩ := by
  refine of_ev (ev_fin ?_)
  show Ev (g__law_is_symmetric (.dct (en frW T))) _
  unfold g__law_is_symmetric symL
  refine ev_bd (x := (T.map fun e : List Nat × Int => e.1).map tN) (fun h => by rw [sqD_en (f := frW) (T := T) (ev_rt _) h, List.map_map]; rfl) (fin_rb (for_rb (g := tN) (P := fun v => (ords v).all fun o => decide (lk o T = some (kv T v))) (T.map fun e : List Nat × Int => e.1) fun v hv => ⟨tN v, rfl, ?_⟩))
  obtain ⟨e, he, rfl⟩ := List.mem_map.mp hv
  have l := lk_of k.nd e he
  refine ev_bd (ev_sqM (ord_ev hn (k.ex e he)) (sq_kd _)) (seq_rb (for_rb (g := tN) (P := fun o => decide (lk o T = some (kv T e.1))) (ords e.1) fun o ho => ⟨tN o, rfl, if_rb (neF_ev (dget_ev (fun h => rfl) (fun h => rfl)) (ix_en (ev_rt _) (ev_rt _) ?_))⟩))
  unfold kv
  rw [l]
  rfl
end K10
set_option maxHeartbeats 4000000
set_option pp.maxSteps 800
noncomputable section
namespace K10
open PySem L2 Pd Gn PySem.Spec PyProof.Rows Zq Hx Sy KG
theorem sw_mem {n : Nat} (hn : n ≤ 3) {v : List Nat} (l : v.length = n) {k : Nat} (hk : k + 1 < n) : sw k v ∈ ords v := by
  match v, n, k with
  | [a, b], _, 0 => show [b, a] ∈ [[a, b], [b, a]]; simp
  | [a, b, c], _, 0 => show [b, a, c] ∈ [[a, b, c], [a, c, b], [b, a, c], [b, c, a], [c, a, b], [c, b, a]]; simp
  | [a, b, c], _, 1 => show [a, c, b] ∈ [[a, b, c], [a, c, b], [b, a, c], [b, c, a], [c, a, b], [c, b, a]]; simp
  | [], 0, _ => omega
  | [a], 1, _ => omega
  | [a, b], 2, k + 1 => omega
  | [a, b, c], 3, k + 2 => omega
  | a :: b :: c :: d :: r, n, k => simp at l; omega
theorem reach {n : Nat} (hn : n ≤ 3) {G : List Nat → Prop} (h : ∀ o, G o → ∀ k, k + 1 < n → G (sw k o)) {v : List Nat} (l : v.length = n) (hv : G v) : ∀ o ∈ ords v, G o := by
  match v, n with
  | [], _ => intro o ho; have ho : o ∈ [[]] := ho; rw [List.mem_singleton.mp ho]; exact hv
  | [a], _ => intro o ho; have ho : o ∈ [[a]] := ho; rw [List.mem_singleton.mp ho]; exact hv
  | [a, b], _ =>
    intro o ho
    have l : 2 = _ := l
    subst l
    have ho : o ∈ [[a, b], [b, a]] := ho
    simp only [List.mem_cons, List.not_mem_nil, or_false] at ho
    rcases ho with rfl | rfl
    · exact hv
    · exact h _ hv 0 (by omega)
  | [a, b, c], _ =>
    intro o ho
    have l : 3 = _ := l
    subst l
    have g1 : G [b, a, c] := h _ hv 0 (by omega)
    have g2 : G [a, c, b] := h _ hv 1 (by omega)
    have g3 : G [b, c, a] := h _ g1 1 (by omega)
    have g4 : G [c, a, b] := h _ g2 0 (by omega)
    have g5 : G [c, b, a] := h _ g4 1 (by omega)
    have ho : o ∈ [[a, b, c], [a, c, b], [b, a, c], [b, c, a], [c, a, b], [c, b, a]] := ho
    simp only [List.mem_cons, List.not_mem_nil, or_false] at ho
    rcases ho with rfl | rfl | rfl | rfl | rfl | rfl
    · exact hv
    · exact g2
    · exact g1
    · exact g3
    · exact g4
    · exact g5
  | a :: b :: c :: d :: r, _ => simp at l; omega
theorem sym_eq {n : Nat} (hn : n ≤ 3) {T : Tb} {us : List (List Nat)} (k : Tu n T us) : symP n T us = symL T := by
  rw [Bool.eq_iff_iff]
  unfold symP symL
  constructor
  · intro h
    rw [List.all_eq_true] at h ⊢
    intro v hv
    obtain ⟨l, ex, _⟩ := k.lk (k.p.mem_iff.mpr hv)
    rw [List.all_eq_true]
    intro o ho
    refine decide_eq_true (reach hn (G := fun o => lk o T = some (kv T v)) (fun o ho j hj => ?_) ex.1 l o ho)
    have mo : o ∈ us := k.p.mem_iff.mpr (List.mem_map.mpr ⟨_, lk_mem ho, rfl⟩)
    have z := of_decide_eq_true (List.all_eq_true.mp (h o mo) j (List.mem_range.mpr (by omega)))
    rw [z]
    unfold kv at ho ⊢
    rw [ho]
    rfl
  · intro h
    rw [List.all_eq_true] at h ⊢
    intro v hv
    obtain ⟨l, ex, _⟩ := k.lk hv
    rw [List.all_eq_true]
    intro j hj
    have hj := List.mem_range.mp hj
    exact List.all_eq_true.mp (h v (k.p.mem_iff.mp hv)) _ (sw_mem hn ex.1 (by omega))
end K10
set_option maxHeartbeats 4000000
set_option pp.maxSteps 1200
noncomputable section
namespace K10
open PySem L2 Pd Gn PySem.Spec PyProof.Rows Zq Hx Sy KG
def hvI (v : List Nat) : Int := reduceHash (Builtin.Tuple.tupleHashOf (v.map fun x : Nat => hashInt (x : Int)))
theorem c_hash : ((List.range 4).all fun n => (allV n).all fun v => (allV n).all fun w => decide (v = w) || !decide (hvI v = hvI w)) = true := by decide +kernel
theorem hash_inj {n : Nat} (hn : n ≤ 3) {v w : List Nat} (hv : Ex n v) (hw : Ex n w) (h : hvI v = hvI w) : v = w := by
  have z := List.all_eq_true.mp (List.all_eq_true.mp (List.all_eq_true.mp c_hash n (List.mem_range.mpr (by omega))) v (mem_allV hv)) w (mem_allV hw)
  rw [decide_eq_true h] at z
  by_cases c : v = w
  · exact c
  · rw [decide_eq_false c] at z
    cases z
theorem numsK_nat : ∀ v : List Nat, numsK (v.map fun x : Nat => NestedKey.num (x : Int)) = some (v.map fun x : Nat => hashInt (x : Int))
  | [] => rfl
  | x :: v => by
    show (numsK (v.map fun x : Nat => NestedKey.num (x : Int))).map (fun l => hashInt (x : Int) :: l) = _
    rw [numsK_nat v]
    rfl
theorem hshK_ky (v : List Nat) : hshK (ky v) = some (hvI v) := by
  show (numsK (v.map fun x : Nat => NestedKey.num (x : Int))).map (fun l => reduceHash (Builtin.Tuple.tupleHashOf l)) = _
  rw [numsK_nat]
  rfl
theorem hshs_en (f : Int → W) : ∀ T : Tb, hshs (en f T) = some (T.map fun e => hvI e.1)
  | [] => rfl
  | e :: T => by
    show ((hshK (ky e.1)).bind fun i => (hshs (en f T)).map fun l => i :: l) = _
    rw [hshK_ky, hshs_en f T]
    rfl
theorem notIn_of {i : Int} : ∀ {l : List Int}, i ∉ l → notIn i l = true
  | [], _ => rfl
  | j :: r, h => by
    simp only [List.mem_cons, not_or] at h
    show (match decide (i = j) with | true => false | false => notIn i r) = true
    rw [decide_eq_false h.1]
    exact notIn_of h.2
theorem dist_tab {n : Nat} (hn : n ≤ 3) : ∀ {T : Tb}, (T.map fun e : List Nat × Int => e.1).Nodup → (∀ e ∈ T, Ex n e.1) → distI (T.map fun e => hvI e.1) = true
  | [], _, _ => rfl
  | e :: T, nd, h => by
    rw [List.map_cons, List.nodup_cons] at nd
    have ih := dist_tab hn (T := T) nd.2 fun d hd => h d (List.mem_cons_of_mem _ hd)
    show (match notIn (hvI e.1) (T.map fun e => hvI e.1) with | true => distI (T.map fun e => hvI e.1) | false => false) = true
    rw [notIn_of fun hm => by
      obtain ⟨d, hd, q⟩ := List.mem_map.mp hm
      have := hash_inj hn (h d (List.mem_cons_of_mem _ hd)) (h e (by simp)) q
      exact nd.1 (List.mem_map.mpr ⟨d, hd, this⟩)]
    exact ih
theorem cop_ok {n B : Nat} (hn : n ≤ 3) {T : Tb} (k : Tab n B T) : copD (en frW T) = some (en frW T) := by
  unfold copD
  rw [hshs_en]
  show gd (distI (T.map fun e => hvI e.1)) (some (en frW T)) = _
  rw [dist_tab hn k.nd k.ex]
  rfl
theorem ord_len : ∀ v : List Nat, (ords v).length ≤ 6
  | [] => by show 1 ≤ 6; omega
  | [a] => by show 1 ≤ 6; omega
  | [a, b] => by show 2 ≤ 6; omega
  | [a, b, c] => by show 6 ≤ 6; omega
  | a :: b :: c :: d :: r => by show 0 ≤ 6; omega
theorem ord_ex {n : Nat} {v : List Nat} (hv : Ex n v) : ∀ o ∈ ords v, Ex n o := by
  obtain ⟨l, h⟩ := hv
  intro o ho
  match v with
  | [] => have ho : o ∈ [[]] := ho; rw [List.mem_singleton.mp ho]; exact ⟨l, h⟩
  | [a] => have ho : o ∈ [[a]] := ho; rw [List.mem_singleton.mp ho]; exact ⟨l, h⟩
  | [a, b] =>
    have ha := h a (by simp)
    have hb := h b (by simp)
    have ho : o ∈ [[a, b], [b, a]] := ho
    simp only [List.mem_cons, List.not_mem_nil, or_false] at ho
    rcases ho with rfl | rfl <;> refine ⟨l, fun x hx => ?_⟩ <;> simp only [List.mem_cons, List.not_mem_nil, or_false] at hx <;> omega
  | [a, b, c] =>
    have ha := h a (by simp)
    have hb := h b (by simp)
    have hc := h c (by simp)
    have ho : o ∈ [[a, b, c], [a, c, b], [b, a, c], [b, c, a], [c, a, b], [c, b, a]] := ho
    simp only [List.mem_cons, List.not_mem_nil, or_false] at ho
    rcases ho with rfl | rfl | rfl | rfl | rfl | rfl <;> refine ⟨l, fun x hx => ?_⟩ <;> simp only [List.mem_cons, List.not_mem_nil, or_false] at hx <;> omega
  | a :: b :: c :: d :: r => have ho : o ∈ ([] : List (List Nat)) := ho; cases ho
abbrev hW (T : Tb) : Hs := hD2 3 [(0, .st)] T
abbrev inB (one x_5 x_7 : W) (st_8 : Unit) : M (Res W Unit) := (bd (callM 3 (apM (rt (.ref 2)) (apM (rt x_7) (apM (ixD (rt one) (rt x_5)) (rt [])))) m__law_plus) fun _ => (rt (.nxt ())))
abbrev ouB (one x_5 : W) (st_6 : Unit) : M (Res W Unit) := (bd (sqM (callI 1 (apM (rt x_5) (rt [])) m__law_orders)) fun ws => seqM (forM (stepM tgN (inB one x_5)) ws ()) fun st_8 => (rt (.nxt ())))
theorem in_step {n B : Nat} {T A : Tb} {v o : List Nat} {c : Int} (hA : lk v A = some c) (k : Tab n B T) (hB : B ≤ 100) (hc : c.natAbs ≤ 16) (hl : T.length ≤ 90) : inB (.dct (en frW A)) (tN v) (tN o) () (hW T) = .ok (.nxt ()) (hW (plusT o c T)) := by
  have lb := k.at o
  have pl := plus_ok2 (N := 3) (R := [(0, .st)]) (T := T) (v := o) (c := c) (by omega) (by omega) (by omega)
  have ar : apM (rt (.ref 2)) (apM (rt (tN o)) (apM (ixD (rt (.dct (en frW A))) (rt (tN v))) (rt []))) (hW T) = .ok [.ref 2, tN o, frW c] (hW T) :=
    (ev_bd (ev_rt _) (ev_bd (ev_bd (ev_rt _) (ev_bd (ev_ap1 (ix_en (f := frW) (ev_rt _) (ev_rt _) hA)) (ev_rt _))) (ev_rt _)) : Ev (apM (rt (.ref 2)) (apM (rt (tN o)) (apM (ixD (rt (.dct (en frW A))) (rt (tN v))) (rt [])))) [.ref 2, tN o, frW c]) (hW T)
  refine (bd_ok (h' := hW (plusT o c T)) (a := W.dat .none) ?_).trans rfl
  unfold callM
  rw [bd_ok ar]
  exact pl
theorem in_loop {n : Nat} {A : Tb} {v : List Nat} {c : Int} (hA : lk v A = some c) (hc : c.natAbs ≤ 16) : ∀ (os : List (List Nat)) (B : Nat) (T : Tb), (∀ o ∈ os, Ex n o) → Tab n B T → B + c.natAbs * os.length ≤ 100 → T.length + os.length ≤ 90 → ∃ T', forM (stepM tgN (inB (.dct (en frW A)) (tN v))) (os.map tN) () (hW T) = .ok (.nxt ()) (hW T') ∧ Tab n (B + c.natAbs * os.length) T' ∧ T'.length ≤ T.length + os.length
  | [], B, T, _, k, h1, h2 => ⟨T, rfl, k, Nat.le_refl _⟩
  | o :: os, B, T, ho, k, h1, h2 => by
    rw [List.length_cons] at h1 h2
    have e : c.natAbs * (os.length + 1) = c.natAbs * os.length + c.natAbs := Nat.mul_succ _ _
    obtain ⟨t1, t2⟩ := plus_tab (C := c.natAbs) k (ho o (by simp)) (c := c) (Nat.le_refl _)
    obtain ⟨T', i1, i2, i3⟩ := in_loop hA hc os (B + c.natAbs) (plusT o c T) (fun q hq => ho q (List.mem_cons_of_mem _ hq)) t1 (by omega) (by omega)
    refine ⟨T', ?_, i2.mono (by rw [List.length_cons]; omega), by rw [List.length_cons]; omega⟩
    show seqM (stepM tgN (inB (.dct (en frW A)) (tN v)) (tN o) ()) _ (hW T) = _
    rw [seq_nx (a := ()) (h' := hW (plusT o c T)) (show stepM tgN (inB (.dct (en frW A)) (tN v)) (tN o) () (hW T) = _ from in_step hA k (by omega) hc (by omega))]
    exact i1
theorem ou_loop {n : Nat} (hn : n ≤ 3) {A : Tb} (hA : (A.map (·.1)).Nodup) (hx : ∀ e ∈ A, Ex n e.1) (hs : ∀ e ∈ A, e.2.natAbs ≤ 16) : ∀ (E : Tb) (B : Nat) (T : Tb), (∀ e ∈ E, e ∈ A) → Tab n B T → B + 6 * S E ≤ 100 → T.length + 6 * E.length ≤ 90 → ∃ T', forM (stepM tgN (ouB (.dct (en frW A)))) (E.map fun e => tN e.1) () (hW T) = .ok (.nxt ()) (hW T') ∧ Tab n (B + 6 * S E) T' ∧ T'.length ≤ T.length + 6 * E.length
  | [], B, T, _, k, h1, h2 => ⟨T, rfl, k, Nat.le_refl _⟩
  | e :: E, B, T, he, k, h1, h2 => by
    have hS : S (e :: E) = e.2.natAbs + S E := rfl
    rw [hS] at h1
    rw [List.length_cons] at h2
    have me := he e (by simp)
    have la := lk_of hA e me
    have ol := ord_len e.1
    have ml : e.2.natAbs * (ords e.1).length ≤ 6 * e.2.natAbs := by
      rw [Nat.mul_comm]
      exact Nat.mul_le_mul_right _ ol
    obtain ⟨T1, i1, i2, i3⟩ := in_loop (n := n) la (hs e me) (ords e.1) B T (ord_ex (hx e me)) k (by omega) (by omega)
    obtain ⟨T', j1, j2, j3⟩ := ou_loop hn hA hx hs E (B + 6 * e.2.natAbs) T1 (fun q hq => he q (List.mem_cons_of_mem _ hq)) (i2.mono (by omega)) (by omega) (by omega)
    refine ⟨T', ?_, j2.mono (by rw [hS]; omega), by rw [List.length_cons]; omega⟩
    show seqM (stepM tgN (ouB (.dct (en frW A))) (tN e.1) ()) _ (hW T) = _
    have st : stepM tgN (ouB (.dct (en frW A))) (tN e.1) () (hW T) = .ok (.nxt ()) (hW T1) := by
      show (bd (sqM (callI 1 (apM (rt (tN e.1)) (rt [])) m__law_orders)) fun ws => seqM (forM (stepM tgN (inB (.dct (en frW A)) (tN e.1))) ws ()) fun st_8 => (rt (.nxt ()))) (hW T) = _
      rw [bd_ok (ev_sqM (ord_ev hn (hx e me)) (sq_kd _) (hW T))]
      exact (seq_nx (a := ()) (h' := hW T1) i1).trans rfl
    rw [seq_nx (a := ()) st]
    exact j1
end K10
set_option maxHeartbeats 4000000
set_option pp.maxSteps 1200
noncomputable section
namespace K10
open PySem L2 Pd Gn PySem.Spec PyProof.Rows Zq Hx Sy KG
theorem exp4_sat {h : Hs} {n : Nat} (g : h.get 0 = some .st) (hn : n ≤ 3) : (toM (frzW (lc1 tgN (fun _ => rt true) (fun x_12 => (callM 2 (apM (rt (.ref 0)) (apM (rt (.dat (.int 4))) (rt []))) m__law_take)) (rg1 (rt (iW (n : Nat)))))) h).sat (fun w h' => h' = h ∧ ∃ v : List Nat, w = tN v ∧ Ex n v) FF := by
  unfold toM
  refine sat_bd ?_
  unfold frzW
  refine sat_bd ?_
  unfold lc1
  rw [bd_ok (rg_nat (m := rt (iW (n : Nat))) (h := h) rtok (by omega)), bd_ok (show lf (gd (short ((List.range n).map fun j : Nat => iW (j : Nat)).length) (some ())) h = .ok () h by
    rw [show short ((List.range n).map fun j : Nat => iW (j : Nat)).length = true from Nat.ble_eq_true_of_le (by rw [List.length_map, List.length_range]; omega)]
    rfl)]
  show T.sat _ FF (nox.go (lcM _ _ _ _ h))
  refine nox_sat (sat_mono (fun ys h' hr => ?_) (fun _ _ x => x) (lc_satH (A := fun y => ∃ x : Nat, y = iW (x : Nat) ∧ x ≤ 3) (fun w => ?_) _))
  · obtain ⟨rfl, q1, q2⟩ := hr
    rw [List.length_map, List.length_range] at q1
    obtain ⟨xs, rfl, l, q⟩ := all_natB ys q2
    show T.sat _ FF (lf ((itemsH h' (mkL (iL xs))).map mkT) h')
    rw [mkL_iL]
    show (h' = h' ∧ ∃ v : List Nat, mkT ((xs.map iD).map W.dat) = tN v ∧ Ex n v)
    exact ⟨rfl, xs, by rw [mkT_dat]; rfl, by omega, q⟩
  · have s := take_sat (f := fun v => rt v) (P := fun v g => g = h ∧ ∃ x : Nat, v = iW (x : Nat) ∧ x ≤ 3) (m := rt (.dat (.int 4))) (k := 4) g (show _ = T.ok (iW ((4 : Nat) : Int)) h from rfl) (by omega) (by omega) fun v hv => ⟨rfl, v, rfl, by omega⟩
    have rid : ∀ t : T W, t.bind (fun v => rt v) = t := fun t => by
      induction t with
      | ok a h => rfl
      | exc x h => rfl
      | draw n k ih =>
        show T.draw n (fun v => (k v).bind fun v => rt v) = _
        congr 1
        exact funext ih
      | bad => rfl
    have s2 : ((callM 2 (apM (rt (.ref 0)) (apM (rt (.dat (.int 4))) (rt []))) m__law_take h).bind (fun v => rt v)).sat (fun v g => g = h ∧ ∃ x : Nat, v = iW (x : Nat) ∧ x ≤ 3) FF := s
    rw [rid] at s2
    exact s2
abbrev laB (n : Nat) (x_15 : W) (st_16 : Unit) : M (Res W Unit) := (ifM (cmpM (c2 cNe) (methM 2 1 (callI 2 (apM (rt (iW (n : Nat))) (apM (rt x_15) (rt []))) m__law_letters) (rt []) m_Letters_is_symmetric) (callI 1 (apM (rt x_15) (rt [])) m__law_is_symmetric)) (retE (bd (rt (.dat (.bool false))) fun w => rt (.ret w))) (rt (.nxt ())))
theorem la_ok {n : Nat} (hn : n ≤ 3) {T : Tb} (tb : Tab n 100 T) (tl : T.length ≤ 30) : Ev (laB n (.dct (en frW T)) ()) (.nxt ()) := by
  obtain ⟨us, p1, p2⟩ := sorted_keys (n := n) (by omega) tb.nd fun v hv => by
    obtain ⟨e, he, rfl⟩ := List.mem_map.mp hv
    exact tb.ex e he
  have k : Tu n T us := ⟨tb, tl, p1, p2⟩
  obtain ⟨g1, e1⟩ := letters_ok (n := n) (by omega) k
  have e2 := issym_ok hn k
  have e3 := lsym_ok hn tb
  rw [sym_eq hn k] at e2
  have nd : norefD (en frW T) = true := nrd_en (fun _ => rfl) T
  have nw : noref (LW n us T) = true := by
    show (match noref (TW us T) with | true => (match noref (.dct (en rW T)) with | true => true | false => false) | false => false) = true
    rw [nr_TW, show noref (.dct (en rW T)) = true from nrd_en (fun _ => rfl) T]
  have cl : Ev (callI 2 (apM (rt (iW (n : Nat))) (apM (rt (.dct (en frW T))) (rt []))) m__law_letters) (LW n us T) := ev_call (ev_ap2 (ev_rt _) (ev_rt _)) (by
    show (true && (match norefD (en frW T) with | true => true | false => false)) = true
    rw [nd]
    rfl) e1 nw
  have cs : Ev (methM 2 1 (callI 2 (apM (rt (iW (n : Nat))) (apM (rt (.dct (en frW T))) (rt []))) m__law_letters) (rt []) m_Letters_is_symmetric) (.dat (.bool (symL T))) := meth_ev cl rfl (ev_rt _) (by
    show (true && (noref (LW n us T) && true)) = true
    rw [nw]
    rfl) e2 rfl
  have ct : Ev (callI 1 (apM (rt (.dct (en frW T))) (rt [])) m__law_is_symmetric) (.dat (.bool (symL T))) := ev_call (ev_ap1 (ev_rt _)) (by
    show (true && (match norefD (en frW T) with | true => true | false => false)) = true
    rw [nd]
    rfl) e3 rfl
  have cn : Ev (cmpM (c2 cNe) (methM 2 1 (callI 2 (apM (rt (iW (n : Nat))) (apM (rt (.dct (en frW T))) (rt []))) m__law_letters) (rt []) m_Letters_is_symmetric) (callI 1 (apM (rt (.dct (en frW T))) (rt [])) m__law_is_symmetric)) false := ev_cmp cs ct (by cases symL T <;> rfl)
  exact ev_iff cn (ev_rt _)
abbrev T5 (n_2 one_v_3 : W) (whole_13 bent_14 : W) : M (Res W Unit) := (bd (sqM (tupM (apM (rt one_v_3) (apM (rt whole_13) (apM (rt bent_14) (rt [])))))) fun ws => seqM (forM (stepM tgN fun x_15 (st_16 : Unit) => (ifM (cmpM (c2 cNe) (methM 2 1 (callI 2 (apM (rt n_2) (apM (rt x_15) (rt []))) m__law_letters) (rt []) m_Letters_is_symmetric) (callI 1 (apM (rt x_15) (rt [])) m__law_is_symmetric)) (retE (bd (rt (.dat (.bool false))) fun w => rt (.ret w))) (rt (.nxt ())))) ws ()) fun st_16 => (bd (rt (.dat (.bool true))) fun w => rt (.ret w)))
abbrev T4 (n_2 one_v_3 : W) (whole_4 bent_9 : W) : M (Res W Unit) := (bd (frzDM whole_4) fun whole_13 => (bd (frzDM bent_9) fun bent_14 => T5 n_2 one_v_3 whole_13 bent_14))
abbrev T3 (state_1 n_2 bent_9 : W) : M (Res W Unit) := (ifM (cmpM (c2 cGt) (rt n_2) (rt (.dat (.int 0)))) (bd (toM (frzW (lc1 tgN (fun _ => rt true) (fun x_12 => (callM 2 (apM (rt state_1) (apM (rt (.dat (.int 4))) (rt []))) m__law_take)) (rg1 (rt n_2))))) fun v_11 => (bd (callM 3 (apM (rt bent_9) (apM (rt v_11) (apM (tupM (apM (rt (.dat (.int 1))) (apM (rt (.dat (.int 1))) (rt [])))) (rt [])))) m__law_plus) fun _ => (rt (.nxt ())))) ((rt (.nxt ())) : M (Res W (Unit))))
abbrev T2 (state_1 n_2 one_v_3 whole_4 : W) : M (Res W Unit) := (bd (cpDM (rt whole_4)) fun bent_9 => (seqM (T3 state_1 n_2 bent_9) fun st_10 => T4 n_2 one_v_3 whole_4 bent_9))
abbrev T1 (state_1 n_2 one_v_3 : W) : M (Res W Unit) := (bd dnewM fun whole_4 => (bd (sqD (rt one_v_3)) fun ws => seqM (forM (stepM tgN fun x_5 (st_6 : Unit) => (bd (sqM (callI 1 (apM (rt x_5) (rt [])) m__law_orders)) fun ws => seqM (forM (stepM tgN fun x_7 (st_8 : Unit) => (bd (callM 3 (apM (rt whole_4) (apM (rt x_7) (apM (ixD (rt one_v_3) (rt x_5)) (rt [])))) m__law_plus) fun _ => (rt (.nxt ())))) ws ()) fun st_8 => (rt (.nxt ())))) ws ()) fun st_6 => T2 state_1 n_2 one_v_3 whole_4))
def pE (r : Res W Unit) (_ : Hs) : Prop := r = .ret (.dat (.bool true))
theorem t5_ok {n : Nat} (hn : n ≤ 3) {A B C : Tb} (a1 : Tab n 100 A) (a2 : A.length ≤ 30) (b1 : Tab n 100 B) (b2 : B.length ≤ 30) (c1 : Tab n 100 C) (c2 : C.length ≤ 30) : Ev (T5 (iW (n : Nat)) (.dct (en frW A)) (.dct (en frW B)) (.dct (en frW C))) (.ret (.dat (.bool true))) :=
  ev_bd (x := [.dct (en frW A), .dct (en frW B), .dct (en frW C)]) (fun h => rfl) (ev_nx (x := ()) (ev_cons (a' := ()) (ev_step (la_ok hn a1 a2)) (ev_cons (a' := ()) (ev_step (la_ok hn b1 b2)) (ev_cons (a' := ()) (ev_step (la_ok hn c1 c2)) ev_nil))) (ev_rt _))
abbrev hB (A B : Tb) : Hs := hD3 4 [(2, .dic (en frW A)), (0, .st)] B
theorem t4_sat {n : Nat} (hn : n ≤ 3) {A B C : Tb} (a1 : Tab n 100 A) (a2 : A.length ≤ 30) (b1 : Tab n 100 B) (b2 : B.length ≤ 30) (c1 : Tab n 100 C) (c2 : C.length ≤ 30) : (T4 (iW (n : Nat)) (.dct (en frW A)) (.ref 2) (.ref 3) (hB B C)).sat pE FF := by
  show (T5 (iW (n : Nat)) (.dct (en frW A)) (.dct (en frW B)) (.dct (en frW C)) ⟨4, [(0, .st)]⟩).sat pE FF
  rw [t5_ok hn a1 a2 b1 b2 c1 c2 ⟨4, [(0, .st)]⟩]
  exact (show Res.ret (W.dat (.bool true)) = .ret (.dat (.bool true)) from rfl)
theorem t3_sat {n : Nat} (hn : n ≤ 3) {B : Tb} (b1 : Tab n 96 B) (b2 : B.length ≤ 24) : (T3 (.ref 0) (iW (n : Nat)) (.ref 3) (hB B B)).sat (fun r g => r = .nxt () ∧ ∃ C, g = hB B C ∧ Tab n 100 C ∧ C.length ≤ 30) FF := by
  have ce : cmpM (c2 cGt) (rt (iW (n : Nat))) (rt (.dat (.int 0))) (hB B B) = .ok (decide ((n : Int) > 0)) (hB B B) := ev_gtI (ev_rt _) (ev_rt _) (hB B B)
  cases q : decide ((n : Int) > 0) with
  | false =>
    rw [q] at ce
    show (ifM _ _ _ (hB B B)).sat _ _
    rw [if_f ce]
    exact ⟨rfl, B, rfl, b1.mono (by omega), by omega⟩
  | true =>
    rw [q] at ce
    show (ifM _ _ _ (hB B B)).sat _ _
    rw [if_t ce]
    refine sat_bd (sat_mono (fun x g hx => ?_) (fun _ _ x => x) (exp4_sat (h := hB B B) rfl hn))
    obtain ⟨rfl, v, rfl, hv⟩ := hx
    have lb := b1.at v
    have pl := plus_ok3 (N := 4) (R := [(2, .dic (en frW B)), (0, .st)]) (T := B) (v := v) (c := 2) (by omega) (by omega) (by omega)
    obtain ⟨t1, t2⟩ := plus_tab (C := 2) b1 hv (c := 2) (by decide)
    refine sat_bd ?_
    show (m__law_plus [.ref 3, tN v, frW 2] (hB B B)).sat _ _
    rw [pl]
    exact ⟨rfl, _, rfl, t1.mono (by omega), by omega⟩
theorem t1_sat {n : Nat} (hn : n ≤ 3) {A : Tb} (a1 : Tab n 16 A) (a2 : A.length ≤ 4) : (T1 (.ref 0) (iW (n : Nat)) (.dct (en frW A)) hE).sat pE FF := by
  have sA := a1.sm
  obtain ⟨B, i1, i2, i3⟩ := ou_loop hn a1.nd a1.ex (fun e he => Nat.le_trans (S_mem e he) sA) A 0 [] (fun e he => he) ⟨by simp, fun e h => (by cases h), fun e h => (by cases h), Nat.le_refl _⟩ (by omega) (by simp; omega)
  have i3 : B.length ≤ 24 := by simp at i3; omega
  have b1 : Tab n 96 B := i2.mono (by omega)
  show (bd (sqD (rt (.dct (en frW A)))) (fun ws => seqM (forM (stepM tgN (ouB (.dct (en frW A)))) ws ()) fun st_6 => T2 (.ref 0) (iW (n : Nat)) (.dct (en frW A)) (.ref 2)) (hW [])).sat pE FF
  rw [bd_ok (sqD_en (f := frW) (T := A) (ev_rt _) (hW [])), seq_nx (a := ()) i1]
  have cp : cpDM (rt (.ref 2)) (hW B) = .ok (.ref 3) (hB B B) := by
    show (match copD (en frW B) with | some kvs => Hx.T.ok (W.ref (hW B).nx) ((hW B).new (.dic kvs)) | none => Hx.T.bad) = _
    rw [cop_ok hn b1]
    rfl
  show (bd (cpDM (rt (.ref 2))) (fun bent_9 => (seqM (T3 (.ref 0) (iW (n : Nat)) bent_9) fun st_10 => T4 (iW (n : Nat)) (.dct (en frW A)) (.ref 2) bent_9)) (hW B)).sat pE FF
  rw [bd_ok cp]
  refine sat_bd (sat_mono (fun r g hr => ?_) (fun _ _ x => x) (t3_sat hn b1 i3))
  obtain ⟨rfl, C, rfl, c1, c2⟩ := hr
  exact t4_sat hn (a1.mono (by omega)) (by omega) (b1.mono (by omega)) (by omega) c1 c2
theorem fin_sat {t : Hx.T (Res W Unit)} (e : t.sat pE FF) : t.sat (fun r h' => ((match r with | .ret w => rt w | .nxt _ => rt (.dat .none) : M W) h').sat (fun w _ => w = .dat (.bool true)) FF) FF :=
  sat_mono (fun r h hr => by
    have hr : r = .ret (.dat (.bool true)) := hr
    subst hr
    exact (show W.dat (.bool true) = .dat (.bool true) from rfl)) (fun _ _ x => x) e
theorem law_sat : (m_law [.scr] ⟨0, []⟩).sat (fun w _ => w = .dat (.bool true)) FF := by
  show (bd (g_law .scr) _ ⟨0, []⟩).sat _ _
  refine sat_bd (fin_sat ?_)
  show (bd (callM 1 (apM (rt .scr) (rt [])) m__law_state) (fun state_1 => (bd (callM 2 (apM (rt state_1) (apM (rt (.dat (.int 4))) (rt []))) m__law_take) fun n_2 => (bd (callM 3 (apM (rt state_1) (apM (rt n_2) (apM (rt (.dat (.int 3))) (rt [])))) m__law_drawn) fun one_v_3 => T1 state_1 n_2 one_v_3))) ⟨0, []⟩).sat _ _
  refine sat_bd (show (T.ok (W.ref 0) hS).sat _ _ from ?_)
  refine take_sat rfl (show rt (iW ((4 : Nat) : Int)) hS = .ok (iW ((4 : Nat) : Int)) hS from rfl) (by omega) (by omega) fun n hn => ?_
  refine sat_bd ?_
  show (m__law_drawn [.ref 0, iW (n : Nat), .dat (.int 3)] hS).sat _ _
  refine sat_mono (fun w h hw => ?_) (fun _ _ x => x) (drawn_sat (n := n) (by omega))
  obtain ⟨rfl, T, rfl, tb, tl⟩ := hw
  exact t1_sat (by omega) tb tl
end K10
noncomputable section
namespace K10
open PySem L2 Pd Gn PySem.Spec PyProof.Rows Zq Hx
theorem exm_self {K : PySem.W.Frag} {C : Addr} (T : OexC K C) (h : PySem.W.subIn K (.ref C) (.ref C) = some true) : PySem.W.exmOne K (.ref C) (.ref C) = some true := by
  unfold PySem.W.exmOne
  rw [T.exC, if_pos (by rfl)]
  unfold PySem.W.kitCls
  obtain ⟨nm, q, N, bs, bm, sn, sub, ab, col, dd, k0, k1, k2, k3, k5, e, _⟩ := T.cls
  have h1 : (PySem.W.clsIn K C).isSome = true := by
    unfold PySem.W.clsIn
    rw [e]
    rfl
  simp only [h1, T.tyC]
  rw [if_pos (by rfl)]
  exact h
def inCls : Stmt → Stmt
  | .ClassDef _ _ _ body _ _ _ _ _ _ _ => body.getD 0 (.Pass ⟨0, 0, 0, 0⟩)
  | s => s
abbrev sInitRefused : Stmt := inCls (top 6)
theorem scInitRefused : FnScope [Str.ofString "self", Str.ofString "reason"] [Str.ofString "self", Str.ofString "reason"] (defScope sInitRefused) := ⟨rfl, rfl, rfl, by decide +kernel, rfl, by decide +kernel, by decide +kernel⟩
theorem ok_initRefused {P : Program} {w : World} {K : PySem.W.Frag} {mg : Str → Option Value} {base : Heap} {fI C : Addr} {fdI : FuncData} (F : Fun K "__init__" "Refused.__init__" sInitRefused fI fdI) (T : XCls K mg "Refused" "reason" C fI) : FnOk P w K mg base CX0 1 fI fdI [Str.ofString "self", Str.ofString "reason"] (spI K C "reason") :=
  init_ok F scInitRefused T.T T.noN fun X hN hsc => pss_one (ps_ost (pe_var (by rw [hN]; rfl) (by rw [hsc]; exact .inl rfl)) (pe_var (by rw [hN]; rfl) (by rw [hsc]; exact .inl rfl)))
set_option maxHeartbeats 8000000 in
theorem all_mk {l : PySem.W.OpenLaw} {w : World} {K : PySem.W.Frag} {h : Heap} {mg : Str → Option Value} {fa f1 f2 f3 f4 f5 f6 f7 f8 f9 f10 f11 f12 f13 f14 f15 f16 f17 f18 f19 f20 f21 f22 f23 f24 f25 f26 C0 C2 T4 CMalformed CRefused fIRefused : Addr} (X : K.In h) (G : h.Ns mainGlobals mg) (hfa : mg "law" = some (.ref fa))
    {tn4 : Nat} {tk4 tk_MOST_LETTERS : Tok} {od1 an1 od2 an2 od3 an3 od4 an4 od5 an5 od6 an6 od7 an7 od8 an8 od9 an9 od10 an10 od11 an11 od12 an12 od13 an13 od14 an14 od15 an15 od16 an16 od17 an17 od18 an18 od19 an19 od20 an20 od21 an21 od22 an22 od23 an23 od24 an24 od25 an25 od26 an26 tod4 odRefused anRefused : Option Addr} {sl1 sl2 sl3 sl4 sl5 sl6 sl7 sl8 sl9 sl10 sl11 sl12 sl13 sl14 sl15 sl16 sl17 sl18 sl19 sl20 sl21 sl22 sl23 sl24 sl25 sl26 tsl4 slRefused : Array (Option Value)} {oc1 kV1 dc1 pm1 cd1 ct1 oc2 kV2 dc2 pm2 cd2 ct2 oc3 kV3 dc3 pm3 cd3 ct3 oc4 kV4 dc4 pm4 cd4 ct4 oc5 kV5 dc5 pm5 cd5 ct5 oc6 kV6 dc6 pm6 cd6 ct6 oc7 kV7 dc7 pm7 cd7 ct7 oc8 kV8 dc8 pm8 cd8 ct8 oc9 kV9 dc9 pm9 cd9 ct9 oc10 kV10 dc10 pm10 cd10 ct10 oc11 kV11 dc11 pm11 cd11 ct11 oc12 kV12 dc12 pm12 cd12 ct12 oc13 kV13 dc13 pm13 cd13 ct13 oc14 kV14 dc14 pm14 cd14 ct14 oc15 kV15 dc15 pm15 cd15 ct15 oc16 kV16 dc16 pm16 cd16 ct16 oc17 kV17 dc17 pm17 cd17 ct17 oc18 kV18 dc18 pm18 cd18 ct18 oc19 kV19 dc19 pm19 cd19 ct19 oc20 kV20 dc20 pm20 cd20 ct20 oc21 kV21 dc21 pm21 cd21 ct21 oc22 kV22 dc22 pm22 cd22 ct22 oc23 kV23 dc23 pm23 cd23 ct23 oc24 kV24 dc24 pm24 cd24 ct24 oc25 kV25 dc25 pm25 cd25 ct25 oc26 kV26 dc26 pm26 cd26 ct26 toc4 ocRefused kVRefused dcRefused pmRefused cdRefused ctRefused : Value} 
    (a1 : PySem.W.nsIn K mainGlobals "_law_state" = some (some (.ref f1)))
    (l1 : K.lookup f1 = some ⟨oc1, od1, .func (PySem.W.fnOf "_law_state" "_law_state" (defArgs sState) (defBody sState) (defScope sState) .none kV1 dc1 pm1 an1 cd1 ct1), sl1⟩)
    (c1 : PySem.W.codeIn K cd1 "_law_state" = true)
    (k1 : PySem.W.keepIn K (.ref f1) = true)
    (a2 : PySem.W.nsIn K mainGlobals "_law_take" = some (some (.ref f2)))
    (l2 : K.lookup f2 = some ⟨oc2, od2, .func (PySem.W.fnOf "_law_take" "_law_take" (defArgs sTake) (defBody sTake) (defScope sTake) .none kV2 dc2 pm2 an2 cd2 ct2), sl2⟩)
    (c2 : PySem.W.codeIn K cd2 "_law_take" = true)
    (k2 : PySem.W.keepIn K (.ref f2) = true)
    (a3 : PySem.W.nsIn K mainGlobals "is_integer" = some (some (.ref f3)))
    (l3 : K.lookup f3 = some ⟨oc3, od3, .func (PySem.W.fnOf "is_integer" "is_integer" (defArgs s_is_integer) (defBody s_is_integer) (defScope s_is_integer) .none kV3 dc3 pm3 an3 cd3 ct3), sl3⟩)
    (c3 : PySem.W.codeIn K cd3 "is_integer" = true)
    (k3 : PySem.W.keepIn K (.ref f3) = true)
    (a4 : PySem.W.findIn K (.ref C0) "__init__" = some (some (.ref f4)))
    (g4 : PySem.W.isFn K (.ref f4) = true)
    (l4 : K.lookup f4 = some ⟨oc4, od4, .func (PySem.W.fnOf "__init__" "Ratio.__init__" (defArgs s_Ratio_init) (defBody s_Ratio_init) (defScope s_Ratio_init) (.ref T4) kV4 dc4 pm4 an4 cd4 ct4), sl4⟩)
    (c4 : PySem.W.codeIn K cd4 "Ratio.__init__" = true)
    (k4 : PySem.W.keepIn K (.ref f4) = true)
    (t4 : K.lookup T4 = some ⟨toc4, tod4, .seq #[.int 1 tk4] tn4, tsl4⟩)
    (a5 : PySem.W.findIn K (.ref C0) (PySem.dunder (PySem.Operator.Add).info.2) = some (some (.ref f5)))
    (g5 : PySem.W.isFn K (.ref f5) = true)
    (l5 : K.lookup f5 = some ⟨oc5, od5, .func (PySem.W.fnOf "__add__" "Ratio.__add__" (defArgs s_Ratio_add) (defBody s_Ratio_add) (defScope s_Ratio_add) .none kV5 dc5 pm5 an5 cd5 ct5), sl5⟩)
    (c5 : PySem.W.codeIn K cd5 "Ratio.__add__" = true)
    (k5 : PySem.W.keepIn K (.ref f5) = true)
    (a6 : PySem.W.findIn K (.ref C0) "__eq__" = some (some (.ref f6)))
    (g6 : PySem.W.isFn K (.ref f6) = true)
    (l6 : K.lookup f6 = some ⟨oc6, od6, .func (PySem.W.fnOf "__eq__" "Ratio.__eq__" (defArgs s_Ratio_eq) (defBody s_Ratio_eq) (defScope s_Ratio_eq) .none kV6 dc6 pm6 an6 cd6 ct6), sl6⟩)
    (c6 : PySem.W.codeIn K cd6 "Ratio.__eq__" = true)
    (k6 : PySem.W.keepIn K (.ref f6) = true)
    (a7 : PySem.W.findIn K (.ref C0) "is_zero" = some (some (.ref f7)))
    (g7 : PySem.W.isFn K (.ref f7) = true)
    (l7 : K.lookup f7 = some ⟨oc7, od7, .func (PySem.W.fnOf "is_zero" "Ratio.is_zero" (defArgs s_Ratio_is_zero) (defBody s_Ratio_is_zero) (defScope s_Ratio_is_zero) .none kV7 dc7 pm7 an7 cd7 ct7), sl7⟩)
    (c7 : PySem.W.codeIn K cd7 "Ratio.is_zero" = true)
    (k7 : PySem.W.keepIn K (.ref f7) = true)
    (a8 : PySem.W.nsIn K mainGlobals "_checked_number" = some (some (.ref f8)))
    (l8 : K.lookup f8 = some ⟨oc8, od8, .func (PySem.W.fnOf "_checked_number" "_checked_number" (defArgs s__checked_number) (defBody s__checked_number) (defScope s__checked_number) .none kV8 dc8 pm8 an8 cd8 ct8), sl8⟩)
    (c8 : PySem.W.codeIn K cd8 "_checked_number" = true)
    (k8 : PySem.W.keepIn K (.ref f8) = true)
    (a9 : PySem.W.nsIn K mainGlobals "checked_pairs" = some (some (.ref f9)))
    (l9 : K.lookup f9 = some ⟨oc9, od9, .func (PySem.W.fnOf "checked_pairs" "checked_pairs" (defArgs s_checked_pairs) (defBody s_checked_pairs) (defScope s_checked_pairs) .none kV9 dc9 pm9 an9 cd9 ct9), sl9⟩)
    (c9 : PySem.W.codeIn K cd9 "checked_pairs" = true)
    (k9 : PySem.W.keepIn K (.ref f9) = true)
    (a10 : PySem.W.nsIn K mainGlobals "added_up" = some (some (.ref f10)))
    (l10 : K.lookup f10 = some ⟨oc10, od10, .func (PySem.W.fnOf "added_up" "added_up" (defArgs s_added_up) (defBody s_added_up) (defScope s_added_up) .none kV10 dc10 pm10 an10 cd10 ct10), sl10⟩)
    (c10 : PySem.W.codeIn K cd10 "added_up" = true)
    (k10 : PySem.W.keepIn K (.ref f10) = true)
    (a11 : PySem.W.nsIn K mainGlobals "check_number" = some (some (.ref f11)))
    (l11 : K.lookup f11 = some ⟨oc11, od11, .func (PySem.W.fnOf "check_number" "check_number" (defArgs s_check_number) (defBody s_check_number) (defScope s_check_number) .none kV11 dc11 pm11 an11 cd11 ct11), sl11⟩)
    (c11 : PySem.W.codeIn K cd11 "check_number" = true)
    (k11 : PySem.W.keepIn K (.ref f11) = true)
    (a12 : PySem.W.nsIn K mainGlobals "_is_exponent" = some (some (.ref f12)))
    (l12 : K.lookup f12 = some ⟨oc12, od12, .func (PySem.W.fnOf "_is_exponent" "_is_exponent" (defArgs s__is_exponent) (defBody s__is_exponent) (defScope s__is_exponent) .none kV12 dc12 pm12 an12 cd12 ct12), sl12⟩)
    (c12 : PySem.W.codeIn K cd12 "_is_exponent" = true)
    (k12 : PySem.W.keepIn K (.ref f12) = true)
    (a13 : PySem.W.nsIn K mainGlobals "_swapped" = some (some (.ref f13)))
    (l13 : K.lookup f13 = some ⟨oc13, od13, .func (PySem.W.fnOf "_swapped" "_swapped" (defArgs s__swapped) (defBody s__swapped) (defScope s__swapped) .none kV13 dc13 pm13 an13 cd13 ct13), sl13⟩)
    (c13 : PySem.W.codeIn K cd13 "_swapped" = true)
    (k13 : PySem.W.keepIn K (.ref f13) = true)
    (a14 : PySem.W.findIn K (.ref C2) "__init__" = some (some (.ref f14)))
    (g14 : PySem.W.isFn K (.ref f14) = true)
    (l14 : K.lookup f14 = some ⟨oc14, od14, .func (PySem.W.fnOf "__init__" "Letters.__init__" (defArgs s_Letters_init) (defBody s_Letters_init) (defScope s_Letters_init) .none kV14 dc14 pm14 an14 cd14 ct14), sl14⟩)
    (c14 : PySem.W.codeIn K cd14 "Letters.__init__" = true)
    (k14 : PySem.W.keepIn K (.ref f14) = true)
    (a15 : PySem.W.findIn K (.ref C2) "is_symmetric" = some (some (.ref f15)))
    (g15 : PySem.W.isFn K (.ref f15) = true)
    (l15 : K.lookup f15 = some ⟨oc15, od15, .func (PySem.W.fnOf "is_symmetric" "Letters.is_symmetric" (defArgs s_Letters_is_symmetric) (defBody s_Letters_is_symmetric) (defScope s_Letters_is_symmetric) .none kV15 dc15 pm15 an15 cd15 ct15), sl15⟩)
    (c15 : PySem.W.codeIn K cd15 "Letters.is_symmetric" = true)
    (k15 : PySem.W.keepIn K (.ref f15) = true)
    (a16 : PySem.W.nsIn K mainGlobals "_law_gcd" = some (some (.ref f16)))
    (l16 : K.lookup f16 = some ⟨oc16, od16, .func (PySem.W.fnOf "_law_gcd" "_law_gcd" (defArgs s__law_gcd) (defBody s__law_gcd) (defScope s__law_gcd) .none kV16 dc16 pm16 an16 cd16 ct16), sl16⟩)
    (c16 : PySem.W.codeIn K cd16 "_law_gcd" = true)
    (k16 : PySem.W.keepIn K (.ref f16) = true)
    (a17 : PySem.W.nsIn K mainGlobals "_law_frac" = some (some (.ref f17)))
    (l17 : K.lookup f17 = some ⟨oc17, od17, .func (PySem.W.fnOf "_law_frac" "_law_frac" (defArgs s__law_frac) (defBody s__law_frac) (defScope s__law_frac) .none kV17 dc17 pm17 an17 cd17 ct17), sl17⟩)
    (c17 : PySem.W.codeIn K cd17 "_law_frac" = true)
    (k17 : PySem.W.keepIn K (.ref f17) = true)
    (a18 : PySem.W.nsIn K mainGlobals "_law_add" = some (some (.ref f18)))
    (l18 : K.lookup f18 = some ⟨oc18, od18, .func (PySem.W.fnOf "_law_add" "_law_add" (defArgs s__law_add) (defBody s__law_add) (defScope s__law_add) .none kV18 dc18 pm18 an18 cd18 ct18), sl18⟩)
    (c18 : PySem.W.codeIn K cd18 "_law_add" = true)
    (k18 : PySem.W.keepIn K (.ref f18) = true)
    (a19 : PySem.W.nsIn K mainGlobals "_law_item" = some (some (.ref f19)))
    (l19 : K.lookup f19 = some ⟨oc19, od19, .func (PySem.W.fnOf "_law_item" "_law_item" (defArgs s__law_item) (defBody s__law_item) (defScope s__law_item) .none kV19 dc19 pm19 an19 cd19 ct19), sl19⟩)
    (c19 : PySem.W.codeIn K cd19 "_law_item" = true)
    (k19 : PySem.W.keepIn K (.ref f19) = true)
    (a20 : PySem.W.nsIn K mainGlobals "_law_ratio" = some (some (.ref f20)))
    (l20 : K.lookup f20 = some ⟨oc20, od20, .func (PySem.W.fnOf "_law_ratio" "_law_ratio" (defArgs s__law_ratio) (defBody s__law_ratio) (defScope s__law_ratio) .none kV20 dc20 pm20 an20 cd20 ct20), sl20⟩)
    (c20 : PySem.W.codeIn K cd20 "_law_ratio" = true)
    (k20 : PySem.W.keepIn K (.ref f20) = true)
    (a21 : PySem.W.nsIn K mainGlobals "_law_plus" = some (some (.ref f21)))
    (l21 : K.lookup f21 = some ⟨oc21, od21, .func (PySem.W.fnOf "_law_plus" "_law_plus" (defArgs s__law_plus) (defBody s__law_plus) (defScope s__law_plus) .none kV21 dc21 pm21 an21 cd21 ct21), sl21⟩)
    (c21 : PySem.W.codeIn K cd21 "_law_plus" = true)
    (k21 : PySem.W.keepIn K (.ref f21) = true)
    (a22 : PySem.W.nsIn K mainGlobals "_law_drawn" = some (some (.ref f22)))
    (l22 : K.lookup f22 = some ⟨oc22, od22, .func (PySem.W.fnOf "_law_drawn" "_law_drawn" (defArgs s__law_drawn) (defBody s__law_drawn) (defScope s__law_drawn) .none kV22 dc22 pm22 an22 cd22 ct22), sl22⟩)
    (c22 : PySem.W.codeIn K cd22 "_law_drawn" = true)
    (k22 : PySem.W.keepIn K (.ref f22) = true)
    (a23 : PySem.W.nsIn K mainGlobals "_law_letters" = some (some (.ref f23)))
    (l23 : K.lookup f23 = some ⟨oc23, od23, .func (PySem.W.fnOf "_law_letters" "_law_letters" (defArgs s__law_letters) (defBody s__law_letters) (defScope s__law_letters) .none kV23 dc23 pm23 an23 cd23 ct23), sl23⟩)
    (c23 : PySem.W.codeIn K cd23 "_law_letters" = true)
    (k23 : PySem.W.keepIn K (.ref f23) = true)
    (a24 : PySem.W.nsIn K mainGlobals "_law_orders" = some (some (.ref f24)))
    (l24 : K.lookup f24 = some ⟨oc24, od24, .func (PySem.W.fnOf "_law_orders" "_law_orders" (defArgs s__law_orders) (defBody s__law_orders) (defScope s__law_orders) .none kV24 dc24 pm24 an24 cd24 ct24), sl24⟩)
    (c24 : PySem.W.codeIn K cd24 "_law_orders" = true)
    (k24 : PySem.W.keepIn K (.ref f24) = true)
    (a25 : PySem.W.nsIn K mainGlobals "_law_is_symmetric" = some (some (.ref f25)))
    (l25 : K.lookup f25 = some ⟨oc25, od25, .func (PySem.W.fnOf "_law_is_symmetric" "_law_is_symmetric" (defArgs s__law_is_symmetric) (defBody s__law_is_symmetric) (defScope s__law_is_symmetric) .none kV25 dc25 pm25 an25 cd25 ct25), sl25⟩)
    (c25 : PySem.W.codeIn K cd25 "_law_is_symmetric" = true)
    (k25 : PySem.W.keepIn K (.ref f25) = true)
    (a26 : PySem.W.nsIn K mainGlobals "law" = some (some (.ref f26)))
    (l26 : K.lookup f26 = some ⟨oc26, od26, .func (PySem.W.fnOf "law" "law" (defArgs s_law) (defBody s_law) (defScope s_law) .none kV26 dc26 pm26 an26 cd26 ct26), sl26⟩)
    (c26 : PySem.W.codeIn K cd26 "law" = true)
    (k26 : PySem.W.keepIn K (.ref f26) = true)
    (z1 : PySem.W.nsIn K mainGlobals "len" = some none)
    (z2 : PySem.W.nsIn K mainGlobals "int" = some none)
    (z3 : PySem.W.nsIn K mainGlobals "abs" = some none)
    (z4 : PySem.W.nsIn K mainGlobals "min" = some none)
    (z5 : PySem.W.nsIn K mainGlobals "max" = some none)
    (z6 : PySem.W.nsIn K mainGlobals "range" = some none)
    (z7 : PySem.W.nsIn K mainGlobals "tuple" = some none)
    (z8 : PySem.W.nsIn K mainGlobals "list" = some none)
    (z9 : PySem.W.nsIn K mainGlobals "all" = some none)
    (z10 : PySem.W.nsIn K mainGlobals "any" = some none)
    (z11 : PySem.W.nsIn K mainGlobals "zip" = some none)
    (z12 : PySem.W.nsIn K mainGlobals "sum" = some none)
    (z13 : PySem.W.nsIn K mainGlobals "sorted" = some none)
    (z14 : PySem.W.nsIn K mainGlobals "isinstance" = some none)
    (z15 : PySem.W.nsIn K mainGlobals "bool" = some none)
    (z16 : PySem.W.nsIn K mainGlobals "reversed" = some none)
    (z17 : PySem.W.nsIn K mainGlobals "enumerate" = some none)
    (zdict : PySem.W.nsIn K mainGlobals "dict" = some none)
    (zgcd : PySem.W.nsIn K mainGlobals "gcd" = some (some (.builtin "math.gcd")))
    (n0_ : PySem.W.nsIn K mainGlobals "Ratio" = some (some (.ref C0)))
    (pg0 : PySem.W.plainGet K C0 Str.empty = true)
    (hd0 : PySem.W.hasDictIn K C0 = true)
    (po0 : PySem.W.plainOver K C0 = true)
    (sa0 : PySem.W.findIn K (.ref C0) "__setattr__" = some (some (.builtin "object.__setattr__")))
    (na0n : PySem.W.findIn K (.ref C0) "n" = some none)
    (na0d : PySem.W.findIn K (.ref C0) "d" = some none)
    (mk0 : PySem.W.makesIn K C0 = true)
    (kc0 : PySem.W.keepIn K (.ref C0) = true)
    (sff0 : PySem.W.selfFirst K C0 = true)
    (ih0 : PySem.W.findIn K (.ref C0) "__class__" = some (some (.builtin "object.__class__")))
    (in0 : PySem.W.specialIn K (.builtin "object.__class__") "__get__" = some (some (.builtin "getset_descriptor.__get__")))
    (it0 : PySem.W.takesIn K (.builtin "object.__class__") = some true)
    (im0 : PySem.W.mroIn K C0 (.type "object") = some true)
    (ie0 : PySem.W.kitOne K (.ref C0) (.ref C0) = some true)
    (io0NoneType : PySem.W.kitOne K (.type "NoneType") (.ref C0) = some false)
    (io0bool : PySem.W.kitOne K (.type "bool") (.ref C0) = some false)
    (io0int : PySem.W.kitOne K (.type "int") (.ref C0) = some false)
    (io0str : PySem.W.kitOne K (.type "str") (.ref C0) = some false)
    (io0list : PySem.W.kitOne K (.type "list") (.ref C0) = some false)
    (io0tuple : PySem.W.kitOne K (.type "tuple") (.ref C0) = some false)
    (n2_ : PySem.W.nsIn K mainGlobals "Letters" = some (some (.ref C2)))
    (pg2 : PySem.W.plainGet K C2 Str.empty = true)
    (hd2 : PySem.W.hasDictIn K C2 = true)
    (po2 : PySem.W.plainOver K C2 = true)
    (sa2 : PySem.W.findIn K (.ref C2) "__setattr__" = some (some (.builtin "object.__setattr__")))
    (na2n : PySem.W.findIn K (.ref C2) "n" = some none)
    (na2terms : PySem.W.findIn K (.ref C2) "terms" = some none)
    (na2_coefficients : PySem.W.findIn K (.ref C2) "_coefficients" = some none)
    (mk2 : PySem.W.makesIn K C2 = true)
    (kc2 : PySem.W.keepIn K (.ref C2) = true)
    (yRefused2 : PySem.W.nsIn K mainGlobals "Refused" = some (some (.ref CRefused)))
    (yRefused3 : OexC K CRefused)
    (yRefused4 : XfC K CRefused)
    (yRefused5 : PySem.W.findIn K (.ref CRefused) "reason" = some none)
    (yRefused6 : PySem.W.findIn K (.ref CRefused) "__init__" = some (some (.ref fIRefused)))
    (yRefused7 : PySem.W.typeIn K (.ref fIRefused) = some (.type "function"))
    (yRefused8 : PySem.W.subIn K (.ref CRefused) (.ref CRefused) = some true)
    (yRefused9 : K.lookup fIRefused = some ⟨ocRefused, odRefused, .func (PySem.W.fnOf "__init__" "Refused.__init__" (defArgs sInitRefused) (defBody sInitRefused) (defScope sInitRefused) .none kVRefused dcRefused pmRefused anRefused cdRefused ctRefused), slRefused⟩)
    (yRefused10 : PySem.W.codeIn K cdRefused "Refused.__init__" = true)
    (yRefused11 : PySem.W.keepIn K (.ref fIRefused) = true)
    (yMalformed2 : PySem.W.nsIn K mainGlobals "Malformed" = some (some (.ref CMalformed)))
    (yMalformed3 : OexC K CMalformed)
    (yMalformed8 : PySem.W.subIn K (.ref CMalformed) (.ref CMalformed) = some true)
    (yMalformed4 : PySem.W.excIn K CMalformed [.type "ValueError", .type "Exception", .type "BaseException", .type "object"] "ValueError.__new__" = true)
    (xnu0 : PySem.W.subIn K (.ref C0) (.type "NoneType") = some false)
    (xne0 : PySem.W.findIn K (.ref C0) "__ne__" = some (some (.builtin "object.__ne__")))
    (xmr0 : PySem.W.mroIn K C0 (.type "object") = some true)
    (y_MOST_LETTERS : PySem.W.nsIn K mainGlobals "_MOST_LETTERS" = some (some (.int 8 tk_MOST_LETTERS))) :
    ∃ fd : FuncData, (∀ (s : Shared) (v : Value), BindsTo s fd ⟨[v], []⟩ [("script", v)]) ∧ ∀ base : Heap, K.In base → base.Ns mainGlobals mg → FnOk l.prog w K mg base CX0 12 fa fd ["script"] (spLaw K) := by
  have e := hfa.symm.trans (PySem.W.mg_of X G a26)
  cases e
  have F1 := fun_mk (st := sState) l1 c1 k1
  have F2 := fun_mk (st := sTake) l2 c2 k2
  have F3 := fun_mk (st := s_is_integer) l3 c3 k3
  have F4 := funY_mk (st := s_Ratio_init) l4 c4 k4
  have F5 := fun_mk (st := s_Ratio_add) l5 c5 k5
  have F6 := fun_mk (st := s_Ratio_eq) l6 c6 k6
  have F7 := fun_mk (st := s_Ratio_is_zero) l7 c7 k7
  have F8 := fun_mk (st := s__checked_number) l8 c8 k8
  have F9 := fun_mk (st := s_checked_pairs) l9 c9 k9
  have F10 := fun_mk (st := s_added_up) l10 c10 k10
  have F11 := fun_mk (st := s_check_number) l11 c11 k11
  have F12 := fun_mk (st := s__is_exponent) l12 c12 k12
  have F13 := fun_mk (st := s__swapped) l13 c13 k13
  have F14 := fun_mk (st := s_Letters_init) l14 c14 k14
  have F15 := fun_mk (st := s_Letters_is_symmetric) l15 c15 k15
  have F16 := fun_mk (st := s__law_gcd) l16 c16 k16
  have F17 := fun_mk (st := s__law_frac) l17 c17 k17
  have F18 := fun_mk (st := s__law_add) l18 c18 k18
  have F19 := fun_mk (st := s__law_item) l19 c19 k19
  have F20 := fun_mk (st := s__law_ratio) l20 c20 k20
  have F21 := fun_mk (st := s__law_plus) l21 c21 k21
  have F22 := fun_mk (st := s__law_drawn) l22 c22 k22
  have F23 := fun_mk (st := s__law_letters) l23 c23 k23
  have F24 := fun_mk (st := s__law_orders) l24 c24 k24
  have F25 := fun_mk (st := s__law_is_symmetric) l25 c25 k25
  have F26 := fun_mk (st := s_law) l26 c26 k26
  have b1 := F1.binds (ps := ["script"]) fun _ _ _ _ _ _ us hl => match us, hl with | [_], _ => rfl
  have b2 := F2.binds (ps := ["state", "m"]) fun _ _ _ _ _ _ us hl => match us, hl with | [_, _], _ => rfl
  have b3 := F3.binds (ps := ["value"]) fun _ _ _ _ _ _ us hl => match us, hl with | [_], _ => rfl
  have FD4 : FunD K "__init__" "Ratio.__init__" (defArgs s_Ratio_init) (defBody s_Ratio_init) (defScope s_Ratio_init) [V.int 1] [] f4 _ := ⟨⟨_, _, .ref T4, _, _, _, _, _, _, _, rfl, l4, c4, .inr ⟨by simp, T4, _, [.int 1 tk4], _, rfl, t4, rfl, .cons ⟨_, rfl⟩ .nil⟩, .inl rfl⟩, k4⟩
  obtain ⟨us4, rv4, b4⟩ := FD4.binds1 (ps := ["self", "n", "d"]) 3 1 (by simp) rfl fun T kV doc pm an cdv ct us its l1 l2 => match us, its, l1, l2 with | [_, _, _], [_], _, _ => ⟨_, rfl, rfl⟩
  have z4_ : us4 = [] := by cases rv4; rfl
  rw [z4_] at b4
  obtain ⟨vs4, rw4, bd4⟩ := FD4.binds1 (ps := ["self", "n", "d"]) 2 0 (by simp) rfl fun T kV doc pm an cdv ct us its l1 l2 => match us, its, l1, l2 with | [_, _], [_], _, _ => ⟨_, rfl, rfl⟩
  have ev4 : ∀ (wd : World) φ H, VRs K wd φ H [.dat (.int 1)] [V.int 1] := fun wd φ H => .cons (.dat (.int _)) .nil
  have b5 := F5.binds (ps := ["self", "other"]) fun _ _ _ _ _ _ us hl => match us, hl with | [_, _], _ => rfl
  have b6 := F6.binds (ps := ["self", "other"]) fun _ _ _ _ _ _ us hl => match us, hl with | [_, _], _ => rfl
  have b7 := F7.binds (ps := ["self"]) fun _ _ _ _ _ _ us hl => match us, hl with | [_], _ => rfl
  have b8 := F8.binds (ps := ["value"]) fun _ _ _ _ _ _ us hl => match us, hl with | [_], _ => rfl
  have b9 := F9.binds (ps := ["pairs"]) fun _ _ _ _ _ _ us hl => match us, hl with | [_], _ => rfl
  have b10 := F10.binds (ps := ["pairs"]) fun _ _ _ _ _ _ us hl => match us, hl with | [_], _ => rfl
  have b11 := F11.binds (ps := ["n"]) fun _ _ _ _ _ _ us hl => match us, hl with | [_], _ => rfl
  have b12 := F12.binds (ps := ["value", "n"]) fun _ _ _ _ _ _ us hl => match us, hl with | [_, _], _ => rfl
  have b13 := F13.binds (ps := ["exponent", "i", "j"]) fun _ _ _ _ _ _ us hl => match us, hl with | [_, _, _], _ => rfl
  have b14 := F14.binds (ps := ["self", "n", "pairs"]) fun _ _ _ _ _ _ us hl => match us, hl with | [_, _, _], _ => rfl
  have b15 := F15.binds (ps := ["self"]) fun _ _ _ _ _ _ us hl => match us, hl with | [_], _ => rfl
  have b16 := F16.binds (ps := ["a", "b"]) fun _ _ _ _ _ _ us hl => match us, hl with | [_, _], _ => rfl
  have b17 := F17.binds (ps := ["n", "d"]) fun _ _ _ _ _ _ us hl => match us, hl with | [_, _], _ => rfl
  have b18 := F18.binds (ps := ["a", "b"]) fun _ _ _ _ _ _ us hl => match us, hl with | [_, _], _ => rfl
  have b19 := F19.binds (ps := ["state"]) fun _ _ _ _ _ _ us hl => match us, hl with | [_], _ => rfl
  have b20 := F20.binds (ps := ["q"]) fun _ _ _ _ _ _ us hl => match us, hl with | [_], _ => rfl
  have b21 := F21.binds (ps := ["table", "exponent", "c"]) fun _ _ _ _ _ _ us hl => match us, hl with | [_, _, _], _ => rfl
  have b22 := F22.binds (ps := ["state", "n", "most"]) fun _ _ _ _ _ _ us hl => match us, hl with | [_, _, _], _ => rfl
  have b23 := F23.binds (ps := ["n", "table"]) fun _ _ _ _ _ _ us hl => match us, hl with | [_, _], _ => rfl
  have b24 := F24.binds (ps := ["v"]) fun _ _ _ _ _ _ us hl => match us, hl with | [_], _ => rfl
  have b25 := F25.binds (ps := ["table"]) fun _ _ _ _ _ _ us hl => match us, hl with | [_], _ => rfl
  have m1 := PySem.W.mg_of X G a1
  have m2 := PySem.W.mg_of X G a2
  have m3 := PySem.W.mg_of X G a3
  have m8 := PySem.W.mg_of X G a8
  have m9 := PySem.W.mg_of X G a9
  have m10 := PySem.W.mg_of X G a10
  have m11 := PySem.W.mg_of X G a11
  have m12 := PySem.W.mg_of X G a12
  have m13 := PySem.W.mg_of X G a13
  have m16 := PySem.W.mg_of X G a16
  have m17 := PySem.W.mg_of X G a17
  have m18 := PySem.W.mg_of X G a18
  have m19 := PySem.W.mg_of X G a19
  have m20 := PySem.W.mg_of X G a20
  have m21 := PySem.W.mg_of X G a21
  have m22 := PySem.W.mg_of X G a22
  have m23 := PySem.W.mg_of X G a23
  have m24 := PySem.W.mg_of X G a24
  have m25 := PySem.W.mg_of X G a25
  have n1 := PySem.W.mg_none_of X G z1
  have n2 := PySem.W.mg_none_of X G z2
  have n3 := PySem.W.mg_none_of X G z3
  have n4 := PySem.W.mg_none_of X G z4
  have n5 := PySem.W.mg_none_of X G z5
  have n6 := PySem.W.mg_none_of X G z6
  have n7 := PySem.W.mg_none_of X G z7
  have n8 := PySem.W.mg_none_of X G z8
  have n9 := PySem.W.mg_none_of X G z9
  have n10 := PySem.W.mg_none_of X G z10
  have n11 := PySem.W.mg_none_of X G z11
  have n12 := PySem.W.mg_none_of X G z12
  have n13 := PySem.W.mg_none_of X G z13
  have n14 := PySem.W.mg_none_of X G z14
  have n15 := PySem.W.mg_none_of X G z15
  have n16 := PySem.W.mg_none_of X G z16
  have n17 := PySem.W.mg_none_of X G z17
  have T : MgB mg := ⟨n1, n2, n3, n4, n5, n6, n7, n8, n9, n10, n11, n12, n13, n14, n15, n16, n17⟩
  have T0 : Mg mg := ⟨T.len, T.int, T.abs, T.min, T.range⟩
  have zz_dict := PySem.W.mg_none_of X G zdict
  have gg_gcd := PySem.W.mg_of X G zgcd
  have ix_0 : InsX K mg 0 C0 := ⟨n0_, ⟨pg0, hd0, po0, sa0⟩, fun x hx => by
    have hx : x ∈ (["n", "d"] : List Str) := hx
    simp only [List.mem_cons, List.not_mem_nil, or_false] at hx
    rcases hx with rfl | rfl
    · exact na0n
    · exact na0d, PySem.W.mg_of X G n0_⟩
  have sf_0 : ∀ C, insC K 0 C → PySem.W.selfFirst K C = true := fun C h => by cases insC_eq ix_0.nc h; exact sff0
  have ii_0 : InsI K mg 0 C0 := ⟨ix_0, ⟨ix_0.cl, ih0, in0, it0, im0, ie0⟩, fun ty hty => by
    simp only [List.mem_cons, List.not_mem_nil, or_false] at hty
    rcases hty with rfl | rfl | rfl | rfl | rfl | rfl
    · exact io0NoneType
    · exact io0bool
    · exact io0int
    · exact io0str
    · exact io0list
    · exact io0tuple⟩
  have ix_2 : InsX K mg 2 C2 := ⟨n2_, ⟨pg2, hd2, po2, sa2⟩, fun x hx => by
    have hx : x ∈ (["n", "terms", "_coefficients"] : List Str) := hx
    simp only [List.mem_cons, List.not_mem_nil, or_false] at hx
    rcases hx with rfl | rfl | rfl
    · exact na2n
    · exact na2terms
    · exact na2_coefficients, PySem.W.mg_of X G n2_⟩
  have FIRefused := fun_mk yRefused9 yRefused10 yRefused11
  have bIRefused := FIRefused.binds (ps := [Str.ofString "self", Str.ofString "reason"]) fun _ _ _ _ _ _ us hl => match us, hl with | [_, _], _ => rfl
  have TXRefused : XCls K mg "Refused" "reason" CRefused fIRefused := ⟨yRefused3, yRefused4, yRefused5, yRefused6, yRefused7, PySem.W.mg_of X G yRefused2, exm_self yRefused3 yRefused8⟩
  have XM_Malformed : XCl0 K mg "Malformed" CMalformed := ⟨yMalformed4, yMalformed3.kC, yMalformed3.exC, yMalformed3.tyC, PySem.W.mg_of X G yMalformed2, exm_of yMalformed3 yMalformed8⟩
  have nu_0 : InsU K 0 := ⟨fun C h => by cases insC_eq ix_0.nc h; exact xnu0⟩
  have nx_0 : InsN K 0 := ⟨fun C h => by cases insC_eq ix_0.nc h; exact xmr0, fun C h => by cases insC_eq ix_0.nc h; exact xne0⟩
  have K__MOST_LETTERS := PySem.W.mg_of X G y_MOST_LETTERS
  refine ⟨PySem.W.fnOf "law" "law" (defArgs s_law) (defBody s_law) (defScope s_law) .none kV26 dc26 pm26 an26 cd26 ct26, fun s v => .of_eq rfl, fun base _ _ => ?_⟩
  have GIRefused := ok_initRefused (P := l.prog) (w := w) (base := base) FIRefused TXRefused
  have C__law_state : CalM l.prog w K mg base 1 "_law_state" ["script"] 1 m__law_state := ⟨_, _, fnState (P := l.prog) (w := w) (base := base) F1 T0, m1, k1, b1⟩
  have C__law_take : CalM l.prog w K mg base 1 "_law_take" ["state", "m"] 2 m__law_take := ⟨_, _, fnTake (P := l.prog) (w := w) (base := base) F2 T0, m2, k2, b2⟩
  have C_is_integer : CalM l.prog w K mg base 2 "is_integer" ["value"] 1 m_is_integer := ⟨_, _, ok_is_integer (P := l.prog) (w := w) (base := base) (Hx.Fun.y F3) T , m3, k3, b3⟩
  have H_Ratio_init := ok_Ratio_init (P := l.prog) (w := w) (base := base) F4 T gg_gcd ix_0
  have cc_Ratio_2 : CalC l.prog w K mg base 2 0 ["self", "n", "d"] 3 [] m_Ratio_init := ⟨_, _, _, [], [], ix_0, H_Ratio_init, ⟨mk0, a4, g4, kc0⟩, b4, .nil, fun _ _ => .nil⟩
  have cc_Ratio_1 : CalC l.prog w K mg base 2 0 ["self", "n", "d"] 3 [.dat (.int 1)] m_Ratio_init := ⟨_, _, _, _, _, ix_0, H_Ratio_init, ⟨mk0, a4, g4, kc0⟩, bd4, rw4, ev4 _⟩
  have co_Ratio_add : CalO l.prog w K mg base 4 0 (PySem.dunder (PySem.Operator.Add).info.2) ["self", "other"] 2 m_Ratio_add := ⟨_, _, _, ix_0, ok_Ratio_add (P := l.prog) (w := w) (base := base) (Hx.Fun.y F5) T cc_Ratio_2 ix_0, ⟨a5, g5, k5⟩, b5⟩
  have co_Ratio_eq : CalO l.prog w K mg base 2 0 "__eq__" ["self", "other"] 2 m_Ratio_eq := ⟨_, _, _, ix_0, ok_Ratio_eq (P := l.prog) (w := w) (base := base) (Hx.Fun.y F6) T ii_0 ix_0, ⟨a6, g6, k6⟩, b6⟩
  have co_Ratio_is_zero : CalO l.prog w K mg base 2 0 "is_zero" ["self"] 1 m_Ratio_is_zero := ⟨_, _, _, ix_0, ok_Ratio_is_zero (P := l.prog) (w := w) (base := base) (Hx.Fun.y F7) T ix_0, ⟨a7, g7, k7⟩, b7⟩
  have C__checked_number : CalM l.prog w K mg base 4 "_checked_number" ["value"] 1 m__checked_number := ⟨_, _, ok__checked_number (P := l.prog) (w := w) (base := base) (Hx.Fun.y F8) T cc_Ratio_1 ii_0 C_is_integer, m8, k8, b8⟩
  have C_checked_pairs : CalM l.prog w K mg base 5 "checked_pairs" ["pairs"] 1 m_checked_pairs := ⟨_, _, ok_checked_pairs (P := l.prog) (w := w) (base := base) (Hx.Fun.y F9) T C__checked_number, m9, k9, b9⟩
  have C_added_up : CalM l.prog w K mg base 5 "added_up" ["pairs"] 1 m_added_up := ⟨_, _, ok_added_up (P := l.prog) (w := w) (base := base) (Hx.Fun.y F10) T co_Ratio_add co_Ratio_is_zero sf_0, m10, k10, b10⟩
  have C_check_number : CalM l.prog w K mg base 3 "check_number" ["n"] 1 m_check_number := ⟨_, _, ok_check_number (P := l.prog) (w := w) (base := base) (Hx.Fun.y F11) T XM_Malformed C_is_integer TXRefused GIRefused bIRefused K__MOST_LETTERS, m11, k11, b11⟩
  have C__is_exponent : CalM l.prog w K mg base 3 "_is_exponent" ["value", "n"] 2 m__is_exponent := ⟨_, _, ok__is_exponent (P := l.prog) (w := w) (base := base) (Hx.Fun.y F12) T C_is_integer, m12, k12, b12⟩
  have C__swapped : CalM l.prog w K mg base 2 "_swapped" ["exponent", "i", "j"] 3 m__swapped := ⟨_, _, ok__swapped (P := l.prog) (w := w) (base := base) (Hx.Fun.y F13) T , m13, k13, b13⟩
  have H_Letters_init := ok_Letters_init (P := l.prog) (w := w) (base := base) (Hx.Fun.y F14) T ix_2 C_check_number C_checked_pairs C__is_exponent C_added_up
  have cc_Letters_2 : CalC l.prog w K mg base 6 2 ["self", "n", "pairs"] 3 [] m_Letters_init := ⟨_, _, _, [], [], ix_2, H_Letters_init, ⟨mk2, a14, g14, kc2⟩, b14, .nil, fun _ _ => .nil⟩
  have co_Letters_is_symmetric : CalO l.prog w K mg base 4 2 "is_symmetric" ["self"] 1 m_Letters_is_symmetric := ⟨_, _, _, ix_2, ok_Letters_is_symmetric (P := l.prog) (w := w) (base := base) (Hx.Fun.y F15) T co_Ratio_eq ii_0 ix_2 nu_0 nx_0 C__swapped, ⟨a15, g15, k15⟩, b15⟩
  have C__law_gcd : CalM l.prog w K mg base 2 "_law_gcd" ["a", "b"] 2 m__law_gcd := ⟨_, _, ok__law_gcd (P := l.prog) (w := w) (base := base) (Hx.Fun.y F16) T , m16, k16, b16⟩
  have C__law_frac : CalM l.prog w K mg base 3 "_law_frac" ["n", "d"] 2 m__law_frac := ⟨_, _, ok__law_frac (P := l.prog) (w := w) (base := base) (Hx.Fun.y F17) T C__law_gcd, m17, k17, b17⟩
  have C__law_add : CalM l.prog w K mg base 4 "_law_add" ["a", "b"] 2 m__law_add := ⟨_, _, ok__law_add (P := l.prog) (w := w) (base := base) (Hx.Fun.y F18) T C__law_frac, m18, k18, b18⟩
  have C__law_item : CalM l.prog w K mg base 4 "_law_item" ["state"] 1 m__law_item := ⟨_, _, ok__law_item (P := l.prog) (w := w) (base := base) (Hx.Fun.y F19) T C__law_take C__law_frac, m19, k19, b19⟩
  have C__law_ratio : CalM l.prog w K mg base 4 "_law_ratio" ["q"] 1 m__law_ratio := ⟨_, _, ok__law_ratio (P := l.prog) (w := w) (base := base) (Hx.Fun.y F20) T cc_Ratio_2, m20, k20, b20⟩
  have C__law_plus : CalM l.prog w K mg base 5 "_law_plus" ["table", "exponent", "c"] 3 m__law_plus := ⟨_, _, ok__law_plus (P := l.prog) (w := w) (base := base) (Hx.Fun.y F21) T C__law_add, m21, k21, b21⟩
  have C__law_drawn : CalM l.prog w K mg base 6 "_law_drawn" ["state", "n", "most"] 3 m__law_drawn := ⟨_, _, ok__law_drawn (P := l.prog) (w := w) (base := base) (Hx.Fun.y F22) T C__law_take C__law_item C__law_plus, m22, k22, b22⟩
  have C__law_letters : CalM l.prog w K mg base 8 "_law_letters" ["n", "table"] 2 m__law_letters := ⟨_, _, ok__law_letters (P := l.prog) (w := w) (base := base) (Hx.Fun.y F23) T cc_Letters_2 C__law_ratio, m23, k23, b23⟩
  have C__law_orders : CalM l.prog w K mg base 10 "_law_orders" ["v"] 1 m__law_orders := ⟨_, _, ok__law_orders (P := l.prog) (w := w) (base := base) (Hx.Fun.y F24) T  m24 b24 9, m24, k24, b24⟩
  have C__law_is_symmetric : CalM l.prog w K mg base 11 "_law_is_symmetric" ["table"] 1 m__law_is_symmetric := ⟨_, _, ok__law_is_symmetric (P := l.prog) (w := w) (base := base) (Hx.Fun.y F25) T C__law_orders, m25, k25, b25⟩
  exact law_M law_sat (ok_law F26 T co_Letters_is_symmetric zz_dict C__law_state C__law_take C__law_drawn C__law_orders C__law_plus C__law_letters C__law_is_symmetric)
end K10
end
open PySem PySem.W PyProof.Rows
set_option maxRecDepth 100000 in
set_option maxHeartbeats 0 in
theorem PySem.Challenge.cw_fivebases_k10_symmetry_of_polynomials_holds : PySem.Challenge.rw_fivebases_k10_symmetry_of_polynomials.Holds := by
  w_on; o_law; k_head; (case hw => w_witness2)
  k_fill
  refine L2.walk_of (l := PySem.Challenge.rw_fivebases_k10_symmetry_of_polynomials) (n := 63) (k := 12) (x := "script") (CX := fun _ => L2.CX0) (sp := fun w => Pd.spLaw _) rfl (by decide) rfl ⟨rfl, by decide, by decide⟩ (fun w h Y => PySem.W.kIn_of Y) ?F (fun _ _ a ns hl _ hS => ⟨a, ns, rfl, hS, hl, fun _ => rfl⟩) (fun _ _ _ _ _ h => h)
  case F =>
    intro w mg fa h KX G hmg
    refine' K10.all_mk KX G hmg ?a1 ?l1 ?c1 ?k1 ?a2 ?l2 ?c2 ?k2 ?a3 ?l3 ?c3 ?k3 ?a4 ?g4 ?l4 ?c4 ?k4 ?t4 ?a5 ?g5 ?l5 ?c5 ?k5 ?a6 ?g6 ?l6 ?c6 ?k6 ?a7 ?g7 ?l7 ?c7 ?k7 ?a8 ?l8 ?c8 ?k8 ?a9 ?l9 ?c9 ?k9 ?a10 ?l10 ?c10 ?k10 ?a11 ?l11 ?c11 ?k11 ?a12 ?l12 ?c12 ?k12 ?a13 ?l13 ?c13 ?k13 ?a14 ?g14 ?l14 ?c14 ?k14 ?a15 ?g15 ?l15 ?c15 ?k15 ?a16 ?l16 ?c16 ?k16 ?a17 ?l17 ?c17 ?k17 ?a18 ?l18 ?c18 ?k18 ?a19 ?l19 ?c19 ?k19 ?a20 ?l20 ?c20 ?k20 ?a21 ?l21 ?c21 ?k21 ?a22 ?l22 ?c22 ?k22 ?a23 ?l23 ?c23 ?k23 ?a24 ?l24 ?c24 ?k24 ?a25 ?l25 ?c25 ?k25 ?a26 ?l26 ?c26 ?k26 ?z1 ?z2 ?z3 ?z4 ?z5 ?z6 ?z7 ?z8 ?z9 ?z10 ?z11 ?z12 ?z13 ?z14 ?z15 ?z16 ?z17 ?zdict ?zgcd ?n0_ ?pg0 ?hd0 ?po0 ?sa0 ?na0n ?na0d ?mk0 ?kc0 ?sff0 ?ih0 ?in0 ?it0 ?im0 ?ie0 ?io0NoneType ?io0bool ?io0int ?io0str ?io0list ?io0tuple ?n2_ ?pg2 ?hd2 ?po2 ?sa2 ?na2n ?na2terms ?na2_coefficients ?mk2 ?kc2 ?yRefused2 ?yRefused3 ?yRefused4 ?yRefused5 ?yRefused6 ?yRefused7 ?yRefused8 ?yRefused9 ?yRefused10 ?yRefused11 ?yMalformed2 ?yMalformed3 ?yMalformed8 ?yMalformed4 ?xnu0 ?xne0 ?xmr0 ?y_MOST_LETTERS
    (case n0_ => k_is)
    (case n2_ => k_is)
    (case a1 => k_is)
    (case l1 => k_is)
    (case c1 => k_is)
    (case k1 => k_is)
    (case a2 => k_is)
    (case l2 => k_is)
    (case c2 => k_is)
    (case k2 => k_is)
    (case a3 => k_is)
    (case l3 => k_is)
    (case c3 => k_is)
    (case k3 => k_is)
    (case a4 => k_is)
    (case g4 => k_is)
    (case l4 => k_is)
    (case c4 => k_is)
    (case k4 => k_is)
    (case t4 => k_is)
    (case a5 => k_is)
    (case g5 => k_is)
    (case l5 => k_is)
    (case c5 => k_is)
    (case k5 => k_is)
    (case a6 => k_is)
    (case g6 => k_is)
    (case l6 => k_is)
    (case c6 => k_is)
    (case k6 => k_is)
    (case a7 => k_is)
    (case g7 => k_is)
    (case l7 => k_is)
    (case c7 => k_is)
    (case k7 => k_is)
    (case a8 => k_is)
    (case l8 => k_is)
    (case c8 => k_is)
    (case k8 => k_is)
    (case a9 => k_is)
    (case l9 => k_is)
    (case c9 => k_is)
    (case k9 => k_is)
    (case a10 => k_is)
    (case l10 => k_is)
    (case c10 => k_is)
    (case k10 => k_is)
    (case a11 => k_is)
    (case l11 => k_is)
    (case c11 => k_is)
    (case k11 => k_is)
    (case a12 => k_is)
    (case l12 => k_is)
    (case c12 => k_is)
    (case k12 => k_is)
    (case a13 => k_is)
    (case l13 => k_is)
    (case c13 => k_is)
    (case k13 => k_is)
    (case a14 => k_is)
    (case g14 => k_is)
    (case l14 => k_is)
    (case c14 => k_is)
    (case k14 => k_is)
    (case a15 => k_is)
    (case g15 => k_is)
    (case l15 => k_is)
    (case c15 => k_is)
    (case k15 => k_is)
    (case a16 => k_is)
    (case l16 => k_is)
    (case c16 => k_is)
    (case k16 => k_is)
    (case a17 => k_is)
    (case l17 => k_is)
    (case c17 => k_is)
    (case k17 => k_is)
    (case a18 => k_is)
    (case l18 => k_is)
    (case c18 => k_is)
    (case k18 => k_is)
    (case a19 => k_is)
    (case l19 => k_is)
    (case c19 => k_is)
    (case k19 => k_is)
    (case a20 => k_is)
    (case l20 => k_is)
    (case c20 => k_is)
    (case k20 => k_is)
    (case a21 => k_is)
    (case l21 => k_is)
    (case c21 => k_is)
    (case k21 => k_is)
    (case a22 => k_is)
    (case l22 => k_is)
    (case c22 => k_is)
    (case k22 => k_is)
    (case a23 => k_is)
    (case l23 => k_is)
    (case c23 => k_is)
    (case k23 => k_is)
    (case a24 => k_is)
    (case l24 => k_is)
    (case c24 => k_is)
    (case k24 => k_is)
    (case a25 => k_is)
    (case l25 => k_is)
    (case c25 => k_is)
    (case k25 => k_is)
    (case a26 => k_is)
    (case l26 => k_is)
    (case c26 => k_is)
    (case k26 => k_is)
    (case z1 => k_is)
    (case z2 => k_is)
    (case z3 => k_is)
    (case z4 => k_is)
    (case z5 => k_is)
    (case z6 => k_is)
    (case z7 => k_is)
    (case z8 => k_is)
    (case z9 => k_is)
    (case z10 => k_is)
    (case z11 => k_is)
    (case z12 => k_is)
    (case z13 => k_is)
    (case z14 => k_is)
    (case z15 => k_is)
    (case z16 => k_is)
    (case z17 => k_is)
    (case zdict => k_is)
    (case zgcd => k_is)
    (case pg0 => k_is)
    (case hd0 => k_is)
    (case po0 => k_is)
    (case sa0 => k_is)
    (case na0n => k_is)
    (case na0d => k_is)
    (case mk0 => k_is)
    (case kc0 => k_is)
    (case sff0 => k_is)
    (case ih0 => k_is)
    (case in0 => k_is)
    (case it0 => k_is)
    (case im0 => k_is)
    (case ie0 => kit_is)
    (case io0NoneType => kit_is)
    (case io0bool => kit_is)
    (case io0int => kit_is)
    (case io0str => kit_is)
    (case io0list => kit_is)
    (case io0tuple => kit_is)
    (case pg2 => k_is)
    (case hd2 => k_is)
    (case po2 => k_is)
    (case sa2 => k_is)
    (case na2n => k_is)
    (case na2terms => k_is)
    (case na2_coefficients => k_is)
    (case mk2 => k_is)
    (case kc2 => k_is)
    (case yRefused2 => k_is)
    (case yRefused3 => exact ⟨⟨_, _, _, _, _, _, _, _, _, _, _, _, _, _, _, by k_is, by decide +kernel⟩, by k_is, by k_is, by k_is, by k_is⟩)
    (case yRefused4 => exact ⟨by k_is, by k_is, by k_is, by k_is⟩)
    (case yRefused5 => k_is)
    (case yRefused6 => k_is)
    (case yRefused7 => k_is)
    (case yRefused8 => k_is)
    (case yRefused9 => k_is)
    (case yRefused10 => k_is)
    (case yRefused11 => k_is)
    (case yMalformed2 => k_is)
    (case yMalformed3 => exact ⟨⟨_, _, _, _, _, _, _, _, _, _, _, _, _, _, _, by k_is, by decide +kernel⟩, by k_is, by k_is, by k_is, by k_is⟩)
    (case yMalformed8 => k_is)
    (case yMalformed4 => k_exc)
    (case xnu0 => k_is)
    (case xne0 => k_is)
    (case xmr0 => k_is)
    (case y_MOST_LETTERS => k_is)
