import PyProof.Rows.All
import Wide.All
import OpenK.AllK
import Wide.FinOn
import HandS.ForMost
import HandS.Deep
import HandS.TupAny
import HandS.IsInst
import HandS.SortKw
import HandS.Zip
import HandS.Rev
import HandS.SetFor
import KE.KTupSum
import HandS.SortRule
import HandS.Style
import HandS.TupLe
import HandS.TupMul
import HandS.ForExc
import HandS.ExcInit
import HandS.ExcField
import KE.SortData
import HandS.ExcValue
import KE.GoesNew
import HandS.Defaults
import KE.GoesEnum
import KE.DataMinMax
import PyProof.EnumMake
import PyProof.Rows.SeqMore
import KE.KDictKeyed
import HandS.CallSlots
import HandS.Dict
import PyProof.Rows.TupDisplay
import KE.KDictDisplayH
import HandS.Flow
import HandS.Flt
import HandS.Iter
import KE.KSortTupAny
import HandS.TryOnly
import HandS.Conv
import HandS.Gcd
import HandS.Codes
import HandS.OwnEq
import OpenK.KMeth
import HandS.Lambda
import KE.SortKeyHeap
import KE.KSortKey
import HandS.DictComp
import KE.KIndexOf
import HandS.More
import PyProof.InstNe
import KE.GoesMore
import KE.GoesZip
import KE.KDictList
import HandS.Star
import PyProof.DictMoreH
import HandS.DictEq
import HandS.ExcOwn
import HandS.TryMany
import HandS.ExcIs
import HandS.WideBits
import HandS.EndBits
import PyProof.FString3
import PyProof.Rows.StrIntSpec
import HandS.FStr
import KE.KOpsOwn
import HandS.Property
import HandS.Strs
import HandS.SortInts
import HandS.Text
import HandS.StrMore
import KE.IntTextLaws
import Wide.Txt
import PyProof.Rows.StrAscii
import KE.KCallOwn
import PySem.Challenge.RW_fivebases_k14_counts_of_fillings
set_option Elab.async false
set_option linter.all false
set_option maxRecDepth 100000
namespace Pd
open PySem L2
def sE (X : Cx) (e : Expr) : TE := fun σ H Q => ∀ pins s, Inv X pins σ H s → wpAny (model X.prog X.w) X.A (eval e X.env) (EP X pins σ Q) X.xe s
def sT (X : Cx) (e : Expr) : TT := fun σ H Q => ∀ pins s, Inv X pins σ H s → wpAny (model X.prog X.w) X.A (isTrue e X.env (eval e X.env)) (TP X pins σ Q) X.xe s
def sA (X : Cx) (es : List Expr) : TA := fun σ H Q => ∀ pos pins s, Inv X pins σ H s → wpAny (model X.prog X.w) X.A (spliced (backTo pos (starEach es X.env))) (AP X pins σ Q) X.xe s
def sSs (X : Cx) (st : List Stmt) : TS := fun D σ H => ∀ pins s, Inv X pins σ H s → wpAny (model X.prog X.w) X.A (execs st X.env) (SP X pins D) X.xe s
section
variable {X : Cx} {e : Expr} {es : List Expr} {st : Stmt} {sts : List Stmt}
theorem pe_s : PE X e (sE X e) := ⟨fun pins s _ _ _ I h => h pins s I⟩
theorem pt_s : PT X e (sT X e) := ⟨fun pins s _ _ _ I h => h pins s I⟩
theorem pa_s : PA X es (sA X es) := ⟨fun pos pins s _ _ _ I h => h pos pins s I⟩
theorem pss_s : PSs X sts (sSs X sts) := ⟨fun pins s _ _ _ I h => h pins s I⟩
theorem sE_of {t : TE} {σ : L2.St} {H : Hp} {Q : VK} (h : PE X e t) (q : t σ H Q) : sE X e σ H Q := fun pins s I => h.run pins s σ H Q I q
theorem sT_of {t : TT} {σ : L2.St} {H : Hp} {Q : Bool → Hp → Prop} (h : PT X e t) (q : t σ H Q) : sT X e σ H Q := fun pins s I => h.run pins s σ H Q I q
theorem sA_of {t : TA} {σ : L2.St} {H : Hp} {Q : List V → Hp → Prop} (h : PA X es t) (q : t σ H Q) : sA X es σ H Q := fun pos pins s I => h.run pos pins s σ H Q I q
theorem sSs_of {t : TS} {σ : L2.St} {H : Hp} {D : Ends} (h : PSs X sts t) (q : t D σ H) : sSs X sts D σ H := fun pins s I => h.run pins s σ H D I q
end
section
variable {K : PySem.W.Frag} {H H' : Hp}
theorem same_rd {a : Addr} {u : HO} (e : Same H H') (h : Rd H a u) : Rd H' a u := by
  rcases h with h | ⟨o, h⟩
  · exact .inl (e a _ h)
  · exact .inr ⟨o, e a _ h⟩
theorem same_t {a : Addr} {xs : List V} (e : Same H H') (h : SqT K H a xs) : SqT K H' a xs := by
  rcases h with h | h
  · exact .inl (same_rd e h)
  · exact .inr h
theorem same_l {a : Addr} {xs : List V} (e : Same H H') (h : SqL K H a xs) : SqL K H' a xs := by
  rcases h with h | h
  · exact .inl (same_rd e h)
  · exact .inr h
mutual
theorem Dp.mono (e : Same H H') : ∀ {v : V} (d : PyData), Dp K H v d → Dp K H' v d
  | _, .none, h => by cases h; exact .non
  | _, .bool b, h => by cases h; exact .bl b
  | _, .int i, h => by cases h; exact .int i
  | _, .str s, h => by cases h; exact .str s
  | _, .list ds, h => by
    cases h with
    | lst hs ha => exact .lst (same_l e hs) (DpAll.mono e ds ha)
  | _, .tuple ds, h => by
    cases h with
    | tup hs ha => exact .tup (same_t e hs) (DpAll.mono e ds ha)
  | _, .dict _, h => by cases h
theorem DpAll.mono (e : Same H H') : ∀ {vs : List V} (ds : List PyData), DpAll K H vs ds → DpAll K H' vs ds
  | _, [], h => by cases h; exact .nil
  | _, d :: ds, h => by
    cases h with
    | cons h1 h2 => exact .cons (Dp.mono e d h1) (DpAll.mono e ds h2)
end
theorem DpAll.len : ∀ {vs : List V} {ds : List PyData}, DpAll K H vs ds → vs.length = ds.length
  | _, [], h => by cases h; rfl
  | _, d :: ds, h => by
    cases h with
    | cons h1 h2 => simp [DpAll.len h2]
theorem DpAll.get : ∀ {vs : List V} {ds : List PyData} {i : Nat} {d : PyData}, DpAll K H vs ds → ds[i]? = some d → ∃ v, vs[i]? = some v ∧ Dp K H v d
  | _, [], i, d, h, g => by simp at g
  | _, e :: ds, 0, d, h, g => by
    cases h with
    | cons h1 h2 =>
      simp at g
      subst g
      exact ⟨_, rfl, h1⟩
  | _, e :: ds, i + 1, d, h, g => by
    cases h with
    | cons h1 h2 =>
      obtain ⟨v, q1, q2⟩ := DpAll.get h2 (by simpa using g)
      exact ⟨v, by simpa using q1, q2⟩
theorem DpAll.app : ∀ {vs ws : List V} {ds es : List PyData}, DpAll K H vs ds → DpAll K H ws es → DpAll K H (vs ++ ws) (ds ++ es)
  | _, _, [], _, h, g => by cases h; exact g
  | _, _, d :: ds, _, h, g => by
    cases h with
    | cons h1 h2 => exact .cons h1 (DpAll.app h2 g)
theorem DpAll.take : ∀ {vs : List V} {ds : List PyData} (n : Nat), DpAll K H vs ds → DpAll K H (vs.take n) (ds.take n)
  | _, [], n, h => by cases h; simp; exact .nil
  | _, d :: ds, 0, h => by simp; exact .nil
  | _, d :: ds, n + 1, h => by
    cases h with
    | cons h1 h2 => exact .cons h1 (DpAll.take n h2)
theorem DpAll.drop : ∀ {vs : List V} {ds : List PyData} (n : Nat), DpAll K H vs ds → DpAll K H (vs.drop n) (ds.drop n)
  | _, [], n, h => by cases h; simp; exact .nil
  | _, d :: ds, 0, h => h
  | _, d :: ds, n + 1, h => by
    cases h with
    | cons h1 h2 => exact DpAll.drop n h2
theorem DpAll.set : ∀ {vs : List V} {ds : List PyData} {v : V} {d : PyData} (i : Nat), DpAll K H vs ds → Dp K H v d → DpAll K H (vs.set i v) (ds.set i d)
  | _, [], _, _, i, h, g => by cases h; simp; exact .nil
  | _, e :: ds, _, _, 0, h, g => by
    cases h with
    | cons h1 h2 => exact .cons g h2
  | _, e :: ds, _, _, i + 1, h, g => by
    cases h with
    | cons h1 h2 => exact .cons h1 (DpAll.set i h2 g)
theorem DpAll.ints : ∀ {vs : List V} {ns : List Int}, DpAll K H vs (ns.map PyData.int) → vs = ns.map V.int
  | _, [], h => by cases h; rfl
  | _, n :: ns, h => by
    cases h with
    | cons h1 h2 =>
      cases h1
      simp [DpAll.ints h2]
theorem DpAll.of_ints : ∀ (ns : List Int), DpAll K H (ns.map V.int) (ns.map PyData.int)
  | [] => .nil
  | n :: ns => .cons (.int n) (DpAll.of_ints ns)
end
/-- what stands in a slot: nothing that is known; data that never changes; a list that the def owns (only this slot names it) -/
inductive Ce where
  | dat (d : PyData) | own (ds : List PyData)
/-- a thing of one's own that other things stand in: a list, a dict (its keys: tuples, or numbers and texts) -/
inductive Bx where
  | A (c : Addr) (j : Nat) | L (c : Addr) (cs : List Ce) | T (kvs : List (List L2.Key × Ce)) | K (kvs : List (L2.Key × Ce))
inductive Sl where
  | no | val (d : PyData) | own (ds : List PyData) | box (b : Bx)
def Bx.cells : Bx → List Ce
  | .A _ _ => []
  | .L _ cs => cs
  | .T kvs => kvs.map (·.2)
  | .K kvs => kvs.map (·.2)
def Bx.ho : Bx → List V → HO
  | .A _ _, vs => .lst vs
  | .L _ _, vs => .lst vs
  | .T kvs, vs => .dT ((kvs.map (·.1)).zip vs)
  | .K kvs, vs => .dK ((kvs.map (·.1)).zip vs)
/-- a cell by its value; its own address, if it has one -/
def CeAt (K : PySem.W.Frag) (Hk Z : Hp) (v : V) : Ce → List Addr → Prop
  | .dat d, fp => Dp K Hk v d ∧ fp = []
  | .own ds, fp => ∃ b us, v = .ref b ∧ Z b = some (.lst us) ∧ DpAll K Hk us ds ∧ fp = [b]
inductive CesAt (K : PySem.W.Frag) (Hk Z : Hp) : List V → List Ce → List Addr → Prop
  | nil : CesAt K Hk Z [] [] []
  | cons {v : V} {vs : List V} {c : Ce} {cs : List Ce} {f fs : List Addr} : CeAt K Hk Z v c f → CesAt K Hk Z vs cs fs → CesAt K Hk Z (v :: vs) (c :: cs) (f ++ fs)
/-- a thing of one's own at an address that the slot names; a slot that names an item of such a thing has no cells of its own -/
def Bx.at_ : Bx → Addr → Prop
  | .A _ _, _ => False
  | .L c _, a => a = c
  | _, _ => True
def BxAt (K : PySem.W.Frag) (Hk Z : Hp) (v : V) (b : Bx) (fp : List Addr) : Prop := (∃ (a : Addr) (vs : List V) (fs : List Addr), v = .ref a ∧ Z a = some (b.ho vs) ∧ CesAt K Hk Z vs b.cells fs ∧ fp = a :: fs ∧ fp.Nodup ∧ b.at_ a) ∨ ∃ (c : Addr) (j : Nat) (vs : List V), b = .A c j ∧ Z c = some (.lst vs) ∧ vs[j]? = some v ∧ fp = []
theorem CeAt.mono {K : PySem.W.Frag} {Hk Hk' Z : Hp} (e : Same Hk Hk') {v : V} {c : Ce} {f : List Addr} (h : CeAt K Hk Z v c f) : CeAt K Hk' Z v c f := by
  cases c with
  | dat d => exact ⟨Dp.mono e d h.1, h.2⟩
  | own ds =>
    obtain ⟨b, us, h1, h2, h3, h4⟩ := h
    exact ⟨b, us, h1, h2, DpAll.mono e ds h3, h4⟩
theorem CesAt.mono {K : PySem.W.Frag} {Hk Hk' Z : Hp} (e : Same Hk Hk') {vs : List V} {cs : List Ce} {f : List Addr} (h : CesAt K Hk Z vs cs f) : CesAt K Hk' Z vs cs f := by
  induction h with
  | nil => exact .nil
  | cons a b ih => exact .cons (a.mono e) ih
theorem BxAt.mono {K : PySem.W.Frag} {Hk Hk' Z : Hp} (e : Same Hk Hk') {v : V} {b : Bx} {fp : List Addr} (h : BxAt K Hk Z v b fp) : BxAt K Hk' Z v b fp := by
  rcases h with ⟨a, vs, fs, h1, h2, h3, h4⟩ | h
  · exact .inl ⟨a, vs, fs, h1, h2, h3.mono e, h4⟩
  · exact .inr h
/-- what is not ours to change in an expression: h; of it the things of one's own that a statement may change: z -/
structure Fr where
  h : Hp
  z : Hp
/-- what was known at the entry; all that stood at the def's entry: e -/
structure Be where
  b : Hp
  e : Hp
instance : CoeFun Be (fun _ => Addr → Option HO) := ⟨Be.b⟩
instance : Coe Be Hp := ⟨Be.b⟩
def inB (h : Hp) : Be := ⟨h, fun _ => none⟩
instance : CoeFun Fr (fun _ => Addr → Option HO) := ⟨Fr.h⟩
instance : Coe Fr Hp := ⟨Fr.h⟩
def Bxs (K : PySem.W.Frag) (Z : Hp) (ρ : List Sl) (σ : L2.St) (Hk : Hp) : Prop := ∃ F : Nat → List Addr, (∀ (i : Nat) (b : Bx), ρ[i]? = some (.box b) → ∃ v, σ[i]? = some (some v) ∧ BxAt K Hk Z v b (F i)) ∧
  ∀ (i j : Nat) (b c : Bx), ρ[i]? = some (.box b) → ρ[j]? = some (.box c) → i ≠ j → ∀ a ∈ F i, a ∉ F j
theorem Bxs.sub {K : PySem.W.Frag} {Z Hk Hk' : Hp} {ρ ρ' : List Sl} {σ σ' : L2.St} (h : Bxs K Z ρ σ Hk) (e : Same Hk Hk') (s : ∀ (i : Nat) (b : Bx), ρ'[i]? = some (.box b) → ρ[i]? = some (.box b) ∧ σ'[i]? = σ[i]?) : Bxs K Z ρ' σ' Hk' := by
  obtain ⟨F, h1, h2⟩ := h
  refine ⟨F, fun i b q => ?_, fun i j b c q r => h2 i j b c (s i b q).1 (s j c r).1⟩
  obtain ⟨q1, q2⟩ := s i b q
  obtain ⟨v, q3, q4⟩ := h1 i b q1
  exact ⟨v, q2.trans q3, q4.mono e⟩
theorem Bxs.mono {K : PySem.W.Frag} {Z Hk Hk' : Hp} {ρ : List Sl} {σ : L2.St} (h : Bxs K Z ρ σ Hk) (e : Same Hk Hk') : Bxs K Z ρ σ Hk' := h.sub e fun _ _ q => ⟨q, rfl⟩
theorem set_box {ρ : List Sl} {i j : Nat} {s : Sl} {b : Bx} (hs : ∀ c, s ≠ .box c) (h : (ρ.set i s)[j]? = some (.box b)) : i ≠ j ∧ ρ[j]? = some (.box b) := by
  by_cases q : i = j
  · subst q
    have hl : i < ρ.length := by simpa using (List.getElem?_eq_some_iff.mp h).1
    rw [List.getElem?_set_self hl] at h
    exact absurd (Option.some.inj h) (hs b)
  · rw [List.getElem?_set_ne q] at h
    exact ⟨q, h⟩
/-- a slot gets what is no box -/
theorem Bxs.set {K : PySem.W.Frag} {Z Hk Hk' : Hp} {ρ : List Sl} {σ : L2.St} {i : Nat} {s : Sl} {v : Option V} (h : Bxs K Z ρ σ Hk) (e : Same Hk Hk') (hs : ∀ c, s ≠ .box c) : Bxs K Z (ρ.set i s) (σ.set i v) Hk' := h.sub e fun j b q => by
  obtain ⟨q1, q2⟩ := set_box hs q
  exact ⟨q2, List.getElem?_set_ne q1⟩
theorem Bxs.set0 {K : PySem.W.Frag} {Z Hk Hk' : Hp} {ρ : List Sl} {σ : L2.St} {i : Nat} {s : Sl} (h : Bxs K Z ρ σ Hk) (e : Same Hk Hk') (hs : ∀ c, s ≠ .box c) : Bxs K Z (ρ.set i s) σ Hk' := h.sub e fun j b q => ⟨(set_box hs q).2, rfl⟩
/-- B: what was known at the entry, H0: what stood at the entry and is not ours to change; Hk: the data known now; Hr: all that stands now -/
structure Ok (K : PySem.W.Frag) (bi : List Nat) (σ0 : L2.St) (B : Be) (H0 : Fr) (ρ : List Sl) (σ : L2.St) (Hk Hr : Hp) : Prop where
  base : Same B Hk
  real : Same H0 Hr
  kr : Same Hk Hr
  old : ∀ (b : Addr) (o : HO), Hk b = some o → H0 b ≠ none → B b = some o
  bor : ∀ i ∈ bi, σ[i]? = σ0[i]?
  len : ρ.length = σ.length
  val : ∀ (i : Nat) (d : PyData), ρ[i]? = some (Sl.val d) → ∃ v, σ[i]? = some (some v) ∧ Dp K Hk v d
  own : ∀ (i : Nat) (ds : List PyData), ρ[i]? = some (Sl.own ds) → ∃ (a : Addr) (vs : List V), σ[i]? = some (some (V.ref a)) ∧ Hr a = some (.lst vs) ∧ Hk a = none ∧ H0 a = none ∧ DpAll K Hk vs ds
  dis : ∀ (i j : Nat) (ds es : List PyData), ρ[i]? = some (Sl.own ds) → ρ[j]? = some (Sl.own es) → i ≠ j → σ[i]? ≠ σ[j]?
  zh : Same H0.z H0.h
  zb : ∀ (b : Addr) (o : HO), H0.z b = some o → B b = none
  bxs : Bxs K H0.z ρ σ Hk
  eh : Same B.e H0.h
  ze : ∀ (b : Addr) (o : HO), H0.z b = some o → B.e b = none
/-- .. whatever may be ours to change -/
def OkE (K : PySem.W.Frag) (bi : List Nat) (σ0 : L2.St) (B : Be) (ρ : List Sl) (σ : L2.St) (Hk Hr : Hp) : Prop := ∃ H0 : Fr, Ok K bi σ0 B H0 ρ σ Hk Hr
/-- known, with all that is new -/
def gro (Hk Hr H2 : Hp) : Hp := fun b => match Hr b with | none => H2 b | some _ => Hk b
theorem gro_new {Hk Hr H2 : Hp} {b : Addr} (h : Hr b = none) : gro Hk Hr H2 b = H2 b := by unfold gro; rw [h]
theorem gro_old {Hk Hr H2 : Hp} {b : Addr} {o : HO} (h : Hr b = some o) : gro Hk Hr H2 b = Hk b := by unfold gro; rw [h]
theorem gro_same {Hk Hr H2 : Hp} (kr : Same Hk Hr) : Same Hk (gro Hk Hr H2) := fun b o h => by rw [gro_old (kr _ _ h)]; exact h
theorem gro_in {Hk Hr H2 : Hp} (kr : Same Hk Hr) (e : Same Hr H2) : Same (gro Hk Hr H2) H2 := fun b o h => by
  cases q : Hr b with
  | none => rw [gro_new q] at h; exact h
  | some u =>
    rw [gro_old q] at h
    exact e _ _ (kr _ _ h)
section
variable {K : PySem.W.Frag} {bi : List Nat} {σ0 σ : L2.St} {Hk Hr : Hp} {B : Be} {H0 : Fr} {ρ : List Sl}
theorem Ok.gro (I : Ok K bi σ0 B H0 ρ σ Hk Hr) {H2 : Hp} (e : Same Hr H2) : Ok K bi σ0 B H0 ρ σ (gro Hk Hr H2) H2 where
  base := I.base.trans (gro_same I.kr)
  real := I.real.trans e
  kr := gro_in I.kr e
  old := fun b o h h0 => by
    cases q : Hr b with
    | none =>
      cases q0 : H0 b with
      | none => exact absurd q0 h0
      | some u =>
        rw [I.real _ _ q0] at q
        cases q
    | some u =>
      rw [gro_old q] at h
      exact I.old b o h h0
  bor := I.bor
  len := I.len
  val := fun i d h => by
    obtain ⟨v, q1, q2⟩ := I.val i d h
    exact ⟨v, q1, Dp.mono (gro_same I.kr) d q2⟩
  own := fun i ds h => by
    obtain ⟨a, vs, q1, q2, q3, q4, q5⟩ := I.own i ds h
    exact ⟨a, vs, q1, e _ _ q2, by rw [gro_old q2]; exact q3, q4, DpAll.mono (gro_same I.kr) ds q5⟩
  dis := I.dis
  zh := I.zh
  zb := I.zb
  bxs := I.bxs.mono (gro_same I.kr)
  eh := I.eh
  ze := I.ze
/-- a slot gets data -/
theorem Ok.set (I : Ok K bi σ0 B H0 ρ σ Hk Hr) {i : Nat} {v : V} {d : PyData} (hi : i ∉ bi) (h : Dp K Hk v d) : Ok K bi σ0 B H0 (ρ.set i (.val d)) (σ.set i (some v)) Hk Hr where
  base := I.base
  real := I.real
  kr := I.kr
  old := I.old
  bor := fun j hj => by
    have : i ≠ j := fun q => hi (q ▸ hj)
    rw [List.getElem?_set_ne this]
    exact I.bor j hj
  len := by simp [I.len]
  val := fun j e hj => by
    by_cases q : i = j
    · subst q
      have hl : i < ρ.length := by
        have := (List.getElem?_eq_some_iff.mp hj).1
        simpa using this
      rw [List.getElem?_set_self hl] at hj
      injection hj with hj; injection hj with hj; subst hj
      exact ⟨v, by rw [List.getElem?_set_self (by rw [← I.len]; exact hl)], h⟩
    · rw [List.getElem?_set_ne q] at hj ⊢
      exact I.val j e hj
  own := fun j ds hj => by
    by_cases q : i = j
    · subst q
      have hl : i < ρ.length := by
        have := (List.getElem?_eq_some_iff.mp hj).1
        simpa using this
      rw [List.getElem?_set_self hl] at hj
      cases hj
    · rw [List.getElem?_set_ne q] at hj ⊢
      exact I.own j ds hj
  zh := I.zh
  zb := I.zb
  bxs := I.bxs.set (Same.refl _) (fun _ z => nomatch z)
  eh := I.eh
  ze := I.ze
  dis := fun j l ds es hj hl n => by
    have g : ∀ {m : Nat} {zs : List PyData}, (ρ.set i (.val d))[m]? = some (.own zs) → i ≠ m ∧ ρ[m]? = some (.own zs) := fun {m zs} hm => by
      by_cases q : i = m
      · subst q
        have hl : i < ρ.length := by
          have := (List.getElem?_eq_some_iff.mp hm).1
          simpa using this
        rw [List.getElem?_set_self hl] at hm
        cases hm
      · rw [List.getElem?_set_ne q] at hm
        exact ⟨q, hm⟩
    obtain ⟨a1, a2⟩ := g hj
    obtain ⟨b1, b2⟩ := g hl
    rw [List.getElem?_set_ne a1, List.getElem?_set_ne b1]
    exact I.dis j l ds es a2 b2 n
/-- a slot is forgotten -/
theorem Ok.drop (I : Ok K bi σ0 B H0 ρ σ Hk Hr) {i : Nat} : Ok K bi σ0 B H0 (ρ.set i .no) σ Hk Hr where
  base := I.base
  real := I.real
  kr := I.kr
  old := I.old
  bor := I.bor
  len := by simp [I.len]
  val := fun j e hj => by
    by_cases q : i = j
    · subst q
      have hl : i < ρ.length := by
        have := (List.getElem?_eq_some_iff.mp hj).1
        simpa using this
      rw [List.getElem?_set_self hl] at hj
      cases hj
    · rw [List.getElem?_set_ne q] at hj
      exact I.val j e hj
  own := fun j ds hj => by
    by_cases q : i = j
    · subst q
      have hl : i < ρ.length := by
        have := (List.getElem?_eq_some_iff.mp hj).1
        simpa using this
      rw [List.getElem?_set_self hl] at hj
      cases hj
    · rw [List.getElem?_set_ne q] at hj
      exact I.own j ds hj
  zh := I.zh
  zb := I.zb
  bxs := I.bxs.set0 (Same.refl _) (fun _ z => nomatch z)
  eh := I.eh
  ze := I.ze
  dis := fun j l ds es hj hl n => by
    have g : ∀ {m : Nat} {zs : List PyData}, (ρ.set i .no)[m]? = some (.own zs) → ρ[m]? = some (.own zs) := fun {m zs} hm => by
      by_cases q : i = m
      · subst q
        have hl : i < ρ.length := by
          have := (List.getElem?_eq_some_iff.mp hm).1
          simpa using this
        rw [List.getElem?_set_self hl] at hm
        cases hm
      · rw [List.getElem?_set_ne q] at hm
        exact hm
    exact I.dis j l ds es (g hj) (g hl) n
/-- an owned list is changed -/
theorem Ok.mut (I : Ok K bi σ0 B H0 ρ σ Hk Hr) {i : Nat} {ds es : List PyData} {a : Addr} {ws : List V} (h : ρ[i]? = some (.own ds)) (s : σ[i]? = some (some (.ref a))) (hw : DpAll K Hk ws es) : Ok K bi σ0 B H0 (ρ.set i (.own es)) σ Hk (upd Hr a (.lst ws)) := by
  obtain ⟨a', vs, s1, s2, s3, s4, s5⟩ := I.own i ds h
  rw [s] at s1
  injection s1 with s1; injection s1 with s1; injection s1 with s1; subst s1
  have hl : i < ρ.length := (List.getElem?_eq_some_iff.mp h).1
  have g : ∀ {m : Nat} {zs : List PyData}, (ρ.set i (.own es))[m]? = some (.own zs) → ∃ us, ρ[m]? = some (.own us) := fun {m zs} hm => by
    by_cases q : i = m
    · subst q
      exact ⟨ds, h⟩
    · rw [List.getElem?_set_ne q] at hm
      exact ⟨_, hm⟩
  refine ⟨I.base, fun b o q => ?_, fun b o q => ?_, I.old, I.bor, by simp [I.len], fun j d hj => ?_, fun j zs hj => ?_, fun j l xs ys hj hl n => ?_, I.zh, I.zb, I.bxs.set0 (Same.refl _) (fun _ z => nomatch z), I.eh, I.ze⟩
  · rw [upd_ne (ne_of_none q s4)]
    exact I.real _ _ q
  · rw [upd_ne (ne_of_none q s3)]
    exact I.kr _ _ q
  · by_cases q : i = j
    · subst q
      rw [List.getElem?_set_self hl] at hj
      cases hj
    · rw [List.getElem?_set_ne q] at hj
      exact I.val j d hj
  · by_cases q : i = j
    · subst q
      rw [List.getElem?_set_self hl] at hj
      injection hj with hj; injection hj with hj; subst hj
      exact ⟨a, ws, s, upd_same, s3, s4, hw⟩
    · rw [List.getElem?_set_ne q] at hj
      obtain ⟨b, us, t1, t2, t3, t4, t5⟩ := I.own j zs hj
      refine ⟨b, us, t1, ?_, t3, t4, t5⟩
      rw [upd_ne (fun z => ?_)]
      · exact t2
      · subst z
        exact I.dis i j ds zs h hj q (s.trans t1.symm)
  · obtain ⟨us, q1⟩ := g hj
    obtain ⟨ws', q2⟩ := g hl
    exact I.dis j l us ws' q1 q2 n
end
end Pd
namespace Pd
open PySem L2
/-- in slots ρ the expression gives d and leaves slots ρ' (owned lists may have changed) -/
def EE (X : Cx) (e : Expr) (ρ : List Sl) (d : PyData) (ρ' : List Sl) : Prop :=
  ∀ (bi : List Nat) (σ0 : L2.St) (B : Be) (H0 : Fr) (σ : L2.St) (Hk Hr : Hp), Ok X.K bi σ0 B H0 ρ σ Hk Hr → ∀ Q : VK, (∀ v Hk' Hr', Ok X.K bi σ0 B H0 ρ' σ Hk' Hr' → Same Hk Hk' → Dp X.K Hk' v d → Q v Hr') → sE X e σ Hr Q
def EA (X : Cx) (es : List Expr) (ρ : List Sl) (ds : List PyData) (ρ' : List Sl) : Prop :=
  ∀ (bi : List Nat) (σ0 : L2.St) (B : Be) (H0 : Fr) (σ : L2.St) (Hk Hr : Hp), Ok X.K bi σ0 B H0 ρ σ Hk Hr → ∀ Q : List V → Hp → Prop, (∀ vs Hk' Hr', Ok X.K bi σ0 B H0 ρ' σ Hk' Hr' → Same Hk Hk' → DpAll X.K Hk' vs ds → Q vs Hr') → sA X es σ Hr Q
def ET (X : Cx) (e : Expr) (ρ : List Sl) (b : Bool) (ρ' : List Sl) : Prop :=
  ∀ (bi : List Nat) (σ0 : L2.St) (B : Be) (H0 : Fr) (σ : L2.St) (Hk Hr : Hp), Ok X.K bi σ0 B H0 ρ σ Hk Hr → ∀ Q : Bool → Hp → Prop, (∀ Hk' Hr', Ok X.K bi σ0 B H0 ρ' σ Hk' Hr' → Same Hk Hk' → Q b Hr') → sT X e σ Hr Q
/-- an operation on values, on arguments -/
def RD (K : PySem.W.Frag) (r : R2) (d1 d2 d : PyData) : Prop := ∀ x y Hk Hr, Same Hk Hr → Dp K Hk x d1 → Dp K Hk y d2 → ∀ Q : VK, (∀ v H2, Same Hr H2 → Dp K (gro Hk Hr H2) v d → Q v H2) → r x y Hr Q
def RA (K : PySem.W.Frag) (r : List V → Hp → VK → Prop) (ds : List PyData) (d : PyData) : Prop := ∀ vs Hk Hr, Same Hk Hr → DpAll K Hk vs ds → ∀ Q : VK, (∀ v H2, Same Hr H2 → Dp K (gro Hk Hr H2) v d → Q v H2) → r vs Hr Q
section
variable {X : Cx} {a b e : Expr} {es : List Expr} {ρ ρ1 ρ2 : List Sl} {d d1 d2 d3 : PyData} {ds : List PyData} {pos : Pos} {i j : Int}
theorem ee_var {x : Str} {n : Nat} (hN : X.N[n]? = some x) (hr : ρ[n]? = some (.val d)) (hv : Vis X.env.scope x := by first | exact Or.inl rfl | exact Or.inr (Or.inl rfl) | exact Or.inr (Or.inr rfl)) (hd : (x == ("__debug__" : Str)) = false := by decide)
    (hcd : (x == ("__classdict__" : Str)) = false := by decide) : EE X (.Name x pos) ρ d ρ := fun bi σ0 B H0 σ Hk Hr I Q q => by
  obtain ⟨v, s, h⟩ := I.val n d hr
  exact sE_of (pe_var hN hv hd hcd) ⟨v, s, q v Hk Hr I (Same.refl _) h⟩
theorem ee_c {v : V} (h : PE X e (tC v)) (hv : ∀ H, Dp X.K H v d) : EE X e ρ d ρ := fun bi σ0 B H0 σ Hk Hr I Q q =>
  sE_of h (q v Hk Hr I (Same.refl _) (hv _))
theorem ee_int {n : Nat} : EE X (.Constant (.int i) n pos) ρ (.int i) ρ := ee_c pe_int fun _ => .int i
theorem ea_nil : EA X [] ρ [] ρ := fun bi σ0 B H0 σ Hk Hr I Q q => sA_of pa_nil (q [] Hk Hr I (Same.refl _) .nil)
theorem ea_cons (ha : EE X e ρ d ρ1) (hr : EA X es ρ1 ds ρ2) (hs : starEach (e :: es) X.env = (false, eval e X.env) :: starEach es X.env := by rfl) : EA X (e :: es) ρ (d :: ds) ρ2 := fun bi σ0 B H0 σ Hk Hr I Q q =>
  sA_of (pa_cons pe_s pa_s hs) (ha bi σ0 B H0 σ Hk Hr I _ fun v Hk1 Hr1 I1 m1 h1 => hr bi σ0 B H0 σ Hk1 Hr1 I1 _ fun vs Hk2 Hr2 I2 m2 h2 => q (v :: vs) Hk2 Hr2 I2 (m1.trans m2) (.cons (Dp.mono m2 d h1) h2))
theorem ee_op2 {r : R2} (h : PE X e (tOp r (sE X a) (sE X b))) (ha : EE X a ρ d1 ρ1) (hb : EE X b ρ1 d2 ρ2) (hr : RD X.K r d1 d2 d) : EE X e ρ d ρ2 := fun bi σ0 B H0 σ Hk Hr I Q q =>
  sE_of h (ha bi σ0 B H0 σ Hk Hr I _ fun x Hk1 Hr1 I1 m1 h1 => hb bi σ0 B H0 σ Hk1 Hr1 I1 _ fun y Hk2 Hr2 I2 m2 h2 =>
    hr x y Hk2 Hr2 I2.kr (Dp.mono m2 _ h1) h2 Q fun v H2 e2 hv => q v _ H2 (I2.gro e2) (m1.trans (m2.trans (gro_same I2.kr))) hv)
theorem ee_op {op : Operator} {r : R2} (ho : OpR X (binaryOp op) r) (ha : EE X a ρ d1 ρ1) (hb : EE X b ρ1 d2 ρ2) (hr : RD X.K r d1 d2 d) : EE X (.BinOp a op b pos) ρ d ρ2 := ee_op2 (pe_op ho pe_s pe_s) ha hb hr
theorem gro_refl {K : PySem.W.Frag} {Hk Hr : Hp} {v : V} (kr : Same Hk Hr) (h : Dp K Hk v d) : Dp K (gro Hk Hr Hr) v d := Dp.mono (gro_same kr) d h
theorem rd_int {K : PySem.W.Frag} {C : Int → Int → Prop} {g : Int → Int → Int} (hc : C i j) : RD K (rI C fun i j => .int (g i j)) (.int i) (.int j) (.int (g i j)) := fun x y Hk Hr kr hx hy Q q => by
  cases hx; cases hy
  exact ⟨i, j, rfl, rfl, hc, q _ Hr (Same.refl _) (.int _)⟩
theorem rd_int0 {K : PySem.W.Frag} {g : Int → Int → Int} : RD K (rI0 fun i j => .int (g i j)) (.int i) (.int j) (.int (g i j)) := fun x y Hk Hr kr hx hy Q q => by
  cases hx; cases hy
  exact ⟨i, j, rfl, rfl, q _ Hr (Same.refl _) (.int _)⟩
theorem rd_cmp {K : PySem.W.Frag} {g : Int → Int → Bool} : RD K (rI0 fun i j => .bl (g i j)) (.int i) (.int j) (.bool (g i j)) := fun x y Hk Hr kr hx hy Q q => by
  cases hx; cases hy
  exact ⟨i, j, rfl, rfl, q _ Hr (Same.refl _) (.bl _)⟩
theorem rd_eqD {K : PySem.W.Frag} (h1 : SeqAt.shaped d1 = true) (h2 : SeqAt.shaped d2 = true) : RD K (rEqD K) d1 d2 (.bool (PyData.eqv d1 d2)) := fun x y Hk Hr kr hx hy Q q =>
  ⟨d1, d2, Dp.mono kr _ hx, Dp.mono kr _ hy, h1, h2, q _ Hr (Same.refl _) (.bl _)⟩
theorem rd_neD {K : PySem.W.Frag} (h1 : SeqAt.shaped d1 = true) (h2 : SeqAt.shaped d2 = true) : RD K (rNeD K) d1 d2 (.bool (!PyData.eqv d1 d2)) := fun x y Hk Hr kr hx hy Q q =>
  ⟨d1, d2, Dp.mono kr _ hx, Dp.mono kr _ hy, h1, h2, q _ Hr (Same.refl _) (.bl _)⟩
theorem atI_all {K : PySem.W.Frag} {H : Hp} {vs : List V} (h : DpAll K H vs ds) (g : atI ds i = some d) : ∃ v, atI vs i = some v ∧ Dp K H v d := by
  obtain ⟨j, q1, q2, q3, q4, q5⟩ := atI_get g
  have hl := DpAll.len h
  obtain ⟨v, s1, s2⟩ := DpAll.get h q2
  refine ⟨v, ?_, s2⟩
  unfold atI at g ⊢
  rw [hl]
  cases z : ixN ds.length i with
  | none => rw [z] at g; cases g
  | some m =>
    rw [z] at g
    show vs[m]? = some v
    have g' : ds[m]? = some d := g
    have : m = j := by
      unfold ixN at z
      have e1 : seqIndex? i ds.length = some j := q1
      first
        | (rw [e1] at z; exact (Option.some.inj z).symm)
        | (unfold seqIndex? at e1; split at z <;> split at e1 <;> simp_all <;> omega)
    rw [this]; exact s1
theorem new_same {H : Hp} {p : Addr} (h : H p = none) (o : HO) : Same H (upd H p o) := fun b u q => by rw [upd_ne (ne_of_none q h)]; exact q
theorem gro_tup {K : PySem.W.Frag} {Hk Hr : Hp} {p : Addr} {vs : List V} (kr : Same Hk Hr) (hp : Hr p = none) (h : DpAll K Hk vs ds) : Dp K (gro Hk Hr (upd Hr p (.tup vs))) (.ref p) (.tuple ds) :=
  .tup (.inl (.inl (by rw [gro_new hp, upd_same]))) (DpAll.mono (gro_same kr) ds h)
theorem gro_lst {K : PySem.W.Frag} {Hk Hr : Hp} {p : Addr} {vs : List V} (kr : Same Hk Hr) (hp : Hr p = none) (h : DpAll K Hk vs ds) : Dp K (gro Hk Hr (upd Hr p (.lst vs))) (.ref p) (.list ds) :=
  .lst (.inl (.inl (by rw [gro_new hp, upd_same]))) (DpAll.mono (gro_same kr) ds h)
theorem le_line {n : Nat} (h : n ≤ 100000) : n ≤ sizeLine := Nat.le_trans h (by decide)
theorem lt_line {n : Nat} (h : n < 100000) : n < sizeLine := Nat.lt_of_lt_of_le h (by decide)
theorem rd_cat {K : PySem.W.Frag} {es : List PyData} (h : ds.length + es.length ≤ 100000) : RD K (rCatA K) (.tuple ds) (.tuple es) (.tuple (ds ++ es)) := fun x y Hk Hr kr hx hy Q q => by
  cases hx with
  | tup hs ha =>
    cases hy with
    | tup ht hb =>
      have l1 := DpAll.len ha
      have l2 := DpAll.len hb
      refine ⟨_, _, _, _, rfl, rfl, same_t kr hs, same_t kr ht, by rw [l1, l2]; exact le_line h, fun e0 => ?_, fun n1 e0 => ?_, fun n1 n2 p hp => ?_⟩
      · have : ds = [] := List.length_eq_zero_iff.mp (by rw [← l1, e0]; rfl)
        subst this
        exact q _ Hr (Same.refl _) (gro_refl kr (.tup ht hb))
      · have : es = [] := List.length_eq_zero_iff.mp (by rw [← l2, e0]; rfl)
        subst this
        rw [List.append_nil] at q
        exact q _ Hr (Same.refl _) (gro_refl kr (.tup hs ha))
      · exact q _ _ (new_same hp _) (gro_tup kr hp (DpAll.app ha hb))
theorem et_cmp {op : CmpOp} {r : R2} {k : Bool} (ho : OpR X (compareOp op) r) (ha : EE X a ρ d1 ρ1) (hb : EE X b ρ1 d2 ρ2) (hr : RD X.K r d1 d2 (.bool k)) (hm : behindInMarks op b = false := by rfl) : ET X (.Compare a [op] [b] pos) ρ k ρ2 := fun bi σ0 B H0 σ Hk Hr I Q q =>
  sT_of (pt_cmpR ho pe_s pe_s hm) (ha bi σ0 B H0 σ Hk Hr I _ fun x Hk1 Hr1 I1 m1 h1 => hb bi σ0 B H0 σ Hk1 Hr1 I1 _ fun y Hk2 Hr2 I2 m2 h2 =>
    hr x y Hk2 Hr2 I2.kr (Dp.mono m2 _ h1) h2 _ fun v H2 e2 hv => by
      cases hv
      exact ⟨k, rfl, q _ H2 (I2.gro e2) (m1.trans (m2.trans (gro_same I2.kr)))⟩)
end
/-- a test whatever its whole is -/
def sW (X : Cx) (e : Expr) : TT := fun σ H Q => ∀ whole pins s, Inv X pins σ H s → wpAny (model X.prog X.w) X.A (isTrue e X.env whole) (TP X pins σ Q) X.xe s
section
variable {X : Cx} {a b e : Expr} {rest : List Expr} {ρ ρ1 ρ2 : List Sl} {k m : Bool} {pos : Pos}
theorem pw_s : PW X e (sW X e) := ⟨fun whole pins s _ _ _ I h => h whole pins s I⟩
end
section
variable {X : Cx} {a b e c : Expr} {es : List Expr} {ρ ρ1 ρ2 : List Sl} {d d1 d2 : PyData} {ds cs : List PyData} {pos p0 : Pos} {i j : Int} {x : Str}
theorem ee_tCB {r : List V → Hp → VK → Prop} (h : PE X c (tCB r (sA X es))) (ha : EA X es ρ ds ρ1) (hr : RA X.K r ds d) : EE X c ρ d ρ1 := fun bi σ0 B H0 σ Hk Hr I Q q =>
  sE_of h (ha bi σ0 B H0 σ Hk Hr I _ fun vs Hk1 Hr1 I1 m1 h1 => hr vs Hk1 Hr1 I1.kr h1 Q fun v H2 e2 hv => q v _ H2 (I1.gro e2) (m1.trans (gro_same I1.kr)) hv)
end
end Pd
namespace Pd
open PySem L2 PySem.Spec PyProof.Rows
/-- a block in slots ρ: falls through with slots of which N, or hands back d with slots ρ' of which R d ρ' -/
abbrev RTy := Hp → V → List Sl → Hp → Hp → Prop
/-- the answer by its data -/
def RDt (K : PySem.W.Frag) (R : PyData → List Sl → Prop) : RTy := fun _ v ρ' Hk' _ => ∃ d, R d ρ' ∧ Dp K Hk' v d
/-- a new list of ints -/
def RNew (P : List Int → Prop) : RTy := fun H0 v _ _ Hr' => ∃ p ns, v = .ref p ∧ H0 p = none ∧ Hr' p = some (.lst (ns.map V.int)) ∧ P ns
def SS (X : Cx) (bi : List Nat) (sts : List Stmt) (ρ : List Sl) (N : List Sl → Prop) (R : RTy) : Prop :=
  ∀ (σ0 : L2.St) (B : Be) (H0 : Fr), (bi = [] → Same X.H_0 B.e) → ∀ (σ : L2.St) (Hk Hr : Hp) (D : Ends), Ok X.K bi σ0 B H0 ρ σ Hk Hr →
    (∀ ρ' σ' Hk' Hr', N ρ' → OkE X.K bi σ0 B ρ' σ' Hk' Hr' → Same Hk Hk' → D.nx σ' Hr') →
    (∀ v ρ' σ' Hk' Hr', R B.e v ρ' Hk' Hr' → OkE X.K bi σ0 B ρ' σ' Hk' Hr' → D.rt v Hr') → sSs X sts D σ Hr
/-- what is walked: the items ds -/
def Wk (K : PySem.W.Frag) (J : It) (ds : List PyData) (Hk : Hp) : Prop := ∀ i Hr, Same Hk Hr →
  (i < ds.length → J.go i Hr) ∧ (i = ds.length → J.stop i Hr) ∧ ∀ x H', J.yld i Hr x H' → Same Hr H' ∧ ∀ d, ds[i]? = some d → Dp K (gro Hk Hr H') x d
theorem Wk.of {K : PySem.W.Frag} {J : It} {ds : List PyData} {Hk : Hp} (h : ∀ i Hr, Same Hk Hr → (i < ds.length → J.go i Hr) ∧ (ds.length ≤ i → J.stop i Hr) ∧ ∀ x H', J.yld i Hr x H' → Same Hr H' ∧ ∀ d, ds[i]? = some d → Dp K (gro Hk Hr H') x d) : Wk K J ds Hk := fun i Hr e => ⟨(h i Hr e).1, fun q => (h i Hr e).2.1 (Nat.le_of_eq q.symm), (h i Hr e).2.2⟩
def EI (X : Cx) (tg iter : Expr) (ρ : List Sl) (ds : List PyData) (ρ' : List Sl) : Prop := ∃ wi, PI X tg iter wi ∧
  ∀ (bi : List Nat) (σ0 : L2.St) (B : Be) (H0 : Fr) (σ : L2.St) (Hk Hr : Hp), Ok X.K bi σ0 B H0 ρ σ Hk Hr → ∀ R : It → Hp → Prop, (∀ J Hk' Hr', Ok X.K bi σ0 B H0 ρ' σ Hk' Hr' → Same Hk Hk' → Wk X.K J ds Hk' → R J Hr') → wi σ Hr R
/-- a target's reading -/
def EG (K : PySem.W.Frag) (bi : List Nat) (g : TG) (ρ : List Sl) (d : PyData) (ρ' : List Sl) : Prop :=
  ∀ (σ0 : L2.St) (B : Be) (H0 : Fr) (σ : L2.St) (Hk Hr : Hp) (v : V), Ok K bi σ0 B H0 ρ σ Hk Hr → Dp K Hk v d → ∀ Q : L2.St → Hp → Prop, (∀ σ', Ok K bi σ0 B H0 ρ' σ' Hk Hr → Q σ' Hr) → g v σ Hr Q
theorem gro_le {Hk Hk' Hr H2 : Hp} (e : Same Hk Hk') : Same (gro Hk Hr H2) (gro Hk' Hr H2) := fun b o h => by
  cases q : Hr b with
  | none => rw [gro_new q] at h ⊢; exact h
  | some u => rw [gro_old q] at h ⊢; exact e _ _ h
section
variable {X : Cx} {bi : List Nat} {a b e c tg iter : Expr} {es : List Expr} {rest body sts : List Stmt} {ρ ρ1 ρ2 : List Sl} {N : List Sl → Prop} {R : RTy} {d d1 d2 : PyData} {ds : List PyData} {pos p0 p1 : Pos} {x y : Str} {n m : Nat} {k : Bool}
theorem ss_nil (h : N ρ) : SS X bi [] ρ N R := fun σ0 B H0 hz σ Hk Hr D I nx rt => sSs_of pss_nil (nx ρ σ Hk Hr h ⟨H0, I⟩ (Same.refl _))
/-- name = e -/
theorem ss_set (hN : X.N.Nodup) (hi : X.N[n]? = some x) (hb : n ∉ bi) (he : EE X e ρ d ρ1) (hr : SS X bi rest (ρ1.set n (.val d)) N R) (hx : Loc X.env.scope x := by first | exact Or.inl rfl | exact Or.inr rfl)
    (hs : swapsWith e (some (.Name x p0)) pos.line X.env = pure false := by rfl) (hf : X.fn x = true ∨ X.env.scope.names.lookup x = some .local := by first | exact .inl rfl | exact .inr rfl) : SS X bi (.Assign [.Name x p0] e pos :: rest) ρ N R := fun σ0 B H0 hz σ Hk Hr D I nx rt =>
  sSs_of (pss_cons (ps_set hN hi hx pe_s hs hf) pss_s) (he bi σ0 B H0 σ Hk Hr I _ fun v Hk1 Hr1 I1 m1 h1 =>
    hr σ0 B H0 hz _ Hk1 Hr1 D (I1.set hb h1) (fun ρ' σ' Hk' Hr' q I' m' => nx ρ' σ' Hk' Hr' q I' (m1.trans m')) rt)
/-- name[i] = e, the list one's own -/
theorem ss_put {ix : Expr} {j : Int} {w : Nat} (hi : X.N[n]? = some x) (h : ρ1[n]? = some (.own ds)) (he : EE X e ρ d ρ1) (hj : EE X ix ρ1 (.int j) ρ1) (hw : ixN ds.length j = some w) (hr : SS X bi rest (ρ1.set n (.own (ds.set w d))) N R)
    (hp : PS X (.Assign [.Subscript (.Name x p0) ix p1] e pos) (tAsg (sE X e) (gSub (tVar n) (sE X ix) rSetL))) : SS X bi (.Assign [.Subscript (.Name x p0) ix p1] e pos :: rest) ρ N R := fun σ0 B H0 hz σ Hk Hr D I nx rt => by
  refine sSs_of (pss_cons hp pss_s) (he bi σ0 B H0 σ Hk Hr I _ fun v Hk1 Hr1 I1 m1 h1 => ?_)
  obtain ⟨a0, vs0, t1, t2, t3, t4, t5⟩ := I1.own n ds h
  refine ⟨.ref a0, t1, hj bi σ0 B H0 σ Hk1 Hr1 I1 _ fun w2 Hk2 Hr2 I2 m2 h2 => ?_⟩
  cases h2
  obtain ⟨a1, vs1, u1, u2, u3, u4, u5⟩ := I2.own n ds h
  have ea : a0 = a1 := by
    rw [t1] at u1
    injection u1 with u1; injection u1 with u1; injection u1
  subst ea
  refine ⟨a0, vs1, j, w, rfl, rfl, u2, by rw [DpAll.len u5]; exact hw, ?_⟩
  exact hr σ0 B H0 hz σ Hk2 _ D (I2.mut h u1 (DpAll.set w u5 (Dp.mono m2 d h1))) (fun ρ' σ' Hk' Hr' q I' m' => nx ρ' σ' Hk' Hr' q I' (m1.trans (m2.trans m'))) rt
theorem ss_if {N1 : List Sl → Prop} {tb eb : List Stmt} (hc : ET X c ρ k ρ1) (ha : k = true → SS X bi tb ρ1 N1 R) (hb : k = false → SS X bi eb ρ1 N1 R) (hr : ∀ ρ2, N1 ρ2 → SS X bi rest ρ2 N R) : SS X bi (.If c tb eb pos :: rest) ρ N R := fun σ0 B H0 hz σ Hk Hr D I nx rt =>
  sSs_of (pss_cons (ps_if pt_s pss_s pss_s) pss_s) (hc bi σ0 B H0 σ Hk Hr I _ fun Hk1 Hr1 I1 m1 => by
    cases k with
    | true => exact iteT (ha rfl σ0 B H0 hz σ Hk1 Hr1 _ I1 (fun ρ' σ' Hk' Hr' q ⟨H1, I'⟩ m' => hr ρ' q σ0 B H1 hz σ' Hk' Hr' D I' (fun ρ2 σ2 Hk2 Hr2 q2 I2 m2 => nx ρ2 σ2 Hk2 Hr2 q2 I2 (m1.trans (m'.trans m2))) rt) rt)
    | false => exact iteF (hb rfl σ0 B H0 hz σ Hk1 Hr1 _ I1 (fun ρ' σ' Hk' Hr' q ⟨H1, I'⟩ m' => hr ρ' q σ0 B H1 hz σ' Hk' Hr' D I' (fun ρ2 σ2 Hk2 Hr2 q2 I2 m2 => nx ρ2 σ2 Hk2 Hr2 q2 I2 (m1.trans (m'.trans m2))) rt) rt))
/-- an if without else whose suite hands back -/
theorem ss_ifR {tb : List Stmt} (hc : ET X c ρ k ρ1) (ha : k = true → SS X bi tb ρ1 (fun _ => False) R) (hr : k = false → SS X bi rest ρ1 N R) : SS X bi (.If c tb [] pos :: rest) ρ N R :=
  ss_if (N1 := fun ρ2 => k = false ∧ ρ2 = ρ1) hc (fun h σ0 B H0 hz σ Hk Hr D I nx rt => ha h σ0 B H0 hz σ Hk Hr D I (fun _ _ _ _ q _ _ => q.elim) rt) (fun h => ss_nil ⟨h, rfl⟩) (fun ρ2 q => by obtain ⟨q1, q2⟩ := q; subst q2; exact hr q1)
theorem ss_ret {R : PyData → List Sl → Prop} (he : EE X e ρ d ρ1) (h : R d ρ1) : SS X bi (.Return (some e) pos :: rest) ρ N (RDt X.K R) := fun σ0 B H0 hz σ Hk Hr D I nx rt =>
  sSs_of (pss_cons (ps_ret pe_s) pss_s) (he bi σ0 B H0 σ Hk Hr I _ fun v Hk1 Hr1 I1 m1 h1 => rt v ρ1 σ Hk1 Hr1 ⟨d, h, h1⟩ ⟨H0, I1⟩)
theorem ss_retNew {ns : List Int} {P : List Int → Prop} (he : EA X es ρ (ns.map PyData.int) ρ1) (h : P ns) (hl : ns.length ≤ 100000 := by first | decide | simp) : SS X bi (.Return (some (.List es p0)) pos :: rest) ρ N (RNew P) := fun σ0 B H0 hz σ Hk Hr D I nx rt =>
  sSs_of (pss_cons (ps_ret (pe_lst pa_s)) pss_s) (he bi σ0 B H0 σ Hk Hr I _ fun vs Hk1 Hr1 I1 m1 h1 => by
    have e := DpAll.ints h1
    subst e
    refine ⟨by rw [List.length_map]; exact le_line hl, fun p hp => rt (.ref p) ρ1 σ _ _ ⟨p, ns, rfl, ?_, upd_same, h⟩ ⟨H0, I1.gro (new_same hp _)⟩⟩
    cases z : B.e p with
    | none => rfl
    | some u =>
      rw [I1.real _ _ (I1.eh _ _ z)] at hp
      cases hp)
theorem ei_list (he : EE X iter ρ (.list ds) ρ1) : EI X tg iter ρ ds ρ1 := ⟨_, pi_list pe_s, fun bi σ0 B H0 σ Hk Hr I R q => he bi σ0 B H0 σ Hk Hr I _ fun v Hk1 Hr1 I1 m1 h1 => by
  cases h1 with
  | lst hs ha =>
    refine ⟨_, rfl, ⟨_, same_l I1.kr hs⟩, q _ Hk1 Hr1 I1 m1 fun i Hr2 e2 => ⟨fun hi => ?_, fun hi => ⟨_, same_l e2 hs, by rw [DpAll.len ha]; exact Nat.le_of_eq hi.symm⟩, fun x H' hy => ?_⟩⟩
    · obtain ⟨v, s1, s2⟩ := DpAll.get ha (List.getElem?_eq_getElem hi)
      exact ⟨_, v, same_l e2 hs, s1⟩
    · obtain ⟨rfl, f⟩ := hy
      refine ⟨Same.refl _, fun d hd => ?_⟩
      obtain ⟨v, s1, s2⟩ := DpAll.get ha hd
      have := f _ (same_l e2 hs)
      rw [s1] at this
      injection this with this; subst this
      exact Dp.mono (gro_same e2) d s2⟩
/-- lo, lo + 1, .. : n ints -/
def rngD (lo : Int) (n : Nat) : List PyData := (List.range n).map fun i => .int (lo + (i : Nat))
theorem rngD_len {lo : Int} {n : Nat} : (rngD lo n).length = n := by unfold rngD; simp
theorem rngD_get {lo : Int} {n i : Nat} {d : PyData} (h : (rngD lo n)[i]? = some d) : i < n ∧ d = .int (lo + (i : Nat)) := by
  unfold rngD at h
  rw [List.getElem?_map] at h
  by_cases q : i < n
  · rw [List.getElem?_range q] at h
    exact ⟨q, (Option.some.inj h).symm⟩
  · rw [List.getElem?_eq_none (by simp; omega)] at h
    cases h
theorem wk_rng {K : PySem.W.Frag} {Hk : Hp} {lo : Int} {n : Nat} : Wk K (Itr lo n) (rngD lo n) Hk := Wk.of fun i Hr e => ⟨fun hi => by rw [rngD_len] at hi; exact hi, fun hi => by rw [rngD_len] at hi; exact hi, fun x H' hy => by
  obtain ⟨rfl, rfl⟩ := hy
  refine ⟨Same.refl _, fun d hd => ?_⟩
  obtain ⟨_, rfl⟩ := rngD_get hd
  exact .int _⟩
theorem eg_name {K : PySem.W.Frag} (hb : n ∉ bi) : EG K bi (gName n) ρ d (ρ.set n (.val d)) := fun σ0 B H0 σ Hk Hr v I h Q q => q _ (I.set hb h)
theorem ss_for {g : TG} (J : Nat → List Sl → Prop) (hi : EI X tg iter ρ ds ρ1) (hg : PG X tg g) (h0 : J 0 ρ1)
    (ht : ∀ i d ρi, ds[i]? = some d → J i ρi → ∃ ρj, EG X.K bi g ρi d ρj ∧ SS X bi body ρj (J (i + 1)) R) (hr : ∀ ρ', J ds.length ρ' → SS X bi rest ρ' N R)
    (hp : PassesOwn (model X.prog X.w) X.A X.env X.xe := by exact PassesOwn.never) (hc : X.calm = true := by rfl) (hs : ∀ x, foldedSetIterable iter X.env x = pure x := by intro _; rfl) : SS X bi (.For tg iter body [] pos :: rest) ρ N R := fun σ0 B H0 hz σ Hk Hr D I nx rt => by
  obtain ⟨wi, pi, q⟩ := hi
  refine sSs_of (pss_cons (ps_for hp hc pi hg pss_s hs) pss_s) (q bi σ0 B H0 σ Hk Hr I _ fun Jt Hk1 Hr1 I1 m1 wk => ?_)
  refine ⟨fun i m σ' Hr' => i + m = ds.length ∧ ∃ ρ' Hk', J i ρ' ∧ OkE X.K bi σ0 B ρ' σ' Hk' Hr' ∧ Same Hk1 Hk', ⟨ds.length, by omega, ρ1, Hk1, h0, ⟨H0, I1⟩, Same.refl _⟩, fun i m σ' Hr' hW => ?_⟩
  obtain ⟨em, ρ', Hk', jj, ⟨H1, I'⟩, m'⟩ := hW
  obtain ⟨w1, w2, w3⟩ := wk i Hr' (m'.trans I'.kr)
  by_cases hi : i < ds.length
  · refine .inr ⟨w1 hi, fun σ2 H2 => ∃ ρ2 Hk2, J (i + 1) ρ2 ∧ OkE X.K bi σ0 B ρ2 σ2 Hk2 H2 ∧ Same Hk1 Hk2, fun σ2 H2 hN => ⟨m - 1, by omega, by omega, hN⟩, fun xv H2 hy => ?_⟩
    obtain ⟨e2, fd⟩ := w3 xv H2 hy
    have hd := List.getElem?_eq_getElem hi
    obtain ⟨ρj, eg, ss⟩ := ht i _ ρ' hd jj
    have I2 := I'.gro e2
    refine eg σ0 B H1 σ' _ H2 xv I2 (Dp.mono (gro_le m') _ (fd _ hd)) _ fun σ3 I3 => ?_
    exact ss σ0 B H1 hz σ3 _ H2 _ I3 (fun ρ4 σ4 Hk4 Hr4 q4 I4 m4 => ⟨ρ4, Hk4, q4, I4, m'.trans ((gro_same I'.kr).trans m4)⟩) rt
  · have : i = ds.length := by omega
    subst this
    refine .inl ⟨w2 rfl, hr ρ' jj σ0 B H1 hz σ' Hk' Hr' D I' (fun ρ2 σ2 Hk2 Hr2 q2 I2 m2 => nx ρ2 σ2 Hk2 Hr2 q2 I2 (m1.trans (m'.trans m2))) rt⟩
end
/-- .. that may change the list which is its first argument: what it holds before, the other arguments, the answer, what it holds behind -/
def spB (K : PySem.W.Frag) (n : Nat) (φ : List PyData → List PyData → PyData → List PyData → Prop) : Sp := fun vs H Q _ => ∃ (B : Hp) (a : Addr) (ws us : List V) (cs ds : List PyData) (d : PyData) (cs' : List PyData), φ cs ds d cs' ∧ ds.length = n ∧ vs = .ref a :: ws ∧ H a = some (.lst us) ∧ B a = none ∧
  Same B H ∧ DpAll K B us cs ∧ DpAll K B ws ds ∧ ∀ v H' us', (∀ b o, b ≠ a → H b = some o → H' b = some o) → H' a = some (.lst us') → DpAll K (gro B H H') us' cs' → Dp K (gro B H H') v d → Q v H'
/-- .. that hands back a new list of ints -/
def spN (K : PySem.W.Frag) (n : Nat) (φ : List PyData → List Int → Prop) : Sp := fun vs H Q _ => ∃ (B : Hp) (ds : List PyData) (ns : List Int), φ ds ns ∧ ds.length = n ∧ Same B H ∧ DpAll K B vs ds ∧ ∀ p H', Same H H' → H p = none → H' p = some (.lst (ns.map V.int)) → Q (.ref p) H'
/-- the slots at a def's entry -/
def rho (ds : List PyData) (m : Nat) : List Sl := ds.map Sl.val ++ List.replicate m .no
theorem Bxs.none {K : PySem.W.Frag} {Z Hk : Hp} {ρ : List Sl} {σ : L2.St} (h : ∀ (i : Nat) (b : Bx), ρ[i]? ≠ some (.box b)) : Bxs K Z ρ σ Hk := ⟨fun _ => [], fun i b q => absurd q (h i b), fun i j b c q _ _ => absurd q (h i b)⟩
theorem rho_nobox {ds : List PyData} {m : Nat} : ∀ (i : Nat) (b : Bx), (rho ds m)[i]? ≠ some (.box b) := fun i b h => by
  have := List.mem_of_getElem? h
  unfold rho at this
  rcases List.mem_append.mp this with q | q
  · obtain ⟨d, _, e⟩ := List.mem_map.mp q
    cases e
  · have := List.eq_of_mem_replicate q
    cases this
theorem rho_nobox1 {cs ds : List PyData} {m : Nat} : ∀ (i : Nat) (b : Bx), (Sl.own cs :: rho ds m)[i]? ≠ some (.box b) := fun i b h => by
  cases i with
  | zero => cases h
  | succ i => exact rho_nobox i b (by simpa using h)
section
variable {P : Program} {w : World} {K : PySem.W.Frag} {mg : Str → Option Value} {base : Heap} {x qual : Str} {st : Stmt} {f : Addr} {fd : FuncData} {N ps : List Str} {k : Nat}
theorem start_get {vs : List V} {i : Nat} {v : V} (h : vs[i]? = some v) : (L2.start N vs)[i]? = some (some v) := by
  unfold L2.start
  rw [List.getElem?_append_left (by have := (List.getElem?_eq_some_iff.mp h).1; simpa using this), List.getElem?_map, h]
  rfl
theorem fdN_of {φ : List PyData → List Int → Prop} (F : Fun K x qual st f fd) (S : FnScope N ps (defScope st)) (hl : ps.length ≤ N.length)
    (body : ∀ (cdv : Value) (A : Around) (outer : List Env) (s : Shared) (H : Hp) (E : XK), Room k (A.deeper (envOfC qual (defScope st) s.heap.objs.size f cdv)) → ∀ ds ns, φ ds ns → ds.length = ps.length →
      SS (cxOf CX0 P w K mg base N qual (defScope st) f cdv A outer s H E).nox [] (defBody st) (rho ds (N.length - ps.length)) (fun _ => False) (RNew fun ms => ms = ns)) :
    FnOk P w K mg base CX0 (k + 1) f fd ps (spN K ps.length φ) := by
  refine F.ok S (fun vs H Q E h => ?_) (fun cdv A outer s H vs Q E hr h => ?_)
  · obtain ⟨B, ds, ns, _, h1, _, h2, _⟩ := h
    rw [DpAll.len h2, h1]
  · obtain ⟨B, ds, ns, hφ, h1, kr, ha, q⟩ := h
    have lv : vs.length = ps.length := by rw [DpAll.len ha, h1]
    refine ⟨_, pss_s, body cdv A outer s H E hr ds ns hφ h1 (L2.start N vs) ⟨B, H⟩ ⟨H, fun _ => none⟩ (fun _ _ _ h => h) (L2.start N vs) B H _ ?_ ?_ ?_⟩
    · refine ⟨Same.refl _, Same.refl _, kr, fun b o h _ => h, fun i hi => (nomatch hi), ?_, fun i e hi => ?_, fun i e hi => ?_, fun i j e1 e2 hi _ => ?_, (fun _ _ z => nomatch z), (fun _ _ z => nomatch z), Bxs.none rho_nobox, Same.refl _, (fun _ _ z => nomatch z)⟩
      · unfold rho L2.start
        simp [h1, lv]
      · unfold rho at hi
        by_cases q : i < ds.length
        · rw [List.getElem?_append_left (by simpa using q), List.getElem?_map, List.getElem?_eq_getElem q] at hi
          have hi := Option.some.inj hi
          injection hi with hi
          obtain ⟨v, s1, s2⟩ := DpAll.get ha (List.getElem?_eq_getElem q)
          subst hi
          exact ⟨v, start_get s1, s2⟩
        · rw [List.getElem?_append_right (by simpa using q), List.getElem?_replicate] at hi
          split at hi
          · cases Option.some.inj hi
          · cases hi
      all_goals
        exfalso
        unfold rho at hi
        by_cases q : i < ds.length
        · rw [List.getElem?_append_left (by simpa using q), List.getElem?_map, List.getElem?_eq_getElem q] at hi
          cases Option.some.inj hi
        · rw [List.getElem?_append_right (by simpa using q), List.getElem?_replicate] at hi
          split at hi
          · cases Option.some.inj hi
          · cases hi
    · intro ρ' σ' Hk' Hr' e I' _
      exact e.elim
    · rintro v ρ' σ' Hk' Hr' ⟨p, ms, rfl, hp, hl, rfl⟩ ⟨H1, I'⟩
      exact q p Hr' (I'.eh.trans I'.real) hp hl
theorem fdB_of {n : Nat} {φ : List PyData → List PyData → PyData → List PyData → Prop} (F : Fun K x qual st f fd) (S : FnScope N ps (defScope st)) (hn : ps.length = n + 1) (hl : ps.length ≤ N.length)
    (body : ∀ (cdv : Value) (A : Around) (outer : List Env) (s : Shared) (H : Hp) (E : XK), Room k (A.deeper (envOfC qual (defScope st) s.heap.objs.size f cdv)) → ∀ cs ds d cs', φ cs ds d cs' → ds.length = n →
      SS (cxOf CX0 P w K mg base N qual (defScope st) f cdv A outer s H E).nox [0] (defBody st) (.own cs :: rho ds (N.length - ps.length)) (fun ρ' => d = .none ∧ ρ'[0]? = some (.own cs')) (RDt K fun d' ρ' => d' = d ∧ ρ'[0]? = some (.own cs'))) :
    FnOk P w K mg base CX0 (k + 1) f fd ps (spB K n φ) := by
  refine F.ok S (fun vs H Q E h => ?_) (fun cdv A outer s H vs Q E hr h => ?_)
  · obtain ⟨B, a, ws, us, cs, ds, d, cs', _, h1, rfl, _, _, _, _, h2, _⟩ := h
    rw [List.length_cons, DpAll.len h2, h1, hn]
  · obtain ⟨B, a, ws, us, cs, ds, d, cs', hφ, h1, rfl, ua, ba, kr, hcs, ha, q⟩ := h
    have lv : ws.length = n := by rw [DpAll.len ha, h1]
    have fin : ∀ ρ' σ' Hk' Hr' v, ρ'[0]? = some (.own cs') → OkE K [0] (L2.start N (.ref a :: ws)) ⟨B, fun b => if b = a then none else H b⟩ ρ' σ' Hk' Hr' → Dp K Hk' v d → Q v Hr' := fun ρ' σ' Hk' Hr' v e ⟨H1, I'⟩ hv => by
      obtain ⟨a', us', t1, t2, t3, t4, t5⟩ := I'.own 0 cs' e
      have b0 := I'.bor 0 (by simp)
      rw [t1, start_get (v := .ref a) rfl] at b0
      injection b0 with b0; injection b0 with b0; injection b0 with b0; subst b0
      have up : Same Hk' (gro B H Hr') := fun b o h => by
        cases z : H b with
        | none => rw [gro_new z]; exact I'.kr _ _ h
        | some u =>
          rw [gro_old z]
          refine I'.old b o h ?_
          by_cases ba : b = a'
          · subst ba
            rw [t3] at h
            cases h
          · have : H1.h b = some u := I'.eh b u (by show (if b = a' then none else H b) = some u; rw [if_neg ba]; exact z)
            rw [this]
            exact fun z => nomatch z
      refine q v Hr' us' (fun b o hb h => I'.real b o (I'.eh b o ?_)) t2 (DpAll.mono up _ t5) (Dp.mono up _ hv)
      show (if b = a' then none else H b) = some o
      rw [if_neg hb]
      exact h
    refine ⟨_, pss_s, body cdv A outer s H E hr cs ds d cs' hφ h1 (L2.start N (.ref a :: ws)) ⟨B, fun b => if b = a then none else H b⟩ ⟨fun b => if b = a then none else H b, fun _ => none⟩ (fun h => nomatch h) (L2.start N (.ref a :: ws)) B H _ ?_ ?_ ?_⟩
    · refine ⟨Same.refl _, fun b o h => ?_, kr, fun b o h _ => h, fun i hi => rfl, ?_, fun i e hi => ?_, fun i e hi => ?_, fun i j e1 e2 hi hj hn => ?_, (fun _ _ z => nomatch z), (fun _ _ z => nomatch z), Bxs.none rho_nobox1, (fun _ _ h => h), (fun _ _ z => nomatch z)⟩
      · have h' : (if b = a then none else H b) = some o := h
        split at h'
        · cases h'
        · exact h'
      · unfold rho L2.start
        simp [h1, lv, hn]
      · cases i with
        | zero => cases hi
        | succ i =>
          have hi : (rho ds (N.length - ps.length))[i]? = some (.val e) := by simpa using hi
          unfold rho at hi
          by_cases q : i < ds.length
          · rw [List.getElem?_append_left (by simpa using q), List.getElem?_map, List.getElem?_eq_getElem q] at hi
            have hi := Option.some.inj hi
            injection hi with hi
            obtain ⟨v, s1, s2⟩ := DpAll.get ha (List.getElem?_eq_getElem q)
            subst hi
            exact ⟨v, start_get (by simpa using s1), s2⟩
          · rw [List.getElem?_append_right (by simpa using q), List.getElem?_replicate] at hi
            split at hi
            · cases Option.some.inj hi
            · cases hi
      · cases i with
        | zero =>
          have hi := Option.some.inj hi
          injection hi with hi
          subst hi
          exact ⟨a, us, start_get rfl, ua, ba, if_pos rfl, hcs⟩
        | succ i =>
          exfalso
          have hi : (rho ds (N.length - ps.length))[i]? = some (.own e) := by simpa using hi
          unfold rho at hi
          by_cases q : i < ds.length
          · rw [List.getElem?_append_left (by simpa using q), List.getElem?_map, List.getElem?_eq_getElem q] at hi
            cases Option.some.inj hi
          · rw [List.getElem?_append_right (by simpa using q), List.getElem?_replicate] at hi
            split at hi
            · cases Option.some.inj hi
            · cases hi
      · exfalso
        have key : ∀ {i : Nat} {e : List PyData}, (Sl.own cs :: rho ds (N.length - ps.length))[i + 1]? = some (.own e) → False := fun {i e} hi => by
          have hi : (rho ds (N.length - ps.length))[i]? = some (.own e) := by simpa using hi
          unfold rho at hi
          by_cases q : i < ds.length
          · rw [List.getElem?_append_left (by simpa using q), List.getElem?_map, List.getElem?_eq_getElem q] at hi
            cases Option.some.inj hi
          · rw [List.getElem?_append_right (by simpa using q), List.getElem?_replicate] at hi
            split at hi
            · cases Option.some.inj hi
            · cases hi
        cases i with
        | zero =>
          cases j with
          | zero => exact hn rfl
          | succ j => exact key hj
        | succ i => exact key hi
    · intro ρ' σ' Hk' Hr' e I' _
      obtain ⟨e1, e2⟩ := e
      subst e1
      exact fin ρ' σ' Hk' Hr' .non e2 I' .non
    · rintro v ρ' σ' Hk' Hr' ⟨d', ⟨e1, e2⟩, hv⟩ I'
      subst e1
      exact fin ρ' σ' Hk' Hr' v e2 I' hv
end
section
end
section
end
end Pd
namespace Pd
open PySem L2 PySem.Spec PyProof.Rows
def GE (K : PySem.W.Frag) (te : TE) (ρ : List Sl) (d : PyData) (ρ' : List Sl) : Prop :=
  ∀ (bi : List Nat) (σ0 : L2.St) (B : Be) (H0 : Fr) (σ : L2.St) (Hk Hr : Hp), Ok K bi σ0 B H0 ρ σ Hk Hr → ∀ Q : VK, (∀ v Hk' Hr', Ok K bi σ0 B H0 ρ' σ Hk' Hr' → Same Hk Hk' → Dp K Hk' v d → Q v Hr') → te σ Hr Q
def GT (K : PySem.W.Frag) (tt : TT) (ρ : List Sl) (b : Bool) (ρ' : List Sl) : Prop :=
  ∀ (bi : List Nat) (σ0 : L2.St) (B : Be) (H0 : Fr) (σ : L2.St) (Hk Hr : Hp), Ok K bi σ0 B H0 ρ σ Hk Hr → ∀ Q : Bool → Hp → Prop, (∀ Hk' Hr', Ok K bi σ0 B H0 ρ' σ Hk' Hr' → Same Hk Hk' → Q b Hr') → tt σ Hr Q
/-- a target that writes the slots vs alone -/
def GW (g : TG) (vs : List Nat) : Prop := ∀ v σ H (Q : L2.St → Hp → Prop), (g v (wipe σ vs) H fun σ2 H2 => wipe σ2 vs = wipe σ vs → Q σ2 H2) → g v (wipe σ vs) H fun σ2 H2 => wipe σ2 vs = wipe σ vs ∧ Q σ2 H2
section
variable {K : PySem.W.Frag} {bi bi' : List Nat} {σ0 σ0' σ σ' : L2.St} {Hk Hr : Hp} {B : Be} {H0 : Fr} {ρ ρ' : List Sl}
/-- other slots' values -/
theorem Ok.swap (I : Ok K bi σ0 B H0 ρ σ Hk Hr) (hb : ∀ i ∈ bi', σ'[i]? = σ0'[i]?) (hl : ρ'.length = σ'.length) (h : ∀ (i : Nat) (x : Sl), ρ'[i]? = some x → x = .no ∨ (ρ[i]? = some x ∧ σ'[i]? = σ[i]?)) : Ok K bi' σ0' B H0 ρ' σ' Hk Hr where
  base := I.base
  real := I.real
  kr := I.kr
  old := I.old
  bor := hb
  len := hl
  val := fun i d hi => by
    rcases h i _ hi with e | ⟨e1, e2⟩
    · cases e
    · rw [e2]; exact I.val i d e1
  own := fun i ds hi => by
    rcases h i _ hi with e | ⟨e1, e2⟩
    · cases e
    · rw [e2]; exact I.own i ds e1
  dis := fun i j ds es hi hj n => by
    rcases h i _ hi with e | ⟨e1, e2⟩
    · cases e
    · rcases h j _ hj with e | ⟨e3, e4⟩
      · cases e
      · rw [e2, e4]; exact I.dis i j ds es e1 e3 n
  zh := I.zh
  zb := I.zb
  bxs := I.bxs.sub (Same.refl _) fun i b q => by
    rcases h i _ q with e | e
    · cases e
    · exact e
  eh := I.eh
  ze := I.ze
/-- an address of a list of the def's own -/
def Ow (ρ : List Sl) (σ : L2.St) (b : Addr) : Prop := ∃ (i : Nat) (ds : List PyData), ρ[i]? = some (Sl.own ds) ∧ σ[i]? = some (some (V.ref b))
/-- what stands, the def's own lists left out -/
noncomputable def fen (ρ : List Sl) (σ : L2.St) (Hr : Hp) : Hp := by
  classical
  exact fun b => if Ow ρ σ b then none else Hr b
noncomputable def fenF (H0 : Fr) (ρ : List Sl) (σ : L2.St) (Hr : Hp) : Fr := ⟨fen ρ σ Hr, H0.z⟩
theorem fen_not {b : Addr} (h : ¬ Ow ρ σ b) : fen ρ σ Hr b = Hr b := by
  unfold fen
  exact if_neg h
theorem Ok.outer {Hk' Hr' : Hp} {bi2 : List Nat} {σ02 : L2.St} (I : Ok K bi σ0 B H0 ρ σ Hk Hr) (I' : Ok K bi2 σ02 (inB Hk) (fenF H0 ρ σ Hr) ρ' σ' Hk' Hr') : Ok K bi2 σ02 B H0 ρ' σ' Hk' Hr' where
  base := I.base.trans I'.base
  real := fun b o h => by
    have h1 := I.real b o h
    refine I'.real b o ?_
    show fen ρ σ Hr b = some o
    rw [fen_not]
    · exact h1
    · rintro ⟨i, ds, q1, q2⟩
      obtain ⟨a, vs, s1, s2, s3, s4, s5⟩ := I.own i ds q1
      rw [q2] at s1
      injection s1 with s1; injection s1 with s1; injection s1 with s1; subst s1
      rw [h] at s4
      cases s4
  kr := I'.kr
  old := fun b o h h0 => by
    have h1 : Hk b = some o := by
      refine I'.old b o h ?_
      cases z : H0 b with
      | none => exact absurd z h0
      | some u =>
        show fen ρ σ Hr b ≠ none
        rw [fen_not]
        · rw [I.real _ _ z]; exact fun z => nomatch z
        · rintro ⟨i, ds, q1, q2⟩
          obtain ⟨a, vs, s1, s2, s3, s4, s5⟩ := I.own i ds q1
          rw [q2] at s1
          injection s1 with s1; injection s1 with s1; injection s1 with s1; subst s1
          rw [z] at s4
          cases s4
    exact I.old b o h1 h0
  bor := I'.bor
  len := I'.len
  val := I'.val
  own := fun i ds h => by
    obtain ⟨a, vs, q1, q2, q3, q4, q5⟩ := I'.own i ds h
    refine ⟨a, vs, q1, q2, q3, ?_, q5⟩
    cases z : H0 a with
    | none => rfl
    | some u =>
      have h1 := I.real _ _ z
      by_cases w : Ow ρ σ a
      · obtain ⟨i2, ds2, r1, r2⟩ := w
        obtain ⟨a2, vs2, s1, s2, s3, s4, s5⟩ := I.own i2 ds2 r1
        rw [r2] at s1
        injection s1 with s1; injection s1 with s1; injection s1 with s1; subst s1
        rw [z] at s4
        cases s4
      · have q4 : fen ρ σ Hr a = none := q4
        rw [fen_not w, h1] at q4
        cases q4
  dis := I'.dis
  zh := I.zh
  zb := I.zb
  bxs := I'.bxs
  eh := I.eh
  ze := I.ze
theorem Ok.put (I : Ok K bi σ0 B H0 ρ σ Hk Hr) {D : Addr} {o : HO} (hk : Hk D = none) (h0 : H0 D = none) (hn : ¬ Ow ρ σ D) : Ok K bi σ0 B H0 ρ σ Hk (upd Hr D o) where
  base := I.base
  real := fun b u h => by rw [upd_ne (ne_of_none h h0)]; exact I.real _ _ h
  kr := fun b u h => by rw [upd_ne (ne_of_none h hk)]; exact I.kr _ _ h
  old := I.old
  bor := I.bor
  len := I.len
  val := I.val
  own := fun i ds h => by
    obtain ⟨a, vs, q1, q2, q3, q4, q5⟩ := I.own i ds h
    refine ⟨a, vs, q1, ?_, q3, q4, q5⟩
    rw [upd_ne (show a ≠ D from fun z => hn ⟨i, ds, h, by rw [← z]; exact q1⟩)]
    exact q2
  dis := I.dis
  zh := I.zh
  zb := I.zb
  bxs := I.bxs
  eh := I.eh
  ze := I.ze
end
section
variable {X : Cx} {elt tg iter c : Expr} {scope : Scope} {own : List (Str × Nat)} {ρ ρ1 : List Sl} {ds : List PyData} {pos : Pos}
def bE (X : Cx) (scope : Scope) (e : Expr) : TE := fun σ H Q => ∀ (s : Shared) (H1 : Hp) (C : Addr) (cl : List (Str × Addr)) (fp : List Addr), sE (X.blk s H1 scope (compEnvC scope cl C X.env) fp) e σ H Q
def bT (X : Cx) (scope : Scope) (e : Expr) : TT := fun σ H Q => ∀ (s : Shared) (H1 : Hp) (C : Addr) (cl : List (Str × Addr)) (fp : List Addr), sT (X.blk s H1 scope (compEnvC scope cl C X.env) fp) e σ H Q
theorem pe_b (s : Shared) (H : Hp) (C : Addr) (cl : List (Str × Addr)) (fp : List Addr) : PE (X.blk s H scope (compEnvC scope cl C X.env) fp) elt (bE X scope elt) := ⟨fun pins s' _ _ _ I h => h s H C cl fp pins s' I⟩
theorem pt_b (s : Shared) (H : Hp) (C : Addr) (cl : List (Str × Addr)) (fp : List Addr) : PT (X.blk s H scope (compEnvC scope cl C X.env) fp) c (bT X scope c) := ⟨fun pins s' _ _ _ I h => h s H C cl fp pins s' I⟩
/-- in each block of the comprehension -/
def BE (X : Cx) (scope : Scope) (e : Expr) (ρ : List Sl) (d : PyData) (ρ' : List Sl) : Prop := ∀ (s : Shared) (H : Hp) (C : Addr) (cl : List (Str × Addr)) (fp : List Addr), EE (X.blk s H scope (compEnvC scope cl C X.env) fp) e ρ d ρ'
def BT (X : Cx) (scope : Scope) (e : Expr) (ρ : List Sl) (b : Bool) (ρ' : List Sl) : Prop := ∀ (s : Shared) (H : Hp) (C : Addr) (cl : List (Str × Addr)) (fp : List Addr), ET (X.blk s H scope (compEnvC scope cl C X.env) fp) e ρ b ρ'
theorem BE.ge {e : Expr} {d : PyData} (h : BE X scope e ρ d ρ1) : GE X.K (bE X scope e) ρ d ρ1 := fun bi σ0 B H0 σ Hk Hr I Q q s H C cl fp => h s H C cl fp bi σ0 B H0 σ Hk Hr I Q q
theorem BT.gt {e : Expr} {b : Bool} (h : BT X scope e ρ b ρ1) : GT X.K (bT X scope e) ρ b ρ1 := fun bi σ0 B H0 σ Hk Hr I Q q s H C cl fp => h s H C cl fp bi σ0 B H0 σ Hk Hr I Q q
end
section
variable {X : Cx} {a b e : Expr} {ρ ρ1 : List Sl} {d : PyData} {ds : List PyData} {pos p0 p1 : Pos} {x : Str} {n : Nat}
theorem own_ix {j : Int} (hN : X.N[n]? = some x) (ho : ρ[n]? = some (.own ds)) (hb : EE X b ρ (.int j) ρ) (h : atI ds j = some d) (hs : PlainIx b := by exact fun _ _ => rfl) (hv : Vis X.env.scope x := by first | exact Or.inl rfl | exact Or.inr (Or.inl rfl) | exact Or.inr (Or.inr rfl)) (hd : (x == ("__debug__" : Str)) = false := by decide)
    (hcd : (x == ("__classdict__" : Str)) = false := by decide) : EE X (.Subscript (.Name x p0) b pos) ρ d ρ := fun bi σ0 B H0 σ Hk Hr I Q q => by
  obtain ⟨a0, vs0, t1, t2, t3, t4, t5⟩ := I.own n ds ho
  refine sE_of (pe_ix ix_list (pe_var hN hv hd hcd) pe_s hs) ⟨.ref a0, t1, hb bi σ0 B H0 σ Hk Hr I _ fun y Hk1 Hr1 I1 m1 h1 => ?_⟩
  cases h1
  obtain ⟨a1, vs1, u1, u2, u3, u4, u5⟩ := I1.own n ds ho
  have ea : a0 = a1 := by
    rw [t1] at u1
    injection u1 with u1; injection u1 with u1; injection u1
  subst ea
  obtain ⟨v, s1, s2⟩ := atI_all u5 h
  exact ⟨a0, vs1, j, v, rfl, rfl, .inl (.inl u2), s1, q v Hk1 Hr1 I1 m1 s2⟩
end
section
variable {K : PySem.W.Frag} {ds : List PyData} {d : PyData} {i j : Int} {X : Cx}
theorem ra_abs : RA K (fun xs H Q => ∃ i, xs = [.int i] ∧ Q (.int (if i < 0 then -i else i)) H) [.int i] (.int (if i < 0 then -i else i)) := fun vs Hk Hr kr h Q q => by
  cases h with
  | cons h1 h2 =>
    cases h2
    cases h1
    exact ⟨i, rfl, q _ Hr (Same.refl _) (.int _)⟩
theorem ra_int : RA K (fun xs H Q => (∃ i, xs = [.int i] ∧ Q (.int i) H) ∨ ∃ k, xs = [.bl k] ∧ Q (.int (if k then 1 else 0)) H) [.int i] (.int i) := fun vs Hk Hr kr h Q q => by
  cases h with
  | cons h1 h2 =>
    cases h2
    cases h1
    exact .inl ⟨i, rfl, q _ Hr (Same.refl _) (.int _)⟩
theorem ra_min2 : RA K (fun xs H Q => ∃ i j, xs = [.int i, .int j] ∧ Q (.int (if j < i then j else i)) H) [.int i, .int j] (.int (if j < i then j else i)) := fun vs Hk Hr kr h Q q => by
  cases h with
  | cons h1 h2 =>
    cases h1
    cases h2 with
    | cons h2 h3 =>
      cases h2; cases h3
      exact ⟨i, j, rfl, q _ Hr (Same.refl _) (.int _)⟩
end
def cutD (ds : List PyData) (lo hi : Option Int) : List PyData := (ds.drop (HT.sIx ds.length 0 lo)).take (HT.sIx ds.length ds.length hi - HT.sIx ds.length 0 lo)
def EO (X : Cx) (e : Option Expr) (ρ : List Sl) (o : Option Int) (ρ' : List Sl) : Prop := ∃ t, PO X e t ∧
  ∀ (bi : List Nat) (σ0 : L2.St) (B : Be) (H0 : Fr) (σ : L2.St) (Hk Hr : Hp), Ok X.K bi σ0 B H0 ρ σ Hk Hr → ∀ Q : Option Int → Hp → Prop, (∀ Hk' Hr', Ok X.K bi σ0 B H0 ρ' σ Hk' Hr' → Same Hk Hk' → Q o Hr') → t σ Hr Q
section
variable {X : Cx} {e : Expr} {lo hi : Option Expr} {ρ ρ1 ρ2 ρ3 : List Sl} {ds : List PyData} {pos p2 : Pos} {l u : Option Int} {i : Int}
theorem eo_none : EO X none ρ none ρ := ⟨_, po_none, fun bi σ0 B H0 σ Hk Hr I Q q => q Hk Hr I (Same.refl _)⟩
theorem eo_some (h : EE X e ρ (.int i) ρ1) : EO X (some e) ρ (some i) ρ1 := ⟨_, po_some pe_s, fun bi σ0 B H0 σ Hk Hr I Q q => h bi σ0 B H0 σ Hk Hr I _ fun v Hk1 Hr1 I1 m1 h1 => by
  cases h1
  exact ⟨i, rfl, q Hk1 Hr1 I1 m1⟩⟩
theorem cut_all {K : PySem.W.Frag} {H : Hp} {vs : List V} (h : DpAll K H vs ds) : DpAll K H (cutV vs l u) (cutD ds l u) := by
  unfold cutV cutD
  rw [DpAll.len h]
  exact DpAll.take _ (DpAll.drop _ h)
theorem ee_sliceL (he : EE X e ρ (.list ds) ρ1) (hl : EO X lo ρ1 l ρ2) (hu : EO X hi ρ2 u ρ3) : EE X (.Subscript e (.Slice lo hi none p2) pos) ρ (.list (cutD ds l u)) ρ3 := fun bi σ0 B H0 σ Hk Hr I Q q => by
  obtain ⟨tl, pl, hl⟩ := hl
  obtain ⟨tu, pu, hu⟩ := hu
  refine sE_of (pe_slice sl_list pe_s pl pu) (he bi σ0 B H0 σ Hk Hr I _ fun v Hk1 Hr1 I1 m1 h1 => hl bi σ0 B H0 σ Hk1 Hr1 I1 _ fun Hk2 Hr2 I2 m2 => hu bi σ0 B H0 σ Hk2 Hr2 I2 _ fun Hk3 Hr3 I3 m3 => ?_)
  cases h1 with
  | lst hs ha =>
    have m := m2.trans m3
    exact ⟨_, _, rfl, same_l I3.kr (same_l m hs), fun p hp => q _ _ _ (I3.gro (new_same hp _)) ((m1.trans m).trans (gro_same I3.kr)) (gro_lst I3.kr hp (cut_all (DpAll.mono m _ ha)))⟩
end
end Pd
namespace Pd
open PySem L2 PySem.Spec PyProof.Rows
section
variable {X : Cx} {e a b : Expr} {es : List Expr} {ρ ρ1 : List Sl} {ds : List PyData} {d : PyData} {p0 p1 pos : Pos} {i j : Int}
theorem ee_abs (hm : X.mg "abs" = none) (ha : EE X e ρ (.int i) ρ1) (hg : Gl X "abs" := by rfl) (he : starEach [e] X.env = [(false, eval e X.env)] := by rfl) (hpl : (backTo pos (starEach ([] : List Expr) X.env)).any (·.1) = false := by rfl) : EE X (.Call (.Name "abs" p0) [e] [] pos) ρ (.int (if i < 0 then -i else i)) ρ1 :=
  ee_tCB (pe_callB call_abs hg hm (by decide +kernel) pa_s (by decide) (by decide) he hpl) (ea_cons ha ea_nil he) ra_abs
theorem ee_toInt (hm : X.mg "int" = none) (ha : EE X e ρ (.int i) ρ1) (hg : Gl X "int" := by rfl) (he : starEach [e] X.env = [(false, eval e X.env)] := by rfl) (hpl : (backTo pos (starEach ([] : List Expr) X.env)).any (·.1) = false := by rfl) : EE X (.Call (.Name "int" p0) [e] [] pos) ρ (.int i) ρ1 :=
  ee_tCB (pe_callTy call_int1 hg hm (by decide +kernel) pa_s (by decide) (by decide) he hpl) (ea_cons ha ea_nil he) ra_int
end
def insD (x : Int) : List Int → List Int
  | [] => [x]
  | y :: r => if y ≤ x then x :: y :: r else y :: insD x r
theorem insD_perm (x : Int) : ∀ l, (insD x l).Perm (x :: l)
  | [] => .refl _
  | y :: r => by
    unfold insD
    split
    · exact .refl _
    · exact ((insD_perm x r).cons y).trans (List.Perm.swap x y r)
section
variable {X : Cx} {e : Expr} {ρ ρ1 : List Sl} {ns : List Int} {p0 p1 pos kp : Pos} {kn : Nat}
def tyN : PyData → String
  | .none => "NoneType" | .bool _ => "bool" | .int _ => "int" | .str _ => "str" | .list _ => "list" | .tuple _ => "tuple" | .dict _ => "dict"
def isScal : PyData → Bool
  | .none | .bool _ | .int _ | .str _ => true
  | _ => false
theorem ty_scal {K : PySem.W.Frag} {H : Hp} {v : V} {d : PyData} (h : Dp K H v d) (s : isScal d = true) : TyX K H v (.type (tyN d)) := by
  cases h with
  | non => exact .base .non
  | bl b => exact .base (.bl b)
  | int i => exact .base (.int i)
  | str x => exact .base (.str x)
  | lst _ _ => cases s
  | tup _ _ => cases s
end
theorem shaped_int (i : Int) : SeqAt.shaped (.int i) = true := by simp [SeqAt.shaped, PyData.canLay0, PyData.depth]
/-- lists of tuples of ints -/
def dT (xs : List Int) : PyData := .tuple (xs.map .int)
end Pd
namespace Pd
open PySem L2 PySem.Spec PyProof.Rows RZ RT
/-- hi, hi - 1, .. : n ints -/
def dwnD (hi : Int) (n : Nat) : List PyData := (List.range n).map fun i => .int (hi + (i : Nat) * (-1))
theorem dwnD_len {lo : Int} {n : Nat} : (dwnD lo n).length = n := by unfold dwnD; simp
theorem dwnD_get {lo : Int} {n i : Nat} {d : PyData} (h : (dwnD lo n)[i]? = some d) : i < n ∧ d = .int (lo + (i : Nat) * (-1)) := by
  unfold dwnD at h
  rw [List.getElem?_map] at h
  by_cases q : i < n
  · rw [List.getElem?_range q] at h
    exact ⟨q, (Option.some.inj h).symm⟩
  · rw [List.getElem?_eq_none (by simp; omega)] at h
    cases h
theorem wk_dwn {K : PySem.W.Frag} {Hk : Hp} {lo : Int} {n : Nat} : Wk K (Itc lo (-1) n) (dwnD lo n) Hk := Wk.of fun i Hr e => ⟨fun hi => by rw [dwnD_len] at hi; exact hi, fun hi => by rw [dwnD_len] at hi; exact hi, fun x H' hy => by
  obtain ⟨rfl, rfl⟩ := hy
  refine ⟨Same.refl _, fun d hd => ?_⟩
  obtain ⟨_, rfl⟩ := dwnD_get hd
  exact .int _⟩
section
end
end Pd
namespace Pd
open PySem L2 PySem.Spec PyProof.Rows
section
variable {X : Cx}
def rSumT (K : PySem.W.Frag) : List V → Hp → VK → Prop := fun vs H Q => ∃ (a : Addr) (ns : List Int), vs = [V.ref a] ∧ SqT K H a (ns.map V.int) ∧ Q (.int ns.sum) H
theorem cr_sumT (hc : X.calm = true) : CallR X (.builtin "sum") (rSumT X.K) := by
  intro pins s σ H vs us Q I r h
  obtain ⟨t, nums, rfl, ht, goal⟩ := h
  obtain ⟨conc, rel, ist, _⟩ := I.tuple ht
  rw [Vals.ref1 r]
  have allI := rel.ints
  obtain ⟨pairs, ep⟩ := allI.allInts.items
  have en : numsOf (intItems pairs).toList = nums := ep ▸ allI.numsOf
  rw [ep] at ist
  refine PySem.W.ktm_sumG (I.ok.hd hc) ist fun h' tk t' more => ?_
  rw [nums_intItems] at en
  rw [preSum_eq, List.take_of_length_le (Nat.le_of_eq (by rw [List.length_map, Array.length_toList])), en]
  exact ⟨.int _, H, I.kept more, ⟨_, rfl⟩, goal⟩
end
section
variable {X : Cx} {e a b : Expr} {es : List Expr} {ρ ρ1 ρ2 : List Sl} {ds : List PyData} {d : PyData} {p0 p1 pos : Pos} {ns ms : List Int} {bs : List Bool} {k m : Bool}
theorem DpAll.bools {K : PySem.W.Frag} {H : Hp} : ∀ {vs : List V} {bs : List Bool}, DpAll K H vs (bs.map PyData.bool) → vs = bs.map V.bl
  | _, [], h => by cases h; rfl
  | _, n :: ns, h => by
    cases h with
    | cons h1 h2 =>
      cases h1
      simp [DpAll.bools h2]
/-- x < y, tuples of ints -/
theorem rd_ltT {K : PySem.W.Frag} : RD K (rLtT K) (.tuple (ns.map .int)) (.tuple (ms.map .int)) (.bool (HT.lexLt ns ms)) := fun x y Hk Hr kr hx hy Q q => by
  cases hx with
  | tup hs ha =>
    cases hy with
    | tup ht hb =>
      have := DpAll.ints ha
      subst this
      have := DpAll.ints hb
      subst this
      exact ⟨_, _, ns, ms, rfl, rfl, same_t kr hs, same_t kr ht, q _ Hr (Same.refl _) (.bl _)⟩
/-- isinstance(a tuple, T) -/
theorem ty_tup {K : PySem.W.Frag} {H : Hp} {v : V} (h : Dp K H v (.tuple ds)) : TyX K H v (.type "tuple") := by
  cases h with
  | tup hs ha =>
    rcases hs with (h | ⟨o, h⟩) | h
    · exact .base (.tup h)
    · exact .fTuple h
    · obtain ⟨o, its, n, ho, hc, _⟩ := h
      exact .kTuple ho hc
end
section
variable {X : Cx} {bi : List Nat} {a b e : Expr} {es : List Expr} {rest : List Stmt} {ρ ρ1 ρ2 : List Sl} {N : List Sl → Prop} {R : RTy} {d1 d2 : PyData} {ds cs : List PyData} {pos epos bpos lpos p0 p1 p2 p3 p4 : Pos} {x y : Str} {n i j : Nat} {k : Int} {kk k2 : Nat}
theorem rep_all {K : PySem.W.Frag} {H : Hp} {vs : List V} (h : DpAll K H vs ds) : ∀ m : Nat, DpAll K H (List.replicate m vs).flatten (List.replicate m ds).flatten
  | 0 => .nil
  | m + 1 => by
    rw [List.replicate_succ, List.replicate_succ, List.flatten_cons, List.flatten_cons]
    exact DpAll.app h (rep_all h m)
end
end Pd
namespace L2
open PySem PySem.Spec PyProof.Rows
section
end
end L2
namespace Pd
open PySem L2 PySem.Spec PyProof.Rows
section
end
end Pd
namespace Pd
open PySem L2 PySem.Spec PyProof.Rows
theorem eqv_int (i j : Int) : PyData.eqv (.int i) (.int j) = decide (i = j) := by
  show (i == j) = _
  exact Bool.beq_eq_decide_eq i j
section
end
section
end
section
end
/-- the law's promise, from a promise on data -/
def spLaw (K : PySem.W.Frag) : Sp := fun vs H Q _ => ∃ (a : Addr) (ns : List Int), vs = [.ref a] ∧ SqL K H a (ns.map V.int) ∧ ns.length ≤ 63 ∧ ∀ H', Q (.bl true) H'
end Pd
namespace L2
open PySem PySem.Spec PyProof.Rows
/-- a tuple once: the tuple itself -/
theorem mul_once (l : Addr) (items : Array Value) (n : Nat) (dd : Option Addr) (sl : Array (Option Value)) (u : Tok) :
    Meets (Builtin.«tuple.__mul__» ⟨[.ref l, .int 1 u], []⟩) (fun _ R s => s.heap.get? l = some { cls := .type "tuple", dict := dd, data := .seq items n, slots := sl } ∧ R (.ok (.ret (Value.ref l))) s) :=
  .of_wp fun prog w A R s h => by
    obtain ⟨hp, g, d, tk, os⟩ := s
    obtain ⟨hl, h⟩ := h
    have f1 := AutoSeq1.idx_int
    wp_walk using wpAny_loadPart' hl
    repeat (first
      | (refine wpAny_ite_false (by decide) ?_; wp_walk using wpAny_loadPart' hl)
      | (refine wpAny_ite_true (by simp) ?_; wp_walk using wpAny_loadPart' hl))
    exact ⟨_, rfl, h⟩
/-- a tuple with items, not at all: the empty one -/
theorem mul_none (l : Addr) (items : Array Value) (n : Nat) (dd : Option Addr) (sl : Array (Option Value)) (x : Int) (u : Tok) (h0 : (decide (x < -(2 ^ 63)) || decide (x ≥ 2 ^ 63)) = false) (h1 : (items.isEmpty || x == 1) = false) (h2 : (decide (x ≤ 0) || items.isEmpty) = true) :
    Meets (Builtin.«tuple.__mul__» ⟨[.ref l, .int x u], []⟩) (fun _ R s => s.heap.get? l = some { cls := .type "tuple", dict := dd, data := .seq items n, slots := sl } ∧
      R (.ok (.ret (Value.ref s.heap.objs.size))) { s with heap := s.heap.push { cls := Value.type "tuple", data := Data.seq #[] }, toks := s.toks }) :=
  .of_wp fun prog w A R s h => by
    obtain ⟨hp, g, d, tk, os⟩ := s
    obtain ⟨hl, h⟩ := h
    have f1 := AutoSeq1.idx_int
    wp_walk using wpAny_loadPart' hl
    repeat (first
      | (refine wpAny_ite_false (decide_eq_false (by rw [h0]; exact Bool.false_ne_true)) ?_; wp_walk using wpAny_loadPart' hl)
      | (refine wpAny_ite_false (decide_eq_false (by rw [h1]; exact Bool.false_ne_true)) ?_; wp_walk using wpAny_loadPart' hl)
      | (refine wpAny_ite_true (decide_eq_true h2) ?_; wp_walk using wpAny_loadPart' hl))
    exact ⟨_, rfl, h⟩
def rTimes (K : PySem.W.Frag) : R2 := fun x y H Q => ∃ (l : Addr) (k : Int) (xs : List V), x = .ref l ∧ y = .int k ∧ SqT K H l xs ∧ xs ≠ [] ∧ -1000 ≤ k ∧ k ≤ 1 ∧ (k ≤ 0 → ∀ p, H p = none → Q (.ref p) (upd H p (.tup []))) ∧ (k = 1 → Q (.ref l) H)
theorem op_times {X : Cx} : OpR X (binaryOp .Mult) (rTimes X.K) := by
  intro pins s σ H x y v u Q I rx ry h
  obtain ⟨l, k, vals, rfl, rfl, ht, ne, lo, hi, q0, q1⟩ := h
  cases rx
  obtain ⟨tk, rfl⟩ := ry
  obtain ⟨conc, rel, ⟨⟨cls, dd, data, sl⟩, g1, g2, cap, g3⟩, fit⟩ := I.tuple ht
  simp only at g2 g3
  subst g2 g3
  have ne2 : conc.toArray.isEmpty = false := by
    cases conc with
    | nil =>
      have := rel.length
      exact absurd (List.eq_nil_of_length_eq_zero this) ne
    | cons a b => rfl
  by_cases k1 : k = 1
  · subst k1
    refine wpAny_binaryOp_repeat_ref (T := "tuple") (U := "int") (by decide) ⟨_, g1, rfl⟩ (fun s' => typeIs_int s' 1 tk) noFill_tuple_mul F.fills_int_mul F.slot_int_rmul repeat_tuple F.slot_int_index.lookup
      (call_meets F.slot_int_rmul (typeIs_int s 1 tk) F.entry_int_rmul (F.args_int_rmul_2 _ _) (int_rmul_tuple 1 tk l conc.toArray cap dd sl)
        ⟨g1, rfl, ⟨_, g1, rfl⟩, call_meets F.slot_tuple_mul ⟨_, g1, rfl⟩ F.entry_tuple_mul (F.args_tuple_mul_2 _ _) (mul_once l conc.toArray cap dd sl tk) ⟨g1, ?_⟩⟩)
    exact ⟨.ref l, H, I, rfl, q1 rfl⟩
  · have k0 : k ≤ 0 := by omega
    have e1 : (k == 1) = false := beq_eq_false_iff_ne.mpr k1
    refine wpAny_binaryOp_repeat_ref (T := "tuple") (U := "int") (by decide) ⟨_, g1, rfl⟩ (fun s' => typeIs_int s' k tk) noFill_tuple_mul F.fills_int_mul F.slot_int_rmul repeat_tuple F.slot_int_index.lookup
      (call_meets F.slot_int_rmul (typeIs_int s k tk) F.entry_int_rmul (F.args_int_rmul_2 _ _) (int_rmul_tuple k tk l conc.toArray cap dd sl)
        ⟨g1, rfl, ⟨_, g1, rfl⟩, call_meets F.slot_tuple_mul ⟨_, g1, rfl⟩ F.entry_tuple_mul (F.args_tuple_mul_2 _ _) (mul_none l conc.toArray cap dd sl k tk
          (by rw [decide_eq_false (by omega), decide_eq_false (by omega)] <;> rfl) (by rw [ne2, e1] <;> rfl) (by rw [decide_eq_true k0] <;> rfl)) ⟨g1, ?_⟩⟩)
    refine ⟨.ref s.heap.objs.size, _, I.laid (t' := s.toks) (o := .tup []) (fun b ob q => Heap.get?_push_of_some _ q) (Nat.le_refl _) ⟨Nat.zero_le _, [], .nil, IsTup.new _ _⟩, rfl, q0 k0 _ (I.hok.fresh (Nat.le_refl _))⟩
end L2
namespace Pd
open PySem L2 PySem.Spec PyProof.Rows
section
variable {K : PySem.W.Frag} {ds : List PyData} {k : Int}
theorem rd_times (hn : ds ≠ []) (h : -1000 ≤ k ∧ k ≤ 1) : RD K (rTimes K) (.tuple ds) (.int k) (.tuple (List.replicate k.toNat ds).flatten) := fun x y Hk Hr kr hx hy Q q => by
  cases hy
  cases hx with
  | tup hs ha =>
    have l1 := DpAll.len ha
    refine ⟨_, k, _, rfl, rfl, same_t kr hs, fun z => hn (List.length_eq_zero_iff.mp (by rw [← l1, z]; rfl)), h.1, h.2, fun k0 p hp => q _ _ (new_same hp _) ?_, fun k1 => q _ Hr (Same.refl _) ?_⟩
    · have : k.toNat = 0 := by omega
      rw [this]
      exact gro_tup kr hp .nil
    · subst k1
      have : (List.replicate (1 : Int).toNat ds).flatten = ds := by simp
      rw [this]
      exact gro_refl kr (.tup hs ha)
theorem rd_rep (hn : ds ≠ []) (h : 2 ≤ k ∧ k ≤ 1000 ∧ ds.length ≤ 1000) : RD K (rRepT K) (.tuple ds) (.int k) (.tuple (List.replicate k.toNat ds).flatten) := fun x y Hk Hr kr hx hy Q q => by
  cases hy
  cases hx with
  | tup hs ha =>
    have l1 := DpAll.len ha
    exact ⟨_, k, _, rfl, rfl, same_t kr hs, fun z => hn (List.length_eq_zero_iff.mp (by rw [← l1, z]; rfl)), h.1, h.2.1, by rw [l1]; exact h.2.2, fun p hp => q _ _ (new_same hp _) (gro_tup kr hp (rep_all ha _))⟩
end
end Pd
namespace Pd
open PySem L2 PySem.Spec PyProof.Rows
section
variable {K : PySem.W.Frag} {bi : List Nat} {σ0 σ : L2.St} {Hk Hr : Hp} {B : Be} {H0 : Fr} {ρ : List Sl}
theorem Ok.nk (I : Ok K bi σ0 B H0 ρ σ Hk Hr) {p : Addr} (h : Hr p = none) : Hk p = none := by
  cases z : Hk p with
  | none => rfl
  | some u => rw [I.kr _ _ z] at h; cases h
theorem Ok.no (I : Ok K bi σ0 B H0 ρ σ Hk Hr) {p : Addr} (h : Hr p = none) : ¬ Ow ρ σ p := by
  rintro ⟨i, ds, q1, q2⟩
  obtain ⟨a, vs, s1, s2, _⟩ := I.own i ds q1
  rw [q2] at s1
  injection s1 with s1; injection s1 with s1; injection s1 with s1; subst s1
  rw [h] at s2
  cases s2
end
section
end
section
end
section
end
section
end
end Pd
namespace Pd
open PySem L2 PySem.Spec PyProof.Rows
theorem wipe_set {σ : L2.St} {i : Nat} {x : Option V} : ∀ {vs : List Nat}, i ∈ vs → wipe (σ.set i x) vs = wipe σ vs
  | [], h => by cases h
  | v :: vs, h => by
    unfold wipe
    by_cases q : i ∈ vs
    · rw [wipe_set q]
    · have e : i = v := by
        rcases List.mem_cons.mp h with e | e
        · exact e
        · exact absurd e q
      subst e
      have aux : ∀ (ws : List Nat) (τ : L2.St), i ∉ ws → wipe (τ.set i x) ws = (wipe τ ws).set i x := fun ws => by
        induction ws with
        | nil => intro τ _; rfl
        | cons w ws ih =>
          intro τ hw
          have hw : ¬ i = w ∧ i ∉ ws := ⟨fun e => hw (by simp [e]), fun e => hw (by simp [e])⟩
          unfold wipe
          rw [ih τ hw.2, List.set_comm _ _ hw.1]
      rw [aux vs σ q, List.set_set]
theorem wipe_twice {σ : L2.St} {vs : List Nat} : wipe (wipe σ vs) vs = wipe σ vs := by
  have : ∀ ws : List Nat, (∀ i ∈ ws, i ∈ vs) → wipe (wipe σ ws) vs = wipe σ vs := fun ws => by
    induction ws with
    | nil => intro _; rfl
    | cons w ws ih =>
      intro h
      show wipe ((wipe σ ws).set w none) vs = _
      rw [wipe_set (h w (by simp)), ih fun i hi => h i (by simp [hi])]
  exact this vs fun i hi => hi
/-- what an iterable's reading asks at the least -/
def sI (X : Cx) (tg iter : Expr) : TI := fun σ H R => ∀ pins s, Inv X pins σ H s → wpAny (model X.prog X.w) X.A (eval iter X.env) (fun v s1 => wpAny (model X.prog X.w) X.A (pyIter v) (PIE X pins σ tg R) X.xe s1) X.xe s
def bI (X : Cx) (scope : Scope) (tg iter : Expr) : TI := fun σ H R => ∀ (s : Shared) (H1 : Hp) (C : Addr) (cl : List (Str × Addr)) (fp : List Addr), sI (X.blk s H1 scope (compEnvC scope cl C X.env) fp) tg iter σ H R
def GI (K : PySem.W.Frag) (wi : TI) (ρ : List Sl) (ds : List PyData) (ρ1 : List Sl) : Prop := ∀ (bi : List Nat) (σ0 : L2.St) (B : Be) (H0 : Fr) (σ : L2.St) (Hk Hr : Hp), Ok K bi σ0 B H0 ρ σ Hk Hr → ∀ R : It → Hp → Prop, (∀ J Hk' Hr', Ok K bi σ0 B H0 ρ1 σ Hk' Hr' → Same Hk Hk' → Wk K J ds Hk' → R J Hr') → wi σ Hr R
def BI (X : Cx) (scope : Scope) (tg iter : Expr) (ρ : List Sl) (ds : List PyData) (ρ' : List Sl) : Prop := ∀ (s : Shared) (H : Hp) (C : Addr) (cl : List (Str × Addr)) (fp : List Addr), EI (X.blk s H scope (compEnvC scope cl C X.env) fp) tg iter ρ ds ρ'
section
variable {X : Cx} {scope : Scope} {tg iter : Expr} {ρ ρ1 : List Sl} {ds : List PyData}
theorem pi_b (s : Shared) (H : Hp) (C : Addr) (cl : List (Str × Addr)) (fp : List Addr) : PI (X.blk s H scope (compEnvC scope cl C X.env) fp) tg iter (bI X scope tg iter) := ⟨fun pins s' σ H' R I h => h s H C cl fp pins s' I⟩
theorem BI.gi (h : BI X scope tg iter ρ ds ρ1) : GI X.K (bI X scope tg iter) ρ ds ρ1 := fun bi σ0 B H0 σ Hk Hr I R q s H C cl fp => by
  obtain ⟨wi, pi, hw⟩ := h s H C cl fp
  exact fun pins s' I' => pi.run pins s' σ Hr R I' (hw bi σ0 B H0 σ Hk Hr I R q)
end
section
end
end Pd
namespace Pd
open PySem L2 PySem.Spec PyProof.Rows
section
end
section
end
section
end
section
end
section
end
end Pd
namespace Pd
open PySem L2 PySem.Spec PyProof.Rows
theorem swo_none : SrtO.Swo fun (_ _ : Value) => false := ⟨fun _ _ h => (nomatch h), fun _ _ _ _ _ => rfl⟩
section
end
end Pd
namespace Pd
open PySem L2 PySem.Spec PyProof.Rows
theorem ty_lst {K : PySem.W.Frag} {H : Hp} {v : V} {ds : List PyData} (h : Dp K H v (.list ds)) : TyX K H v (.type "list") := by
  cases h with
  | lst hs ha =>
    rcases hs with (h | ⟨o, h⟩) | h
    · exact .base (.lst h)
    · exact .base (.frz h)
    · obtain ⟨o, its, n, ho, hc, _⟩ := h
      exact .kList ho hc
section
end
end Pd
namespace Gn
open PySem L2 Pd PySem.Spec PyProof.Rows
inductive Res (β α : Type) where
  | ret (b : β) | nxt (a : α)
def TO (X : Cx) (e : Expr) (ρ : List Sl) (o : Option Bool) : Prop := ∀ b, o = some b → ET X e ρ b ρ
theorem bnd {α β : Type} {o : Option α} {k : α → Option β} {b : β} (h : o.bind k = some b) : ∃ a, o = some a ∧ k a = some b := Option.bind_eq_some_iff.mp h
theorem mpd {α β : Type} {o : Option α} {k : α → β} {b : β} (h : o.map k = some b) : ∃ a, o = some a ∧ k a = b := Option.map_eq_some_iff.mp h
def intsOf : List PyData → Option (List Int)
  | [] => some []
  | .int i :: r => (intsOf r).map (i :: ·)
  | _ :: _ => none
theorem intsOf_eq : ∀ {ds : List PyData} {ns : List Int}, intsOf ds = some ns → ds = ns.map .int
  | [], ns, h => by cases h; rfl
  | d :: r, ns, h => by
    cases d <;> simp only [intsOf, reduceCtorEq] at h
    obtain ⟨m, h1, h2⟩ := mpd h
    subst h2
    rw [intsOf_eq h1]
    rfl
def boolsOf : List PyData → Option (List Bool)
  | [] => some []
  | .bool i :: r => (boolsOf r).map (i :: ·)
  | _ :: _ => none
theorem boolsOf_eq : ∀ {ds : List PyData} {ns : List Bool}, boolsOf ds = some ns → ds = ns.map .bool
  | [], ns, h => by cases h; rfl
  | d :: r, ns, h => by
    cases d <;> simp only [boolsOf, reduceCtorEq] at h
    obtain ⟨m, h1, h2⟩ := mpd h
    subst h2
    rw [boolsOf_eq h1]
    rfl
def short (n : Nat) : Bool := Nat.ble n 100000
theorem short_le {n : Nat} (h : short n = true) : n ≤ 100000 := Nat.le_of_ble_eq_true h
def gd {α : Type} (b : Bool) (o : Option α) : Option α := match b with | true => o | false => none
theorem gd_some {α : Type} {b : Bool} {o : Option α} {a : α} (h : gd b o = some a) : b = true ∧ o = some a := by
  cases b
  · cases h
  · exact ⟨rfl, h⟩
def pAdd : PyData → PyData → Option PyData
  | .int i, .int j => some (.int (i + j))
  | .tuple a, .tuple b => gd (short (a.length + b.length)) (some (.tuple (a ++ b)))
  | _, _ => none
def pSub : PyData → PyData → Option PyData
  | .int i, .int j => some (.int (i - j))
  | _, _ => none
def inR (lo hi i : Int) : Bool := decide (lo ≤ i) && decide (i ≤ hi)
theorem inR_at {lo hi i : Int} (h : inR lo hi i = true) : lo ≤ i ∧ i ≤ hi := by
  unfold inR at h
  rw [Bool.and_eq_true] at h
  exact ⟨of_decide_eq_true h.1, of_decide_eq_true h.2⟩
/-- comparisons of numbers, of tuples of numbers -/
def cLt : PyData → PyData → Option Bool
  | .int i, .int j => some (decide (i < j))
  | .tuple a, .tuple b => (intsOf a).bind fun ns => (intsOf b).bind fun ms => some (HT.lexLt ns ms)
  | _, _ => none
def cLe : PyData → PyData → Option Bool
  | .int i, .int j => some (decide (i ≤ j))
  | _, _ => none
def cGt : PyData → PyData → Option Bool
  | .int i, .int j => some (decide (i > j))
  | _, _ => none
def cEq (a b : PyData) : Option Bool := match a, b with
  | .int i, .int j => some (decide (i = j))
  | a, b => gd (SeqAt.shaped a && SeqAt.shaped b) (some (PyData.eqv a b))
theorem cEq_eqv {a b : PyData} {k : Bool} (h : cEq a b = some k) : SeqAt.shaped a = true ∧ SeqAt.shaped b = true ∧ k = PyData.eqv a b := by
  unfold cEq at h
  split at h
  · injection h with h
    exact ⟨shaped_int _, shaped_int _, by rw [eqv_int]; exact h.symm⟩
  · obtain ⟨h1, h2⟩ := gd_some h
    rw [Bool.and_eq_true] at h1
    injection h2 with h2
    exact ⟨h1.1, h1.2, h2.symm⟩
section
end
end Gn
namespace Gn
open PySem L2 Pd PySem.Spec PyProof.Rows
def truth : PyData → Option Bool
  | .bool b => some b
  | .list ds => some (!ds.isEmpty)
  | .tuple ds => some (!ds.isEmpty)
  | .int i => some (i != 0)
  | .none => some false
  | _ => none
def pSum : PyData → Option PyData
  | .list ds => (intsOf ds).map fun ns => .int ns.sum
  | .tuple ds => (intsOf ds).map fun ns => .int ns.sum
  | _ => none
section
variable {X : Cx} {a b e c elt tg iter : Expr} {es : List Expr} {ρ ρ1 : List Sl} {o o1 o2 : Option PyData} {oc ob : Option Bool} {n k : Nat} {pos p0 p1 p2 : Pos} {x y : Str} {d : PyData}
theorem lt_f (hr : Room k X.A) : ∀ d1 d2 r, cLt d1 d2 = some r → ∃ q : R2, OpR X (compareOp .Lt) q ∧ RD X.K q d1 d2 (.bool r) := fun d1 d2 r h => by
  unfold cLt at h
  split at h
  · cases h; exact ⟨_, op_lt, rd_cmp⟩
  · obtain ⟨ns, h1, h⟩ := bnd h
    obtain ⟨ms, h2, h⟩ := bnd h
    cases h
    rw [intsOf_eq h1, intsOf_eq h2]
    exact ⟨_, op_ltT hr.units0, rd_ltT⟩
  · cases h
theorem le_f : ∀ d1 d2 r, cLe d1 d2 = some r → ∃ q : R2, OpR X (compareOp .LtE) q ∧ RD X.K q d1 d2 (.bool r) := fun d1 d2 r h => by
  unfold cLe at h
  split at h
  · cases h; exact ⟨_, op_le, rd_cmp⟩
  · cases h
theorem gt_f : ∀ d1 d2 r, cGt d1 d2 = some r → ∃ q : R2, OpR X (compareOp .Gt) q ∧ RD X.K q d1 d2 (.bool r) := fun d1 d2 r h => by
  unfold cGt at h
  split at h
  · cases h; exact ⟨_, op_gt, rd_cmp⟩
  · cases h
theorem eq_f (hr : Room k X.A) : ∀ d1 d2 r, cEq d1 d2 = some r → ∃ q : R2, OpR X (compareOp .Eq) q ∧ RD X.K q d1 d2 (.bool r) := fun d1 d2 r h => by
  obtain ⟨h1, h2, rfl⟩ := cEq_eqv h
  exact ⟨_, op_eqD hr.units, rd_eqD h1 h2⟩
theorem ne_f (hr : Room k X.A) : ∀ d1 d2 r, (cEq d1 d2).map (!·) = some r → ∃ q : R2, OpR X (compareOp .NotEq) q ∧ RD X.K q d1 d2 (.bool r) := fun d1 d2 r h => by
  obtain ⟨b, h', hb⟩ := mpd h
  subst hb
  clear h
  revert h'
  intro h
  obtain ⟨h1, h2, rfl⟩ := cEq_eqv h
  exact ⟨_, op_neD hr.units, rd_neD h1 h2⟩
end
end Gn
namespace Gn
open PySem L2 Pd PySem.Spec PyProof.Rows
section
variable {X : Cx} {a b e c elt tg iter : Expr} {es rest : List Expr} {ρ ρ1 : List Sl} {o o1 o2 : Option PyData} {oc ob ow : Option Bool} {n k : Nat} {pos p0 p1 p2 : Pos} {x y : Str} {d : PyData} {kws : List Keyword}
theorem emp_eq {α β : Type} {xs : List α} {ys : List β} (h : xs.length = ys.length) : (!ys.isEmpty) = !xs.isEmpty := by cases xs <;> cases ys <;> simp_all
def pMin : PyData → PyData → Option PyData
  | .int i, .int j => some (.int (if j < i then j else i))
  | _, _ => none
def pMax : PyData → PyData → Option PyData
  | .int i, .int j => some (.int (if j > i then j else i))
  | _, _ => none
theorem ra_max2 {K : PySem.W.Frag} {i j : Int} : RA K (fun xs H Q => ∃ i j, xs = [.int i, .int j] ∧ Q (.int (if j > i then j else i)) H) [.int i, .int j] (.int (if j > i then j else i)) := fun vs Hk Hr kr h Q q => by
  cases h with
  | cons h1 h2 =>
    cases h1
    cases h2 with
    | cons h2 h3 =>
      cases h2; cases h3
      exact ⟨i, j, rfl, q _ Hr (Same.refl _) (.int _)⟩
end
end Gn
namespace Gn
open PySem L2 Pd PySem.Spec PyProof.Rows
section
end
section
variable {X : Cx} {a b e c elt tg iter : Expr} {es rest : List Expr} {ρ ρ1 : List Sl} {o o1 o2 : Option PyData} {oi : Option (List PyData)} {n k : Nat} {pos p0 p1 p2 : Pos} {x y : Str} {d : PyData} {scope : Scope} {own : List (Str × Nat)}
def small (i : Int) : Bool := inR (-1000000) 1000000 i
theorem small_at {i : Int} (h : small i = true) : -1000000 ≤ i ∧ i ≤ 1000000 := inR_at h
end
end Gn
namespace Zq
open PySem PySem.Spec PyProof.Rows L2
def gIt (t : Bool) (h : Heap) (it l : Addr) (i : Nat) : Prop := match t with
  | false => h.IsListIter it l i
  | true => h.IsTupleIter it l i
def gIs (t : Bool) (h : Heap) (l : Addr) (xs : Array Value) : Prop := match t with
  | false => h.IsList l xs
  | true => h.IsTuple l xs
def gSq (K : PySem.W.Frag) (t : Bool) (H : Hp) (l : Addr) (xs : List V) : Prop := match t with
  | false => SqL K H l xs
  | true => SqT K H l xs
def gOb (t : Bool) (l : Addr) : Obj := match t with
  | false => { cls := .type "list_iterator", data := .fields #[.ref l, .int 0 0] }
  | true => { cls := .type "tuple_iterator", data := .fields #[.ref l, .int 0 0] }
theorem gDraws {prog : Program} {w : World} {A : Around} (t : Bool) (hh : A.handled = none) (it l : Addr) (hne : l ≠ it) (items : Array Value) : Draws prog w A it [it, l] items.size (fun i v => items[i]? = some v) (fun i h => gIt t h it l i ∧ gIs t h l items) := by
  cases t
  · exact Draws.list hh it l hne items
  · exact Draws.tuple hh it l hne items
theorem gBegins (t : Bool) (l : Addr) (items : Array Value) : Begins (.ref l) (gOb t l) fun h => gIs t h l items := by
  cases t
  · exact begins_list l items
  · exact begins_tuple l items
theorem gIt_new {t : Bool} {h : Heap} {it l : Addr} (e : h.get? it = some (gOb t l)) : gIt t h it l 0 := by
  cases t
  · exact ⟨_, e, rfl, rfl⟩
  · exact ⟨_, e, rfl, rfl⟩
theorem gIt_at {t : Bool} {h h' : Heap} {it l : Addr} {i : Nat} (x : gIt t h it l i) (k : ∀ o, h.get? it = some o → h'.get? it = some o) : gIt t h' it l i := by
  cases t
  · exact x.at k
  · exact x.at k
theorem gIt_obj {t : Bool} {h : Heap} {it l : Addr} {i : Nat} (x : gIt t h it l i) : ∃ o, h.get? it = some o ∧ ∀ v, o.data ≠ .cell v := by
  cases t
  · obtain ⟨o, e, _, d⟩ := x
    exact ⟨o, e, fun v q => by rw [d] at q; cases q⟩
  · obtain ⟨o, e, _, d⟩ := x
    exact ⟨o, e, fun v q => by rw [d] at q; cases q⟩
theorem gSq_at {X : Cx} {pins : List (Addr × Obj)} {σ : L2.St} {H : Hp} {s : Shared} {t : Bool} {l : Addr} {xs : List V} (I : Inv X pins σ H s) (q : gSq X.K t H l xs) : ∃ its : List Value, Vals xs its ∧ gIs t s.heap l its.toArray ∧ l < s.heap.objs.size := by
  cases t
  · obtain ⟨its, rv, p, _⟩ := I.list q
    exact ⟨its, rv, p.isList, p.lt⟩
  · obtain ⟨its, rv, p, _⟩ := I.tuple q
    have p' : s.heap.IsTuple l its.toArray := p
    obtain ⟨o, ho, _⟩ := id p'
    exact ⟨its, rv, p', Heap.lt_size ho⟩
theorem gSq_inj {X : Cx} {pins : List (Addr × Obj)} {σ : L2.St} {H : Hp} {s : Shared} {t : Bool} {l : Addr} {xs ys : List V} (I : Inv X pins σ H s) (q : gSq X.K t H l xs) (q' : gSq X.K t H l ys) : xs = ys := by
  cases t
  · exact I.list_inj q q'
  · exact I.tuple_inj q q'
def ItG (K : PySem.W.Frag) (t1 t2 : Bool) (a b : Addr) : It :=
  ⟨fun i H => ∃ (xs ys : List V) (x y : V), gSq K t1 H a xs ∧ gSq K t2 H b ys ∧ xs[i]? = some x ∧ ys[i]? = some y,
    fun i H v H' => ∃ T x y, v = .ref T ∧ H T = none ∧ H' = upd H T (.tup [x, y]) ∧ (∀ xs, gSq K t1 H a xs → xs[i]? = some x) ∧ ∀ ys, gSq K t2 H b ys → ys[i]? = some y,
    fun i H => ∃ xs ys : List V, gSq K t1 H a xs ∧ gSq K t2 H b ys ∧ i ≤ xs.length ∧ i ≤ ys.length ∧ (i = xs.length ∨ i = ys.length)⟩
/-- the iterator's own things lie behind the two that it walks -/
structure Ord2 (z TI TO i1 i2 a b : Addr) : Prop where
  a1 : a < i1
  b1 : b < i1
  e1 : i2 = i1 + 1
  e2 : TI = i1 + 2
  e3 : TO = i1 + 3
  e4 : z = i1 + 4
theorem Ord2.sep {z TI TO i1 i2 a b : Addr} (D : Ord2 z TI TO i1 i2 a b) : ZipSep2 z TI TO i1 i2 [i1, a] [i2, b] := by
  obtain ⟨d1, d2, d3, d4, d5, d6⟩ := D
  subst d3 d4 d5 d6
  constructor <;> simp <;> first | omega | (simp only [Addr] at *; omega)
end Zq
namespace Zq
open PySem PySem.Spec PyProof.Rows L2
theorem in5 {α : Type} {x a b c d e : α} (h : x ∈ [a, b, c, d, e]) : x = a ∨ x = b ∨ x = c ∨ x = d ∨ x = e := by simpa using h
theorem turn2 {P : Program} {w : World} {K : PySem.W.Frag} {elts : List Expr} {kk : Nat} {tpos : Pos} {t1 t2 : Bool} {a b z TI TO i1 i2 : Addr} (D : Ord2 z TI TO i1 i2 a b) :
    Turn P w K (.Tuple elts kk tpos) (ItG K t1 t2 a b) [z, TI, TO, i1, i2] z (fun i h => IsZip h z TI TO .none ∧ IsTupOf2 h TI (.ref i1) (.ref i2) ∧ (∃ x y, IsTupOf2 h TO x y) ∧ gIt t1 h i1 a i ∧ gIt t2 h i2 b i) where
  mem := by simp
  obj := fun i h st c hc => by
    obtain ⟨hz, hTI, ⟨x, y, hTO⟩, g1, g2⟩ := st
    rcases in5 hc with q | q | q | q | q <;> subst q
    · exact ⟨_, hz, fun v q => nomatch q⟩
    · exact ⟨_, hTI, fun v q => nomatch q⟩
    · exact ⟨_, hTO, fun v q => nomatch q⟩
    · exact gIt_obj g1
    · exact gIt_obj g2
  keep := fun i h h' st k => by
    obtain ⟨hz, hTI, ⟨x, y, hTO⟩, g1, g2⟩ := st
    exact ⟨k z (by simp) _ hz, k TI (by simp) _ hTI, ⟨x, y, k TO (by simp) _ hTO⟩, gIt_at g1 (k i1 (by simp)), gIt_at g2 (k i2 (by simp))⟩
  item := by
    intro X hP hw hK hc i pins s σ H E I hf st hg
    subst hP hw hK
    obtain ⟨hz, hTI, ⟨x0, y0, hTO⟩, g1, g2⟩ := st
    obtain ⟨xs, ys, x, y, hqx, hqy, hx, hy⟩ := hg
    obtain ⟨us, ru, pu, lu⟩ := gSq_at I hqx
    obtain ⟨vs, rv, pv, lv⟩ := gSq_at I hqy
    obtain ⟨u, hu, xu⟩ := ru.get hx
    obtain ⟨v, hv, yv⟩ := rv.get hy
    have S := D.sep
    have hA : X.A.in1.handled = none := I.ok.hd hc
    have n1 : i < us.toArray.size := by simpa using (List.getElem?_eq_some_iff.mp hu).1
    have n2 : i < vs.toArray.size := by simpa using (List.getElem?_eq_some_iff.mp hv).1
    refine wpAny_pyNext_zipD2_item S (gDraws t1 hA i1 a (Nat.ne_of_lt D.a1) us.toArray) (gDraws t2 hA i2 b (by have := D.b1; have := D.e1; simp only [Addr] at *; omega) vs.toArray) hz hTI hTO ⟨g1, pu⟩ ⟨g2, pv⟩ n1 n2 fun x1 x2 h' tk p1 p2 z' TO' q1 q2 hT hsz hk => ?_
    have e1 : u = x1 := by
      have : us.toArray[i]? = some x1 := p1
      rw [List.getElem?_toArray, hu] at this
      exact Option.some.inj this
    have e2 : v = x2 := by
      have : vs.toArray[i]? = some x2 := p2
      rw [List.getElem?_toArray, hv] at this
      exact Option.some.inj this
    subst e1 e2
    refine ⟨_, rfl, wpAny_letOwnedTupleGo_zip (s := { s with heap := h', toks := tk }) z' fun h'' z'' sb => ?_⟩
    have hzl : z < s.heap.objs.size := Heap.lt_size hz
    have hT2 : h''.get? s.heap.objs.size = some { cls := .type "tuple", data := .seq #[u, v] } := (sb.2 _ (Nat.ne_of_gt hzl)).trans hT
    have new : ObjOk X.prog X.w (upd H s.heap.objs.size (.tup [x, y])) h'' s.heap.objs.size (.tup [x, y]) :=
      ⟨by show 2 ≤ sizeLine; decide, [u, v], .cons xu (.cons yv .nil), ⟨_, hT2, rfl, _, rfl⟩⟩
    have I1 : Inv X pins σ (upd H s.heap.objs.size (.tup [x, y])) { s with heap := h'', toks := tk } :=
      I.turnedNew (t' := tk) (ch := [z, TI, TO, i1, i2]) (fun c o hb q => by
        have c1 : c ≠ z := fun q' => hb (by simp [q'])
        exact (sb.2 c c1).trans (hk c o c1 (fun q' => hb (by simp [q'])) (fun q' => hb (by simp [q'])) (fun q' => hb (by simp [q'])) q)) hf (Nat.le_refl _) new
    refine ⟨.ref s.heap.objs.size, _, I1, rfl, ⟨_, x, y, rfl, I.hok.fresh (Nat.le_refl _), rfl, fun l hl => by rw [gSq_inj I hl hqx]; exact hx, fun l hl => by rw [gSq_inj I hl hqy]; exact hy⟩, ⟨z'', ?_, ⟨u, v, ?_⟩, ?_, ?_⟩, fun c hcm => ?_⟩
    · exact (sb.2 _ S.TIz).trans (hk _ _ S.TIz S.TITO S.TIi1 S.TIi2 hTI)
    · exact (sb.2 _ S.TOz).trans TO'
    · exact gIt_at q1.1 fun o q => (sb.2 _ S.zi1.symm).trans q
    · exact gIt_at q2.1 fun o q => (sb.2 _ S.zi2.symm).trans q
    · have hlt : c < s.heap.objs.size := by
        rcases in5 hcm with q | q | q | q | q <;> subst q
        · exact hzl
        · exact Heap.lt_size hTI
        · exact Heap.lt_size hTO
        · obtain ⟨o, e, _⟩ := gIt_obj g1; exact Heap.lt_size e
        · obtain ⟨o, e, _⟩ := gIt_obj g2; exact Heap.lt_size e
      rw [upd_ne (Nat.ne_of_lt hlt)]
      exact (hf c hcm).1
  done := by
    intro X hP hw hK hc i pins s σ H E I hf st hg
    subst hP hw hK
    obtain ⟨hz, hTI, ⟨x0, y0, hTO⟩, g1, g2⟩ := st
    obtain ⟨xs, ys, hqx, hqy, l1, l2, hend⟩ := hg
    obtain ⟨us, ru, pu, lu⟩ := gSq_at I hqx
    obtain ⟨vs, rv, pv, lv⟩ := gSq_at I hqy
    have m1 : us.toArray.size = xs.length := by rw [ru.length]; simp
    have m2 : vs.toArray.size = ys.length := by rw [rv.length]; simp
    have hA : X.A.in1.handled = none := I.ok.hd hc
    refine wpAny_pyNext_zipD2_end (i := i) D.sep (gDraws t1 hA i1 a (Nat.ne_of_lt D.a1) us.toArray) (gDraws t2 hA i2 b (by have := D.b1; have := D.e1; simp only [Addr] at *; omega) vs.toArray) hz hTI hTO ⟨g1, pu⟩ ⟨g2, pv⟩ (by omega) (by omega) (by omega) fun h' tk hk => ?_
    exact ⟨rfl, I.turnedL (t' := tk) (ch := [z, TI, TO, i1, i2]) (fun c o hb q => hk c o (fun q' => hb (by simp [q'])) (fun q' => hb (by simp [q'])) (fun q' => hb (by simp [q'])) (fun q' => hb (by simp [q'])) q) hf⟩
  self := fun A i s Q E st h => wpAny_pyIter_zip st.1 h
def iZ2 (K : PySem.W.Frag) (ta : TA) : TI := fun σ H R => ta σ H fun vs H1 => ∃ t1 t2 a b xs ys, vs = [.ref a, .ref b] ∧ gSq K t1 H1 a xs ∧ gSq K t2 H1 b ys ∧ R (ItG K t1 t2 a b) H1
theorem pi_z2 {X : Cx} {e e2 : Expr} {ta : TA} {p pos tpos : Pos} {elts : List Expr} {kk : Nat} (hg : Gl X "zip") (hm : X.mg "zip" = none) (ha : PA X [e, e2] ta)
    (hs : starEach [e, e2] X.env = (false, eval e X.env) :: starEach [e2] X.env := by rfl) (hpl : (backTo pos (starEach [e2] X.env)).any (·.1) = false := by rfl) :
    PI X (.Tuple elts kk tpos) (.Call (.Name "zip" p) [e, e2] [] pos) (iZ2 X.K ta) := by
  refine ⟨fun pins s σ H R I h => Call_ (ld_blt I hg hm PyProof.Rows.boot_zip (PyProof.Rows.callWith_type1 (thn (ha.run pos pins s σ H _ I h) fun us s1 ⟨vs, H1, I1, r1, q1⟩ => ?_) hs hpl))⟩
  obtain ⟨t1, t2, a, b, xs, ys, ex, hqx, hqy, q1⟩ := q1
  subst ex
  have r2 : ∃ u1 u2, us = [u1, u2] ∧ RelV (.ref a) u1 ∧ RelV (.ref b) u2 := by
    cases r1 with
    | cons r rr =>
      cases rr with
      | cons r' rr =>
        cases rr
        exact ⟨_, _, rfl, r, r'⟩
  obtain ⟨u1, u2, rfl, r, r'⟩ := r2
  cases r
  cases r'
  obtain ⟨us, ru, pu, lu⟩ := gSq_at I1 hqx
  obtain ⟨vs, rv, pv, lv⟩ := gSq_at I1 hqy
  refine zip_begins2 (gBegins t1 a us.toArray) (gBegins t2 b vs.toArray) pu pv fun h' hz hTI hTO g1 g2 hsz hk => wpAny_pyIter_zip hz ?_
  have I2 : Inv X pins σ H1 { s1 with heap := h' } := I1.kept (t' := s1.toks) hk
  refine ⟨s1.heap.objs.size + 4, [s1.heap.objs.size + 4, s1.heap.objs.size + 2, s1.heap.objs.size + 3, s1.heap.objs.size, s1.heap.objs.size + 1], _, _, H1, rfl, I2, turn2 ⟨lu, lv, rfl, rfl, rfl, rfl⟩, ⟨hz, hTI, ⟨_, _, hTO⟩, gIt_new g1, gIt_new g2⟩, fun c hcm => ?_, q1⟩
  have hle : s1.heap.objs.size ≤ c := by
    rcases in5 hcm with q | q | q | q | q <;> rw [q] <;> first | exact Nat.le_add_right _ _ | exact Nat.le_refl _
  exact I1.fpOk hle (I1.hok.fresh hle)
end Zq
namespace Zq
open PySem PySem.Spec PyProof.Rows L2
theorem in6 {α : Type} {x a b c d e f : α} (h : x ∈ [a, b, c, d, e, f]) : x = a ∨ x = b ∨ x = c ∨ x = d ∨ x = e ∨ x = f := by simpa using h
def ItH (K : PySem.W.Frag) (t1 t2 t3 : Bool) (a b c : Addr) : It :=
  ⟨fun i H => ∃ (xs ys zs : List V) (x y z : V), gSq K t1 H a xs ∧ gSq K t2 H b ys ∧ gSq K t3 H c zs ∧ xs[i]? = some x ∧ ys[i]? = some y ∧ zs[i]? = some z,
    fun i H v H' => ∃ T x y z, v = .ref T ∧ H T = none ∧ H' = upd H T (.tup [x, y, z]) ∧ (∀ xs, gSq K t1 H a xs → xs[i]? = some x) ∧ (∀ ys, gSq K t2 H b ys → ys[i]? = some y) ∧ ∀ zs, gSq K t3 H c zs → zs[i]? = some z,
    fun i H => ∃ xs ys zs : List V, gSq K t1 H a xs ∧ gSq K t2 H b ys ∧ gSq K t3 H c zs ∧ i ≤ xs.length ∧ i ≤ ys.length ∧ i ≤ zs.length ∧ (i = xs.length ∨ i = ys.length ∨ i = zs.length)⟩
structure Ord3 (z TI TO i1 i2 i3 a b c : Addr) : Prop where
  a1 : a < i1
  b1 : b < i1
  c1 : c < i1
  e1 : i2 = i1 + 1
  e2 : i3 = i1 + 2
  e3 : TI = i1 + 3
  e4 : TO = i1 + 4
  e5 : z = i1 + 5
theorem Ord3.sep {z TI TO i1 i2 i3 a b c : Addr} (D : Ord3 z TI TO i1 i2 i3 a b c) : ZipSep3 z TI TO i1 i2 i3 [i1, a] [i2, b] [i3, c] := by
  obtain ⟨d1, d2, d0, d3, d4, d5, d6, d7⟩ := D
  subst d3 d4 d5 d6 d7
  constructor <;> simp <;> first | omega | (simp only [Addr] at *; omega)
theorem turn3 {P : Program} {w : World} {K : PySem.W.Frag} {elts : List Expr} {kk : Nat} {tpos : Pos} {t1 t2 t3 : Bool} {a b c z TI TO i1 i2 i3 : Addr} (D : Ord3 z TI TO i1 i2 i3 a b c) :
    Turn P w K (.Tuple elts kk tpos) (ItH K t1 t2 t3 a b c) [z, TI, TO, i1, i2, i3] z (fun i h => IsZip h z TI TO .none ∧ IsTupOf3 h TI (.ref i1) (.ref i2) (.ref i3) ∧ (∃ x y u, IsTupOf3 h TO x y u) ∧ gIt t1 h i1 a i ∧ gIt t2 h i2 b i ∧ gIt t3 h i3 c i) where
  mem := by simp
  obj := fun i h st c hc => by
    obtain ⟨hz, hTI, ⟨x, y, u, hTO⟩, g1, g2, g3⟩ := st
    rcases in6 hc with q | q | q | q | q | q <;> subst q
    · exact ⟨_, hz, fun v q => nomatch q⟩
    · exact ⟨_, hTI, fun v q => nomatch q⟩
    · exact ⟨_, hTO, fun v q => nomatch q⟩
    · exact gIt_obj g1
    · exact gIt_obj g2
    · exact gIt_obj g3
  keep := fun i h h' st k => by
    obtain ⟨hz, hTI, ⟨x, y, u, hTO⟩, g1, g2, g3⟩ := st
    exact ⟨k z (by simp) _ hz, k TI (by simp) _ hTI, ⟨x, y, u, k TO (by simp) _ hTO⟩, gIt_at g1 (k i1 (by simp)), gIt_at g2 (k i2 (by simp)), gIt_at g3 (k i3 (by simp))⟩
  item := by
    intro X hP hw hK hc i pins s σ H E I hf st hg
    subst hP hw hK
    obtain ⟨hz, hTI, ⟨x0, y0, u0, hTO⟩, g1, g2, g3⟩ := st
    obtain ⟨xs, ys, zs, x, y, u, hqx, hqy, hqu, hx, hy, hu⟩ := hg
    obtain ⟨as, ra, pa, la⟩ := gSq_at I hqx
    obtain ⟨bs, rb, pb, lb⟩ := gSq_at I hqy
    obtain ⟨cs, rc, pc, lc⟩ := gSq_at I hqu
    obtain ⟨va, ha, xa⟩ := ra.get hx
    obtain ⟨vb, hb, xb⟩ := rb.get hy
    obtain ⟨vc, hcc, xc⟩ := rc.get hu
    have S := D.sep
    have hA : X.A.in1.handled = none := I.ok.hd hc
    have n1 : i < as.toArray.size := by simpa using (List.getElem?_eq_some_iff.mp ha).1
    have n2 : i < bs.toArray.size := by simpa using (List.getElem?_eq_some_iff.mp hb).1
    have n3 : i < cs.toArray.size := by simpa using (List.getElem?_eq_some_iff.mp hcc).1
    refine wpAny_pyNext_zipD3_item S (gDraws t1 hA i1 a (Nat.ne_of_lt D.a1) as.toArray) (gDraws t2 hA i2 b (by have := D.b1; have := D.e1; simp only [Addr] at *; omega) bs.toArray) (gDraws t3 hA i3 c (by have := D.c1; have := D.e2; simp only [Addr] at *; omega) cs.toArray) hz hTI hTO ⟨g1, pa⟩ ⟨g2, pb⟩ ⟨g3, pc⟩ n1 n2 n3 fun x1 x2 x3 h' tk p1 p2 p3 z' TO' q1 q2 q3 hT hsz hk => ?_
    have e1 : va = x1 := by
      have : as.toArray[i]? = some x1 := p1
      rw [List.getElem?_toArray, ha] at this
      exact Option.some.inj this
    have e2 : vb = x2 := by
      have : bs.toArray[i]? = some x2 := p2
      rw [List.getElem?_toArray, hb] at this
      exact Option.some.inj this
    have e3 : vc = x3 := by
      have : cs.toArray[i]? = some x3 := p3
      rw [List.getElem?_toArray, hcc] at this
      exact Option.some.inj this
    subst e1 e2 e3
    refine ⟨_, rfl, wpAny_letOwnedTupleGo_zip (s := { s with heap := h', toks := tk }) z' fun h'' z'' sb => ?_⟩
    have hzl : z < s.heap.objs.size := Heap.lt_size hz
    have hT2 : h''.get? s.heap.objs.size = some { cls := .type "tuple", data := .seq #[va, vb, vc] } := (sb.2 _ (Nat.ne_of_gt hzl)).trans hT
    have new : ObjOk X.prog X.w (upd H s.heap.objs.size (.tup [x, y, u])) h'' s.heap.objs.size (.tup [x, y, u]) :=
      ⟨by show 3 ≤ sizeLine; decide, [va, vb, vc], .cons xa (.cons xb (.cons xc .nil)), ⟨_, hT2, rfl, _, rfl⟩⟩
    have I1 : Inv X pins σ (upd H s.heap.objs.size (.tup [x, y, u])) { s with heap := h'', toks := tk } :=
      I.turnedNew (t' := tk) (ch := [z, TI, TO, i1, i2, i3]) (fun c o hb q => by
        have c1 : c ≠ z := fun q' => hb (by simp [q'])
        exact (sb.2 c c1).trans (hk c o c1 (fun q' => hb (by simp [q'])) (fun q' => hb (by simp [q'])) (fun q' => hb (by simp [q'])) (fun q' => hb (by simp [q'])) q)) hf (Nat.le_refl _) new
    refine ⟨.ref s.heap.objs.size, _, I1, rfl, ⟨_, x, y, u, rfl, I.hok.fresh (Nat.le_refl _), rfl, fun l hl => by rw [gSq_inj I hl hqx]; exact hx, fun l hl => by rw [gSq_inj I hl hqy]; exact hy, fun l hl => by rw [gSq_inj I hl hqu]; exact hu⟩, ⟨z'', ?_, ⟨va, vb, vc, ?_⟩, ?_, ?_, ?_⟩, fun c hcm => ?_⟩
    · exact (sb.2 _ S.TIz).trans (hk _ _ S.TIz S.TITO S.TIi1 S.TIi2 S.TIi3 hTI)
    · exact (sb.2 _ S.TOz).trans TO'
    · exact gIt_at q1.1 fun o q => (sb.2 _ S.zi1.symm).trans q
    · exact gIt_at q2.1 fun o q => (sb.2 _ S.zi2.symm).trans q
    · exact gIt_at q3.1 fun o q => (sb.2 _ S.zi3.symm).trans q
    · have hlt : c < s.heap.objs.size := by
        rcases in6 hcm with q | q | q | q | q | q <;> subst q
        · exact hzl
        · exact Heap.lt_size hTI
        · exact Heap.lt_size hTO
        · obtain ⟨o, e, _⟩ := gIt_obj g1; exact Heap.lt_size e
        · obtain ⟨o, e, _⟩ := gIt_obj g2; exact Heap.lt_size e
        · obtain ⟨o, e, _⟩ := gIt_obj g3; exact Heap.lt_size e
      rw [upd_ne (Nat.ne_of_lt hlt)]
      exact (hf c hcm).1
  done := by
    intro X hP hw hK hc i pins s σ H E I hf st hg
    subst hP hw hK
    obtain ⟨hz, hTI, ⟨x0, y0, u0, hTO⟩, g1, g2, g3⟩ := st
    obtain ⟨xs, ys, zs, hqx, hqy, hqu, l1, l2, l3, hend⟩ := hg
    obtain ⟨as, ra, pa, la⟩ := gSq_at I hqx
    obtain ⟨bs, rb, pb, lb⟩ := gSq_at I hqy
    obtain ⟨cs, rc, pc, lc⟩ := gSq_at I hqu
    have m1 : as.toArray.size = xs.length := by rw [ra.length]; simp
    have m2 : bs.toArray.size = ys.length := by rw [rb.length]; simp
    have m3 : cs.toArray.size = zs.length := by rw [rc.length]; simp
    have hA : X.A.in1.handled = none := I.ok.hd hc
    refine wpAny_pyNext_zipD3_end (i := i) D.sep (gDraws t1 hA i1 a (Nat.ne_of_lt D.a1) as.toArray) (gDraws t2 hA i2 b (by have := D.b1; have := D.e1; simp only [Addr] at *; omega) bs.toArray) (gDraws t3 hA i3 c (by have := D.c1; have := D.e2; simp only [Addr] at *; omega) cs.toArray) hz hTI hTO ⟨g1, pa⟩ ⟨g2, pb⟩ ⟨g3, pc⟩ (by omega) (by omega) (by omega) (by omega) fun h' tk hk => ?_
    exact ⟨rfl, I.turnedL (t' := tk) (ch := [z, TI, TO, i1, i2, i3]) (fun c o hb q => hk c o (fun q' => hb (by simp [q'])) (fun q' => hb (by simp [q'])) (fun q' => hb (by simp [q'])) (fun q' => hb (by simp [q'])) (fun q' => hb (by simp [q'])) q) hf⟩
  self := fun A i s Q E st h => wpAny_pyIter_zip st.1 h
def iZ3 (K : PySem.W.Frag) (ta : TA) : TI := fun σ H R => ta σ H fun vs H1 => ∃ t1 t2 t3 a b c xs ys zs, vs = [.ref a, .ref b, .ref c] ∧ gSq K t1 H1 a xs ∧ gSq K t2 H1 b ys ∧ gSq K t3 H1 c zs ∧ R (ItH K t1 t2 t3 a b c) H1
theorem pi_z3 {X : Cx} {e e2 e3 : Expr} {ta : TA} {p pos tpos : Pos} {elts : List Expr} {kk : Nat} (hg : Gl X "zip") (hm : X.mg "zip" = none) (ha : PA X [e, e2, e3] ta)
    (hs : starEach [e, e2, e3] X.env = (false, eval e X.env) :: starEach [e2, e3] X.env := by rfl) (hpl : (backTo pos (starEach [e2, e3] X.env)).any (·.1) = false := by rfl) :
    PI X (.Tuple elts kk tpos) (.Call (.Name "zip" p) [e, e2, e3] [] pos) (iZ3 X.K ta) := by
  refine ⟨fun pins s σ H R I h => Call_ (ld_blt I hg hm PyProof.Rows.boot_zip (PyProof.Rows.callWith_type1 (thn (ha.run pos pins s σ H _ I h) fun us s1 ⟨vs, H1, I1, r1, q1⟩ => ?_) hs hpl))⟩
  obtain ⟨t1, t2, t3, a, b, c, xs, ys, zs, ex, hqx, hqy, hqu, q1⟩ := q1
  subst ex
  have r2 : ∃ u1 u2 u3, us = [u1, u2, u3] ∧ RelV (.ref a) u1 ∧ RelV (.ref b) u2 ∧ RelV (.ref c) u3 := by
    cases r1 with
    | cons r rr =>
      cases rr with
      | cons r' rr =>
        cases rr with
        | cons r'' rr =>
          cases rr
          exact ⟨_, _, _, rfl, r, r', r''⟩
  obtain ⟨u1, u2, u3, rfl, r, r', r''⟩ := r2
  cases r
  cases r'
  cases r''
  obtain ⟨as, ra, pa, la⟩ := gSq_at I1 hqx
  obtain ⟨bs, rb, pb, lb⟩ := gSq_at I1 hqy
  obtain ⟨cs, rc, pc, lc⟩ := gSq_at I1 hqu
  refine zip_begins3 (gBegins t1 a as.toArray) (gBegins t2 b bs.toArray) (gBegins t3 c cs.toArray) pa pb pc fun h' hz hTI hTO g1 g2 g3 hsz hk => wpAny_pyIter_zip hz ?_
  have I2 : Inv X pins σ H1 { s1 with heap := h' } := I1.kept (t' := s1.toks) hk
  refine ⟨s1.heap.objs.size + 5, [s1.heap.objs.size + 5, s1.heap.objs.size + 3, s1.heap.objs.size + 4, s1.heap.objs.size, s1.heap.objs.size + 1, s1.heap.objs.size + 2], _, _, H1, rfl, I2, turn3 ⟨la, lb, lc, rfl, rfl, rfl, rfl, rfl⟩, ⟨hz, hTI, ⟨_, _, _, hTO⟩, gIt_new g1, gIt_new g2, gIt_new g3⟩, fun c hcm => ?_, q1⟩
  have hle : s1.heap.objs.size ≤ c := by
    rcases in6 hcm with q | q | q | q | q | q <;> rw [q] <;> first | exact Nat.le_add_right _ _ | exact Nat.le_refl _
  exact I1.fpOk hle (I1.hok.fresh hle)
end Zq
namespace Gn
open PySem L2 Pd PySem.Spec PyProof.Rows Zq
theorem same_g {K : PySem.W.Frag} {H H' : Hp} {t : Bool} {a : Addr} {xs : List V} (e : Same H H') (h : gSq K t H a xs) : gSq K t H' a xs := by
  cases t
  · exact same_l e h
  · exact same_t e h
section
end
section
end
section
end
end Gn
namespace Gn
open PySem L2 Pd PySem.Spec PyProof.Rows Zq
open Classical in
/-- the lists of one's own, seen as data -/
def vw (ρ : List Sl) : List Sl := ρ.map fun s => match s with | .own ds => .val (.list ds) | s => s
theorem vw_val {ρ : List Sl} {i : Nat} {d : PyData} (h : (vw ρ)[i]? = some (.val d)) : ρ[i]? = some (.val d) ∨ ∃ ds, ρ[i]? = some (.own ds) ∧ d = .list ds := by
  unfold vw at h
  rw [List.getElem?_map] at h
  cases q : ρ[i]? with
  | none => rw [q] at h; cases h
  | some s =>
    rw [q] at h
    have h := Option.some.inj h
    cases s with
    | no => cases h
    | val e => cases h; exact .inl rfl
    | own ds => cases h; exact .inr ⟨ds, rfl, rfl⟩
    | box b => cases h
theorem vw_box {ρ : List Sl} {i : Nat} {b : Bx} (h : (vw ρ)[i]? = some (.box b)) : ρ[i]? = some (.box b) := by
  unfold vw at h
  rw [List.getElem?_map] at h
  cases q : ρ[i]? with
  | none => rw [q] at h; cases h
  | some s =>
    rw [q] at h
    have h := Option.some.inj h
    cases s <;> cases h
    rfl
theorem vw_own {ρ : List Sl} {i : Nat} {ds : List PyData} (h : (vw ρ)[i]? = some (.own ds)) : False := by
  unfold vw at h
  rw [List.getElem?_map] at h
  cases q : ρ[i]? with
  | none => rw [q] at h; cases h
  | some s =>
    rw [q] at h
    have h := Option.some.inj h
    cases s <;> cases h
section
variable {K : PySem.W.Frag} {bi : List Nat} {σ0 σ : L2.St} {Hk Hr : Hp} {B : Be} {H0 : Fr} {ρ : List Sl}
open Classical in
theorem _root_.Pd.Ok.view (I : Ok K bi σ0 B H0 ρ σ Hk Hr) : ∃ Hk', Same Hk Hk' ∧ Ok K bi σ0 B H0 (vw ρ) σ Hk' Hr ∧ ∀ Hk2 Hr2, Same Hk' Hk2 → Ok K bi σ0 B H0 (vw ρ) σ Hk2 Hr2 → ∃ Hk3, Same Hk Hk3 ∧ Ok K bi σ0 B H0 ρ σ Hk3 Hr2 := by
  have nk : ∀ b, Ow ρ σ b → Hk b = none ∧ H0 b = none ∧ ∃ vs, Hr b = some (.lst vs) := fun b hb => by
    obtain ⟨i, ds, h1, h2⟩ := hb
    obtain ⟨a, vs, t1, t2, t3, t4, t5⟩ := I.own i ds h1
    rw [h2] at t1
    cases t1
    exact ⟨t3, t4, vs, t2⟩
  have up : Same Hk (fun b => if Ow ρ σ b then Hr b else Hk b) := fun b o h => by
    show (if Ow ρ σ b then Hr b else Hk b) = some o
    split
    · rename_i q
      rw [(nk b q).1] at h
      cases h
    · exact h
  refine ⟨fun b => if Ow ρ σ b then Hr b else Hk b, up, ⟨I.base.trans up, I.real, fun b o h => ?_, fun b o h h0 => ?_, I.bor, by simp [vw, I.len], fun i d h => ?_, fun i ds h => (vw_own h).elim, fun i j ds es h _ _ => (vw_own h).elim, I.zh, I.zb, I.bxs.sub up (fun i b q => ⟨vw_box q, rfl⟩), I.eh, I.ze⟩, fun Hk2 Hr2 m2 I2 => ?_⟩
  · have h : (if Ow ρ σ b then Hr b else Hk b) = some o := h
    split at h
    · exact h
    · exact I.kr _ _ h
  · have h : (if Ow ρ σ b then Hr b else Hk b) = some o := h
    split at h
    · rename_i q
      exact absurd (nk b q).2.1 h0
    · exact I.old _ _ h h0
  · rcases vw_val h with q | ⟨ds, q, rfl⟩
    · obtain ⟨v, q1, q2⟩ := I.val i d q
      exact ⟨v, q1, Dp.mono up d q2⟩
    · obtain ⟨a, vs, t1, t2, t3, t4, t5⟩ := I.own i ds q
      refine ⟨_, t1, .lst (xs := vs) (.inl (.inl ?_)) (DpAll.mono up ds t5)⟩
      show (if Ow ρ σ a then Hr a else Hk a) = _
      rw [if_pos ⟨i, ds, q, t1⟩]
      exact t2
  · have dn : Same Hk (fun b => if Ow ρ σ b then none else Hk2 b) := fun b o h => by
      show (if Ow ρ σ b then none else Hk2 b) = some o
      split
      · rename_i q
        rw [(nk b q).1] at h
        cases h
      · exact m2 _ _ (up _ _ h)
    refine ⟨_, dn, ⟨I.base.trans dn, I2.real, fun b o h => ?_, fun b o h h0 => ?_, I.bor, I.len, fun i d h => ?_, fun i ds h => ?_, I.dis, I.zh, I.zb, I.bxs.mono dn, I.eh, I.ze⟩⟩
    · have h : (if Ow ρ σ b then none else Hk2 b) = some o := h
      split at h
      · cases h
      · exact I2.kr _ _ h
    · have h : (if Ow ρ σ b then none else Hk2 b) = some o := h
      split at h
      · cases h
      · exact I2.old _ _ h h0
    · obtain ⟨v, q1, q2⟩ := I.val i d h
      exact ⟨v, q1, Dp.mono dn d q2⟩
    · obtain ⟨a, vs, t1, t2, t3, t4, t5⟩ := I.own i ds h
      refine ⟨a, vs, t1, I2.kr _ _ (m2 a _ ?_), ?_, t4, DpAll.mono dn ds t5⟩
      · show (if Ow ρ σ a then Hr a else Hk a) = _
        rw [if_pos ⟨i, ds, h, t1⟩]
        exact t2
      · show (if Ow ρ σ a then none else Hk2 a) = none
        rw [if_pos ⟨i, ds, h, t1⟩]
end
section
variable {X : Cx} {bi : List Nat} {a b c e elt tg iter : Expr} {es : List Expr} {rest body sts tb eb : List Stmt} {ρ ρ1 ρ2 : List Sl} {N : List Sl → Prop} {R : RTy} {d : PyData} {ds : List PyData} {pos p0 p1 epos cpos : Pos} {x y : Str} {n m k : Nat} {o o1 o2 : Option PyData} {ol oi : Option (List PyData)} {oc : Option Bool} {scope : Scope} {own : List (Str × Nat)}
variable {β α γ : Type} {RR : β → RTy} {f : α → List Sl → Prop} {g : γ → List Sl → Prop}
def shortS (n : Nat) : Bool := Nat.blt n 100000
theorem shortS_lt {n : Nat} (h : shortS n = true) : n < 100000 := by
  unfold shortS Nat.blt at h
  exact Nat.le_of_ble_eq_true h
end
section
end
end Gn
namespace Gn
open PySem L2 Pd PySem.Spec PyProof.Rows Zq
/-- built-in names that the top leaves as they are -/
structure MgB (mg : Str → Option Value) : Prop where
  len : mg "len" = none
  int : mg "int" = none
  abs : mg "abs" = none
  min : mg "min" = none
  max : mg "max" = none
  range : mg "range" = none
  tuple : mg "tuple" = none
  list : mg "list" = none
  all : mg "all" = none
  any : mg "any" = none
  zip : mg "zip" = none
  sum : mg "sum" = none
  sorted : mg "sorted" = none
  isinstance : mg "isinstance" = none
  bool : mg "bool" = none
  reversed : mg "reversed" = none
  enumerate : mg "enumerate" = none
section
end
section
end
end Gn
namespace Gn
open PySem L2 Pd PySem.Spec PyProof.Rows Zq
section
end
section
end
end Gn
namespace Gn
open PySem L2 Pd PySem.Spec PyProof.Rows Zq
section
end
section
end
end Gn
namespace Gn
open PySem L2 Pd PySem.Spec PyProof.Rows Zq
section
end
end Gn
namespace Zq
open PySem PySem.Spec PyProof.Rows L2
set_option maxHeartbeats 1000000 in
theorem meets_enum1 {v : Value} {o : Obj} {H : Heap → Prop} (B : Begins v o H) :
    Meets (Builtin.«enumerate.__new__» ⟨[.type "enumerate", v], []⟩) (fun _ R s => H s.heap ∧
      R (.ok (.ret (.ref (s.heap.push o).objs.size))) { s with heap := (s.heap.push o).push { cls := .type "enumerate", data := .fields #[.none, .bool false, .ref s.heap.objs.size, rawInt 0, .none, .none] } }) :=
  .of_wp fun prog w A R s h => by
    obtain ⟨hp, g, d, tk, os⟩ := s; obtain ⟨h1, h⟩ := h
    have hsub := sub_enumerate
    have q1 : ∀ {A' : Around} {E : Value → Shared → Prop} {Q : Value → Shared → Prop}, Q (.ref hp.objs.size) ⟨hp.push o, g, d, tk, os⟩ → wpAny (model prog w) A' (pyIter v) Q E ⟨hp, g, d, tk, os⟩ :=
      fun q => B.iter prog w _ _ ⟨hp, g, d, tk, os⟩ _ h1 q
    wp_walk using q1
    refine wpAny_stack_any fun st => wpAny_pure ?_
    split
    · rename_i c _ _ _ _ _
      cases (c == Value.type "enumerate")
      · wp_walk using q1
        exact ⟨_, rfl, h⟩
      · wp_walk using q1
        exact ⟨_, rfl, h⟩
    · wp_walk using q1
      exact ⟨_, rfl, h⟩
section
variable {prog : Program} {w : World} {A : Around} {E : Value → Shared → Prop} {s : Shared}
theorem enum1 {v : Value} {o : Obj} {H : Heap → Prop} {Q : Value → Shared → Prop} (B : Begins v o H) (h1 : H s.heap)
    (h : ∀ h', IsEnum h' (s.heap.objs.size + 1) s.heap.objs.size 0 .none → h'.get? s.heap.objs.size = some o → h'.objs.size = s.heap.objs.size + 2 →
      (∀ b o, s.heap.get? b = some o → h'.get? b = some o) → Q (.ref (s.heap.objs.size + 1)) { s with heap := h' }) :
    wpAny (model prog w) A (call (.type "enumerate") [v]) Q E s := by
  refine callType_new F.called_enumerate (by decide) (F.typeCall_enumerate_1 _) (F.newCall_enumerate_1 _) (fun obj => F.args_object_init_2 obj _) F.entry_enumerate_new
    (meets_enum1 B) ⟨h1, ?_⟩
  have hz : (s.heap.push o).objs.size = s.heap.objs.size + 1 := Heap.size_push ..
  show _ ∧ _
  rw [hz]
  have he : IsEnum ((s.heap.push o).push { cls := .type "enumerate", data := .fields #[.none, .bool false, .ref s.heap.objs.size, rawInt 0, .none, .none] }) (s.heap.objs.size + 1) s.heap.objs.size 0 .none := by
    have := Heap.get?_push_size (s.heap.push o) (o := { cls := .type "enumerate", data := .fields #[.none, .bool false, .ref s.heap.objs.size, rawInt 0, .none, .none] }) rfl
    rw [hz] at this; exact this
  refine ⟨⟨_, he, rfl⟩, h _ he (Heap.get?_push_of_some _ (Heap.get?_push_size _ B.free)) (by rw [Heap.size_push, hz]) fun b o x => Heap.get?_push_of_some _ (Heap.get?_push_of_some _ x)⟩
end
def ItN (K : PySem.W.Frag) (t : Bool) (a : Addr) : It :=
  ⟨fun i H => ∃ (xs : List V) (x : V), gSq K t H a xs ∧ xs[i]? = some x, fun i H v H' => ∃ T x, v = .ref T ∧ H T = none ∧ H' = upd H T (.tup [.int (i : Nat), x]) ∧ ∀ xs, gSq K t H a xs → xs[i]? = some x, fun i H => ∃ xs : List V, gSq K t H a xs ∧ i = xs.length⟩
theorem turnN {P : Program} {w : World} {K : PySem.W.Frag} {elts : List Expr} {kk : Nat} {tpos : Pos} {t : Bool} {a e it : Addr} (hai : a < it) (hie : e = it + 1) :
    Turn P w K (.Tuple elts kk tpos) (ItN K t a) [e, it] e (fun i h => (∃ old, IsEnum h e it ((i : Nat) : Int) old) ∧ gIt t h it a i) where
  mem := by simp
  obj := fun i h st b hb => by
    obtain ⟨⟨old, he⟩, g1⟩ := st
    have e' : b = e ∨ b = it := by simpa using hb
    rcases e' with z | z
    · rw [z]; exact ⟨_, he, fun v q => nomatch q⟩
    · rw [z]; exact gIt_obj g1
  keep := fun i h h' st k => let ⟨⟨old, he⟩, hi⟩ := st; ⟨⟨old, k e (by simp) _ he⟩, gIt_at hi fun o q => k it (by simp) o q⟩
  item := by
    intro X hP hw hK hc i pins s σ H E I hf st hg
    subst hP hw hK
    obtain ⟨⟨old, he⟩, hit⟩ := st
    obtain ⟨xs, x, hq, hx⟩ := hg
    obtain ⟨us, rv, p, lu⟩ := gSq_at I hq
    obtain ⟨u, hu, ru⟩ := rv.get hx
    have hne : e ≠ it := by rw [hie]; exact Nat.succ_ne_self _
    have hna : a ≠ it := Nat.ne_of_lt hai
    have hef : e ∉ [it, a] := by
      intro z
      rcases List.mem_cons.mp z with z | z
      · exact hne z
      · have := List.mem_singleton.mp z
        rw [hie] at this
        rw [← this] at hai
        exact absurd hai (by simp only [Addr] at *; omega)
    have hel : e < s.heap.objs.size := Heap.lt_size he
    have hil : it < s.heap.objs.size := by obtain ⟨_, q, _⟩ := gIt_obj hit; exact Heap.lt_size q
    have n1 : i < us.toArray.size := by simpa using (List.getElem?_eq_some_iff.mp hu).1
    have hA : X.A.in1.handled = none := I.ok.hd hc
    refine wpAny_pyNext_enum_itemD (gDraws t hA it a hna us.toArray) he ⟨hit, p⟩ n1 hne hef fun x1 h' tk p1 ho q1 hT hsz hk => ?_
    have e1 : u = x1 := by
      have : us.toArray[i]? = some x1 := p1
      rw [List.getElem?_toArray, hu] at this
      exact Option.some.inj this
    subst e1
    refine ⟨_, rfl, wpAny_letOwnedTupleGo_enum (s := { s with heap := h', toks := tk + 1 }) ho fun h'' he' sb => ?_⟩
    have hT2 : h''.get? s.heap.objs.size = some { cls := .type "tuple", data := .seq #[.int i tk, u] } := (sb.2 _ (Nat.ne_of_gt hel)).trans hT
    have new : ObjOk X.prog X.w (upd H s.heap.objs.size (.tup [.int (i : Nat), x])) h'' s.heap.objs.size (.tup [.int (i : Nat), x]) :=
      ⟨by show 2 ≤ sizeLine; decide, [.int i tk, u], .cons ⟨_, rfl⟩ (.cons ru .nil), ⟨_, hT2, rfl, _, rfl⟩⟩
    have I1 : Inv X pins σ (upd H s.heap.objs.size (.tup [.int (i : Nat), x])) { s with heap := h'', toks := tk + 1 } :=
      I.turnedNew (t' := tk + 1) (ch := [e, it]) (fun b ob hb q => (sb.2 b (fun z => hb (by simp [z]))).trans (hk b ob (fun z => hb (by simp [z])) (fun z => hb (by simp [z])) q)) hf (Nat.le_refl _) new
    refine ⟨.ref s.heap.objs.size, _, I1, rfl, ⟨_, x, rfl, I.hok.fresh (Nat.le_refl _), rfl, fun ys hy => by rw [gSq_inj I hy hq]; exact hx⟩, ⟨⟨u, ?_⟩, gIt_at q1.1 fun o q => (sb.2 it (Ne.symm hne)).trans q⟩, fun b hb => ?_⟩
    · have e1 : ((i + 1 : Nat) : Int) = (i : Int) + 1 := by omega
      rw [e1]; exact he'
    · have hb' : b < s.heap.objs.size := by
        have e' : b = e ∨ b = it := by simpa using hb
        rcases e' with z | z
        · rw [z]; exact hel
        · rw [z]; exact hil
      rw [upd_ne (Nat.ne_of_lt hb')]
      exact (hf b hb).1
  done := by
    intro X hP hw hK hc i pins s σ H E I hf st hg
    subst hP hw hK
    obtain ⟨⟨old, he⟩, hit⟩ := st
    obtain ⟨xs, hq, hx⟩ := hg
    obtain ⟨us, rv, p, lu⟩ := gSq_at I hq
    have hna : a ≠ it := Nat.ne_of_lt hai
    have hl : us.toArray.size = i := by rw [hx, rv.length]; simp
    obtain ⟨f0, f1, f2, f3, f4, f5⟩ := hf it (by simp)
    have hA : X.A.in1.handled = none := I.ok.hd hc
    have D := gDraws (prog := X.prog) (w := X.w) (A := X.A.in1) t hA it a hna us.toArray
    rw [hl] at D
    exact wpAny_pyNext_enum_endD D he ⟨hit, p⟩ fun h' eb => ⟨rfl, I.turned (t' := s.toks) (fun b o hb q => eb b o hb q) f0 f1 f3 f4 f5⟩
  self := fun A i s Q E st h => let ⟨⟨_, he⟩, _⟩ := st; wpAny_pyIter_enum he h
def iN (K : PySem.W.Frag) (ta : TA) : TI := fun σ H R => ta σ H fun vs H1 => ∃ t a xs, vs = [.ref a] ∧ gSq K t H1 a xs ∧ R (ItN K t a) H1
theorem pi_N {X : Cx} {e : Expr} {ta : TA} {p pos tpos : Pos} {elts : List Expr} {kk : Nat} (hg : Gl X "enumerate") (hm : X.mg "enumerate" = none) (ha : PA X [e] ta) (hs : starEach [e] X.env = [(false, eval e X.env)] := by rfl) :
    PI X (.Tuple elts kk tpos) (.Call (.Name "enumerate" p) [e] [] pos) (iN X.K ta) := by
  refine ⟨fun pins s σ H R I h => ?_⟩
  refine Call_ (ld_blt I hg hm boot_enumerate (PyProof.Rows.callWith_type1 (thn (ha.run pos pins s σ H _ I h) fun us s1 ⟨vs, H1, I1, r1, q1⟩ => ?_) hs rfl))
  obtain ⟨t, a, xs, ex, hq, q⟩ := q1
  subst ex
  cases r1 with
  | cons r rr =>
    cases rr
    cases r
    obtain ⟨its, rv, p', la⟩ := gSq_at I1 hq
    refine enum1 (gBegins t a its.toArray) p' fun h' he hit hsz hk => wpAny_pyIter_enum he ?_
    have I2 : Inv X pins σ H1 { s1 with heap := h' } := I1.kept (t' := s1.toks) hk
    refine ⟨s1.heap.objs.size + 1, [s1.heap.objs.size + 1, s1.heap.objs.size], _, _, H1, rfl, I2, turnN la rfl, ⟨⟨.none, he⟩, gIt_new hit⟩, fun b hb => ?_, q⟩
    have e' : b = s1.heap.objs.size + 1 ∨ b = s1.heap.objs.size := by simpa using hb
    have hle : s1.heap.objs.size ≤ b := by
      rcases e' with z | z
      · rw [z]; exact Nat.le_add_right _ _
      · rw [z]; exact Nat.le_refl _
    exact I1.fpOk hle (I1.hok.fresh hle)
end Zq
namespace Gn
open PySem L2 Pd PySem.Spec PyProof.Rows Zq
def pAny : PyData → Option Bool
  | .list ds => (boolsOf ds).map fun bs => bs.any id
  | _ => none
def isIntO : PyData → Option Bool
  | .int _ | .bool _ => some true
  | .none | .str _ | .list _ | .tuple _ => some false
  | _ => none
def isBoolO : PyData → Option Bool
  | .bool _ => some true
  | .int _ | .none | .str _ | .list _ | .tuple _ => some false
  | _ => none
section
variable {X : Cx} {a b c e t tg iter : Expr} {es tgs : List Expr} {ρ ρ1 : List Sl} {o o1 o2 o3 : Option PyData} {n k tn : Nat} {pos p0 tpos : Pos}
theorem isInt_k : ∀ d r, isIntO d = some r → kitB (tyN d) "int" = some r := fun d r h => by
  cases d <;> simp only [isIntO, reduceCtorEq] at h <;> (have h := Option.some.inj h; subst h; first | exact (by decide +kernel : kitB "NoneType" "int" = some false) | exact (by decide +kernel : kitB "bool" "int" = some true) | exact (by decide +kernel : kitB "int" "int" = some true) | exact (by decide +kernel : kitB "str" "int" = some false) | exact (by decide +kernel : kitB "list" "int" = some false) | exact (by decide +kernel : kitB "tuple" "int" = some false))
theorem isBool_k : ∀ d r, isBoolO d = some r → kitB (tyN d) "bool" = some r := fun d r h => by
  cases d <;> simp only [isBoolO, reduceCtorEq] at h <;> (have h := Option.some.inj h; subst h; first | exact (by decide +kernel : kitB "NoneType" "bool" = some false) | exact (by decide +kernel : kitB "bool" "bool" = some true) | exact (by decide +kernel : kitB "int" "bool" = some false) | exact (by decide +kernel : kitB "str" "bool" = some false) | exact (by decide +kernel : kitB "list" "bool" = some false) | exact (by decide +kernel : kitB "tuple" "bool" = some false))
end
end Gn
namespace Gn
open PySem L2 Pd PySem.Spec PyProof.Rows Zq
structure FunY (K : PySem.W.Frag) (x qual : Str) (st : Stmt) (f : Addr) (fd : FuncData) : Prop where
  ex : ∃ (oc : Value) (od : Option Addr) (dV kV doc pm : Value) (an : Option Addr) (cdv ct : Value) (osl : Array (Option Value)),
    fd = PySem.W.fnOf x qual (defArgs st) (defBody st) (defScope st) dV kV doc pm an cdv ct ∧ K.lookup f = some ⟨oc, od, .func fd, osl⟩ ∧ PySem.W.codeIn K cdv qual = true
  kp : PySem.W.keepIn K (.ref f) = true
section
variable {P : Program} {w : World} {K : PySem.W.Frag} {mg : Str → Option Value} {base : Heap} {x qual : Str} {st : Stmt} {f : Addr} {fd : FuncData} {N ps : List Str} {k : Nat}
theorem FunY.ok {sp : Sp} (F : FunY K x qual st f fd) (S : FnScope N ps (defScope st)) (len : ∀ vs H Q E, sp vs H Q E → vs.length = ps.length)
    (hbody : ∀ (cdv : Value) (A : Around) (outer : List Env) (s : Shared) (H : Hp) (vs : List V) (Q : VK) (E : XK), Room k (A.deeper (envOfC qual (defScope st) s.heap.objs.size f cdv)) → sp vs H Q E →
      ∃ t, PSs (cxOf CX0 P w K mg base N qual (defScope st) f cdv A outer s H E).nox (defBody st) t ∧ t { nx := fun _ H' => Q .non H', rt := Q } (L2.start N vs) H) : FnOk P w K mg base CX0 (k + 1) f fd ps sp := by
  obtain ⟨oc, od, dV, kV, doc, pm, an, cdv, ct, osl, rfl, lk, hcd⟩ := F.ex
  refine fn_of lk hcd S len fun A outer s H vs Q E hr hsp => ?_
  obtain ⟨t, h, q⟩ := hbody cdv A outer s H vs Q E hr hsp
  exact ⟨t, h.nox, q⟩
theorem funY_mk {oc : Value} {od an : Option Addr} {osl : Array (Option Value)} {dV kV doc pm cdv ct : Value} (l : K.lookup f = some ⟨oc, od, .func (PySem.W.fnOf x qual (defArgs st) (defBody st) (defScope st) dV kV doc pm an cdv ct), osl⟩)
    (c : PySem.W.codeIn K cdv qual = true) (k : PySem.W.keepIn K (.ref f) = true) : FunY K x qual st f (PySem.W.fnOf x qual (defArgs st) (defBody st) (defScope st) dV kV doc pm an cdv ct) := ⟨⟨oc, od, dV, kV, doc, pm, an, cdv, ct, osl, rfl, l, c⟩, k⟩
end
end Gn
namespace Gn
open PySem L2 Pd PySem.Spec PyProof.Rows Zq
def rCatS (K : PySem.W.Frag) : R2 := fun x y H Q => ∃ l b xs zs, x = .ref l ∧ y = .ref b ∧ SqL K H l xs ∧ SqL K H b zs ∧ xs.length + zs.length ≤ sizeLine ∧ ∀ p, H p = none → Q (.ref p) (upd H p (.lst (xs ++ zs)))
theorem op_catS {X : Cx} : OpR X (binaryOp .Add) (rCatS X.K) := by
  intro pins s σ H x y v u Q I rx ry h
  obtain ⟨l, b, xs, zs, rfl, rfl, hH, hB, hz, q⟩ := h
  cases rx
  cases ry
  obtain ⟨vs, r, ⟨⟨cls, dd, data, sl⟩, n, ho, hc, hdd, hd⟩, z1⟩ := I.list hH
  obtain ⟨ws, r2, ⟨⟨cls2, dd2, data2, sl2⟩, n2, ho2, hc2, hdd2, hd2⟩, z2⟩ := I.list hB
  simp only at hc hd hc2 hd2
  subst hc hd hc2 hd2
  have e : vs.toArray ++ ws.toArray = (vs ++ ws).toArray := by simp
  have hsz : vs.toArray.size + ws.toArray.size ≤ sizeLine := by
    rw [List.size_toArray, List.size_toArray, ← r.length, ← r2.length]
    exact hz
  refine concat_meets ⟨_, ho, rfl⟩ ⟨_, ho2, rfl⟩ noFill_list_add seq_list_add PySem.F.slot_list_add PySem.F.entry_list_add (PySem.F.args_list_add_2 _ _) (list_addW l b vs.toArray ws.toArray n n2 dd dd2 sl sl2 hsz) ⟨ho, ho2, ?_⟩
  rw [e]
  exact ⟨.ref _, _, I.lnew (t' := s.toks) (r.append r2) (by rw [List.length_append]; omega), rfl, q _ I.fresh⟩
theorem rd_catS {K : PySem.W.Frag} {ds es : List PyData} (hl : ds.length + es.length ≤ 100000) : RD K (rCatS K) (.list ds) (.list es) (.list (ds ++ es)) := fun x y Hk Hr kr hx hy Q q => by
  cases hx with
  | lst hs ha =>
    cases hy with
    | lst ht hb => exact ⟨_, _, _, _, rfl, rfl, same_l kr hs, same_l kr ht, by rw [DpAll.len ha, DpAll.len hb]; exact le_line hl, fun p hp => q _ _ (new_same hp _) (gro_lst kr hp (DpAll.app ha hb))⟩
def pAddX : PyData → PyData → Option PyData
  | .list a, .list b => gd (short (a.length + b.length)) (some (.list (a ++ b)))
  | x, y => pAdd x y
section
end
end Gn
namespace Gn
open PySem L2 Pd PySem.Spec PyProof.Rows Zq
section
end
end Gn
noncomputable section
namespace Hx
open PySem L2 Pd Gn PySem.Spec PyProof.Rows
/-- a value: data that never changes; a thing of the mirror's heap; a tuple, a list that holds such; an instance; the script -/
inductive W where
  | dat (d : PyData)
  | ref (i : Nat)
  | tup (ws : List W)
  | lst (ws : List W)
  | ins (c : Nat) (fs : List W)
  | scr
  | dct (kvs : List (NestedKey × W))
  | tpx (ds : List PyData)
/-- a thing that may change -/
inductive Ob where
  | lst (ws : List W)
  | dic (kvs : List (NestedKey × W))
  | dki (kvs : List (Int × W))
  | st
  | nums
  | ins (c : Nat) (fs : List W)
structure Hs where
  nx : Nat
  os : List (Nat × Ob)
def getO (i : Nat) : List (Nat × Ob) → Option Ob
  | [] => none
  | (j, o) :: r => match Nat.beq i j with | true => some o | false => getO i r
def setO (i : Nat) (o : Ob) : List (Nat × Ob) → List (Nat × Ob)
  | [] => []
  | (j, u) :: r => match Nat.beq i j with | true => (j, o) :: r | false => (j, u) :: setO i o r
def delO (i : Nat) : List (Nat × Ob) → List (Nat × Ob)
  | [] => []
  | (j, u) :: r => match Nat.beq i j with | true => delO i r | false => (j, u) :: delO i r
def Hs.get (h : Hs) (i : Nat) : Option Ob := getO i h.os
def Hs.put (h : Hs) (i : Nat) (o : Ob) : Hs := ⟨h.nx, setO i o h.os⟩
def Hs.del (h : Hs) (i : Nat) : Hs := ⟨h.nx, delO i h.os⟩
def Hs.new (h : Hs) (o : Ob) : Hs := ⟨h.nx + 1, (h.nx, o) :: h.os⟩
/-- an error: its class, its field -/
structure Xc where
  c : Nat
  d : PyData
/-- what a run gives -/
inductive T (α : Type) where
  | ok (a : α) (h : Hs)
  | exc (x : Xc) (h : Hs)
  | draw (n : Nat) (k : Nat → T α)
  | bad
def T.bind {α β : Type} (t : T α) (f : α → Hs → T β) : T β := T.rec (motive := fun _ => T β) (fun a h => f a h) (fun x h => .exc x h) (fun n _ ih => .draw n ih) .bad t
def T.sat {α : Type} (P : α → Hs → Prop) (E : Xc → Hs → Prop) : T α → Prop
  | .ok a h => P a h
  | .exc x h => E x h
  | .draw n k => ∀ v, v < n → (k v).sat P E
  | .bad => False
abbrev M (α : Type) := Hs → T α
def bd {α β : Type} (m : M α) (f : α → M β) : M β := fun h => (m h).bind f
def rt {α : Type} (a : α) : M α := fun h => .ok a h
def lf {α : Type} (o : Option α) : M α := fun h => match o with | some a => .ok a h | none => .bad
theorem sat_bind {α β : Type} {P : β → Hs → Prop} {E : Xc → Hs → Prop} {f : α → Hs → T β} : ∀ {t : T α}, (t.bind f).sat P E → t.sat (fun a h => (f a h).sat P E) E
  | .ok a h, s => s
  | .exc x h, s => s
  | .draw n k, s => fun v hv => sat_bind (t := k v) (s v hv)
  | .bad, s => s
theorem sat_of {α β : Type} {P : β → Hs → Prop} {E : Xc → Hs → Prop} {f : α → Hs → T β} : ∀ {t : T α}, t.sat (fun a h => (f a h).sat P E) E → (t.bind f).sat P E
  | .ok a h, s => s
  | .exc x h, s => s
  | .draw n k, s => fun v hv => sat_of (t := k v) (s v hv)
  | .bad, s => s
theorem sat_mono {α : Type} {P P' : α → Hs → Prop} {E E' : Xc → Hs → Prop} (h : ∀ a s, P a s → P' a s) (h2 : ∀ a s, E a s → E' a s) : ∀ {t : T α}, t.sat P E → t.sat P' E'
  | .ok a s, q => h _ _ q
  | .exc x s, q => h2 _ _ q
  | .draw n k, q => fun v hv => sat_mono h h2 (q v hv)
  | .bad, q => q
theorem sat_lf {α : Type} {o : Option α} {h : Hs} {P : α → Hs → Prop} {E : Xc → Hs → Prop} (s : (lf o h).sat P E) : ∃ a, o = some a ∧ P a h := by
  cases o with
  | none => exact s.elim
  | some a => exact ⟨a, rfl, s⟩
/-- no error may leave -/
def nox {α : Type} (m : M α) : M α := fun h => go (m h)
where go : T α → T α
  | .ok a h => .ok a h
  | .exc _ _ => .bad
  | .draw n k => .draw n fun v => go (k v)
  | .bad => .bad
theorem sat_nox {α : Type} {P : α → Hs → Prop} {E : Xc → Hs → Prop} : ∀ {t : T α}, (nox.go t).sat P E → t.sat P (fun _ _ => False)
  | .ok a s, q => q
  | .exc x s, q => q
  | .draw n k, q => fun v hv => sat_nox (q v hv)
  | .bad, q => q
/-- all draws end in True -/
def allB (n : Nat) (f : Nat → Bool) : Bool := Nat.rec true (fun k r => match f k with | true => r | false => false) n
theorem allB_ok {f : Nat → Bool} : ∀ {n : Nat}, allB n f = true → ∀ v, v < n → f v = true
  | 0, _, v, hv => absurd hv (Nat.not_lt_zero v)
  | n + 1, h, v, hv => by
    have h : (match f n with | true => allB n f | false => false) = true := h
    cases q : f n with
    | false => rw [q] at h; cases h
    | true =>
      rw [q] at h
      by_cases e : v = n
      · rw [e]; exact q
      · exact allB_ok h v (by omega)
/-- a dict whose keys are tuples, by its one object -/
def DicO (wd : World) (a : Addr) (es : List (NestedKey × Addr × V)) : HO := .ext fun h => es.length ≤ sizeLine ∧ (a == sysModules) = false ∧ ∃ xs : List (NestedKey × Addr × Value), Paired (fun (p : NestedKey × Addr × V) (q : NestedKey × Addr × Value) => p.1 = q.1 ∧ p.2.1 = q.2.1 ∧ RelV p.2.2 q.2.2) es xs ∧
  ∃ o es' ep, h.get? a = some o ∧ o.ExactDict ∧ o.data = .dict es' ep ∧ es'.toList = xs.map (fun x => (⟨x.1.hash wd, .ref x.2.1, x.2.2⟩ : DictEntry)) ∧ (xs.map (·.1)).Nodup
/-- the classes: their names, their fields -/
def insN : Nat → Str
  | 0 => "Ratio"
  | 1 => "Symmetric"
  | _ => "Letters"
def insF : Nat → List Str
  | 0 => ["n", "d"]
  | 1 => ["base", "terms", "_multiples"]
  | _ => ["n", "terms", "_coefficients"]
def insC (K : PySem.W.Frag) (c : Nat) (C : Addr) : Prop := PySem.W.nsIn K mainGlobals (insN c) = some (some (.ref C))
mutual
inductive VR (K : PySem.W.Frag) (wd : World) (φ : List Addr) (H : Hp) : W → V → Prop
  | dat {d : PyData} {v : V} : Dp K H v d → VR K wd φ H (.dat d) v
  | ref {i : Nat} {a : Addr} : φ[i]? = some a → VR K wd φ H (.ref i) (.ref a)
  | tup {ws : List W} {a : Addr} {vs : List V} : SqT K H a vs → VRs K wd φ H ws vs → VR K wd φ H (.tup ws) (.ref a)
  | lst {ws : List W} {a : Addr} {vs : List V} : SqL K H a vs → VRs K wd φ H ws vs → VR K wd φ H (.lst ws) (.ref a)
  | scr {ns : List Int} {v : V} : ns.length ≤ 63 → Dp K H v (.list (ns.map .int)) → VR K wd φ H .scr v
  | ins {c : Nat} {fs : List W} {a C dx : Addr} {vs : List V} : insC K c C → H a = some (.ins C dx ((insF c).zip vs)) → vs.length = (insF c).length → VRs K wd φ H fs vs → VR K wd φ H (.ins c fs) (.ref a)
  | dct {kvs : List (NestedKey × W)} {a : Addr} {o : Obj} {es : List (NestedKey × Addr × V)} : H a = some (.frz o (DicO wd a es)) → DRs K wd φ H kvs es → VR K wd φ H (.dct kvs) (.ref a)
  | tpx {ds : List PyData} {a : Addr} {o : Obj} {vs : List V} : H a = some (.frz o (.tup vs)) → o.dict = none → Dp K H (.ref a) (.tuple ds) → VR K wd φ H (.tpx ds) (.ref a)
inductive VRs (K : PySem.W.Frag) (wd : World) (φ : List Addr) (H : Hp) : List W → List V → Prop
  | nil : VRs K wd φ H [] []
  | cons {w : W} {v : V} {ws : List W} {vs : List V} : VR K wd φ H w v → VRs K wd φ H ws vs → VRs K wd φ H (w :: ws) (v :: vs)
/-- the entries of a dict -/
inductive DRs (K : PySem.W.Frag) (wd : World) (φ : List Addr) (H : Hp) : List (NestedKey × W) → List (NestedKey × Addr × V) → Prop
  | nil : DRs K wd φ H [] []
  | cons {k : NestedKey} {w : W} {b : Addr} {v : V} {kvs : List (NestedKey × W)} {es : List (NestedKey × Addr × V)} : k.depth ≤ 8 → Dp K H (.ref b) k.data → VR K wd φ H w v → DRs K wd φ H kvs es → DRs K wd φ H ((k, w) :: kvs) ((k, b, v) :: es)
end
section
variable {K : PySem.W.Frag} {wd : World} {φ φ' : List Addr} {H H' : Hp}
/-- addresses known further on -/
def Fx (φ φ' : List Addr) : Prop := ∀ (i : Nat) (a : Addr), φ[i]? = some a → φ'[i]? = some a
theorem Fx.refl : Fx φ φ := fun _ _ h => h
theorem Fx.trans {φ'' : List Addr} (a : Fx φ φ') (b : Fx φ' φ'') : Fx φ φ'' := fun i x h => b i x (a i x h)
theorem Fx.app {t : List Addr} : Fx φ (φ ++ t) := fun i a h => by
  rw [List.getElem?_append_left (List.getElem?_eq_some_iff.mp h).1]
  exact h
mutual
theorem VR.mono (f : Fx φ φ') (e : Same H H') : ∀ {w : W} {v : V}, VR K wd φ H w v → VR K wd φ' H' w v
  | _, _, .dat h => .dat (Dp.mono e _ h)
  | _, _, .ref h => .ref (f _ _ h)
  | _, _, .tup h g => .tup (same_t e h) (VRs.mono f e g)
  | _, _, .lst h g => .lst (same_l e h) (VRs.mono f e g)
  | _, _, .scr h g => .scr h (Dp.mono e _ g)
  | _, _, .ins h1 h2 h3 g => .ins h1 (e _ _ h2) h3 (VRs.mono f e g)
  | _, _, .dct h g => .dct (e _ _ h) (DRs.mono f e g)
  | _, _, .tpx h d g => .tpx (e _ _ h) d (Dp.mono e _ g)
theorem VRs.mono (f : Fx φ φ') (e : Same H H') : ∀ {ws : List W} {vs : List V}, VRs K wd φ H ws vs → VRs K wd φ' H' ws vs
  | _, _, .nil => .nil
  | _, _, .cons h g => .cons (VR.mono f e h) (VRs.mono f e g)
theorem DRs.mono (f : Fx φ φ') (e : Same H H') : ∀ {kvs : List (NestedKey × W)} {es : List (NestedKey × Addr × V)}, DRs K wd φ H kvs es → DRs K wd φ' H' kvs es
  | _, _, .nil => .nil
  | _, _, .cons h1 h2 h3 h4 => .cons h1 (Dp.mono e _ h2) (VR.mono f e h3) (DRs.mono f e h4)
end
theorem VRs.len : ∀ {ws : List W} {vs : List V}, VRs K wd φ H ws vs → vs.length = ws.length
  | _, _, .nil => rfl
  | _, _, .cons _ g => by rw [List.length_cons, List.length_cons, VRs.len g]
theorem VRs.get : ∀ {ws : List W} {vs : List V} {i : Nat} {w : W}, VRs K wd φ H ws vs → ws[i]? = some w → ∃ v, vs[i]? = some v ∧ VR K wd φ H w v
  | _, _, i, w, .nil, g => by simp at g
  | _, _, 0, w, .cons h1 h2, g => by
    simp at g
    subst g
    exact ⟨_, rfl, h1⟩
  | _, _, i + 1, w, .cons h1 h2, g => by
    obtain ⟨v, q1, q2⟩ := VRs.get h2 (by simpa using g)
    exact ⟨v, by simpa using q1, q2⟩
theorem VRs.app : ∀ {ws us : List W} {vs xs : List V}, VRs K wd φ H ws vs → VRs K wd φ H us xs → VRs K wd φ H (ws ++ us) (vs ++ xs)
  | _, _, _, _, .nil, g => g
  | _, _, _, _, .cons h1 h2, g => .cons h1 (VRs.app h2 g)
theorem VRs.set : ∀ {ws : List W} {vs : List V} {w : W} {v : V} (i : Nat), VRs K wd φ H ws vs → VR K wd φ H w v → VRs K wd φ H (ws.set i w) (vs.set i v)
  | _, _, _, _, i, .nil, g => by simp; exact .nil
  | _, _, _, _, 0, .cons h1 h2, g => .cons g h2
  | _, _, _, _, i + 1, .cons h1 h2, g => .cons h1 (VRs.set i h2 g)
theorem VRs.take : ∀ {ws : List W} {vs : List V} (n : Nat), VRs K wd φ H ws vs → VRs K wd φ H (ws.take n) (vs.take n)
  | _, _, n, .nil => by simp; exact .nil
  | _, _, 0, .cons _ _ => by simp; exact .nil
  | _, _, n + 1, .cons h1 h2 => .cons h1 (VRs.take n h2)
theorem VRs.drop : ∀ {ws : List W} {vs : List V} (n : Nat), VRs K wd φ H ws vs → VRs K wd φ H (ws.drop n) (vs.drop n)
  | _, _, n, .nil => by simp; exact .nil
  | _, _, 0, .cons h1 h2 => .cons h1 h2
  | _, _, n + 1, .cons h1 h2 => VRs.drop n h2
/-- data alone -/
def datsOf : List W → Option (List PyData)
  | [] => some []
  | .dat d :: r => match datsOf r with | some ds => some (d :: ds) | none => none
  | _ :: _ => none
theorem datsOf_eq : ∀ {ws : List W} {ds : List PyData}, datsOf ws = some ds → ws = ds.map .dat
  | [], ds, h => by cases h; rfl
  | w :: r, ds, h => by
    cases w <;> simp only [datsOf, reduceCtorEq] at h
    split at h
    · rename_i e
      cases h
      rw [datsOf_eq e]
      rfl
    · cases h
theorem VRs.dats : ∀ {ds : List PyData} {vs : List V}, VRs K wd φ H (ds.map .dat) vs → DpAll K H vs ds
  | [], _, h => by cases h; exact .nil
  | d :: ds, _, h => by
    cases h with
    | cons h1 h2 =>
      cases h1 with
      | dat h1 => exact .cons h1 (VRs.dats h2)
theorem VRs.of_dats : ∀ {ds : List PyData} {vs : List V}, DpAll K H vs ds → VRs K wd φ H (ds.map .dat) vs
  | [], _, h => by cases h; exact .nil
  | d :: ds, _, h => by
    cases h with
    | cons h1 h2 => exact .cons (.dat h1) (VRs.of_dats h2)
def mkT (ws : List W) : W := match datsOf ws with | some ds => .dat (.tuple ds) | none => .tup ws
def mkL (ws : List W) : W := match datsOf ws with | some ds => .dat (.list ds) | none => .lst ws
theorem VR.mkT {ws : List W} {a : Addr} {vs : List V} (h : SqT K H a vs) (g : VRs K wd φ H ws vs) : VR K wd φ H (mkT ws) (.ref a) := by
  unfold Hx.mkT
  split
  · rename_i ds e
    rw [datsOf_eq e] at g
    exact .dat (.tup h (VRs.dats g))
  · exact .tup h g
theorem VR.mkL {ws : List W} {a : Addr} {vs : List V} (h : SqL K H a vs) (g : VRs K wd φ H ws vs) : VR K wd φ H (mkL ws) (.ref a) := by
  unfold Hx.mkL
  split
  · rename_i ds e
    rw [datsOf_eq e] at g
    exact .dat (.lst h (VRs.dats g))
  · exact .lst h g
/-- the items of a tuple, of a list that never changes -/
def asT : W → Option (List W)
  | .dat (.tuple ds) => some (ds.map .dat)
  | .tup ws => some ws
  | _ => none
def asL : W → Option (List W)
  | .dat (.list ds) => some (ds.map .dat)
  | .lst ws => some ws
  | _ => none
theorem VR.asT {w : W} {v : V} {ws : List W} (h : VR K wd φ H w v) (e : asT w = some ws) : ∃ a vs, v = .ref a ∧ SqT K H a vs ∧ VRs K wd φ H ws vs := by
  unfold Hx.asT at e
  split at e
  · cases e
    cases h with
    | dat h =>
      cases h with
      | tup hs ha => exact ⟨_, _, rfl, hs, VRs.of_dats ha⟩
  · cases e
    cases h with
    | tup hs ha => exact ⟨_, _, rfl, hs, ha⟩
  · cases e
theorem VR.asL {w : W} {v : V} {ws : List W} (h : VR K wd φ H w v) (e : asL w = some ws) : ∃ a vs, v = .ref a ∧ SqL K H a vs ∧ VRs K wd φ H ws vs := by
  unfold Hx.asL at e
  split at e
  · cases e
    cases h with
    | dat h =>
      cases h with
      | lst hs ha => exact ⟨_, _, rfl, hs, VRs.of_dats ha⟩
  · cases e
    cases h with
    | lst hs ha => exact ⟨_, _, rfl, hs, ha⟩
  · cases e
end
/-- the entries of a dict whose keys are numbers -/
inductive KRs (K : PySem.W.Frag) (wd : World) (φ : List Addr) (H : Hp) : List (Int × W) → List (Key × V) → Prop
  | nil : KRs K wd φ H [] []
  | cons {i : Int} {w : W} {v : V} {kvs : List (Int × W)} {es : List (Key × V)} : VR K wd φ H w v → KRs K wd φ H kvs es → KRs K wd φ H ((i, w) :: kvs) ((.inl i, v) :: es)
theorem KRs.mono {K : PySem.W.Frag} {wd : World} {φ φ' : List Addr} {H H' : Hp} (f : Fx φ φ') (e : Same H H') : ∀ {kvs : List (Int × W)} {es : List (Key × V)}, KRs K wd φ H kvs es → KRs K wd φ' H' kvs es
  | _, _, .nil => .nil
  | _, _, .cons h g => .cons (h.mono f e) (KRs.mono f e g)
def OR (K : PySem.W.Frag) (wd : World) (φ : List Addr) (Hk Hr : Hp) (a : Addr) : Ob → Prop
  | .lst ws => ∃ vs, Hr a = some (.lst vs) ∧ VRs K wd φ Hk ws vs
  | .dic kvs => ∃ es, Hr a = some (DicO wd a es) ∧ DRs K wd φ Hk kvs es
  | .dki kvs => ∃ es, Hr a = some (.dK es) ∧ KRs K wd φ Hk kvs es
  | .st => ∃ s t : Int, Hr a = some (.lst [.int s, .int t])
  | .nums => ∃ ns : List Int, Hr a = some (.lst (ns.map .int)) ∧ ns.length ≤ 4000 ∧ ∀ n ∈ ns, 0 ≤ n ∧ n < 1009
  | .ins c fs => ∃ C dx vs, insC K c C ∧ Hr a = some (.ins C dx ((insF c).zip vs)) ∧ VRs K wd φ Hk fs vs
theorem OR.there {K : PySem.W.Frag} {wd : World} {φ : List Addr} {Hk Hr : Hp} {a : Addr} {o : Ob} (h : OR K wd φ Hk Hr a o) : ∃ u, Hr a = some u := by
  cases o with
  | lst ws => obtain ⟨vs, h, _⟩ := h; exact ⟨_, h⟩
  | dic kvs => obtain ⟨es, h, _⟩ := h; exact ⟨_, h⟩
  | dki kvs => obtain ⟨es, h, _⟩ := h; exact ⟨_, h⟩
  | st => obtain ⟨s, t, h⟩ := h; exact ⟨_, h⟩
  | nums => obtain ⟨ns, h, _⟩ := h; exact ⟨_, h⟩
  | ins c fs => obtain ⟨C, dx, vs, _, h, _⟩ := h; exact ⟨_, h⟩
theorem OR.mono {K : PySem.W.Frag} {wd : World} {φ φ' : List Addr} {Hk Hk' Hr Hr' : Hp} {a : Addr} {o : Ob} (f : Fx φ φ') (e : Same Hk Hk') (g : ∀ u, Hr a = some u → Hr' a = some u) (h : OR K wd φ Hk Hr a o) : OR K wd φ' Hk' Hr' a o := by
  cases o with
  | lst ws => obtain ⟨vs, h, r⟩ := h; exact ⟨vs, g _ h, VRs.mono f e r⟩
  | dic kvs => obtain ⟨es, h, r⟩ := h; exact ⟨es, g _ h, r.mono f e⟩
  | dki kvs => obtain ⟨es, h, r⟩ := h; exact ⟨es, g _ h, r.mono f e⟩
  | st => obtain ⟨s, t, h⟩ := h; exact ⟨s, t, g _ h⟩
  | nums => obtain ⟨ns, h, r⟩ := h; exact ⟨ns, g _ h, r⟩
  | ins c fs => obtain ⟨C, dx, vs, n, h, r⟩ := h; exact ⟨C, dx, vs, n, g _ h, VRs.mono f e r⟩
theorem OR.mono2 {K : PySem.W.Frag} {wd : World} {φ φ' : List Addr} {Hk Hk' Hr Hr' : Hp} {a : Addr} {o : Ob} (f : Fx φ φ') (e : Same Hk Hk') (g : Hr' a = Hr a) (h : OR K wd φ Hk Hr a o) : OR K wd φ' Hk' Hr' a o := h.mono f e fun u hu => by rw [g]; exact hu
/-- Ho: what stands outside and does not change; Hk: what is known and never changes; Hr: all that stands -/
structure Ok (K : PySem.W.Frag) (wd : World) (φ : List Addr) (hs : Hs) (Ho Hk Hr : Hp) : Prop where
  kr : Same Hk Hr
  out : Same Ho Hr
  len : φ.length = hs.nx
  low : ∀ i o, hs.get i = some o → i < hs.nx
  obj : ∀ i o, hs.get i = some o → ∃ a, φ[i]? = some a ∧ Hk a = none ∧ Ho a = none ∧ OR K wd φ Hk Hr a o
  inj : ∀ (i j : Nat) (a : Addr), hs.get i ≠ none → hs.get j ≠ none → φ[i]? = some a → φ[j]? = some a → i = j
  dis : ∀ (b : Addr) (o : HO), Ho b = some o → Hk b = none
/-- what may come behind -/
structure Ex (φ : List Addr) (Hk : Hp) (φ' : List Addr) (Hk' : Hp) : Prop where
  f : Fx φ φ'
  k : Same Hk Hk'
theorem Ex.refl {φ : List Addr} {Hk : Hp} : Ex φ Hk φ Hk := ⟨Fx.refl, Same.refl _⟩
theorem Ex.trans {φ φ' φ'' : List Addr} {Hk Hk' Hk'' : Hp} (a : Ex φ Hk φ' Hk') (b : Ex φ' Hk' φ'' Hk'') : Ex φ Hk φ'' Hk'' := ⟨a.f.trans b.f, a.k.trans b.k⟩
theorem VR.ex {K : PySem.W.Frag} {wd : World} {φ φ' : List Addr} {Hk Hk' : Hp} {w : W} {v : V} (h : VR K wd φ Hk w v) (e : Ex φ Hk φ' Hk') : VR K wd φ' Hk' w v := h.mono e.f e.k
theorem VRs.ex {K : PySem.W.Frag} {wd : World} {φ φ' : List Addr} {Hk Hk' : Hp} {w : List W} {v : List V} (h : VRs K wd φ Hk w v) (e : Ex φ Hk φ' Hk') : VRs K wd φ' Hk' w v := h.mono e.f e.k
theorem Ex.gro {φ : List Addr} {Hk Hr H2 : Hp} (kr : Same Hk Hr) : Ex φ Hk φ (gro Hk Hr H2) := ⟨Fx.refl, gro_same kr⟩
theorem beq_self (i : Nat) : Nat.beq i i = true := Nat.beq_refl i
theorem beq_ne {i j : Nat} (h : i ≠ j) : Nat.beq i j = false := by
  cases q : Nat.beq i j with
  | false => rfl
  | true => exact absurd (Nat.eq_of_beq_eq_true q) h
theorem get_new_self {h : Hs} {o : Ob} : (h.new o).get h.nx = some o := by
  show (match Nat.beq h.nx h.nx with | true => some o | false => getO h.nx h.os) = some o
  rw [beq_self]
theorem get_new_ne {h : Hs} {o : Ob} {i : Nat} (e : i ≠ h.nx) : (h.new o).get i = h.get i := by
  show (match Nat.beq i h.nx with | true => some o | false => getO i h.os) = _
  rw [beq_ne e]
  rfl
theorem getO_set_self {i : Nat} {o u : Ob} : ∀ {l : List (Nat × Ob)}, getO i l = some u → getO i (setO i o l) = some o
  | [], h => by cases h
  | (j, x) :: r, h => by
    unfold setO
    unfold getO at h
    cases q : Nat.beq i j with
    | true => simp only [getO, q]
    | false =>
      rw [q] at h
      simp only [getO, q]
      exact getO_set_self h
theorem getO_set_ne {i k : Nat} {o : Ob} (e : k ≠ i) : ∀ {l : List (Nat × Ob)}, getO k (setO i o l) = getO k l
  | [] => rfl
  | (j, x) :: r => by
    unfold setO
    cases q : Nat.beq i j with
    | true =>
      have : i = j := Nat.eq_of_beq_eq_true q
      subst this
      simp only [getO, beq_ne e]
    | false =>
      simp only [getO]
      rw [getO_set_ne e]
theorem getO_del_self {i : Nat} : ∀ {l : List (Nat × Ob)}, getO i (delO i l) = none
  | [] => rfl
  | (j, x) :: r => by
    unfold delO
    cases q : Nat.beq i j with
    | true => exact getO_del_self
    | false =>
      simp only [getO, q]
      exact getO_del_self
theorem getO_del_ne {i k : Nat} (e : k ≠ i) : ∀ {l : List (Nat × Ob)}, getO k (delO i l) = getO k l
  | [] => rfl
  | (j, x) :: r => by
    unfold delO
    cases q : Nat.beq i j with
    | true =>
      have : i = j := Nat.eq_of_beq_eq_true q
      subst this
      simp only [getO, beq_ne e]
      exact getO_del_ne e
    | false =>
      simp only [getO]
      rw [getO_del_ne e]
section
variable {K : PySem.W.Frag} {wd : World} {φ : List Addr} {hs : Hs} {Ho Hk Hr H2 : Hp}
theorem Ok.gro (I : Ok K wd φ hs Ho Hk Hr) (e : Same Hr H2) : Ok K wd φ hs Ho (gro Hk Hr H2) H2 where
  kr := gro_in I.kr e
  out := I.out.trans e
  len := I.len
  low := I.low
  obj := fun i o h => by
    obtain ⟨a, q1, q2, q3, q4⟩ := I.obj i o h
    obtain ⟨u, q5⟩ := q4.there
    exact ⟨a, q1, by rw [gro_old q5]; exact q2, q3, q4.mono Fx.refl (gro_same I.kr) fun u hu => e _ _ hu⟩
  inj := I.inj
  dis := fun b o h => by rw [gro_old (I.out _ _ h)]; exact I.dis b o h
/-- a new thing -/
theorem Ok.new (I : Ok K wd φ hs Ho Hk Hr) {p : Addr} {o : Ob} (np : Hr p = none) (e : Same Hr H2) (ho : OR K wd (φ ++ [p]) Hk H2 p o) : Ok K wd (φ ++ [p]) (hs.new o) Ho Hk H2 := by
  have nk : Hk p = none := by
    cases q : Hk p with
    | none => rfl
    | some u => rw [I.kr _ _ q] at np; cases np
  have no : Ho p = none := by
    cases q : Ho p with
    | none => rfl
    | some u => rw [I.out _ _ q] at np; cases np
  have far : ∀ (i : Nat) (a : Addr), hs.get i ≠ none → φ[i]? = some a → a ≠ p := fun i a h q z => by
    cases g : hs.get i with
    | none => exact h g
    | some u =>
      obtain ⟨b, q1, _, _, q4⟩ := I.obj i u g
      rw [q] at q1
      cases q1
      obtain ⟨u, q5⟩ := q4.there
      rw [z, np] at q5
      cases q5
  have lst : (φ ++ [p])[hs.nx]? = some p := by rw [← I.len]; simp
  have old : ∀ (i : Nat) (a : Addr), i ≠ hs.nx → (hs.new o).get i ≠ none → (φ ++ [p])[i]? = some a → hs.get i ≠ none ∧ φ[i]? = some a := fun i a h1 h2 h3 => by
    rw [get_new_ne h1] at h2
    refine ⟨h2, ?_⟩
    cases g : hs.get i with
    | none => exact absurd g h2
    | some u =>
      have := I.low i u g
      rw [List.getElem?_append_left (by rw [I.len]; exact this)] at h3
      exact h3
  refine ⟨I.kr.trans e, I.out.trans e, ?_, fun i u h => ?_, fun i u h => ?_, fun i j a hi hj h1 h2 => ?_, ?_⟩
  · rw [List.length_append, I.len]; rfl
  · by_cases q : i = hs.nx
    · rw [q]; exact Nat.lt_succ_self _
    · rw [get_new_ne q] at h
      exact Nat.lt_succ_of_lt (I.low i u h)
  · by_cases q : i = hs.nx
    · subst q
      rw [get_new_self] at h
      cases h
      exact ⟨p, lst, nk, no, ho⟩
    · rw [get_new_ne q] at h
      obtain ⟨a, q1, q2, q3, q4⟩ := I.obj i u h
      exact ⟨a, Fx.app i a q1, q2, q3, q4.mono Fx.app (Same.refl _) fun u hu => e _ _ hu⟩
  · by_cases q1 : i = hs.nx
    · by_cases q2 : j = hs.nx
      · rw [q1, q2]
      · exfalso
        obtain ⟨g1, g2⟩ := old j a q2 hj h2
        rw [q1, lst] at h1
        cases h1
        exact far j _ g1 g2 rfl
    · obtain ⟨g1, g2⟩ := old i a q1 hi h1
      by_cases q2 : j = hs.nx
      · exfalso
        rw [q2, lst] at h2
        cases h2
        exact far i _ g1 g2 rfl
      · obtain ⟨g3, g4⟩ := old j a q2 hj h2
        exact I.inj i j a g1 g3 g2 g4
  · exact I.dis
/-- a thing changes -/
theorem Ok.put (I : Ok K wd φ hs Ho Hk Hr) {i : Nat} {o o' : Ob} {a : Addr} {u : HO} (h : hs.get i = some o) (ha : φ[i]? = some a) (ho : OR K wd φ Hk (upd Hr a u) a o') : Ok K wd φ (hs.put i o') Ho Hk (upd Hr a u) := by
  obtain ⟨b, q1, q2, q3, q4⟩ := I.obj i o h
  rw [ha] at q1
  cases q1
  have gs : (hs.put i o').get i = some o' := getO_set_self h
  have gn : ∀ j, j ≠ i → (hs.put i o').get j = hs.get j := fun j e => getO_set_ne e
  have gz : ∀ j, (hs.put i o').get j ≠ none → hs.get j ≠ none := fun j e => by
    by_cases q : j = i
    · rw [q, h]; exact fun z => nomatch z
    · rw [gn j q] at e; exact e
  refine ⟨fun b v g => ?_, fun b v g => ?_, I.len, fun j v g => ?_, fun j v g => ?_, fun j k b hj hk h1 h2 => I.inj j k b (gz j hj) (gz k hk) h1 h2, I.dis⟩
  · rw [upd_ne (ne_of_none g q2)]; exact I.kr _ _ g
  · rw [upd_ne (ne_of_none g q3)]; exact I.out _ _ g
  · by_cases q : j = i
    · rw [q]; exact I.low i o h
    · rw [gn j q] at g; exact I.low j v g
  · by_cases q : j = i
    · subst q
      rw [gs] at g
      cases g
      exact ⟨a, ha, q2, q3, ho⟩
    · rw [gn j q] at g
      obtain ⟨b, r1, r2, r3, r4⟩ := I.obj j v g
      refine ⟨b, r1, r2, r3, r4.mono Fx.refl (Same.refl _) fun v hv => ?_⟩
      rw [upd_ne fun z => ?_]
      · exact hv
      · subst z
        exact q (I.inj j i b (by rw [g]; exact fun z => nomatch z) (by rw [h]; exact fun z => nomatch z) r1 ha)
/-- a list is not changed any more -/
theorem Ok.fix (I : Ok K wd φ hs Ho Hk Hr) {i : Nat} {ws : List W} (h : hs.get i = some (.lst ws)) : ∃ a Hk', φ[i]? = some a ∧ Same Hk Hk' ∧ Ok K wd φ (hs.del i) Ho Hk' Hr ∧ VR K wd φ Hk' (mkL ws) (.ref a) := by
  obtain ⟨a, q1, q2, q3, vs, q4, q5⟩ := I.obj i _ h
  have e : Same Hk (upd Hk a (.lst vs)) := new_same q2 _
  have gn : ∀ j, j ≠ i → (hs.del i).get j = hs.get j := fun j e => getO_del_ne e
  have gi : (hs.del i).get i = none := getO_del_self
  have gz : ∀ j, (hs.del i).get j ≠ none → j ≠ i ∧ hs.get j ≠ none := fun j e => by
    by_cases q : j = i
    · rw [q] at e; exact absurd gi e
    · rw [gn j q] at e; exact ⟨q, e⟩
  refine ⟨a, upd Hk a (.lst vs), q1, e, ⟨fun b v g => ?_, I.out, I.len, fun j v g => ?_, fun j v g => ?_, fun j k b hj hk h1 h2 => I.inj j k b (gz j hj).2 (gz k hk).2 h1 h2, fun b v g => by
    by_cases z : b = a
    · subst z; rw [q3] at g; cases g
    · rw [upd_ne z]; exact I.dis b v g⟩, VR.mkL (.inl (.inl upd_same)) (VRs.mono Fx.refl e q5)⟩
  · by_cases q : b = a
    · subst q
      rw [upd_same] at g
      rw [q4]; exact g
    · rw [upd_ne q] at g
      exact I.kr _ _ g
  · have z := gz j (by rw [g]; exact fun z => nomatch z)
    rw [gn j z.1] at g
    exact I.low j v g
  · have z := gz j (by rw [g]; exact fun z => nomatch z)
    rw [gn j z.1] at g
    obtain ⟨b, r1, r2, r3, r4⟩ := I.obj j v g
    refine ⟨b, r1, ?_, r3, r4.mono Fx.refl e fun v hv => hv⟩
    rw [upd_ne fun w => ?_]
    · exact r2
    · subst w
      exact z.1 (I.inj j i b z.2 (by rw [h]; exact fun z => nomatch z) r1 q1)
/-- a thing is not changed any more -/
theorem Ok.fix1 (I : Ok K wd φ hs Ho Hk Hr) {i : Nat} {o : Ob} {a : Addr} (u : HO) (h : hs.get i = some o) (q1 : φ[i]? = some a) : Same Hk (upd Hk a u) ∧ Ok K wd φ (hs.del i) Ho (upd Hk a u) (upd Hr a u) := by
  obtain ⟨a', q1', q2, q3, _⟩ := I.obj i _ h
  rw [q1] at q1'
  cases q1'
  have e : Same Hk (upd Hk a u) := new_same q2 _
  have gn : ∀ j, j ≠ i → (hs.del i).get j = hs.get j := fun j e => getO_del_ne e
  have gi : (hs.del i).get i = none := getO_del_self
  have gz : ∀ j, (hs.del i).get j ≠ none → j ≠ i ∧ hs.get j ≠ none := fun j e => by
    by_cases q : j = i
    · rw [q] at e; exact absurd gi e
    · rw [gn j q] at e; exact ⟨q, e⟩
  refine ⟨e, ⟨fun b v g => ?_, fun b v g => ?_, I.len, fun j v g => ?_, fun j v g => ?_, fun j k b hj hk h1 h2 => I.inj j k b (gz j hj).2 (gz k hk).2 h1 h2, fun b v g => by
    by_cases z : b = a
    · subst z; rw [q3] at g; cases g
    · rw [upd_ne z]; exact I.dis b v g⟩⟩
  · by_cases q : b = a
    · subst q
      rw [upd_same] at g ⊢
      exact g
    · rw [upd_ne q] at g ⊢
      exact I.kr _ _ g
  · rw [upd_ne (ne_of_none g q3)]
    exact I.out _ _ g
  · have z := gz j (by rw [g]; exact fun z => nomatch z)
    rw [gn j z.1] at g
    exact I.low j v g
  · have z := gz j (by rw [g]; exact fun z => nomatch z)
    rw [gn j z.1] at g
    obtain ⟨b, r1, r2, r3, r4⟩ := I.obj j v g
    have ne : b ≠ a := fun w => by
      subst w
      exact z.1 (I.inj j i b z.2 (by rw [h]; exact fun z => nomatch z) r1 q1)
    refine ⟨b, r1, by rw [upd_ne ne]; exact r2, r3, ?_⟩
    obtain ⟨x, hx⟩ := r4.there
    exact r4.mono2 Fx.refl e (by rw [upd_ne ne])
/-- what stands outside, more of it -/
theorem Ok.outer (I : Ok K wd φ hs Ho Hk Hr) {p : Addr} {u : HO} (np : Hr p = none) : Ok K wd φ hs (upd Ho p u) Hk (upd Hr p u) := by
  have nk : Hk p = none := by
    cases q : Hk p with
    | none => rfl
    | some v => rw [I.kr _ _ q] at np; cases np
  have e : Same Hr (upd Hr p u) := new_same np _
  refine ⟨I.kr.trans e, fun b v g => ?_, I.len, I.low, fun j v g => ?_, I.inj, fun b v g => ?_⟩
  · by_cases q : b = p
    · subst q
      rw [upd_same] at g ⊢
      exact g
    · rw [upd_ne q] at g ⊢
      exact I.out _ _ g
  · obtain ⟨b, r1, r2, r3, r4⟩ := I.obj j v g
    obtain ⟨x, hx⟩ := r4.there
    have ne : b ≠ p := fun z => by rw [z, np] at hx; cases hx
    exact ⟨b, r1, r2, by rw [upd_ne ne]; exact r3, r4.mono Fx.refl (Same.refl _) fun v hv => e _ _ hv⟩
  · by_cases q : b = p
    · rw [q]; exact nk
    · rw [upd_ne q] at g
      exact I.dis b v g
end
end Hx
noncomputable section
namespace Hx
open PySem L2 Pd Gn PySem.Spec PyProof.Rows
abbrev Rho := List (Option W)
structure SR (K : PySem.W.Frag) (wd : World) (φ : List Addr) (Hk : Hp) (ρ : Rho) (σ : L2.St) : Prop where
  len : ρ.length = σ.length
  at_ : ∀ (i : Nat) (w : W), ρ[i]? = some (some w) → ∃ v, σ[i]? = some (some v) ∧ VR K wd φ Hk w v
section
variable {K : PySem.W.Frag} {wd : World} {φ φ' : List Addr} {Hk Hk' : Hp} {ρ : Rho} {σ : L2.St} {w : W} {v : V}
theorem SR.ex (R : SR K wd φ Hk ρ σ) (e : Ex φ Hk φ' Hk') : SR K wd φ' Hk' ρ σ := ⟨R.len, fun i w h => by
  obtain ⟨v, q1, q2⟩ := R.at_ i w h
  exact ⟨v, q1, q2.ex e⟩⟩
theorem SR.set (R : SR K wd φ Hk ρ σ) {n : Nat} (h : VR K wd φ Hk w v) : SR K wd φ Hk (ρ.set n (some w)) (σ.set n (some v)) := ⟨by simp [R.len], fun i u q => by
  by_cases e : n = i
  · subst e
    have hl : n < ρ.length := by simpa using (List.getElem?_eq_some_iff.mp q).1
    rw [List.getElem?_set_self hl] at q
    cases q
    exact ⟨v, by rw [List.getElem?_set_self (by rw [← R.len]; exact hl)], h⟩
  · rw [List.getElem?_set_ne e] at q ⊢
    exact R.at_ i u q⟩
/-- fewer slots known, others changed -/
theorem SR.sub {ρ' : Rho} {σ' : L2.St} (R : SR K wd φ Hk ρ σ) (hl : ρ'.length = σ'.length) (h : ∀ (i : Nat) (w : W), ρ'[i]? = some (some w) → ρ[i]? = some (some w) ∧ σ'[i]? = σ[i]?) : SR K wd φ Hk ρ' σ' := ⟨hl, fun i u q => by
  obtain ⟨q1, q2⟩ := h i u q
  obtain ⟨v, r1, r2⟩ := R.at_ i u q1
  exact ⟨v, q2.trans r1, r2⟩⟩
theorem SR.no (R : SR K wd φ Hk ρ σ) {n : Nat} : SR K wd φ Hk (ρ.set n none) σ := R.sub (by simp [R.len]) fun i w q => ⟨by
  by_cases e : n = i
  · subst e
    have hl : n < ρ.length := by simpa using (List.getElem?_eq_some_iff.mp q).1
    rw [List.getElem?_set_self hl] at q
    cases q
  · rw [List.getElem?_set_ne e] at q
    exact q, rfl⟩
end
def xName : Nat → Str
  | 0 => "Refused"
  | 1 => "NoText"
  | 2 => "Malformed"
  | 3 => "ZeroDivisor"
  | _ => "Fault"
def xFld : Nat → Option Str
  | 0 => some "reason"
  | 1 => some "at"
  | _ => none
def XA (K : PySem.W.Frag) (mg : Str → Option Value) (x : Xc) (C : Addr) (d : Option Addr) (Hr : Hp) : Prop := mg (xName x.c) = some (.ref C) ∧ match xFld x.c with
  | some f => ∃ dd v, d = some dd ∧ Hr dd = some (.xd [(f, v)]) ∧ Dp K Hr v x.d
  | none => d = none
/-- where one stands -/
structure Pt (X : Cx) (Wx : WX) (E : Xc → Hs → Prop) (ρ : Rho) (hs : Hs) (φ : List Addr) (Ho Hk Hr : Hp) (σ : L2.St) : Prop where
  tk : L2.Takes X Wx
  I : Ok X.K X.w φ hs Ho Hk Hr
  R : SR X.K X.w φ Hk ρ σ
  x : ∀ x hs' C d φ' Hk' Hr', E x hs' → Ok X.K X.w φ' hs' Ho Hk' Hr' → Ex φ Hk φ' Hk' → XA X.K X.mg x C d Hr' → Wx (.ref C) d σ Hr'
theorem Pt.go {X : Cx} {Wx : WX} {E : Xc → Hs → Prop} {ρ : Rho} {hs hs' : Hs} {φ φ' : List Addr} {Ho Hk Hk' Hr Hr' : Hp} {σ : L2.St} (p : Pt X Wx E ρ hs φ Ho Hk Hr σ) (I : Ok X.K X.w φ' hs' Ho Hk' Hr') (e : Ex φ Hk φ' Hk') : Pt X Wx E ρ hs' φ' Ho Hk' Hr' σ :=
  ⟨p.tk, I, p.R.ex e, fun x hs'' C d φ'' Hk'' Hr'' h I' e' => p.x x hs'' C d φ'' Hk'' Hr'' h I' (e.trans e')⟩
def EM (X : Cx) (e : Expr) (ρ : Rho) (m : M W) : Prop :=
  ∀ {Wx : WX} {E : Xc → Hs → Prop} {P : W → Hs → Prop} {hs : Hs} {φ : List Addr} {Ho Hk Hr : Hp} {σ : L2.St}, Pt X Wx E ρ hs φ Ho Hk Hr σ → (m hs).sat P E →
    ∀ Q : VK, (∀ w hs' v φ' Hk' Hr', P w hs' → Pt X Wx E ρ hs' φ' Ho Hk' Hr' σ → Ex φ Hk φ' Hk' → VR X.K X.w φ' Hk' w v → Q v Hr') → sE X e σ Hr Q
def AM (X : Cx) (es : List Expr) (ρ : Rho) (m : M (List W)) : Prop :=
  ∀ {Wx : WX} {E : Xc → Hs → Prop} {P : List W → Hs → Prop} {hs : Hs} {φ : List Addr} {Ho Hk Hr : Hp} {σ : L2.St}, Pt X Wx E ρ hs φ Ho Hk Hr σ → (m hs).sat P E →
    ∀ Q : List V → Hp → Prop, (∀ w hs' v φ' Hk' Hr', P w hs' → Pt X Wx E ρ hs' φ' Ho Hk' Hr' σ → Ex φ Hk φ' Hk' → VRs X.K X.w φ' Hk' w v → Q v Hr') → sA X es σ Hr Q
def TM (X : Cx) (e : Expr) (ρ : Rho) (m : M Bool) : Prop :=
  ∀ {Wx : WX} {E : Xc → Hs → Prop} {P : Bool → Hs → Prop} {hs : Hs} {φ : List Addr} {Ho Hk Hr : Hp} {σ : L2.St}, Pt X Wx E ρ hs φ Ho Hk Hr σ → (m hs).sat P E →
    ∀ Q : Bool → Hp → Prop, (∀ w hs' φ' Hk' Hr', P w hs' → Pt X Wx E ρ hs' φ' Ho Hk' Hr' σ → Ex φ Hk φ' Hk' → Q w Hr') → sT X e σ Hr Q
def WM (X : Cx) (e : Expr) (ρ : Rho) (m : M Bool) : Prop :=
  ∀ {Wx : WX} {E : Xc → Hs → Prop} {P : Bool → Hs → Prop} {hs : Hs} {φ : List Addr} {Ho Hk Hr : Hp} {σ : L2.St}, Pt X Wx E ρ hs φ Ho Hk Hr σ → (m hs).sat P E →
    ∀ Q : Bool → Hp → Prop, (∀ w hs' φ' Hk' Hr', P w hs' → Pt X Wx E ρ hs' φ' Ho Hk' Hr' σ → Ex φ Hk φ' Hk' → Q w Hr') → sW X e σ Hr Q
/-- a new list -/
def LM (X : Cx) (e : Expr) (ρ : Rho) (m : M (List W)) : Prop :=
  ∀ {Wx : WX} {E : Xc → Hs → Prop} {P : List W → Hs → Prop} {hs : Hs} {φ : List Addr} {Ho Hk Hr : Hp} {σ : L2.St}, Pt X Wx E ρ hs φ Ho Hk Hr σ → (m hs).sat P E →
    ∀ Q : VK, (∀ ws hs' p vs φ' Hk' Hr', P ws hs' → Ok X.K X.w φ' hs' (upd Ho p (.lst vs)) Hk' Hr' → Ho p = none → Hk' p = none → Ex φ Hk φ' Hk' → VRs X.K X.w φ' Hk' ws vs → Q (.ref p) Hr') → sE X e σ Hr Q
section
variable {K : PySem.W.Frag} {wd : World} {φ : List Addr} {hs : Hs} {Ho Hk Hr H2 : Hp} {p : Addr} {vs : List V} {ws : List W}
theorem same_upd (h : Ho p = none) {u : HO} : Same Ho (upd Ho p u) := new_same h u
theorem Ok.claimF (I : Ok K wd φ hs (upd Ho p (.lst vs)) Hk Hr) (no : Ho p = none) (nk : Hk p = none) (h : VRs K wd φ Hk ws vs) : Ok K wd φ hs Ho (upd Hk p (.lst vs)) Hr ∧ Ex φ Hk φ (upd Hk p (.lst vs)) ∧ VR K wd φ (upd Hk p (.lst vs)) (mkL ws) (.ref p) := by
  have e : Same Hk (upd Hk p (.lst vs)) := new_same nk _
  have hp : Hr p = some (.lst vs) := I.out _ _ upd_same
  refine ⟨⟨fun b u g => ?_, fun b u g => I.out _ _ (same_upd no b u g), I.len, I.low, fun i o g => ?_, I.inj, fun b u g => ?_⟩, ⟨Fx.refl, e⟩, VR.mkL (.inl (.inl upd_same)) (h.mono Fx.refl e)⟩
  · by_cases q : b = p
    · subst q
      rw [upd_same] at g
      rw [hp]; exact g
    · rw [upd_ne q] at g
      exact I.kr _ _ g
  · obtain ⟨a, q1, q2, q3, q4⟩ := I.obj i o g
    have ne : a ≠ p := fun z => by rw [z, upd_same] at q3; cases q3
    rw [upd_ne ne] at q3
    exact ⟨a, q1, by rw [upd_ne ne]; exact q2, q3, q4.mono Fx.refl e fun _ h => h⟩
  · by_cases q : b = p
    · subst q; rw [no] at g; cases g
    · rw [upd_ne q]; exact I.dis b u (same_upd no b u g)
theorem Ok.claimN (I : Ok K wd φ hs (upd Ho p (.lst vs)) Hk Hr) (no : Ho p = none) (nk : Hk p = none) (h : VRs K wd φ Hk ws vs) : Ok K wd (φ ++ [p]) (hs.new (.lst ws)) Ho Hk Hr ∧ Ex φ Hk (φ ++ [p]) Hk ∧ VR K wd (φ ++ [p]) Hk (.ref hs.nx) (.ref p) := by
  have hp : Hr p = some (.lst vs) := I.out _ _ upd_same
  have lst : (φ ++ [p])[hs.nx]? = some p := by rw [← I.len]; simp
  have far : ∀ (i : Nat) (a : Addr), hs.get i ≠ none → φ[i]? = some a → a ≠ p := fun i a h q z => by
    cases g : hs.get i with
    | none => exact h g
    | some u =>
      obtain ⟨b, q1, _, q3, _⟩ := I.obj i u g
      rw [q] at q1
      cases q1
      rw [z, upd_same] at q3
      cases q3
  have old : ∀ (i : Nat) (a : Addr), i ≠ hs.nx → (hs.new (.lst ws)).get i ≠ none → (φ ++ [p])[i]? = some a → hs.get i ≠ none ∧ φ[i]? = some a := fun i a h1 h2 h3 => by
    rw [get_new_ne h1] at h2
    refine ⟨h2, ?_⟩
    cases g : hs.get i with
    | none => exact absurd g h2
    | some u =>
      have := I.low i u g
      rw [List.getElem?_append_left (by rw [I.len]; exact this)] at h3
      exact h3
  refine ⟨⟨I.kr, fun b u g => I.out _ _ (same_upd no b u g), ?_, fun i u h => ?_, fun i u g => ?_, fun i j a hi hj h1 h2 => ?_, fun b u g => I.dis b u (same_upd no b u g)⟩, ⟨Fx.app, Same.refl _⟩, .ref lst⟩
  · rw [List.length_append, I.len]; rfl
  · by_cases q : i = hs.nx
    · rw [q]; exact Nat.lt_succ_self _
    · rw [get_new_ne q] at h
      exact Nat.lt_succ_of_lt (I.low i u h)
  · by_cases q : i = hs.nx
    · subst q
      rw [get_new_self] at g
      cases g
      exact ⟨p, lst, nk, no, vs, hp, h.mono Fx.app (Same.refl _)⟩
    · rw [get_new_ne q] at g
      obtain ⟨a, q1, q2, q3, q4⟩ := I.obj i u g
      have ne : a ≠ p := fun z => by rw [z, upd_same] at q3; cases q3
      rw [upd_ne ne] at q3
      exact ⟨a, Fx.app i a q1, q2, q3, q4.mono Fx.app (Same.refl _) fun u hu => hu⟩
  · by_cases q1 : i = hs.nx
    · by_cases q2 : j = hs.nx
      · rw [q1, q2]
      · exfalso
        obtain ⟨g1, g2⟩ := old j a q2 hj h2
        rw [q1, lst] at h1
        cases h1
        exact far j _ g1 g2 rfl
    · obtain ⟨g1, g2⟩ := old i a q1 hi h1
      by_cases q2 : j = hs.nx
      · exfalso
        rw [q2, lst] at h2
        cases h2
        exact far i _ g1 g2 rfl
      · obtain ⟨g3, g4⟩ := old j a q2 hj h2
        exact I.inj i j a g1 g3 g2 g4
end
def frzW (m : M (List W)) : M W := bd m fun ws => rt (mkL ws)
def ownW (m : M (List W)) : M W := bd m fun ws => fun h => .ok (.ref h.nx) (h.new (.lst ws))
/-- what is read as data: a list of the mirror's heap by its items -/
def viewR (i : Nat) : Option Ob → W
  | some (.lst ws) => mkL ws
  | _ => .ref i
def view (h : Hs) : W → W
  | .ref i => viewR i (h.get i)
  | w => w
def scal : W → Bool
  | .dat .none => true
  | .dat (.bool _) => true
  | .dat (.int _) => true
  | .dat (.str _) => true
  | _ => false
section
variable {K : PySem.W.Frag} {wd : World} {φ φ' : List Addr} {hs : Hs} {Ho Hk Hr H H' : Hp} {w : W} {v : V}
theorem VR.view (I : Ok K wd φ hs Ho Hk Hr) (h : VR K wd φ Hk w v) : VR K wd φ Hr (view hs w) v := by
  cases w with
  | ref i =>
    show VR K wd φ Hr (viewR i (hs.get i)) v
    cases g : hs.get i with
    | none => exact h.mono Fx.refl I.kr
    | some o =>
      cases o with
      | lst ws =>
        cases h with
        | ref ha =>
          obtain ⟨a, q1, q2, q3, vs, q4, q5⟩ := I.obj i _ g
          rw [ha] at q1
          cases q1
          exact VR.mkL (.inl (.inl q4)) (q5.mono Fx.refl I.kr)
      | _ => exact h.mono Fx.refl I.kr
  | _ => exact h.mono Fx.refl I.kr
theorem VRs.view (I : Ok K wd φ hs Ho Hk Hr) : ∀ {ws : List W} {vs : List V}, VRs K wd φ Hk ws vs → VRs K wd φ Hr (ws.map (Hx.view hs)) vs
  | _, _, .nil => .nil
  | _, _, .cons h g => .cons (VR.view I h) (VRs.view I g)
theorem VR.scal (s : scal w = true) (h : VR K wd φ H w v) : VR K wd φ' H' w v := by
  unfold Hx.scal at s
  split at s
  · cases h with | dat h => cases h; exact .dat .non
  · cases h with | dat h => cases h; exact .dat (.bl _)
  · cases h with | dat h => cases h; exact .dat (.int _)
  · cases h with | dat h => cases h; exact .dat (.str _)
  · cases s
end
def wOp (X : Cx) (f : Value → Value → Sem Value) : R2 := fun x y H Q => ∀ (pins : List (Addr × Obj)) (s : Shared) (σ : L2.St) (v u : Value), Inv X pins σ H s → RelV x v → RelV y u → wpAny (model X.prog X.w) X.A (f v u) (EP X pins σ Q) X.xe s
theorem wOp_r {X : Cx} {f : Value → Value → Sem Value} : OpR X f (wOp X f) := fun pins s σ H x y v u Q I rx ry h => h pins s σ v u I rx ry
theorem wOp_of {X : Cx} {f : Value → Value → Sem Value} {r : R2} (h : OpR X f r) {x y : V} {H : Hp} {Q : VK} (q : r x y H Q) : wOp X f x y H Q := fun pins s σ v u I rx ry => h pins s σ H x y v u Q I rx ry q
def wCall (X : Cx) (f : Value) : List V → Hp → VK → Prop := fun xs H Q => ∀ (pins : List (Addr × Obj)) (s : Shared) (σ : L2.St) (us : List Value), Inv X pins σ H s → Vals xs us → wpAny (model X.prog X.w) X.A (call f us) (EP X pins σ Q) X.xe s
theorem wCall_r {X : Cx} {f : Value} : CallR X f (wCall X f) := fun pins s σ H xs us Q I r h => h pins s σ us I r
theorem wCall_of {X : Cx} {f : Value} {r : List V → Hp → VK → Prop} (h : CallR X f r) {xs : List V} {H : Hp} {Q : VK} (q : r xs H Q) : wCall X f xs H Q := fun pins s σ us I rv => h pins s σ H xs us Q I rv q
def wIx (X : Cx) : R2 := fun x y H Q => ∀ (value slice : Expr) (pins : List (Addr × Obj)) (s : Shared) (σ : L2.St) (v u : Value), Inv X pins σ H s → RelV x v → RelV y u → subscripted slice false v u = operate [v, u] (getItem v u) → wpAny (model X.prog X.w) X.A (subscriptTail value slice v u) (EP X pins σ Q) X.xe s
theorem wIx_r {X : Cx} : IxR X (wIx X) := fun value slice pins s σ H x y v u Q I rx ry h hs => h value slice pins s σ v u I rx ry hs
theorem wIx_of {X : Cx} {r : R2} (h : IxR X r) {x y : V} {H : Hp} {Q : VK} (q : r x y H Q) : wIx X x y H Q := fun value slice pins s σ v u I rx ry hs => h value slice pins s σ H x y v u Q I rx ry q hs
def wSl (X : Cx) : V → Option Int → Option Int → Hp → VK → Prop := fun x lo hi H Q => ∀ (pins : List (Addr × Obj)) (s : Shared) (σ : L2.St) (v vl vu : Value) (sl : Addr), Inv X pins σ H s → RelV x v → s.heap.IsSliceOf sl vl vu .none → IsPart vl lo → IsPart vu hi →
  ∃ T id, typeLookup (.type T) "__getitem__" = pure (some (.builtin id)) ∧ s.TypeIs v T ∧ wpAny (model X.prog X.w) X.A (getItem v (.ref sl)) (EP X pins σ Q) X.xe s
theorem wSl_r {X : Cx} : SlR X (wSl X) := fun pins s σ H x v vl vu lo hi sl Q I rx hs pl pu h => h pins s σ v vl vu sl I rx hs pl pu
theorem wSl_of {X : Cx} {r : V → Option Int → Option Int → Hp → VK → Prop} (h : SlR X r) {x : V} {lo hi : Option Int} {H : Hp} {Q : VK} (q : r x lo hi H Q) : wSl X x lo hi H Q := fun pins s σ v vl vu sl I rx hs pl pu => h pins s σ H x v vl vu lo hi sl Q I rx hs pl pu q
/-- what an operation on values gives -/
def RW (K : PySem.W.Frag) (wd : World) (r : R2) (x y w : W) : Prop := ∀ φ u v Hk Hr, Same Hk Hr → VR K wd φ Hk x u → VR K wd φ Hk y v → ∀ Q : VK, (∀ z H2, Same Hr H2 → VR K wd φ (gro Hk Hr H2) w z → Q z H2) → r u v Hr Q
def RWs (K : PySem.W.Frag) (wd : World) (r : List V → Hp → VK → Prop) (xs : List W) (w : W) : Prop := ∀ φ us Hk Hr, Same Hk Hr → VRs K wd φ Hk xs us → ∀ Q : VK, (∀ z H2, Same Hr H2 → VR K wd φ (gro Hk Hr H2) w z → Q z H2) → r us Hr Q
theorem rw_of {K : PySem.W.Frag} {wd : World} {r : R2} {a b d : PyData} (h : RD K r a b d) : RW K wd r (.dat a) (.dat b) (.dat d) := fun φ u v Hk Hr kr hu hv Q q => by
  cases hu with
  | dat hu =>
    cases hv with
    | dat hv => exact h u v Hk Hr kr hu hv Q fun z H2 e hz => q z H2 e (.dat hz)
theorem rws_of {K : PySem.W.Frag} {wd : World} {r : List V → Hp → VK → Prop} {ds : List PyData} {d : PyData} (h : RA K r ds d) : RWs K wd r (ds.map .dat) (.dat d) := fun φ us Hk Hr kr hu Q q => h us Hk Hr kr (VRs.dats hu) Q fun z H2 e hz => q z H2 e (.dat hz)
end Hx
noncomputable section
namespace Hx
open PySem L2 Pd Gn PySem.Spec PyProof.Rows
section
variable {X : Cx} {a b c e : Expr} {es rest : List Expr} {ρ : Rho} {m m1 m2 : M W} {ma : M (List W)} {ml : M (List W)} {mc mw mt : M Bool} {n k : Nat} {pos p0 p1 p2 : Pos} {x : Str} {w : W}
theorem em_c {v : V} {d : PyData} (h : PE X e (tC v)) (hv : ∀ H, Dp X.K H v d) : EM X e ρ (rt (.dat d)) := fun p s Q q => sE_of h (q _ _ v _ _ _ s p Ex.refl (.dat (hv _)))
theorem em_var (hN : X.N[n]? = some x) (hr : ρ[n]? = some (some w)) (hv : Vis X.env.scope x := by first | exact Or.inl rfl | exact Or.inr (Or.inl rfl) | exact Or.inr (Or.inr rfl)) (hd : (x == ("__debug__" : Str)) = false := by decide)
    (hcd : (x == ("__classdict__" : Str)) = false := by decide) : EM X (.Name x pos) ρ (rt w) := fun p s Q q => by
  obtain ⟨v, s1, h⟩ := p.R.at_ n w hr
  exact sE_of (pe_var hN hv hd hcd) ⟨v, s1, q _ _ v _ _ _ s p Ex.refl h⟩
theorem em_int {i : Int} : EM X (.Constant (.int i) n pos) ρ (rt (.dat (.int i))) := em_c pe_int fun _ => .int i
theorem em_bl {i : Bool} : EM X (.Constant (.bool i) n pos) ρ (rt (.dat (.bool i))) := em_c pe_bl fun _ => .bl i
def apM (m : M W) (ma : M (List W)) : M (List W) := bd m fun w => bd ma fun ws => rt (w :: ws)
theorem am_nil : AM X [] ρ (rt []) := fun p s Q q => sA_of pa_nil (q _ _ [] _ _ _ s p Ex.refl .nil)
theorem am_cons (ha : EM X e ρ m) (hr : AM X es ρ ma) (hs : starEach (e :: es) X.env = (false, eval e X.env) :: starEach es X.env := by rfl) : AM X (e :: es) ρ (apM m ma) := fun p s Q q =>
  sA_of (pa_cons pe_s pa_s hs) (ha p (sat_bind s) _ fun w h1 v φ1 Hk1 Hr1 s1 p1 e1 hv => hr p1 (sat_bind s1) _ fun ws h2 vs φ2 Hk2 Hr2 s2 p2 e2 hvs => q _ _ _ _ _ _ s2 p2 (e1.trans e2) (.cons (hv.ex e2) hvs))
def OF (X : Cx) (f : Value → Value → Sem Value) (F : W → W → Option W) : Prop := ∀ x y w, F x y = some w → ∃ r, OpR X f r ∧ RW X.K X.w r x y w
def binM (F : W → W → Option W) (m1 m2 : M W) : M W := bd m1 fun x => bd m2 fun y => lf (F x y)
theorem em_bin {op : Operator} {F : W → W → Option W} (hf : OF X (binaryOp op) F) (ha : EM X a ρ m1) (hb : EM X b ρ m2) : EM X (.BinOp a op b pos) ρ (binM F m1 m2) := fun p s Q q => by
  refine sE_of (pe_op wOp_r pe_s pe_s) (ha p (sat_bind s) _ fun x h1 u φ1 Hk1 Hr1 s1 p1 e1 hu => hb p1 (sat_bind s1) _ fun y h2 v φ2 Hk2 Hr2 s2 p2 e2 hv => ?_)
  obtain ⟨w, hw, s3⟩ := sat_lf s2
  obtain ⟨r, o, g⟩ := hf x y w hw
  exact wOp_of o (g φ2 u v Hk2 Hr2 p2.I.kr (hu.ex e2) hv Q fun z H2 e hz => q w _ z _ _ _ s3 (p2.go (p2.I.gro e) (Ex.gro p2.I.kr)) (e1.trans (e2.trans (Ex.gro p2.I.kr))) hz)
def l2 (f : PyData → PyData → Option PyData) : W → W → Option W
  | .dat x, .dat y => (f x y).map .dat
  | _, _ => none
theorem of_l2 {f : Value → Value → Sem Value} {F : PyData → PyData → Option PyData} (h : ∀ x y d, F x y = some d → ∃ r, OpR X f r ∧ RD X.K r x y d) : OF X f (l2 F) := fun x y w e => by
  unfold l2 at e
  split at e
  · obtain ⟨d, h1, h2⟩ := mpd e
    subst h2
    obtain ⟨r, o, g⟩ := h _ _ _ h1
    exact ⟨r, o, rw_of g⟩
  · cases e
theorem add_f : OF X (binaryOp .Add) (l2 pAddX) := of_l2 fun x y d h => by
  unfold pAddX at h
  split at h
  · obtain ⟨g1, g2⟩ := gd_some h
    cases g2
    exact ⟨_, op_catS, rd_catS (short_le g1)⟩
  · unfold pAdd at h
    split at h
    · cases h; exact ⟨_, op_add, rd_int0⟩
    · obtain ⟨g1, g2⟩ := gd_some h
      cases g2; exact ⟨_, op_catA, rd_cat (short_le g1)⟩
    · cases h
theorem sub_f : OF X (binaryOp .Sub) (l2 pSub) := of_l2 fun x y d h => by
  unfold pSub at h
  split at h
  · cases h; exact ⟨_, op_sub, rd_int0⟩
  · cases h
def CF (X : Cx) (op : CmpOp) (F : W → W → Option Bool) : Prop := ∀ x y k, F x y = some k → ∃ r, OpR X (compareOp op) r ∧ RW X.K X.w r x y (.dat (.bool k))
def cmpM (F : W → W → Option Bool) (m1 m2 : M W) : M Bool := bd m1 fun x => bd m2 fun y => fun h => lf (F (view h x) (view h y)) h
def bW (m : M Bool) : M W := bd m fun k => rt (.dat (.bool k))
theorem vr_bool {φ : List Addr} {H : Hp} {v : V} {k : Bool} (h : VR X.K X.w φ H (.dat (.bool k)) v) : v = .bl k := by
  cases h with
  | dat h => cases h; rfl
theorem em_cmp {op : CmpOp} {F : W → W → Option Bool} (hf : CF X op F) (ha : EM X a ρ m1) (hb : EM X b ρ m2) (hm : behindInMarks op b = false := by rfl) : EM X (.Compare a [op] [b] pos) ρ (bW (cmpM F m1 m2)) := fun p s Q q => by
  refine sE_of (pe_cmpR wOp_r pe_s pe_s hm) (ha p (sat_bind (sat_bind s)) _ fun x h1 u φ1 Hk1 Hr1 s1 p1 e1 hu => hb p1 (sat_bind s1) _ fun y h2 v φ2 Hk2 Hr2 s2 p2 e2 hv => ?_)
  obtain ⟨k, hk, s3⟩ := sat_lf s2
  obtain ⟨r, o, g⟩ := hf _ _ k hk
  refine wOp_of o (g φ2 u v Hr2 Hr2 (Same.refl _) ((hu.ex e2).view p2.I) (hv.view p2.I) Q fun z H2 e hz => ?_)
  exact q _ _ z _ _ _ s3 (p2.go (p2.I.gro e) (Ex.gro p2.I.kr)) (e1.trans (e2.trans (Ex.gro p2.I.kr))) (VR.scal rfl hz)
theorem tm_cmp {op : CmpOp} {F : W → W → Option Bool} (hf : CF X op F) (ha : EM X a ρ m1) (hb : EM X b ρ m2) (hm : behindInMarks op b = false := by rfl) : TM X (.Compare a [op] [b] pos) ρ (cmpM F m1 m2) := fun p s Q q => by
  refine sT_of (pt_cmpR wOp_r pe_s pe_s hm) (ha p (sat_bind s) _ fun x h1 u φ1 Hk1 Hr1 s1 p1 e1 hu => hb p1 (sat_bind s1) _ fun y h2 v φ2 Hk2 Hr2 s2 p2 e2 hv => ?_)
  obtain ⟨k, hk, s3⟩ := sat_lf s2
  obtain ⟨r, o, g⟩ := hf _ _ k hk
  refine wOp_of o (g φ2 u v Hr2 Hr2 (Same.refl _) ((hu.ex e2).view p2.I) (hv.view p2.I) _ fun z H2 e hz => ?_)
  exact ⟨k, vr_bool (X := X) hz, q _ _ _ _ _ s3 (p2.go (p2.I.gro e) (Ex.gro p2.I.kr)) (e1.trans (e2.trans (Ex.gro p2.I.kr)))⟩
def c2 (f : PyData → PyData → Option Bool) : W → W → Option Bool
  | .dat x, .dat y => f x y
  | _, _ => none
theorem cf_c2 {op : CmpOp} {F : PyData → PyData → Option Bool} (h : ∀ x y d, F x y = some d → ∃ r, OpR X (compareOp op) r ∧ RD X.K r x y (.bool d)) : CF X op (c2 F) := fun x y w e => by
  unfold c2 at e
  split at e
  · obtain ⟨r, o, g⟩ := h _ _ _ e
    exact ⟨r, o, rw_of g⟩
  · cases e
def cNe (x y : PyData) : Option Bool := (cEq x y).map (!·)
theorem ltF (hr : Room k X.A) : CF X .Lt (c2 cLt) := cf_c2 (lt_f hr)
theorem leF : CF X .LtE (c2 cLe) := cf_c2 le_f
theorem gtF : CF X .Gt (c2 cGt) := cf_c2 gt_f
theorem eqF (hr : Room k X.A) : CF X .Eq (c2 cEq) := cf_c2 (eq_f hr)
theorem neF (hr : Room k X.A) : CF X .NotEq (c2 cNe) := cf_c2 (ne_f hr)
def truthW : W → Option Bool
  | .dat d => truth d
  | .tup ws => some (!ws.isEmpty)
  | .lst ws => some (!ws.isEmpty)
  | _ => none
theorem truthW_ok {φ : List Addr} {H : Hp} {w : W} {v : V} {k : Bool} (h : VR X.K X.w φ H w v) (e : truthW w = some k) : TruV X.K v H k := by
  cases w with
  | dat d =>
    cases h with
    | dat h =>
      have e : truth d = some k := e
      cases d <;> simp only [truth, reduceCtorEq] at e
      · cases e; cases h; rfl
      · cases e; cases h; rfl
      · cases e; cases h; rfl
      · cases e
        cases h with
        | lst hs ha => exact .inl ⟨_, hs, emp_eq (DpAll.len ha)⟩
      · cases e
        cases h with
        | tup hs ha => exact .inr (.inl ⟨_, hs, emp_eq (DpAll.len ha)⟩)
  | tup ws =>
    cases h with
    | tup hs ha =>
      cases e
      exact .inr (.inl ⟨_, hs, emp_eq (VRs.len ha)⟩)
  | lst ws =>
    cases h with
    | lst hs ha =>
      cases e
      exact .inl ⟨_, hs, emp_eq (VRs.len ha)⟩
  | _ => cases e
def tvM (m : M W) : M Bool := bd m fun x => fun h => lf (truthW (view h x)) h
theorem tm_val (ha : EM X a ρ m) (he : ∀ whole, isTrue a X.env whole = (do let v ← whole; standAt a.pos; holding [v] (truthy v)) := by intro _; rfl) : TM X a ρ (tvM m) := fun p s Q q =>
  sT_of (pt_truth pe_s he) (ha p (sat_bind s) _ fun x h1 u φ1 Hk1 Hr1 s1 p1 e1 hu => by
    obtain ⟨k, hk, s2⟩ := sat_lf s1
    exact ⟨k, truthW_ok (hu.view p1.I) hk, q _ _ _ _ _ s2 p1 e1⟩)
def andM (m1 m2 : M Bool) : M Bool := bd m1 fun k => match k with | true => m2 | false => rt false
def orM (m1 m2 : M Bool) : M Bool := bd m1 fun k => match k with | true => rt true | false => m2
def notM (m : M Bool) : M Bool := bd m fun k => rt (!k)
theorem tm_w (h : WM X e ρ mc) : TM X e ρ mc := fun p s Q q pins st I' => (pw_s (X := X) (e := e)).pt.run pins st _ _ Q I' (h p s Q q)
theorem tm_not (ha : TM X a ρ mc) : TM X (.UnaryOp .Not a pos) ρ (notM mc) := fun p s Q q =>
  sT_of (pt_not pt_s) (ha p (sat_bind s) _ fun k h1 φ1 Hk1 Hr1 s1 p1 e1 => q _ _ _ _ _ s1 p1 e1)
theorem wm_and1 (ha : TM X a ρ mc) : WM X (.BoolOp .And [a] pos) ρ mc := fun p s Q q whole pins st I' => (pw_and1 pt_s).run whole pins st _ _ Q I' (ha p s Q q)
theorem wm_or1 (ha : TM X a ρ mc) : WM X (.BoolOp .Or [a] pos) ρ mc := fun p s Q q whole pins st I' => (pw_or1 pt_s).run whole pins st _ _ Q I' (ha p s Q q)
theorem wm_and (ha : TM X a ρ mc) (hb : WM X (.BoolOp .And (b :: rest) pos) ρ mw) : WM X (.BoolOp .And (a :: b :: rest) pos) ρ (andM mc mw) := fun p s Q q whole pins st I' =>
  (pw_and pt_s pw_s).run whole pins st _ _ Q I' (ha p (sat_bind s) _ fun k h1 φ1 Hk1 Hr1 s1 p1 e1 => by
    cases k with
    | true => exact iteT (hb p1 s1 Q fun k2 h2 φ2 Hk2 Hr2 s2 p2 e2 => q _ _ _ _ _ s2 p2 (e1.trans e2))
    | false => exact iteF (q _ _ _ _ _ s1 p1 e1))
theorem wm_or (ha : TM X a ρ mc) (hb : WM X (.BoolOp .Or (b :: rest) pos) ρ mw) : WM X (.BoolOp .Or (a :: b :: rest) pos) ρ (orM mc mw) := fun p s Q q whole pins st I' =>
  (pw_or pt_s pw_s).run whole pins st _ _ Q I' (ha p (sat_bind s) _ fun k h1 φ1 Hk1 Hr1 s1 p1 e1 => by
    cases k with
    | false => exact iteF (hb p1 s1 Q fun k2 h2 φ2 Hk2 Hr2 s2 p2 e2 => q _ _ _ _ _ s2 p2 (e1.trans e2))
    | true => exact iteT (q _ _ _ _ _ s1 p1 e1))
/-- as values: bools -/
def asBW : W → Option Bool
  | .dat (.bool b) => some b
  | _ => none
theorem asBW_eq {w : W} {k : Bool} (h : asBW w = some k) : w = .dat (.bool k) := by
  unfold asBW at h
  split at h
  · cases h; rfl
  · cases h
def bvM (m : M W) : M Bool := bd m fun w => lf (asBW w)
theorem em_one {op : BoolOp} (ha : EM X a ρ m) : EM X (.BoolOp op [a] pos) ρ (bW (bvM m)) := fun p s Q q =>
  sE_of (pe_one pe_s) (ha p (sat_bind (sat_bind s)) _ fun w h1 v φ1 Hk1 Hr1 s1 p1 e1 hv => by
    obtain ⟨k, hk, s2⟩ := sat_lf s1
    have := asBW_eq hk
    subst this
    exact q _ _ _ _ _ _ s2 p1 e1 hv)
theorem em_or (ha : EM X a ρ m) (hb : EM X (.BoolOp .Or (b :: rest) pos) ρ (bW mw)) : EM X (.BoolOp .Or (a :: b :: rest) pos) ρ (bW (orM (bvM m) mw)) := fun p s Q q =>
  sE_of (pe_or pe_s pe_s) (ha p (sat_bind (sat_bind (sat_bind s))) _ fun w h1 v φ1 Hk1 Hr1 s1 p1 e1 hv => by
    obtain ⟨k, hk, s2⟩ := sat_lf s1
    have := asBW_eq hk
    subst this
    obtain rfl := vr_bool (X := X) hv
    cases k with
    | false => exact ⟨false, rfl, iteF (hb p1 (sat_of s2) Q fun w2 h2 v2 φ2 Hk2 Hr2 s3 p2 e2 hv2 => q _ _ _ _ _ _ s3 p2 (e1.trans e2) hv2)⟩
    | true => exact ⟨true, rfl, iteT (q _ _ _ _ _ _ s2 p1 e1 (.dat (.bl _)))⟩)
def ifM {α : Type} (c : M Bool) (m1 m2 : M α) : M α := bd c fun k => match k with | true => m1 | false => m2
theorem em_if (hc : TM X c ρ mc) (ha : EM X a ρ m1) (hb : EM X b ρ m2) : EM X (.IfExp c a b pos) ρ (ifM mc m1 m2) := fun p s Q q =>
  sE_of (pe_ifExp pt_s pe_s pe_s) (hc p (sat_bind s) _ fun k h1 φ1 Hk1 Hr1 s1 p1 e1 => by
    cases k with
    | true => exact iteT (ha p1 s1 Q fun w2 h2 v2 φ2 Hk2 Hr2 s3 p2 e2 hv2 => q _ _ _ _ _ _ s3 p2 (e1.trans e2) hv2)
    | false => exact iteF (hb p1 s1 Q fun w2 h2 v2 φ2 Hk2 Hr2 s3 p2 e2 hv2 => q _ _ _ _ _ _ s3 p2 (e1.trans e2) hv2))
def asIW : W → Option Int
  | .dat (.int b) => some b
  | _ => none
theorem asIW_eq {w : W} {k : Int} (h : asIW w = some k) : w = .dat (.int k) := by
  unfold asIW at h
  split at h
  · cases h; rfl
  · cases h
theorem vr_int {φ : List Addr} {H : Hp} {v : V} {k : Int} (h : VR X.K X.w φ H (.dat (.int k)) v) : v = .int k := by
  cases h with
  | dat h => cases h; rfl
def tupM (ma : M (List W)) : M W := bd ma fun ws => lf (gd (short ws.length) (some (mkT ws)))
theorem em_tup (h : AM X es ρ ma) : EM X (.Tuple es n pos) ρ (tupM ma) := fun p s Q q =>
  sE_of (pe_tup pa_s) (h p (sat_bind s) _ fun ws h1 vs φ1 Hk1 Hr1 s1 p1 e1 hv => by
    obtain ⟨u, hk, s2⟩ := sat_lf s1
    obtain ⟨g1, g2⟩ := gd_some hk
    cases g2
    refine ⟨by rw [VRs.len hv]; exact le_line (short_le g1), fun t ht => ?_⟩
    have e2 := Ex.gro (φ := φ1) p1.I.kr (H2 := upd Hr1 t (.tup vs))
    exact q _ _ _ _ _ _ s2 (p1.go (p1.I.gro (new_same ht _)) e2) (e1.trans e2) (VR.mkT (.inl (.inl (by rw [gro_new ht, upd_same]))) (hv.ex e2)))
def lstM (ma : M (List W)) : M (List W) := bd ma fun ws => lf (gd (short ws.length) (some ws))
theorem lm_lst (h : AM X es ρ ma) : LM X (.List es pos) ρ (lstM ma) := fun p s Q q =>
  sE_of (pe_lst pa_s) (h p (sat_bind s) _ fun ws h1 vs φ1 Hk1 Hr1 s1 p1 e1 hv => by
    obtain ⟨u, hk, s2⟩ := sat_lf s1
    obtain ⟨g1, g2⟩ := gd_some hk
    cases g2
    refine ⟨by rw [VRs.len hv]; exact le_line (short_le g1), fun t ht => ?_⟩
    have nk : Hk1 t = none := by
      cases z : Hk1 t with
      | none => rfl
      | some o => rw [p1.I.kr _ _ z] at ht; cases ht
    have no : ∀ {Ho : Hp}, Same Ho Hr1 → Ho t = none := fun {Ho} so => by
      cases z : Ho t with
      | none => rfl
      | some o => rw [so _ _ z] at ht; cases ht
    exact q ws _ t vs φ1 Hk1 _ s2 (p1.I.outer ht) (no p1.I.out) nk e1 hv)
theorem em_frz (h : LM X e ρ ml) : EM X e ρ (frzW ml) := fun p s Q q => h p (sat_bind s) Q fun ws h1 t vs φ1 Hk1 Hr1 s1 I1 no nk e1 hv => by
  obtain ⟨I2, e2, hw⟩ := I1.claimF no nk hv
  exact q _ _ _ _ _ _ s1 (p.go I2 (e1.trans e2)) (e1.trans e2) hw
theorem em_own (h : LM X e ρ ml) : EM X e ρ (ownW ml) := fun p s Q q => h p (sat_bind s) Q fun ws h1 t vs φ1 Hk1 Hr1 s1 I1 no nk e1 hv => by
  obtain ⟨I2, e2, hw⟩ := I1.claimN no nk hv
  exact q _ _ _ _ _ _ s1 (p.go I2 (e1.trans e2)) (e1.trans e2) hw
end
end Hx
noncomputable section
namespace Hx
open PySem L2 Pd Gn PySem.Spec PyProof.Rows Zq
def seqW : W → Option (List W)
  | .dat (.tuple ds) => some (ds.map .dat)
  | .dat (.list ds) => some (ds.map .dat)
  | .tup ws => some ws
  | .lst ws => some ws
  | _ => none
def itemsH (h : Hs) (w : W) : Option (List W) := seqW (view h w)
section
variable {K : PySem.W.Frag} {wd : World} {φ : List Addr} {hs : Hs} {Ho Hk Hr H : Hp} {w : W} {v : V} {ws : List W} {vs : List V}
theorem VR.seq (h : VR K wd φ H w v) (e : seqW w = some ws) : ∃ t a vs, v = .ref a ∧ gSq K t H a vs ∧ VRs K wd φ H ws vs := by
  unfold seqW at e
  split at e
  · obtain ⟨a, vs, h1, h2, h3⟩ := h.asT (ws := ws) e
    exact ⟨true, a, vs, h1, h2, h3⟩
  · obtain ⟨a, vs, h1, h2, h3⟩ := h.asL (ws := ws) e
    exact ⟨false, a, vs, h1, h2, h3⟩
  · obtain ⟨a, vs, h1, h2, h3⟩ := h.asT (ws := ws) e
    exact ⟨true, a, vs, h1, h2, h3⟩
  · obtain ⟨a, vs, h1, h2, h3⟩ := h.asL (ws := ws) e
    exact ⟨false, a, vs, h1, h2, h3⟩
  · cases e
theorem seq_mkL (ws : List W) : seqW (mkL ws) = some ws := by
  unfold mkL
  split
  · rename_i ds e
    rw [datsOf_eq e]
    rfl
  · rfl
/-- what stands at an address that may change: its items, known -/
theorem VR.items (I : Ok K wd φ hs Ho Hk Hr) (h : VR K wd φ Hk w v) (e : itemsH hs w = some ws) : ∃ t a vs, v = .ref a ∧ gSq K t Hr a vs ∧ VRs K wd φ Hk ws vs := by
  unfold itemsH at e
  have go : ∀ {w : W}, VR K wd φ Hk w v → seqW w = some ws → ∃ t a vs, v = .ref a ∧ gSq K t Hr a vs ∧ VRs K wd φ Hk ws vs := fun {w} h e => by
    obtain ⟨t, a, vs, h1, h2, h3⟩ := h.seq e
    exact ⟨t, a, vs, h1, same_g I.kr h2, h3⟩
  cases w with
  | ref i =>
    have e : seqW (viewR i (hs.get i)) = some ws := e
    cases g : hs.get i with
    | none => rw [g] at e; cases e
    | some o =>
      rw [g] at e
      cases o with
      | lst us =>
        have e : seqW (Hx.mkL us) = some ws := e
        rw [seq_mkL] at e
        cases e
        cases h with
        | ref ha =>
          obtain ⟨a, q1, q2, q3, vs, q4, q5⟩ := I.obj i _ g
          rw [ha] at q1
          cases q1
          exact ⟨false, _, vs, rfl, .inl (.inl q4), q5⟩
      | _ => cases e
  | _ => exact go h e
theorem VRs.at (h : VRs K wd φ H ws vs) {i : Int} (e : atI ws i = some w) : ∃ v, atI vs i = some v ∧ VR K wd φ H w v := by
  unfold atI at e ⊢
  rw [VRs.len h]
  cases z : ixN ws.length i with
  | none => rw [z] at e; cases e
  | some m =>
    rw [z] at e
    exact VRs.get h e
def cutW (ws : List W) (lo hi : Option Int) : List W := (ws.drop (HT.sIx ws.length 0 lo)).take (HT.sIx ws.length ws.length hi - HT.sIx ws.length 0 lo)
theorem VRs.cut {l u : Option Int} (h : VRs K wd φ H ws vs) : VRs K wd φ H (cutW ws l u) (cutV vs l u) := by
  unfold cutW cutV
  rw [VRs.len h]
  exact VRs.take _ (VRs.drop _ h)
end
section
variable {X : Cx} {a b c e : Expr} {es rest : List Expr} {ρ : Rho} {m m1 m2 : M W} {ma : M (List W)} {ml : M (List W)} {mc mw mt : M Bool} {n k : Nat} {pos p0 p1 p2 : Pos} {x : Str} {w : W}
def ixM (m1 m2 : M W) : M W := bd m1 fun x => bd m2 fun y => fun h => lf ((asIW y).bind fun i => (itemsH h x).bind fun ws => atI ws i) h
theorem em_ix (ha : EM X a ρ m1) (hb : EM X b ρ m2) (hs : PlainIx b := by exact fun _ _ => rfl) : EM X (.Subscript a b pos) ρ (ixM m1 m2) := fun p s Q q => by
  refine sE_of (pe_ix wIx_r pe_s pe_s hs) (ha p (sat_bind s) _ fun x h1 u φ1 Hk1 Hr1 s1 p1 e1 hu => hb p1 (sat_bind s1) _ fun y h2 v φ2 Hk2 Hr2 s2 p2 e2 hv => ?_)
  obtain ⟨w, hw, s3⟩ := sat_lf s2
  obtain ⟨i, h3, hw1⟩ := bnd hw
  obtain ⟨ws, h4, hw2⟩ := bnd hw1
  clear hw hw1
  have := asIW_eq h3
  subst this
  obtain rfl := vr_int (X := X) hv
  obtain ⟨t, ad, vs, rfl, g1, g2⟩ := (hu.ex e2).items p2.I h4
  obtain ⟨z, z1, z2⟩ := g2.at (i := i) (w := w) hw2
  cases t
  · exact wIx_of ix_list ⟨_, _, _, _, rfl, rfl, g1, z1, q _ _ _ _ _ _ s3 p2 (e1.trans e2) z2⟩
  · exact wIx_of ix_tup ⟨_, _, _, _, rfl, rfl, g1, z1, q _ _ _ _ _ _ s3 p2 (e1.trans e2) z2⟩
def OM (X : Cx) (e : Option Expr) (ρ : Rho) (m : M (Option Int)) : Prop := ∃ t, PO X e t ∧
  ∀ {Wx : WX} {E : Xc → Hs → Prop} {P : Option Int → Hs → Prop} {hs : Hs} {φ : List Addr} {Ho Hk Hr : Hp} {σ : L2.St}, Pt X Wx E ρ hs φ Ho Hk Hr σ → (m hs).sat P E →
    ∀ Q : Option Int → Hp → Prop, (∀ i hs' φ' Hk' Hr', P i hs' → Pt X Wx E ρ hs' φ' Ho Hk' Hr' σ → Ex φ Hk φ' Hk' → Q i Hr') → t σ Hr Q
theorem om_none : OM X none ρ (rt none) := ⟨_, po_none, fun p s Q q => q _ _ _ _ _ s p Ex.refl⟩
def soM (m : M W) : M (Option Int) := bd m fun w => lf ((asIW w).map some)
theorem om_some (h : EM X e ρ m) : OM X (some e) ρ (soM m) := ⟨_, po_some pe_s, fun p s Q q => h p (sat_bind s) _ fun w h1 v φ1 Hk1 Hr1 s1 p1 e1 hv => by
  obtain ⟨i, h3, s2⟩ := sat_lf s1
  obtain ⟨j, h4, h5⟩ := mpd h3
  have := asIW_eq h4
  subst this; subst h5
  obtain rfl := vr_int (X := X) hv
  exact ⟨j, rfl, q _ _ _ _ _ s2 p1 e1⟩⟩
def kindT : W → Bool
  | .dat (.tuple _) => true
  | .tup _ => true
  | _ => false
def slM (m1 : M W) (ml mu : M (Option Int)) : M W := bd m1 fun x => bd ml fun l => bd mu fun u => fun h => lf ((itemsH h x).map fun ws => match kindT x with | true => mkT (cutW ws l u) | false => mkL (cutW ws l u)) h
theorem VR.kT {φ : List Addr} {H : Hp} {v : V} {ws : List W} {hs : Hs} (h : VR X.K X.w φ H w v) (e : kindT w = true) (g : itemsH hs w = some ws) : ∃ a vs, v = .ref a ∧ SqT X.K H a vs ∧ VRs X.K X.w φ H ws vs := by
  unfold kindT at e
  split at e
  · exact h.asT g
  · exact h.asT g
  · cases e
theorem VR.kF {φ : List Addr} {hs : Hs} {Ho Hk Hr : Hp} {v : V} {ws : List W} (I : Ok X.K X.w φ hs Ho Hk Hr) (h : VR X.K X.w φ Hk w v) (e : kindT w = false) (g : itemsH hs w = some ws) : ∃ a vs, v = .ref a ∧ SqL X.K Hr a vs ∧ VRs X.K X.w φ Hk ws vs := by
  cases w with
  | ref i =>
    have g : seqW (viewR i (hs.get i)) = some ws := g
    cases z : hs.get i with
    | none => rw [z] at g; cases g
    | some o =>
      rw [z] at g
      cases o with
      | lst us =>
        have g : seqW (Hx.mkL us) = some ws := g
        rw [seq_mkL] at g
        cases g
        cases h with
        | ref ha =>
          obtain ⟨a, q1, q2, q3, vs, q4, q5⟩ := I.obj i _ z
          rw [ha] at q1
          cases q1
          exact ⟨_, vs, rfl, .inl (.inl q4), q5⟩
      | _ => cases g
  | dat d =>
    cases d with
    | list ds =>
      obtain ⟨a, vs, h1, h2, h3⟩ := h.asL (ws := ws) g
      exact ⟨a, vs, h1, same_l I.kr h2, h3⟩
    | tuple ds => cases e
    | _ => cases g
  | tup us => cases e
  | lst us =>
    obtain ⟨a, vs, h1, h2, h3⟩ := h.asL (ws := ws) g
    exact ⟨a, vs, h1, same_l I.kr h2, h3⟩
  | _ => cases g
theorem cutW_all {ws : List W} {l u : Option Int} (hz : HT.sIx ws.length 0 l = 0 ∧ HT.sIx ws.length ws.length u = ws.length) : cutW ws l u = ws := by
  unfold cutW
  rw [hz.1, hz.2]
  simp
theorem em_cut {lo hi : Option Expr} {ml mu : M (Option Int)} (ha : EM X a ρ m1) (hl : OM X lo ρ ml) (hu : OM X hi ρ mu) : EM X (.Subscript a (.Slice lo hi none p2) pos) ρ (slM m1 ml mu) := fun p s Q q => by
  obtain ⟨tl, pl, hl⟩ := hl
  obtain ⟨tu, pu, hu⟩ := hu
  refine sE_of (pe_slice wSl_r pe_s pl pu) (ha p (sat_bind s) _ fun x h1 v φ1 Hk1 Hr1 s1 p1 e1 hv => hl p1 (sat_bind s1) _ fun l h2 φ2 Hk2 Hr2 s2 p2 e2 => hu p2 (sat_bind s2) _ fun u h3 φ3 Hk3 Hr3 s3 p3 e3 => ?_)
  obtain ⟨w, hw, s4⟩ := sat_lf s3
  obtain ⟨ws, h4, hw⟩ := mpd hw
  subst hw
  have e23 := e2.trans e3
  have e123 := e1.trans e23
  have hx := hv.ex e23
  cases z : kindT x with
  | true =>
    rw [z] at s4
    obtain ⟨ad, vs, rfl, g1, g2⟩ := VR.kT (X := X) hx z h4
    refine wSl_of sl_tupA ⟨_, _, rfl, same_t p3.I.kr g1, fun hz => ?_, fun _ t ht => ?_⟩
    · rw [VRs.len g2] at hz
      refine q _ _ _ _ _ _ s4 p3 e123 ?_
      show VR X.K X.w φ3 Hk3 (mkT (cutW ws l u)) _
      rw [cutW_all hz]
      exact VR.mkT g1 g2
    · have e4 := Ex.gro (φ := φ3) p3.I.kr (H2 := upd Hr3 t (.tup (cutV vs l u)))
      exact q _ _ _ _ _ _ s4 (p3.go (p3.I.gro (new_same ht _)) e4) (e123.trans e4) (VR.mkT (.inl (.inl (by rw [gro_new ht, upd_same]))) ((g2.cut).ex e4))
  | false =>
    rw [z] at s4
    obtain ⟨ad, vs, rfl, g1, g2⟩ := VR.kF (X := X) p3.I hx z h4
    refine wSl_of sl_list ⟨_, _, rfl, g1, fun t ht => ?_⟩
    have e4 := Ex.gro (φ := φ3) p3.I.kr (H2 := upd Hr3 t (.lst (cutV vs l u)))
    exact q _ _ _ _ _ _ s4 (p3.go (p3.I.gro (new_same ht _)) e4) (e123.trans e4) (VR.mkL (.inl (.inl (by rw [gro_new ht, upd_same]))) ((g2.cut).ex e4))
def BF (X : Cx) (f : Value) (F : List W → Option W) : Prop := ∀ ws w, F ws = some w → scal w = true ∧ ∃ r, CallR X f r ∧ RWs X.K X.w r ws w
def biM (F : List W → Option W) (ma : M (List W)) : M W := bd ma fun ws => fun h => lf (F (ws.map (view h))) h
theorem em_B {id : String} {F : List W → Option W} (hf : BF X (.builtin id) F) (hm : X.mg x = none) (hv : bootBuiltins x = some (.builtin id)) (ha : AM X (e :: es) ρ ma) (hg : Gl X x := by rfl) (hn : x ≠ "__name__" := by decide) (hdb : (x == ("__debug__" : Str)) = false := by decide)
    (he : starEach (e :: es) X.env = (false, eval e X.env) :: starEach es X.env := by rfl) (hpl : (backTo pos (starEach es X.env)).any (·.1) = false := by rfl) : EM X (.Call (.Name x p0) (e :: es) [] pos) ρ (biM F ma) := fun p s Q q => by
  refine sE_of (pe_callB wCall_r hg hm hv pa_s hn hdb he hpl) (ha p (sat_bind s) _ fun ws h1 vs φ1 Hk1 Hr1 s1 p1 e1 hvs => ?_)
  obtain ⟨w, hw, s2⟩ := sat_lf s1
  obtain ⟨sc, r, o, g⟩ := hf _ _ hw
  exact wCall_of o (g φ1 vs Hr1 Hr1 (Same.refl _) (hvs.view p1.I) Q fun z H2 e hz => q _ _ _ _ _ _ s2 (p1.go (p1.I.gro e) (Ex.gro p1.I.kr)) (e1.trans (Ex.gro p1.I.kr)) (hz.scal sc))
def u1 (f : PyData → Option PyData) : List W → Option W
  | [.dat x] => (f x).map .dat
  | _ => none
theorem scal_dat {d : PyData} (h : isScal d = true) : scal (.dat d) = true := by cases d <;> first | rfl | cases h
theorem bf_u1 {f : Value} {F : PyData → Option PyData} (h : ∀ x d, F x = some d → isScal d = true ∧ ∃ r, CallR X f r ∧ RA X.K r [x] d) : BF X f (u1 F) := fun ws w e => by
  unfold u1 at e
  split at e
  · obtain ⟨d, h1, h2⟩ := mpd e
    subst h2
    obtain ⟨s, r, o, g⟩ := h _ _ h1
    exact ⟨scal_dat s, r, o, rws_of g⟩
  · cases e
def u2 (f : PyData → PyData → Option PyData) : List W → Option W
  | [.dat x, .dat y] => (f x y).map .dat
  | _ => none
theorem bf_u2 {f : Value} {F : PyData → PyData → Option PyData} (h : ∀ x y d, F x y = some d → isScal d = true ∧ ∃ r, CallR X f r ∧ RA X.K r [x, y] d) : BF X f (u2 F) := fun ws w e => by
  unfold u2 at e
  split at e
  · obtain ⟨d, h1, h2⟩ := mpd e
    subst h2
    obtain ⟨s, r, o, g⟩ := h _ _ _ h1
    exact ⟨scal_dat s, r, o, rws_of (ds := [_, _]) g⟩
  · cases e
def fLen : List W → Option W
  | [w] => (seqW w).map fun ws => .dat (.int (ws.length : Nat))
  | _ => none
theorem len_f : BF X (.builtin "len") fLen := fun ws w e => by
  unfold fLen at e
  split at e
  · obtain ⟨us, h1, h2⟩ := mpd e
    subst h2
    refine ⟨rfl, _, call_len_seq, fun φ vs Hk Hr kr hv Q q => ?_⟩
    cases hv with
    | cons h2 h3 =>
      cases h3
      obtain ⟨t, ad, vs, rfl, g1, g2⟩ := h2.seq h1
      refine ⟨_, vs, rfl, ?_, by rw [VRs.len g2]; exact q _ Hr (Same.refl _) (.dat (.int _))⟩
      cases t
      · exact .inl (same_l kr g1)
      · exact .inr (same_t kr g1)
  · cases e
theorem min_f (hc : X.calm = true) : BF X (.builtin "min") (u2 pMin) := bf_u2 fun x y d h => by
  unfold pMin at h
  split at h
  · cases h; exact ⟨rfl, _, call_min2 hc, ra_min2⟩
  · cases h
theorem max_f (hc : X.calm = true) : BF X (.builtin "max") (u2 pMax) := bf_u2 fun x y d h => by
  unfold pMax at h
  split at h
  · cases h; exact ⟨rfl, _, call_max2 hc, ra_max2⟩
  · cases h
theorem sum_f (hc : X.calm = true) : BF X (.builtin "sum") (u1 pSum) := bf_u1 fun x d h => by
  unfold pSum at h
  split at h
  · obtain ⟨ns, h1, h2⟩ := mpd h
    subst h2
    rw [intsOf_eq h1]
    refine ⟨rfl, _, cr_sum hc, fun vs Hk Hr kr h Q q => ?_⟩
    cases h with
    | cons h1 h2 =>
      cases h2
      cases h1 with
      | lst hs ha =>
        have := DpAll.ints ha
        subst this
        exact ⟨_, ns, rfl, same_l kr hs, q _ Hr (Same.refl _) (.int _)⟩
  · obtain ⟨ns, h1, h2⟩ := mpd h
    subst h2
    rw [intsOf_eq h1]
    refine ⟨rfl, _, cr_sumT hc, fun vs Hk Hr kr h Q q => ?_⟩
    cases h with
    | cons h1 h2 =>
      cases h2
      cases h1 with
      | tup hs ha =>
        have := DpAll.ints ha
        subst this
        exact ⟨_, ns, rfl, same_t kr hs, q _ Hr (Same.refl _) (.int _)⟩
  · cases h
def dAny (x : PyData) : Option PyData := (pAny x).map .bool
theorem any_f (hc : X.calm = true) : BF X (.builtin "any") (u1 dAny) := bf_u1 fun x d h => by
  obtain ⟨r, h1, h2⟩ := mpd h
  subst h2
  unfold pAny at h1
  split at h1
  · obtain ⟨bs, h3, h4⟩ := mpd h1
    subst h4
    rw [boolsOf_eq h3]
    refine ⟨rfl, _, cr_any hc, fun vs Hk Hr kr h Q q => ?_⟩
    cases h with
    | cons h1 h2 =>
      cases h2
      cases h1 with
      | lst hs ha =>
        have := DpAll.bools ha
        subst this
        exact ⟨_, bs, rfl, same_l kr hs, q _ Hr (Same.refl _) (.bl _)⟩
  · cases h1
theorem am_one (ha : EM X e ρ m) (he : starEach [e] X.env = [(false, eval e X.env)]) {Wx : WX} {E : Xc → Hs → Prop} {P : W → Hs → Prop} {hs : Hs} {φ : List Addr} {Ho Hk Hr : Hp} {σ : L2.St} (p : Pt X Wx E ρ hs φ Ho Hk Hr σ) (s : (m hs).sat P E)
    (Q : List V → Hp → Prop) (q : ∀ w hs' v φ' Hk' Hr', P w hs' → Pt X Wx E ρ hs' φ' Ho Hk' Hr' σ → Ex φ Hk φ' Hk' → VR X.K X.w φ' Hk' w v → Q [v] Hr') : sA X [e] σ Hr Q :=
  sA_of (pa_cons pe_s pa_nil he) (ha p s _ fun w h1 v φ1 Hk1 Hr1 s1 p1 e1 hv => q _ _ _ _ _ _ s1 p1 e1 hv)
theorem far_of {Ho Hr : Hp} {l : Addr} (e : Same Ho Hr) (h : Hr l = none) : Ho l = none := by
  cases z : Ho l with
  | none => rfl
  | some o => rw [e _ _ z] at h; cases h
def loM (m : M W) : M (List W) := bd m fun x => fun h => lf (itemsH h x) h
theorem lm_list (hm : X.mg "list" = none) (ha : EM X e ρ m) (hg : Gl X "list" := by rfl) (he : starEach [e] X.env = [(false, eval e X.env)] := by rfl) (hpl : (backTo pos (starEach ([] : List Expr) X.env)).any (·.1) = false := by rfl) : LM X (.Call (.Name "list" p0) [e] [] pos) ρ (loM m) := fun p s Q q => by
  refine sE_of (pe_callTy call_list_of hg hm (by decide +kernel) pa_s (by decide) (by decide) he hpl) (am_one ha he p (sat_bind s) _ fun w h1 v φ1 Hk1 Hr1 s1 p1 e1 h2 => ?_)
  obtain ⟨us, hw, s2⟩ := sat_lf s1
  obtain ⟨t, ad, vs, rfl, g1, g2⟩ := h2.items p1.I hw
  refine ⟨_, vs, rfl, by cases t; exact .inl g1; exact .inr g1, fun l hl => ?_⟩
  exact q us _ l vs φ1 Hk1 _ s2 (p1.I.outer hl) (far_of p1.I.out hl) (far_of p1.I.kr hl) e1 g2
def toM (m : M W) : M W := bd m fun x => fun h => lf ((itemsH h x).map mkT) h
theorem em_tuple (hm : X.mg "tuple" = none) (ha : EM X e ρ m) (hg : Gl X "tuple" := by rfl) (he : starEach [e] X.env = [(false, eval e X.env)] := by rfl) (hpl : (backTo pos (starEach ([] : List Expr) X.env)).any (·.1) = false := by rfl) : EM X (.Call (.Name "tuple" p0) [e] [] pos) ρ (toM m) := fun p s Q q => by
  refine sE_of (pe_callTy call_tuple_of hg hm (by decide +kernel) pa_s (by decide) (by decide) he hpl) (am_one ha he p (sat_bind s) _ fun w h1 v φ1 Hk1 Hr1 s1 p1 e1 h2 => ?_)
  obtain ⟨us, hw, s2⟩ := sat_lf s1
  obtain ⟨ws, h4, hw⟩ := mpd hw
  subst hw
  cases z : kindT w with
  | true =>
    obtain ⟨ad, vs, rfl, g1, g2⟩ := VR.kT (X := X) h2 z h4
    exact ⟨_, vs, rfl, .inr ⟨same_t p1.I.kr g1, q _ _ _ _ _ _ s2 p1 e1 (VR.mkT g1 g2)⟩⟩
  | false =>
    obtain ⟨ad, vs, rfl, g1, g2⟩ := VR.kF (X := X) p1.I h2 z h4
    refine ⟨_, vs, rfl, .inl ⟨g1, fun l hl => ?_⟩⟩
    have e4 := Ex.gro (φ := φ1) p1.I.kr (H2 := upd Hr1 l (.tup vs))
    exact q _ _ _ _ _ _ s2 (p1.go (p1.I.gro (new_same hl _)) e4) (e1.trans e4) (VR.mkT (.inl (.inl (by rw [gro_new hl, upd_same]))) (g2.ex e4))
end
end Hx
noncomputable section
namespace Hx
open PySem L2 Pd Gn PySem.Spec PyProof.Rows Zq
/-- slots of which less is said -/
inductive LeR : Rho → Rho → Prop
  | nil : LeR [] []
  | keep {x : Option W} {r s : Rho} : LeR r s → LeR (x :: r) (x :: s)
  | drop {x : Option W} {r s : Rho} : LeR r s → LeR (none :: r) (x :: s)
theorem LeR.len : ∀ {r s : Rho}, LeR r s → r.length = s.length
  | _, _, .nil => rfl
  | _, _, .keep h => by rw [List.length_cons, List.length_cons, h.len]
  | _, _, .drop h => by rw [List.length_cons, List.length_cons, h.len]
theorem LeR.at : ∀ {r s : Rho} {i : Nat} {w : W}, LeR r s → r[i]? = some (some w) → s[i]? = some (some w)
  | _, _, _, _, .nil, h => by simp at h
  | _, _, 0, _, .keep h, g => by simpa using g
  | _, _, i + 1, _, .keep h, g => by
    have : _ := h.at (i := i) (by simpa using g)
    simpa using this
  | _, _, 0, _, .drop h, g => by simp at g
  | _, _, i + 1, _, .drop h, g => by
    have : _ := h.at (i := i) (by simpa using g)
    simpa using this
theorem LeR.set : ∀ {r s : Rho} {i : Nat} {x : Option W}, LeR r s → r[i]? = some none → LeR r (s.set i x)
  | _, _, _, _, .nil, h => by simp at h
  | _, _, 0, _, .keep h, g => by
    simp at g
    subst g
    exact .drop h
  | _, _, i + 1, _, .keep h, g => .keep (h.set (i := i) (by simpa using g))
  | _, _, 0, _, .drop h, g => .drop h
  | _, _, i + 1, _, .drop h, g => .drop (h.set (i := i) (by simpa using g))
theorem LeR.refl : ∀ {r : Rho}, LeR r r
  | [] => .nil
  | _ :: _ => .keep LeR.refl
theorem LeR.no : ∀ {s : Rho}, LeR (List.replicate s.length none) s
  | [] => .nil
  | _ :: s => .drop (LeR.no (s := s))
theorem LeR.sr {K : PySem.W.Frag} {wd : World} {φ : List Addr} {Hk : Hp} {r s : Rho} {σ : L2.St} (h : LeR r s) (R : SR K wd φ Hk s σ) : SR K wd φ Hk r σ := R.sub (by rw [h.len, R.len]) fun i w g => ⟨h.at g, rfl⟩
/-- where one stands, between statements; ρE: what is known of the slots when an error flies -/
structure Ps (X : Cx) (Wx : WX) (E : Xc → Hs → Prop) (ρE ρ : Rho) (hs : Hs) (φ : List Addr) (Ho Hk Hr : Hp) (σ : L2.St) : Prop where
  tk : L2.Takes X Wx
  I : Ok X.K X.w φ hs Ho Hk Hr
  R : SR X.K X.w φ Hk ρ σ
  sub : LeR ρE ρ
  x : ∀ x hs' C d φ' Hk' Hr' σ', E x hs' → Ok X.K X.w φ' hs' Ho Hk' Hr' → Ex φ Hk φ' Hk' → XA X.K X.mg x C d Hr' → SR X.K X.w φ' Hk' ρE σ' → Wx (.ref C) d σ' Hr'
section
variable {X : Cx} {Wx : WX} {E : Xc → Hs → Prop} {ρE ρ ρ' : Rho} {hs hs' : Hs} {φ φ' : List Addr} {Ho Hk Hk' Hr Hr' : Hp} {σ σ' : L2.St}
theorem Ps.pt (p : Ps X Wx E ρE ρ hs φ Ho Hk Hr σ) : Pt X Wx E ρ hs φ Ho Hk Hr σ := ⟨p.tk, p.I, p.R, fun x hs' C d φ' Hk' Hr' h I e a => p.x x hs' C d φ' Hk' Hr' σ h I e a (p.sub.sr (p.R.ex e))⟩
theorem Ps.to (p : Ps X Wx E ρE ρ hs φ Ho Hk Hr σ) (I : Ok X.K X.w φ' hs' Ho Hk' Hr') (e : Ex φ Hk φ' Hk') (R : SR X.K X.w φ' Hk' ρ' σ') (sub : LeR ρE ρ') : Ps X Wx E ρE ρ' hs' φ' Ho Hk' Hr' σ' :=
  ⟨p.tk, I, R, sub, fun x hs'' C d φ'' Hk'' Hr'' σ'' h I' e' a r => p.x x hs'' C d φ'' Hk'' Hr'' σ'' h I' (e.trans e') a r⟩
theorem Ps.of (p : Ps X Wx E ρE ρ hs φ Ho Hk Hr σ) (q : Pt X Wx E ρ hs' φ' Ho Hk' Hr' σ) (e : Ex φ Hk φ' Hk') : Ps X Wx E ρE ρ hs' φ' Ho Hk' Hr' σ := p.to q.I e q.R p.sub
end
def SM {α : Type} (X : Cx) (ρE : Rho) (sts : List Stmt) (ρ : Rho) (m : M (Res W α)) (g : α → Rho) : Prop :=
  ∀ {Wx : WX} {E : Xc → Hs → Prop} {P : Res W α → Hs → Prop} {hs : Hs} {φ : List Addr} {Ho Hk Hr : Hp} {σ : L2.St}, Ps X Wx E ρE ρ hs φ Ho Hk Hr σ → (m hs).sat P E → ∀ D : Ends,
    (∀ a hs' φ' Hk' Hr' σ', P (.nxt a) hs' → Ps X Wx E ρE (g a) hs' φ' Ho Hk' Hr' σ' → Ex φ Hk φ' Hk' → D.nx σ' Hr') →
    (∀ w hs' v φ' Hk' Hr', P (.ret w) hs' → Ok X.K X.w φ' hs' Ho Hk' Hr' → Ex φ Hk φ' Hk' → VR X.K X.w φ' Hk' w v → D.rt v Hr') → sSs X sts D σ Hr
def GM (K : PySem.W.Frag) (wd : World) {β : Type} (ρ : Rho) (g : TG) (u : W → Option β) (f : β → Rho) : Prop :=
  ∀ w b, u w = some b → ∀ φ Hk Hr σ v, Same Hk Hr → SR K wd φ Hk ρ σ → VR K wd φ Hk w v → ∀ Q : L2.St → Hp → Prop, (∀ σ', SR K wd φ Hk (f b) σ' → Q σ' Hr) → g v σ Hr Q
def GMs (K : PySem.W.Frag) (wd : World) {β : Type} (ρ : Rho) (g : TGs) (u : List W → Option β) (f : β → Rho) : Prop :=
  ∀ ws b, u ws = some b → ∀ φ Hk Hr σ vs, Same Hk Hr → SR K wd φ Hk ρ σ → VRs K wd φ Hk ws vs → ∀ Q : L2.St → Hp → Prop, (∀ σ', SR K wd φ Hk (f b) σ' → Q σ' Hr) → g vs σ Hr Q
section
variable {K : PySem.W.Frag} {wd : World} {ρ : Rho} {β γ : Type} {g : TG} {ts : TGs} {n : Nat}
def tgN : W → Option W := some
theorem gm_name : GM K wd ρ (gName n) tgN (fun w => ρ.set n (some w)) := fun w b h φ Hk Hr σ v kr R hv Q q => by
  cases h
  exact q _ (R.set hv)
def tgs0 : List W → Option Unit
  | [] => some ()
  | _ => none
theorem gms_nil : GMs K wd ρ gNil tgs0 (fun _ => ρ) := fun ws b h φ Hk Hr σ vs kr R hv Q q => by
  cases hv with
  | nil => exact ⟨rfl, q _ R⟩
  | cons _ _ => cases h
def tgsC (u : W → Option β) (us : List W → Option γ) : List W → Option (β × γ)
  | w :: r => (u w).bind fun b => (us r).map fun c => (b, c)
  | [] => none
theorem gms_cons {u : W → Option β} {us : List W → Option γ} {f : β → Rho} {fs : β → γ → Rho} (h1 : GM K wd ρ g u f) (h2 : ∀ b, GMs K wd (f b) ts us (fs b)) : GMs K wd ρ (gCons g ts) (tgsC u us) (fun p => fs p.1 p.2) := fun ws b h φ Hk Hr σ vs kr R hv Q q => by
  cases hv with
  | nil => cases h
  | cons hv hvs =>
    obtain ⟨b1, e1, h⟩ := bnd h
    obtain ⟨b2, e2, h⟩ := mpd h
    subst h
    exact ⟨_, _, rfl, h1 _ _ e1 φ Hk Hr σ _ kr R hv _ fun σ' R' => h2 b1 _ _ e2 φ Hk Hr σ' _ kr R' hvs _ q⟩
def tgT (n : Nat) (us : List W → Option γ) (w : W) : Option γ := (asT w).bind fun ws => match Nat.beq ws.length n with | true => us ws | false => none
theorem gm_tup {us : List W → Option γ} {f : γ → Rho} (h : GMs K wd ρ ts us f) : GM K wd ρ (gTup K n ts) (tgT n us) f := fun w b e φ Hk Hr σ v kr R hv Q q => by
  obtain ⟨ws, e1, e2⟩ := bnd e
  obtain ⟨a, vs, rfl, h1, h2⟩ := hv.asT e1
  cases z : Nat.beq ws.length n with
  | false => rw [z] at e2; cases e2
  | true =>
    rw [z] at e2
    exact ⟨a, vs, rfl, same_t kr h1, by rw [VRs.len h2]; exact Nat.eq_of_beq_eq_true z, h _ _ e2 φ Hk Hr σ _ kr R h2 _ q⟩
end
def retE {α : Type} (m : M (Res W Empty)) : M (Res W α) := bd m fun r => match r with | .ret w => rt (.ret w) | .nxt e => nomatch e
def seqM {α β : Type} (m : M (Res W α)) (k : α → M (Res W β)) : M (Res W β) := bd m fun r => match r with | .ret w => rt (.ret w) | .nxt a => k a
def frzM (w : W) : M W := fun h => match w with
  | .ref i => match h.get i with | some (.lst ws) => .ok (mkL ws) (h.del i) | _ => .bad
  | w => .ok w h
section
variable {X : Cx} {ρE ρ : Rho} {a b c e tg : Expr} {es : List Expr} {rest body tb eb sts : List Stmt} {m m1 m2 : M W} {ma : M (List W)} {mc : M Bool} {n i j k' : Nat} {pos p0 p1 p2 : Pos} {x y : Str} {w : W} {α β γ : Type} {g : α → Rho} {g1 : β → Rho}
theorem sm_nil {z : α} (h : LeR (g z) ρ) (h2 : LeR ρE (g z)) : SM X ρE [] ρ (rt (.nxt z)) g := fun p s D nx r => sSs_of pss_nil (nx z _ _ _ _ _ s (p.to p.I Ex.refl (h.sr p.R) h2) Ex.refl)
theorem sm_set {k : W → M (Res W α)} (hN : X.N.Nodup) (hi : X.N[n]? = some x) (hE : ρE[n]? = some none) (he : EM X e ρ m) (hr : ∀ w, SM X ρE rest (ρ.set n (some w)) (k w) g) (hx : Loc X.env.scope x := by first | exact Or.inl rfl | exact Or.inr rfl)
    (hs : swapsWith e (some (.Name x p0)) pos.line X.env = pure false := by rfl) (hf : X.fn x = true ∨ X.env.scope.names.lookup x = some .local := by first | exact .inl rfl | exact .inr rfl) : SM X ρE (.Assign [.Name x p0] e pos :: rest) ρ (bd m k) g := fun p s D nx r =>
  sSs_of (pss_cons (ps_set hN hi hx pe_s hs hf) pss_s) (he p.pt (sat_bind s) _ fun w h1 v φ1 Hk1 Hr1 s1 p1 e1 hv =>
    hr w (p.to p1.I e1 (p1.R.set hv) (p.sub.set hE)) s1 D (fun a hs' φ' Hk' Hr' σ' h q e' => nx a hs' φ' Hk' Hr' σ' h q (e1.trans e')) (fun w hs' v φ' Hk' Hr' h I e' hv => r w hs' v φ' Hk' Hr' h I (e1.trans e') hv))
/-- target = value -/
theorem sm_asg {gt : TG} {u : W → Option β} {f : β → Rho} {k : β → M (Res W α)} (he : EM X e ρ m) (hg : PG X tg gt) (hu : GM X.K X.w ρ gt u f) (hE : ∀ b, LeR ρE (f b)) (hr : ∀ b, SM X ρE rest (f b) (k b) g)
    (hs : swapsWithSole [tg] e pos.line X.env = pure false := by rfl) (hw : swappedStores [tg] e X.env = pure none := by rfl) (h1 : (assignEach [tg] X.env).map (·.2) = [assign tg X.env] := by rfl) : SM X ρE (.Assign [tg] e pos :: rest) ρ (bd m fun w => bd (lf (u w)) k) g := fun p s D nx r =>
  sSs_of (pss_cons (ps_asg pe_s hg hs hw h1) pss_s) (he p.pt (sat_bind s) _ fun w h1 v φ1 Hk1 Hr1 s1 p1 e1 hv => by
    obtain ⟨b, hb, s2⟩ := sat_lf (sat_bind s1)
    exact hu w b hb φ1 Hk1 Hr1 _ v p1.I.kr p1.R hv _ fun σ' R' => hr b (p.to p1.I e1 R' (hE b)) s2 D (fun a hs' φ' Hk' Hr' σ' h q e' => nx a hs' φ' Hk' Hr' σ' h q (e1.trans e')) (fun w hs' v φ' Hk' Hr' h I e' hv => r w hs' v φ' Hk' Hr' h I (e1.trans e') hv))
theorem sm_expr {k : M (Res W α)} (he : EM X e ρ m) (hr : SM X ρE rest ρ k g) (hs : swapsWith e none pos.line X.env = pure false := by rfl) : SM X ρE (.Expr e pos :: rest) ρ (bd m fun _ => k) g := fun p s D nx r =>
  sSs_of (pss_cons (ps_expr pe_s hs) pss_s) (he p.pt (sat_bind s) _ fun w h1 v φ1 Hk1 Hr1 s1 p1 e1 hv =>
    hr (p.of p1 e1) s1 D (fun a hs' φ' Hk' Hr' σ' h q e' => nx a hs' φ' Hk' Hr' σ' h q (e1.trans e')) (fun w hs' v φ' Hk' Hr' h I e' hv => r w hs' v φ' Hk' Hr' h I (e1.trans e') hv))
theorem sm_ret (he : EM X e ρ m) : SM X ρE (.Return (some e) pos :: rest) ρ (bd m fun w => rt (.ret w)) g := fun p s D nx r =>
  sSs_of (pss_cons (ps_ret pe_s) pss_s) (he p.pt (sat_bind s) _ fun w h1 v φ1 Hk1 Hr1 s1 p1 e1 hv => r w _ v _ _ _ s1 p1.I e1 hv)
theorem sm_if {k : β → M (Res W α)} {s1 s2 : M (Res W β)} (hc : TM X c ρ mc) (ha : SM X ρE tb ρ s1 g1) (hb : SM X ρE eb ρ s2 g1) (hr : ∀ z, SM X ρE rest (g1 z) (k z) g) : SM X ρE (.If c tb eb pos :: rest) ρ (seqM (ifM mc s1 s2) k) g := fun p s D nx r =>
  sSs_of (pss_cons (ps_if pt_s pss_s pss_s) pss_s) (hc p.pt (sat_bind (sat_bind s)) _ fun kk h1 φ1 Hk1 Hr1 t1 p1 e1 => by
    cases kk with
    | true => exact iteT (ha (p.of p1 e1) t1 _ (fun z hs' φ' Hk' Hr' σ' h q e' => hr z q h D (fun a hs' φ2 Hk2 Hr2 σ2 h q e2 => nx a hs' φ2 Hk2 Hr2 σ2 h q (e1.trans (e'.trans e2))) (fun w hs' v φ2 Hk2 Hr2 h I e2 hv => r w hs' v φ2 Hk2 Hr2 h I (e1.trans (e'.trans e2)) hv)) (fun w hs' v φ' Hk' Hr' h I e' hv => r w hs' v φ' Hk' Hr' h I (e1.trans e') hv))
    | false => exact iteF (hb (p.of p1 e1) t1 _ (fun z hs' φ' Hk' Hr' σ' h q e' => hr z q h D (fun a hs' φ2 Hk2 Hr2 σ2 h q e2 => nx a hs' φ2 Hk2 Hr2 σ2 h q (e1.trans (e'.trans e2))) (fun w hs' v φ2 Hk2 Hr2 h I e2 hv => r w hs' v φ2 Hk2 Hr2 h I (e1.trans (e'.trans e2)) hv)) (fun w hs' v φ' Hk' Hr' h I e' hv => r w hs' v φ' Hk' Hr' h I (e1.trans e') hv)))
/-- an if without else whose suite hands back -/
theorem sm_ifR {k : M (Res W α)} {s1 : M (Res W Empty)} {g0 : Empty → Rho} (hc : TM X c ρ mc) (ha : SM X ρE tb ρ s1 g0) (hr : SM X ρE rest ρ k g) : SM X ρE (.If c tb [] pos :: rest) ρ (ifM mc (retE s1) k) g := fun p s D nx r =>
  sSs_of (pss_cons (ps_if pt_s pss_s pss_s) pss_s) (hc p.pt (sat_bind s) _ fun kk h1 φ1 Hk1 Hr1 t1 p1 e1 => by
    cases kk with
    | true => exact iteT (ha (p.of p1 e1) (sat_bind t1) _ (fun z _ _ _ _ _ _ _ _ => nomatch z) (fun w hs' v φ' Hk' Hr' h I e' hv => r w hs' v φ' Hk' Hr' h I (e1.trans e') hv))
    | false => exact iteF (sSs_of pss_nil (hr (p.of p1 e1) t1 D (fun a hs' φ' Hk' Hr' σ' h q e' => nx a hs' φ' Hk' Hr' σ' h q (e1.trans e')) (fun w hs' v φ' Hk' Hr' h I e' hv => r w hs' v φ' Hk' Hr' h I (e1.trans e') hv))))
theorem frz_ok {K : PySem.W.Frag} {wd : World} {φ : List Addr} {hs : Hs} {Ho Hk Hr : Hp} {v : V} {P : W → Hs → Prop} {E : Xc → Hs → Prop} (I : Ok K wd φ hs Ho Hk Hr) (hv : VR K wd φ Hk w v) (s : (frzM w hs).sat P E) : ∃ w' hs' Hk', Ok K wd φ hs' Ho Hk' Hr ∧ Same Hk Hk' ∧ VR K wd φ Hk' w' v ∧ P w' hs' := by
  have other : (frzM w hs = .ok w hs) → ∃ w' hs' Hk', Ok K wd φ hs' Ho Hk' Hr ∧ Same Hk Hk' ∧ VR K wd φ Hk' w' v ∧ P w' hs' := fun e => by
    rw [e] at s
    exact ⟨w, hs, Hk, I, Same.refl _, hv, s⟩
  cases w with
  | ref i =>
    have s1 : (match hs.get i with | some (.lst ws) => T.ok (mkL ws) (hs.del i) | _ => T.bad : T W).sat P E := s
    cases g : hs.get i with
    | none =>
      rw [g] at s1
      exact s1.elim
    | some o =>
      rw [g] at s1
      cases o with
      | lst ws =>
        obtain ⟨a, Hk', f1, f2, I2, f3⟩ := I.fix g
        cases hv with
        | ref ha =>
          rw [ha] at f1
          cases f1
          exact ⟨_, _, Hk', I2, f2, f3, s1⟩
      | _ => exact s1.elim
  | _ => exact other rfl
theorem set_same {σ : L2.St} {v : V} (h : σ[n]? = some (some v)) : σ.set n (some v) = σ := by
  refine List.ext_getElem? fun j => ?_
  by_cases q : n = j
  · subst q
    have := (List.getElem?_eq_some_iff.mp h).1
    rw [List.getElem?_set_self this, h]
  · rw [List.getElem?_set_ne q]
theorem sm_frz {k : W → M (Res W α)} (h : ρ[n]? = some (some w)) (hE : ρE[n]? = some none) (hr : ∀ w, SM X ρE sts (ρ.set n (some w)) (k w) g) : SM X ρE sts ρ (bd (frzM w) k) g := fun {Wx E P hs φ Ho Hk Hr σ} p s D nx r => by
  obtain ⟨v, q1, q2⟩ := p.R.at_ n w h
  obtain ⟨w', hs', Hk', I2, e2, hv, s2⟩ := frz_ok p.I q2 (sat_bind s)
  have ee : Ex φ Hk φ Hk' := ⟨Fx.refl, e2⟩
  have R := (p.R.ex ee).set hv (n := n)
  rw [set_same q1] at R
  exact hr w' (p.to I2 ee R (p.sub.set hE)) s2 D (fun a hs' φ' Hk' Hr' σ' h q e' => nx a hs' φ' Hk' Hr' σ' h q (ee.trans e')) (fun w hs' v φ' Hk' Hr' h I e' hv => r w hs' v φ' Hk' Hr' h I (ee.trans e') hv)
end
end Hx
noncomputable section
namespace Hx
open PySem L2 Pd Gn PySem.Spec PyProof.Rows Zq RZ RT
def WkM (K : PySem.W.Frag) (wd : World) (φ : List Addr) (J : It) (ws : List W) (Hk : Hp) : Prop := ∀ i Hr, Same Hk Hr →
  (i < ws.length → J.go i Hr) ∧ (i = ws.length → J.stop i Hr) ∧ ∀ x H', J.yld i Hr x H' → Same Hr H' ∧ ∀ w, ws[i]? = some w → VR K wd φ (gro Hk Hr H') w x
theorem wkm_of {K : PySem.W.Frag} {wd : World} {φ : List Addr} {J : It} {ds : List PyData} {Hk : Hp} (h : Wk K J ds Hk) : WkM K wd φ J (ds.map .dat) Hk := fun i Hr e => by
  obtain ⟨h1, h2, h3⟩ := h i Hr e
  refine ⟨fun q => h1 (by simpa using q), fun q => h2 (by simpa using q), fun x H' hy => ?_⟩
  obtain ⟨g1, g2⟩ := h3 x H' hy
  refine ⟨g1, fun w hw => ?_⟩
  rw [List.getElem?_map] at hw
  cases z : ds[i]? with
  | none => rw [z] at hw; cases hw
  | some d =>
    rw [z] at hw
    cases hw
    exact .dat (g2 d z)
def wI (X : Cx) (tg iter : Expr) : TI := fun σ H R => ∀ (pins : List (Addr × Obj)) (s : Shared), Inv X pins σ H s → wpAny (model X.prog X.w) X.A (eval iter X.env) (fun v s1 => wpAny (model X.prog X.w) X.A (pyIter v) (PIE X pins σ tg R) X.xe s1) X.xe s
theorem pi_w {X : Cx} {tg iter : Expr} : PI X tg iter (wI X tg iter) := ⟨fun pins s σ H R I h => h pins s I⟩
theorem wI_of {X : Cx} {tg iter : Expr} {wi : TI} {σ : L2.St} {H : Hp} {R : It → Hp → Prop} (h : PI X tg iter wi) (q : wi σ H R) : wI X tg iter σ H R := fun pins s I => h.run pins s σ H R I q
def IM (X : Cx) (tg iter : Expr) (ρ : Rho) (m : M (List W)) : Prop :=
  ∀ {Wx : WX} {E : Xc → Hs → Prop} {P : List W → Hs → Prop} {hs : Hs} {φ : List Addr} {Ho Hk Hr : Hp} {σ : L2.St}, Pt X Wx E ρ hs φ Ho Hk Hr σ → (m hs).sat P E →
    ∀ R : It → Hp → Prop, (∀ ws hs' J φ' Hk' Hr', P ws hs' → Pt X Wx E ρ hs' φ' Ho Hk' Hr' σ → Ex φ Hk φ' Hk' → WkM X.K X.w φ' J ws Hk' → R J Hr') → wI X tg iter σ Hr R
def itG (K : PySem.W.Frag) (t : Bool) (a : Addr) : It := match t with | false => Itl K a | true => Itt K a
theorem wkm_g {K : PySem.W.Frag} {wd : World} {φ : List Addr} {Hk : Hp} {t : Bool} {a : Addr} {xs : List V} {ws : List W} (hs : gSq K t Hk a xs) (hx : VRs K wd φ Hk ws xs) : WkM K wd φ (itG K t a) ws Hk := fun i Hr e => by
  have l1 := VRs.len hx
  cases t
  · have hs' : SqL K Hr a xs := same_l e hs
    refine ⟨fun hi => ⟨xs, _, hs', List.getElem?_eq_getElem (by omega)⟩, fun hi => ⟨xs, hs', by omega⟩, fun x H' hy => ?_⟩
    obtain ⟨rfl, f⟩ := hy
    refine ⟨Same.refl _, fun w hw => ?_⟩
    obtain ⟨v, s1, s2⟩ := VRs.get hx hw
    have := f _ hs'
    rw [s1] at this
    cases this
    exact s2.mono Fx.refl (gro_same e)
  · have hs' : SqT K Hr a xs := same_t e hs
    refine ⟨fun hi => ⟨xs, _, hs', List.getElem?_eq_getElem (by omega)⟩, fun hi => ⟨xs, hs', by omega⟩, fun x H' hy => ?_⟩
    obtain ⟨rfl, f⟩ := hy
    refine ⟨Same.refl _, fun w hw => ?_⟩
    obtain ⟨v, s1, s2⟩ := VRs.get hx hw
    have := f _ hs'
    rw [s1] at this
    cases this
    exact s2.mono Fx.refl (gro_same e)
def stepM {α β : Type} (u : W → Option β) (mb : β → α → M (Res W α)) (w : W) (a : α) : M (Res W α) := bd (lf (u w)) fun b => mb b a
def forM {α : Type} (st : W → α → M (Res W α)) : List W → α → M (Res W α)
  | [], a => rt (.nxt a)
  | w :: ws, a => seqM (st w a) (forM st ws)
section
variable {X : Cx} {ρE ρ : Rho} {a b c e tg iter : Expr} {es tgs : List Expr} {rest body tb eb sts : List Stmt} {m m1 m2 m3 : M W} {ma mi : M (List W)} {mc : M Bool} {n i j k' tn : Nat} {pos p0 p1 p2 tpos : Pos} {x y : Str} {w : W} {α β γ : Type} {g : α → Rho}
/-- a value, walked -/
theorem pi_any {te : TE} (hl : PE X iter te) : PI X tg iter (fun σ H R => te σ H fun x H1 => ∃ t a xs, x = .ref a ∧ gSq X.K t H1 a xs ∧ R (itG X.K t a) H1) := by
  refine ⟨fun pins s σ H R I h => ?_⟩
  refine thn (hl.run pins s σ H _ I h) fun v s1 ⟨x, H1, I1, r1, q1⟩ => ?_
  obtain ⟨t, a, xs, e, hq, q⟩ := q1
  subst e
  cases r1
  cases t
  · obtain ⟨its, rv, p, hz⟩ := I1.list hq
    refine wpAny_pyIter_list p.isList ?_
    refine ⟨s1.heap.objs.size, [s1.heap.objs.size], _, _, H1, rfl, I1.kept (t' := s1.toks) fun b o e => Heap.get?_push_of_some _ e, turn_list a _, ⟨_, Heap.get?_push_size _ rfl, rfl, rfl⟩, fun b hb => ?_, q⟩
    have e : b = s1.heap.objs.size := by simpa using hb
    subst e
    exact I1.fpOk (Nat.le_refl _) (I1.hok.fresh (Nat.le_refl _))
  · obtain ⟨its, rv, p, hz⟩ := I1.tuple hq
    refine wpAny_pyIter_tuple (show s1.heap.IsTuple a its.toArray from p) ?_
    refine ⟨s1.heap.objs.size, [s1.heap.objs.size], _, _, H1, rfl, I1.kept (t' := s1.toks) fun b o e => Heap.get?_push_of_some _ e, turn_tuple a _, ⟨_, Heap.get?_push_size _ rfl, rfl, rfl⟩, fun b hb => ?_, q⟩
    have e : b = s1.heap.objs.size := by simpa using hb
    subst e
    exact I1.fpOk (Nat.le_refl _) (I1.hok.fresh (Nat.le_refl _))
def sqM (m : M W) : M (List W) := bd m fun w => lf (seqW w)
theorem im_val (ha : EM X iter ρ m) : IM X tg iter ρ (sqM m) := fun p s R q => wI_of (pi_any pe_s) (ha p (sat_bind s) _ fun w h1 v φ1 Hk1 Hr1 s1 p1 e1 hv => by
  obtain ⟨ws, h2, s2⟩ := sat_lf s1
  obtain ⟨t, a, xs, rfl, g1, g2⟩ := hv.seq h2
  exact ⟨t, a, xs, rfl, same_g p1.I.kr g1, q _ _ _ _ _ _ s2 p1 e1 (wkm_g g1 g2)⟩)
def rg1 (m : M W) : M (List W) := bd m fun w => lf ((asIW w).bind fun j => gd (small j) (some ((rngD 0 j.toNat).map .dat)))
theorem im_range1 (hm : X.mg "range" = none) (ha : EM X a ρ m) (hg : Gl X "range" := by rfl) (hs : starEach [a] X.env = [(false, eval a X.env)] := by rfl) : IM X tg (.Call (.Name "range" p0) [a] [] pos) ρ (rg1 m) := fun p s R q => by
  refine wI_of (pi_range1 hg hm pa_s hs) (am_one ha hs p (sat_bind s) _ fun w h1 v φ1 Hk1 Hr1 s1 p1 e1 hv => ?_)
  obtain ⟨ws, h2, s2⟩ := sat_lf s1
  obtain ⟨j, h3, h4⟩ := bnd h2
  obtain ⟨g1, g2⟩ := gd_some h4
  have := small_at g1
  cases g2
  have := asIW_eq h3
  subst this
  obtain rfl := vr_int (X := X) hv
  exact ⟨j, rfl, by omega, by omega, q _ _ _ _ _ _ s2 p1 e1 (wkm_of wk_rng)⟩
theorem am_two (ha : EM X a ρ m1) (hb : EM X b ρ m2) (he : starEach [a, b] X.env = (false, eval a X.env) :: starEach [b] X.env) (he2 : starEach [b] X.env = (false, eval b X.env) :: starEach [] X.env) {Wx : WX} {E : Xc → Hs → Prop} {P : W → Hs → Prop} {hs : Hs} {φ : List Addr} {Ho Hk Hr : Hp} {σ : L2.St} (p : Pt X Wx E ρ hs φ Ho Hk Hr σ) {mm : W → W → M β} {P : β → Hs → Prop} (s : (bd m1 (fun x => bd m2 fun y => mm x y) hs).sat P E)
    (Q : List V → Hp → Prop) (q : ∀ w1 w2 hs' v1 v2 φ' Hk' Hr', (mm w1 w2 hs').sat P E → Pt X Wx E ρ hs' φ' Ho Hk' Hr' σ → Ex φ Hk φ' Hk' → VR X.K X.w φ' Hk' w1 v1 → VR X.K X.w φ' Hk' w2 v2 → Q [v1, v2] Hr') : sA X [a, b] σ Hr Q :=
  sA_of (pa_cons pe_s (pa_cons pe_s pa_nil he2) he) (ha p (sat_bind s) _ fun w1 h1 v1 φ1 Hk1 Hr1 s1 p1 e1 hv1 => hb p1 (sat_bind s1) _ fun w2 h2 v2 φ2 Hk2 Hr2 s2 p2 e2 hv2 => q _ _ _ _ _ _ _ _ s2 p2 (e1.trans e2) (hv1.ex e2) hv2)
def rg2 (m1 m2 : M W) : M (List W) := bd m1 fun x => bd m2 fun y => lf ((asIW x).bind fun i => (asIW y).bind fun j => gd (small i && small j) (some ((rngD i (j - i).toNat).map .dat)))
theorem im_range2 (hm : X.mg "range" = none) (ha : EM X a ρ m1) (hb : EM X b ρ m2) (hg : Gl X "range" := by rfl) (hs : starEach [a, b] X.env = [(false, eval a X.env), (false, eval b X.env)] := by rfl) (hs2 : starEach [b] X.env = [(false, eval b X.env)] := by rfl) : IM X tg (.Call (.Name "range" p0) [a, b] [] pos) ρ (rg2 m1 m2) := fun p s R q => by
  refine wI_of (pi_range2 hg hm pa_s hs hs2) (am_two (P := fun _ _ => True) ha hb (by rw [hs, hs2]) (by rw [hs2]; rfl) p s _ fun w1 w2 h1 v1 v2 φ1 Hk1 Hr1 s1 p1 e1 hv1 hv2 => ?_)
  obtain ⟨ws, h2, s2⟩ := sat_lf s1
  obtain ⟨i, h3, h4⟩ := bnd h2
  obtain ⟨j, h5, h6⟩ := bnd h4
  obtain ⟨g1, g2⟩ := gd_some h6
  rw [Bool.and_eq_true] at g1
  have b1 := small_at g1.1
  have b2 := small_at g1.2
  cases g2
  have := asIW_eq h3
  subst this
  have := asIW_eq h5
  subst this
  obtain rfl := vr_int (X := X) hv1
  obtain rfl := vr_int (X := X) hv2
  exact ⟨i, j, rfl, ⟨by omega, by omega, by omega, by omega⟩, q _ _ _ _ _ _ s2 p1 e1 (wkm_of wk_rng)⟩
/-- range(i, j, -1) -/
def rgD (m1 m2 : M W) : M (List W) := bd m1 fun x => bd m2 fun y => lf ((asIW x).bind fun i => (asIW y).bind fun j => gd (small i && small j) (some ((dwnD i (i - j).toNat).map .dat)))
theorem im_down {q1 q2 : Pos} {cn : Nat} (hm : X.mg "range" = none) (ha : EM X a ρ m1) (hb : EM X b ρ m2) (hg : Gl X "range" := by rfl) (hs : starEach [a, b, .UnaryOp .USub (.Constant (.int 1) cn q1) q2] X.env = (false, eval a X.env) :: starEach [b, .UnaryOp .USub (.Constant (.int 1) cn q1) q2] X.env := by rfl)
    (hs1 : starEach [b, .UnaryOp .USub (.Constant (.int 1) cn q1) q2] X.env = (false, eval b X.env) :: starEach [.UnaryOp .USub (.Constant (.int 1) cn q1) q2] X.env := by rfl) (hs2 : starEach [.UnaryOp .USub (.Constant (.int 1) cn q1) q2] X.env = (false, eval (.UnaryOp .USub (.Constant (.int 1) cn q1) q2) X.env) :: starEach [] X.env := by rfl)
    (hpl : (backTo pos (starEach [b, .UnaryOp .USub (.Constant (.int 1) cn q1) q2] X.env)).any (·.1) = false := by rfl) : IM X tg (.Call (.Name "range" p0) [a, b, .UnaryOp .USub (.Constant (.int 1) cn q1) q2] [] pos) ρ (rgD m1 m2) := fun p s R q => by
  refine wI_of (pi_range3 hg hm pa_s hs hpl) (sA_of (pa_cons pe_s (pa_cons pe_s (pa_cons (pe_un un_neg pe_int) pa_nil hs2) hs1) hs) (ha p (sat_bind s) _ fun w1 h1 v1 φ1 Hk1 Hr1 s1 p1 e1 hv1 => hb p1 (sat_bind s1) _ fun w2 h2 v2 φ2 Hk2 Hr2 s2 p2 e2 hv2 => ?_))
  obtain ⟨ws, h2, s3⟩ := sat_lf s2
  obtain ⟨i, h3, h4⟩ := bnd h2
  obtain ⟨j, h5, h6⟩ := bnd h4
  obtain ⟨g1, g2⟩ := gd_some h6
  rw [Bool.and_eq_true] at g1
  have b1 := small_at g1.1
  have b2 := small_at g1.2
  cases g2
  have := asIW_eq h3
  subst this
  have := asIW_eq h5
  subst this
  obtain rfl := vr_int (X := X) hv1
  obtain rfl := vr_int (X := X) hv2
  exact ⟨1, rfl, i, j, -1, (i - j).toNat, rfl, RgC.neg (by omega) (by omega) (by omega) (by omega), q _ _ _ _ _ _ s3 p2 (e1.trans e2) (wkm_of wk_dwn)⟩
def zipW : List W → List W → List W
  | x :: xs, y :: ys => mkT [x, y] :: zipW xs ys
  | _, _ => []
theorem zipW_len : ∀ {xs ys : List W}, (zipW xs ys).length = min xs.length ys.length
  | [], ys => by simp [zipW]
  | x :: xs, [] => by simp [zipW]
  | x :: xs, y :: ys => by simp [zipW, zipW_len (xs := xs) (ys := ys)]
theorem zipW_get : ∀ {xs ys : List W} {n : Nat} {w : W}, (zipW xs ys)[n]? = some w → ∃ x y, xs[n]? = some x ∧ ys[n]? = some y ∧ w = mkT [x, y]
  | [], ys, n, w, h => by simp [zipW] at h
  | x :: xs, [], n, w, h => by simp [zipW] at h
  | x :: xs, y :: ys, 0, w, h => by
    simp [zipW] at h
    exact ⟨x, y, rfl, rfl, h.symm⟩
  | x :: xs, y :: ys, n + 1, w, h => by
    obtain ⟨u, v, h1, h2, h3⟩ := zipW_get (xs := xs) (ys := ys) (n := n) (by simpa [zipW] using h)
    exact ⟨u, v, by simpa using h1, by simpa using h2, h3⟩
theorem gro_mk {K : PySem.W.Frag} {wd : World} {φ : List Addr} {Hk Hr : Hp} {t : Addr} {ws : List W} {vs : List V} (kr : Same Hk Hr) (ht : Hr t = none) (h : VRs K wd φ Hk ws vs) : VR K wd φ (gro Hk Hr (upd Hr t (.tup vs))) (mkT ws) (.ref t) :=
  VR.mkT (.inl (.inl (by rw [gro_new ht, upd_same]))) (h.mono Fx.refl (gro_same kr))
theorem wkm_z2 {K : PySem.W.Frag} {wd : World} {φ : List Addr} {Hk : Hp} {t1 t2 : Bool} {a b : Addr} {xs ys : List V} {ws us : List W} (hs : gSq K t1 Hk a xs) (ht : gSq K t2 Hk b ys) (hx : VRs K wd φ Hk ws xs) (hy : VRs K wd φ Hk us ys) : WkM K wd φ (ItG K t1 t2 a b) (zipW ws us) Hk := fun i Hr e => by
  have l1 := VRs.len hx
  have l2 := VRs.len hy
  have hs' := same_g e hs
  have ht' := same_g e ht
  refine ⟨fun hi => ?_, fun hi => ?_, fun x H' h => ?_⟩
  · rw [zipW_len] at hi
    exact ⟨xs, ys, _, _, hs', ht', List.getElem?_eq_getElem (by omega), List.getElem?_eq_getElem (by omega)⟩
  · rw [zipW_len] at hi
    exact ⟨xs, ys, hs', ht', by omega, by omega, by omega⟩
  · obtain ⟨T, x', y', rfl, hn, rfl, f1, f2⟩ := h
    refine ⟨new_same hn _, fun w hw => ?_⟩
    obtain ⟨u, v, q1, q2, rfl⟩ := zipW_get hw
    obtain ⟨u', s1, s2⟩ := VRs.get hx q1
    obtain ⟨v', s3, s4⟩ := VRs.get hy q2
    have g1 := f1 _ hs'
    have g2 := f2 _ ht'
    rw [s1] at g1
    rw [s3] at g2
    cases g1
    cases g2
    exact gro_mk e hn (.cons s2 (.cons s4 .nil))
def z2M (m1 m2 : M W) : M (List W) := bd m1 fun x => bd m2 fun y => lf ((seqW x).bind fun ws => (seqW y).map fun us => zipW ws us)
theorem im_z2 (hm : X.mg "zip" = none) (ha : EM X a ρ m1) (hb : EM X b ρ m2) (hg : Gl X "zip" := by rfl) (hs : starEach [a, b] X.env = (false, eval a X.env) :: starEach [b] X.env := by rfl) (hs2 : starEach [b] X.env = (false, eval b X.env) :: starEach [] X.env := by rfl) (hpl : (backTo pos (starEach [b] X.env)).any (·.1) = false := by rfl) :
    IM X (.Tuple tgs tn tpos) (.Call (.Name "zip" p0) [a, b] [] pos) ρ (z2M m1 m2) := fun p s R q => by
  refine wI_of (pi_z2 hg hm pa_s hs hpl) (am_two (P := fun _ _ => True) ha hb hs hs2 p s _ fun w1 w2 h1 v1 v2 φ1 Hk1 Hr1 s1 p1 e1 hv1 hv2 => ?_)
  obtain ⟨ws, h2, s2⟩ := sat_lf s1
  obtain ⟨us1, h3, h4⟩ := bnd h2
  obtain ⟨us2, h5, h6⟩ := mpd h4
  subst h6
  obtain ⟨t1, a1, xs, rfl, g1, d1⟩ := hv1.seq h3
  obtain ⟨t2, a2, ys, rfl, g2, d2⟩ := hv2.seq h5
  exact ⟨t1, t2, a1, a2, xs, ys, rfl, same_g p1.I.kr g1, same_g p1.I.kr g2, q _ _ _ _ _ _ s2 p1 e1 (wkm_z2 g1 g2 d1 d2)⟩
def zip3W : List W → List W → List W → List W
  | x :: xs, y :: ys, z :: zs => mkT [x, y, z] :: zip3W xs ys zs
  | _, _, _ => []
theorem zip3W_len : ∀ {xs ys zs : List W}, (zip3W xs ys zs).length = min xs.length (min ys.length zs.length)
  | [], ys, zs => by simp [zip3W]
  | x :: xs, [], zs => by simp [zip3W]
  | x :: xs, y :: ys, [] => by simp [zip3W]
  | x :: xs, y :: ys, z :: zs => by
    simp only [zip3W, List.length_cons, zip3W_len (xs := xs) (ys := ys) (zs := zs)]
    omega
theorem zip3W_get : ∀ {xs ys zs : List W} {n : Nat} {w : W}, (zip3W xs ys zs)[n]? = some w → ∃ x y z, xs[n]? = some x ∧ ys[n]? = some y ∧ zs[n]? = some z ∧ w = mkT [x, y, z]
  | [], ys, zs, n, w, h => by simp [zip3W] at h
  | x :: xs, [], zs, n, w, h => by simp [zip3W] at h
  | x :: xs, y :: ys, [], n, w, h => by simp [zip3W] at h
  | x :: xs, y :: ys, z :: zs, 0, w, h => by
    simp [zip3W] at h
    exact ⟨x, y, z, rfl, rfl, rfl, h.symm⟩
  | x :: xs, y :: ys, z :: zs, n + 1, w, h => by
    obtain ⟨u, v, r, h1, h2, h3, h4⟩ := zip3W_get (xs := xs) (ys := ys) (zs := zs) (n := n) (by simpa [zip3W] using h)
    exact ⟨u, v, r, by simpa using h1, by simpa using h2, by simpa using h3, h4⟩
theorem wkm_z3 {K : PySem.W.Frag} {wd : World} {φ : List Addr} {Hk : Hp} {t1 t2 t3 : Bool} {a b c : Addr} {xs ys zs : List V} {ws us rs : List W} (hs : gSq K t1 Hk a xs) (ht : gSq K t2 Hk b ys) (hu : gSq K t3 Hk c zs) (hx : VRs K wd φ Hk ws xs) (hy : VRs K wd φ Hk us ys) (hz : VRs K wd φ Hk rs zs) : WkM K wd φ (ItH K t1 t2 t3 a b c) (zip3W ws us rs) Hk := fun i Hr e => by
  have l1 := VRs.len hx
  have l2 := VRs.len hy
  have l3 := VRs.len hz
  have hs' := same_g e hs
  have ht' := same_g e ht
  have hu' := same_g e hu
  refine ⟨fun hi => ?_, fun hi => ?_, fun x H' h => ?_⟩
  · rw [zip3W_len] at hi
    exact ⟨xs, ys, zs, _, _, _, hs', ht', hu', List.getElem?_eq_getElem (by omega), List.getElem?_eq_getElem (by omega), List.getElem?_eq_getElem (by omega)⟩
  · rw [zip3W_len] at hi
    exact ⟨xs, ys, zs, hs', ht', hu', by omega, by omega, by omega, by omega⟩
  · obtain ⟨T, x', y', z', rfl, hn, rfl, f1, f2, f3⟩ := h
    refine ⟨new_same hn _, fun w hw => ?_⟩
    obtain ⟨u, v, r, q1, q2, q3, rfl⟩ := zip3W_get hw
    obtain ⟨u', s1, s2⟩ := VRs.get hx q1
    obtain ⟨v', s3, s4⟩ := VRs.get hy q2
    obtain ⟨r', s5, s6⟩ := VRs.get hz q3
    have g1 := f1 _ hs'
    have g2 := f2 _ ht'
    have g3 := f3 _ hu'
    rw [s1] at g1
    rw [s3] at g2
    rw [s5] at g3
    cases g1
    cases g2
    cases g3
    exact gro_mk e hn (.cons s2 (.cons s4 (.cons s6 .nil)))
def z3M (m1 m2 m3 : M W) : M (List W) := bd m1 fun x => bd m2 fun y => bd m3 fun z => lf ((seqW x).bind fun ws => (seqW y).bind fun us => (seqW z).map fun rs => zip3W ws us rs)
theorem im_z3 (hm : X.mg "zip" = none) (ha : EM X a ρ m1) (hb : EM X b ρ m2) (hc : EM X c ρ m3) (hg : Gl X "zip" := by rfl) (hs : starEach [a, b, c] X.env = (false, eval a X.env) :: starEach [b, c] X.env := by rfl) (hs1 : starEach [b, c] X.env = (false, eval b X.env) :: starEach [c] X.env := by rfl) (hs2 : starEach [c] X.env = (false, eval c X.env) :: starEach [] X.env := by rfl) (hpl : (backTo pos (starEach [b, c] X.env)).any (·.1) = false := by rfl) :
    IM X (.Tuple tgs tn tpos) (.Call (.Name "zip" p0) [a, b, c] [] pos) ρ (z3M m1 m2 m3) := fun p s R q => by
  refine wI_of (pi_z3 hg hm pa_s hs hpl) (sA_of (pa_cons pe_s (pa_cons pe_s (pa_cons pe_s pa_nil hs2) hs1) hs) (ha p (sat_bind s) _ fun w1 h1 v1 φ1 Hk1 Hr1 s1 p1 e1 hv1 => hb p1 (sat_bind s1) _ fun w2 h2 v2 φ2 Hk2 Hr2 s2 p2 e2 hv2 => hc p2 (sat_bind s2) _ fun w3 h3 v3 φ3 Hk3 Hr3 s3 p3 e3 hv3 => ?_))
  obtain ⟨ws, h2, s4⟩ := sat_lf s3
  obtain ⟨us1, g3, h4⟩ := bnd h2
  obtain ⟨us2, g5, h6⟩ := bnd h4
  obtain ⟨us3, g7, h8⟩ := mpd h6
  subst h8
  have hv1 := hv1.ex (e2.trans e3)
  have hv2 := hv2.ex e3
  obtain ⟨t1, a1, xs, rfl, f1, d1⟩ := hv1.seq g3
  obtain ⟨t2, a2, ys, rfl, f2, d2⟩ := hv2.seq g5
  obtain ⟨t3, a3, zs, rfl, f3, d3⟩ := hv3.seq g7
  exact ⟨t1, t2, t3, a1, a2, a3, xs, ys, zs, rfl, same_g p3.I.kr f1, same_g p3.I.kr f2, same_g p3.I.kr f3, q _ _ _ _ _ _ s4 p3 (e1.trans (e2.trans e3)) (wkm_z3 f1 f2 f3 d1 d2 d3)⟩
def enumW : Nat → List W → List W
  | _, [] => []
  | i, d :: ds => mkT [.dat (.int (i : Nat)), d] :: enumW (i + 1) ds
theorem enumW_len : ∀ {ds : List W} {k : Nat}, (enumW k ds).length = ds.length
  | [], _ => rfl
  | _ :: ds, k => by simp [enumW, enumW_len (ds := ds)]
theorem enumW_get : ∀ {ds : List W} {k n : Nat} {d : W}, (enumW k ds)[n]? = some d → ∃ x, ds[n]? = some x ∧ d = mkT [.dat (.int ((k + n : Nat) : Int)), x]
  | [], _, _, _, h => by simp [enumW] at h
  | x :: ds, k, 0, d, h => by
    simp only [enumW, List.getElem?_cons_zero, Option.some.injEq] at h
    exact ⟨x, rfl, h.symm⟩
  | x :: ds, k, n + 1, d, h => by
    simp only [enumW, List.getElem?_cons_succ] at h
    obtain ⟨y, h1, h2⟩ := enumW_get h
    refine ⟨y, by simpa using h1, ?_⟩
    rw [h2, show k + 1 + n = k + (n + 1) by omega]
theorem wkm_N {K : PySem.W.Frag} {wd : World} {φ : List Addr} {Hk : Hp} {t : Bool} {a : Addr} {xs : List V} {ws : List W} (hs : gSq K t Hk a xs) (hx : VRs K wd φ Hk ws xs) : WkM K wd φ (ItN K t a) (enumW 0 ws) Hk := fun i Hr e => by
  have l1 := VRs.len hx
  have hs' := same_g e hs
  refine ⟨fun hi => ?_, fun hi => ?_, fun x H' h => ?_⟩
  · rw [enumW_len] at hi
    exact ⟨xs, _, hs', List.getElem?_eq_getElem (by omega)⟩
  · rw [enumW_len] at hi
    exact ⟨xs, hs', by omega⟩
  · obtain ⟨T, x', rfl, hn, rfl, f1⟩ := h
    refine ⟨new_same hn _, fun w hw => ?_⟩
    obtain ⟨u, q1, rfl⟩ := enumW_get hw
    obtain ⟨u', s1, s2⟩ := VRs.get hx q1
    have g1 := f1 _ hs'
    rw [s1] at g1
    cases g1
    rw [Nat.zero_add]
    exact gro_mk e hn (.cons (.dat (.int _)) (.cons s2 .nil))
def enM (m : M W) : M (List W) := bd m fun x => lf ((seqW x).map (enumW 0))
theorem im_enum (hm : X.mg "enumerate" = none) (ha : EM X a ρ m) (hg : Gl X "enumerate" := by rfl) (hs : starEach [a] X.env = [(false, eval a X.env)] := by rfl) : IM X (.Tuple tgs tn tpos) (.Call (.Name "enumerate" p0) [a] [] pos) ρ (enM m) := fun p s R q => by
  refine wI_of (pi_N hg hm pa_s hs) (am_one ha hs p (sat_bind s) _ fun w h1 v φ1 Hk1 Hr1 s1 p1 e1 hv => ?_)
  obtain ⟨ws, h2, s2⟩ := sat_lf s1
  obtain ⟨us1, h3, h4⟩ := mpd h2
  subst h4
  obtain ⟨t1, a1, xs, rfl, g1, d1⟩ := hv.seq h3
  exact ⟨t1, a1, xs, rfl, same_g p1.I.kr g1, q _ _ _ _ _ _ s2 p1 e1 (wkm_N g1 d1)⟩
theorem forM_drop {st : W → α → M (Res W α)} {ws : List W} {i : Nat} {w : W} {z : α} (h : ws[i]? = some w) : forM st (ws.drop i) z = seqM (st w z) (forM st (ws.drop (i + 1))) := by
  obtain ⟨hl, he⟩ := List.getElem?_eq_some_iff.mp h
  rw [List.drop_eq_getElem_cons hl, he]
  rfl
theorem sm_for {gt : TG} {u : W → Option γ} {F : β → Rho} {Fb : γ → β → Rho} {mb : γ → β → M (Res W β)} {k : β → M (Res W α)} {z0 : β} (hi : IM X tg iter ρ mi) (hg : PG X tg gt) (h0 : LeR (F z0) ρ) (hE0 : LeR ρE (F z0)) (hu : ∀ z, GM X.K X.w (F z) gt u (fun b => Fb b z)) (hE : ∀ b z, LeR ρE (Fb b z))
    (hb : ∀ b z, SM X ρE body (Fb b z) (mb b z) F) (hr : ∀ z, SM X ρE rest (F z) (k z) g) (hp : PassesOwn (model X.prog X.w) X.A X.env X.xe) (hc : X.calm = true := by rfl) (hs : ∀ x, foldedSetIterable iter X.env x = pure x := by intro _; rfl) :
    SM X ρE (.For tg iter body [] pos :: rest) ρ (bd mi fun ws => seqM (forM (stepM u mb) ws z0) k) g := fun {Wx E P hs0 φ0 Ho Hk0 Hr0 σ0} p0 s0 D nx r => by
  refine sSs_of (pss_cons (ps_for hp hc pi_w hg pss_s hs) pss_s) (hi p0.pt (sat_bind s0) _ fun ws h1 J φ1 Hk1 Hr1 s1 p1 e1 wk => ?_)
  refine ⟨fun i m σ' Hr' => i + m = ws.length ∧ ∃ z hs' φ' Hk', Ps X Wx E ρE (F z) hs' φ' Ho Hk' Hr' σ' ∧ Ex φ1 Hk1 φ' Hk' ∧ (seqM (forM (stepM u mb) (ws.drop i) z) k hs').sat P E,
    ⟨ws.length, by omega, z0, h1, φ1, Hk1, p0.to p1.I e1 (h0.sr p1.R) hE0, Ex.refl, by rw [List.drop_zero]; exact s1⟩, fun i m σ' Hr' hW => ?_⟩
  obtain ⟨em, z, hs', φ', Hk', p', e', s'⟩ := hW
  obtain ⟨w1, w2, w3⟩ := wk i Hr' (e'.k.trans p'.I.kr)
  by_cases hi : i < ws.length
  · refine .inr ⟨w1 hi, fun σ2 H2 => ∃ z hs' φ' Hk', Ps X Wx E ρE (F z) hs' φ' Ho Hk' H2 σ2 ∧ Ex φ1 Hk1 φ' Hk' ∧ (seqM (forM (stepM u mb) (ws.drop (i + 1)) z) k hs').sat P E, fun σ2 H2 hN => ⟨m - 1, by omega, by omega, hN⟩, fun xv H2 hy => ?_⟩
    obtain ⟨e2, fd⟩ := w3 xv H2 hy
    have hd := List.getElem?_eq_getElem hi
    rw [forM_drop hd] at s'
    have s2 := sat_bind (sat_bind s')
    obtain ⟨b, hb', s3⟩ := sat_lf (sat_bind s2)
    have I2 := p'.I.gro e2
    have eg := Ex.gro (φ := φ') p'.I.kr (H2 := H2)
    have hv : VR X.K X.w φ' (gro Hk' Hr' H2) (ws[i]) xv := (fd _ hd).mono e'.f (gro_le e'.k)
    refine hu z _ b hb' φ' _ H2 σ' xv I2.kr (p'.R.ex eg) hv _ fun σ3 R3 => ?_
    exact hb b z (p'.to I2 eg R3 (hE b z)) s3 _ (fun z2 hs2 φ2 Hk2 Hr2 σ2 h q e2 => ⟨z2, hs2, φ2, Hk2, q, e'.trans (eg.trans e2), sat_of h⟩) (fun w hs2 v φ2 Hk2 Hr2 h I e2 hv => r w hs2 v φ2 Hk2 Hr2 h I (e1.trans (e'.trans (eg.trans e2))) hv)
  · have : i = ws.length := by omega
    subst this
    rw [List.drop_length] at s'
    exact .inl ⟨w2 rfl, hr z p' s' D (fun a hs2 φ2 Hk2 Hr2 σ2 h q e2 => nx a hs2 φ2 Hk2 Hr2 σ2 h q (e1.trans (e'.trans e2))) (fun w hs2 v φ2 Hk2 Hr2 h I e2 hv => r w hs2 v φ2 Hk2 Hr2 h I (e1.trans (e'.trans e2)) hv)⟩
end
end Hx
noncomputable section
namespace Hx
open PySem L2 Pd Gn PySem.Spec PyProof.Rows Zq
def FF : Xc → Hs → Prop := fun _ _ => False
def GEm (K : PySem.W.Frag) (wd : World) (te : TE) (ρ : Rho) (m : M W) : Prop := ∀ {P : W → Hs → Prop} {hs : Hs} {φ : List Addr} {Ho Hk Hr : Hp} {σ : L2.St}, Ok K wd φ hs Ho Hk Hr → SR K wd φ Hk ρ σ → (m hs).sat P FF →
  ∀ Q : VK, (∀ w hs' v φ' Hk' Hr', P w hs' → Ok K wd φ' hs' Ho Hk' Hr' → Ex φ Hk φ' Hk' → VR K wd φ' Hk' w v → Q v Hr') → te σ Hr Q
def GTm (K : PySem.W.Frag) (wd : World) (tt : TT) (ρ : Rho) (m : M Bool) : Prop := ∀ {P : Bool → Hs → Prop} {hs : Hs} {φ : List Addr} {Ho Hk Hr : Hp} {σ : L2.St}, Ok K wd φ hs Ho Hk Hr → SR K wd φ Hk ρ σ → (m hs).sat P FF →
  ∀ Q : Bool → Hp → Prop, (∀ w hs' φ' Hk' Hr', P w hs' → Ok K wd φ' hs' Ho Hk' Hr' → Ex φ Hk φ' Hk' → Q w Hr') → tt σ Hr Q
def GIm (K : PySem.W.Frag) (wd : World) (wi : TI) (ρ : Rho) (m : M (List W)) : Prop := ∀ {P : List W → Hs → Prop} {hs : Hs} {φ : List Addr} {Ho Hk Hr : Hp} {σ : L2.St}, Ok K wd φ hs Ho Hk Hr → SR K wd φ Hk ρ σ → (m hs).sat P FF →
  ∀ R : It → Hp → Prop, (∀ ws hs' J φ' Hk' Hr', P ws hs' → Ok K wd φ' hs' Ho Hk' Hr' → Ex φ Hk φ' Hk' → WkM K wd φ' J ws Hk' → R J Hr') → wi σ Hr R
theorem gtm_yes {K : PySem.W.Frag} {wd : World} {ρ : Rho} : GTm K wd tYes ρ (rt true) := fun I R s Q q => q _ _ _ _ _ s I Ex.refl
def bI (X : Cx) (scope : Scope) (tg iter : Expr) : TI := fun σ H R => ∀ (s : Shared) (H1 : Hp) (C : Addr) (cl : List (Str × Addr)) (fp : List Addr), wI (X.blk s H1 scope (compEnvC scope cl C X.env) fp) tg iter σ H R
theorem pi_b {X : Cx} {scope : Scope} {tg iter : Expr} (s : Shared) (H : Hp) (C : Addr) (cl : List (Str × Addr)) (fp : List Addr) : PI (X.blk s H scope (compEnvC scope cl C X.env) fp) tg iter (bI X scope tg iter) := ⟨fun pins s' _ _ _ I h => h s H C cl fp pins s' I⟩
/-- in each block of a comprehension -/
def BM (X : Cx) (scope : Scope) (e : Expr) (ρ : Rho) (m : M W) : Prop := ∀ (s : Shared) (H : Hp) (C : Addr) (cl : List (Str × Addr)) (fp : List Addr), EM (X.blk s H scope (compEnvC scope cl C X.env) fp) e ρ m
def BTm (X : Cx) (scope : Scope) (e : Expr) (ρ : Rho) (m : M Bool) : Prop := ∀ (s : Shared) (H : Hp) (C : Addr) (cl : List (Str × Addr)) (fp : List Addr), TM (X.blk s H scope (compEnvC scope cl C X.env) fp) e ρ m
def BIm (X : Cx) (scope : Scope) (tg iter : Expr) (ρ : Rho) (m : M (List W)) : Prop := ∀ (s : Shared) (H : Hp) (C : Addr) (cl : List (Str × Addr)) (fp : List Addr), IM (X.blk s H scope (compEnvC scope cl C X.env) fp) tg iter ρ m
section
variable {X : Cx} {scope : Scope} {e tg iter : Expr} {ρ : Rho} {m : M W} {mc : M Bool} {mi : M (List W)}
theorem BM.ge (h : BM X scope e ρ m) : GEm X.K X.w (bE X scope e) ρ m := fun {P hs φ Ho Hk Hr σ} I R s Q q st H C cl fp => h st H C cl fp (Wx := fun _ _ _ _ => False) (E := FF) ⟨takes0, I, R, fun _ _ _ _ _ _ _ h => h.elim⟩ s Q fun w hs' v φ' Hk' Hr' hp p e hv => q w hs' v φ' Hk' Hr' hp p.I e hv
theorem BTm.gt (h : BTm X scope e ρ mc) : GTm X.K X.w (bT X scope e) ρ mc := fun {P hs φ Ho Hk Hr σ} I R s Q q st H C cl fp => h st H C cl fp (Wx := fun _ _ _ _ => False) (E := FF) ⟨takes0, I, R, fun _ _ _ _ _ _ _ h => h.elim⟩ s Q fun w hs' φ' Hk' Hr' hp p e => q w hs' φ' Hk' Hr' hp p.I e
theorem BIm.gi (h : BIm X scope tg iter ρ mi) : GIm X.K X.w (bI X scope tg iter) ρ mi := fun {P hs φ Ho Hk Hr σ} I R s Q q st H C cl fp => h st H C cl fp (Wx := fun _ _ _ _ => False) (E := FF) ⟨takes0, I, R, fun _ _ _ _ _ _ _ h => h.elim⟩ s Q fun w hs' J φ' Hk' Hr' hp p e hv => q w hs' J φ' Hk' Hr' hp p.I e hv
end
/-- a new list, by its reading -/
def LR (X : Cx) (t : TE) (ρ : Rho) (m : M (List W)) : Prop :=
  ∀ {Wx : WX} {E : Xc → Hs → Prop} {P : List W → Hs → Prop} {hs : Hs} {φ : List Addr} {Ho Hk Hr : Hp} {σ : L2.St}, Pt X Wx E ρ hs φ Ho Hk Hr σ → (m hs).sat P E →
    ∀ Q : VK, (∀ ws hs' p vs φ' Hk' Hr', P ws hs' → Ok X.K X.w φ' hs' (upd Ho p (.lst vs)) Hk' Hr' → Ho p = none → Hk' p = none → Ex φ Hk φ' Hk' → VRs X.K X.w φ' Hk' ws vs → Q (.ref p) Hr') → t σ Hr Q
theorem LR.lm {X : Cx} {t : TE} {e : Expr} {ρ : Rho} {m : M (List W)} (h : LR X t ρ m) (pe : PE X e t) : LM X e ρ m := fun p s Q q => sE_of pe (h p s Q q)
theorem Ok.output {K : PySem.W.Frag} {wd : World} {φ : List Addr} {hs : Hs} {Ho Hk Hr : Hp} {p : Addr} {u u' : HO} (I : Ok K wd φ hs (upd Ho p u) Hk Hr) (nk : Hk p = none) : Ok K wd φ hs (upd Ho p u') Hk (upd Hr p u') := by
  have hp : Hr p = some u := I.out _ _ upd_same
  refine ⟨fun b o g => ?_, fun b o g => ?_, I.len, I.low, fun i o g => ?_, I.inj, fun b o g => ?_⟩
  · rw [upd_ne (ne_of_none g nk)]
    exact I.kr _ _ g
  · by_cases q : b = p
    · subst q
      rw [upd_same] at g ⊢
      exact g
    · rw [upd_ne q] at g ⊢
      exact I.out b o (by rw [upd_ne q]; exact g)
  · obtain ⟨a, q1, q2, q3, q4⟩ := I.obj i o g
    have ne : a ≠ p := fun z => by rw [z, upd_same] at q3; cases q3
    rw [upd_ne ne] at q3
    exact ⟨a, q1, q2, by rw [upd_ne ne]; exact q3, q4.mono Fx.refl (Same.refl _) fun v hv => by rw [upd_ne ne]; exact hv⟩
  · by_cases q : b = p
    · rw [q]; exact nk
    · rw [upd_ne q] at g
      exact I.dis b o (by rw [upd_ne q]; exact g)
theorem Ok.nk {K : PySem.W.Frag} {wd : World} {φ : List Addr} {hs : Hs} {Ho Hk Hr : Hp} {p : Addr} {u : HO} (I : Ok K wd φ hs (upd Ho p u) Hk Hr) : Hk p = none := I.dis p u upd_same
theorem SR.wipe {K : PySem.W.Frag} {wd : World} {φ : List Addr} {Hk : Hp} {ρ : Rho} {σ : L2.St} {vs : List Nat} (R : SR K wd φ Hk ρ σ) (hv : ∀ i ∈ vs, ρ[i]? = some none) : SR K wd φ Hk ρ (L2.wipe σ vs) := R.sub (by rw [wipe_length, R.len]) fun i w h => ⟨h, wipe_out fun z => by
  rw [hv i z] at h
  cases h⟩
def lcM {β : Type} (u : W → Option β) (mt : β → M Bool) (me : β → M W) : List W → M (List W)
  | [] => rt []
  | w :: ws => bd (lf (u w)) fun b => bd (mt b) fun k => match k with
    | true => bd (me b) fun x => bd (lcM u mt me ws) fun r => rt (x :: r)
    | false => lcM u mt me ws
def lc1 {β : Type} (u : W → Option β) (mt : β → M Bool) (me : β → M W) (mi : M (List W)) : M (List W) := bd mi fun ws => bd (lf (gd (short ws.length) (some ()))) fun _ => nox (lcM u mt me ws)
section
variable {X : Cx} {tg iter : Expr} {ρ : Rho} {mi : M (List W)} {β γ : Type} {vs vs1 : List Nat} {gt gt1 : TG} {tt tt1 : TT} {te : TE} {wi1 : TI}
theorem lcM_drop {u : W → Option β} {mt : β → M Bool} {me : β → M W} {ws : List W} {i : Nat} {w : W} (h : ws[i]? = some w) : lcM u mt me (ws.drop i) = bd (lf (u w)) fun b => bd (mt b) fun k => match k with
    | true => bd (me b) fun x => bd (lcM u mt me (ws.drop (i + 1))) fun r => rt (x :: r)
    | false => lcM u mt me (ws.drop (i + 1)) := by
  obtain ⟨hl, he⟩ := List.getElem?_eq_some_iff.mp h
  rw [List.drop_eq_getElem_cons hl, he]
  rfl
theorem lr_lc {u : W → Option β} {f : β → Rho} {mt : β → M Bool} {me : β → M W} (hi : IM X tg iter ρ mi) (hw : GW gt vs) (hv : ∀ i ∈ vs, ρ[i]? = some none) (hu : GM X.K X.w ρ gt u f) (ht : ∀ b, GTm X.K X.w tt (f b) (mt b)) (he : ∀ b, GEm X.K X.w te (f b) (me b)) :
    LR X (tLc (wI X tg iter) gt tt te vs) ρ (lc1 u mt me mi) := fun {Wx E P hs0 φ0 Ho Hk0 Hr0 σ} p s Q q => by
  refine hi p (sat_bind s) _ fun ws h1 J φ1 Hk1 Hr1 s1 p1 e1 wk D nD => ?_
  obtain ⟨_, hsh, s2⟩ := sat_lf (sat_bind s1)
  have hlen := short_le (gd_some hsh).1
  have s3 := sat_nox s2
  refine ⟨fun i m H => i + m = ws.length ∧ ∃ acc avs hs' φ' Hk', acc.length ≤ i ∧ Ok X.K X.w φ' hs' (upd Ho D (.lst avs)) Hk' H ∧ Hk' D = none ∧ Ex φ1 Hk1 φ' Hk' ∧ VRs X.K X.w φ' Hk' acc avs ∧ (lcM u mt me (ws.drop i) hs').sat (fun r h => P (acc ++ r) h) FF,
    ⟨ws.length, by omega, [], [], h1, φ1, Hk1, Nat.le_refl _, p1.I.outer nD, far_of p1.I.kr nD, Ex.refl, .nil, by rw [List.drop_zero]; exact s3⟩, fun i m H hW => ?_⟩
  obtain ⟨em, acc, avs, hs', φ', Hk', hla, I', nk, e', hacc, s'⟩ := hW
  obtain ⟨w1, w2, w3⟩ := wk i H (e'.k.trans I'.kr)
  by_cases hi : i < ws.length
  · refine .inr ⟨w1 hi, fun H2 => ∃ acc avs hs' φ' Hk', acc.length ≤ i + 1 ∧ Ok X.K X.w φ' hs' (upd Ho D (.lst avs)) Hk' H2 ∧ Hk' D = none ∧ Ex φ1 Hk1 φ' Hk' ∧ VRs X.K X.w φ' Hk' acc avs ∧ (lcM u mt me (ws.drop (i + 1)) hs').sat (fun r h => P (acc ++ r) h) FF,
      fun H2 hN => ⟨m - 1, by omega, by omega, hN⟩, fun xv H2 hy => ?_⟩
    obtain ⟨e2, fd⟩ := w3 xv H2 hy
    have hd := List.getElem?_eq_getElem hi
    rw [lcM_drop hd] at s'
    obtain ⟨b, hb, s4⟩ := sat_lf (sat_bind s')
    have I2 := I'.gro e2
    have eg := Ex.gro (φ := φ') I'.kr (H2 := H2)
    have nk2 : gro Hk' H H2 D = none := by rw [gro_old (I'.out _ _ upd_same)]; exact nk
    have hxv : VR X.K X.w φ' (gro Hk' H H2) (ws[i]) xv := (fd _ hd).mono e'.f (gro_le e'.k)
    have Rw : SR X.K X.w φ' (gro Hk' H H2) ρ (L2.wipe σ vs) := ((p1.R.ex e').ex eg).wipe hv
    refine hw _ _ _ _ (hu _ b hb φ' _ H2 _ xv I2.kr Rw hxv _ fun σ3 R3 wz => ?_)
    refine ht b I2 R3 (sat_bind s4) _ fun k h4 φ4 Hk4 Hr4 s5 I4 e4 => ?_
    cases k with
    | true =>
      refine iteT (he b I4 (R3.ex e4) (sat_bind s5) _ fun x h5 yv φ5 Hk5 Hr5 s6 I5 e5 hyv => ?_)
      have ee : Ex φ' Hk' φ5 Hk5 := eg.trans (e4.trans e5)
      refine ⟨avs, I5.out _ _ upd_same, by rw [VRs.len hacc]; exact lt_line (by omega), acc ++ [x], avs ++ [yv], h5, φ5, Hk5, by rw [List.length_append, List.length_singleton]; omega, I5.output I5.nk, I5.nk, e'.trans ee, (hacc.ex ee).app (.cons hyv .nil), ?_⟩
      refine sat_mono (fun r h hp => ?_) (fun _ _ h => h) (sat_bind s6)
      have hp : P (acc ++ (x :: r)) h := hp
      rw [List.append_assoc]
      exact hp
    | false => exact iteF ⟨acc, avs, h4, φ4, Hk4, by omega, I4, I4.nk, e'.trans (eg.trans e4), hacc.ex (eg.trans e4), s5⟩
  · have : i = ws.length := by omega
    subst this
    rw [List.drop_length] at s'
    have s5 : P (acc ++ []) hs' := s'
    rw [List.append_nil] at s5
    exact .inl ⟨w2 rfl, q acc hs' D avs φ' Hk' H s5 I' (far_of p1.I.out nD) nk (e1.trans e') hacc⟩
end
end Hx
noncomputable section
namespace Hx
open PySem L2 Pd Gn PySem.Spec PyProof.Rows Zq
def lcM2 {β γ : Type} (u : W → Option β) (mt : β → M Bool) (mj : β → M (List W)) (u1 : W → Option γ) (mt1 : β → γ → M Bool) (me : β → γ → M W) : List W → Nat → M (List W)
  | [], _ => rt []
  | w :: ws, n => bd (lf (u w)) fun b => bd (mt b) fun k => match k with
    | true => bd (mj b) fun us => bd (lf (gd (short (n + us.length)) (some ()))) fun _ => bd (lcM u1 (mt1 b) (me b) us) fun r1 => bd (lcM2 u mt mj u1 mt1 me ws (n + us.length)) fun r2 => rt (r1 ++ r2)
    | false => lcM2 u mt mj u1 mt1 me ws n
def lc2 {β γ : Type} (u : W → Option β) (mt : β → M Bool) (mj : β → M (List W)) (u1 : W → Option γ) (mt1 : β → γ → M Bool) (me : β → γ → M W) (mi : M (List W)) : M (List W) := bd mi fun ws => nox (lcM2 u mt mj u1 mt1 me ws 0)
section
variable {X : Cx} {tg iter : Expr} {ρ : Rho} {mi : M (List W)} {β γ : Type} {vs vs1 : List Nat} {gt gt1 : TG} {tt tt1 : TT} {te : TE} {wi1 : TI}
theorem lcM2_drop {u : W → Option β} {mt : β → M Bool} {mj : β → M (List W)} {u1 : W → Option γ} {mt1 : β → γ → M Bool} {me : β → γ → M W} {ws : List W} {i n : Nat} {w : W} (h : ws[i]? = some w) : lcM2 u mt mj u1 mt1 me (ws.drop i) n = bd (lf (u w)) fun b => bd (mt b) fun k => match k with
    | true => bd (mj b) fun us => bd (lf (gd (short (n + us.length)) (some ()))) fun _ => bd (lcM u1 (mt1 b) (me b) us) fun r1 => bd (lcM2 u mt mj u1 mt1 me (ws.drop (i + 1)) (n + us.length)) fun r2 => rt (r1 ++ r2)
    | false => lcM2 u mt mj u1 mt1 me (ws.drop (i + 1)) n := by
  obtain ⟨hl, he⟩ := List.getElem?_eq_some_iff.mp h
  rw [List.drop_eq_getElem_cons hl, he]
  rfl
theorem lr_lc2 {u : W → Option β} {f : β → Rho} {mt : β → M Bool} {mj : β → M (List W)} {u1 : W → Option γ} {f1 : β → γ → Rho} {mt1 : β → γ → M Bool} {me : β → γ → M W} (hi : IM X tg iter ρ mi) (hw : GW gt vs) (hw1 : GW gt1 vs1) (hv : ∀ i ∈ vs, ρ[i]? = some none) (hv1 : ∀ b, ∀ i ∈ vs1, (f b)[i]? = some none)
    (hu : GM X.K X.w ρ gt u f) (ht : ∀ b, GTm X.K X.w tt (f b) (mt b)) (hj : ∀ b, GIm X.K X.w wi1 (f b) (mj b)) (hu1 : ∀ b, GM X.K X.w (f b) gt1 u1 (f1 b)) (ht1 : ∀ b c, GTm X.K X.w tt1 (f1 b c) (mt1 b c)) (he : ∀ b c, GEm X.K X.w te (f1 b c) (me b c)) :
    LR X (tLc2 (wI X tg iter) gt tt wi1 gt1 tt1 te vs vs1) ρ (lc2 u mt mj u1 mt1 me mi) := fun {Wx E P hs0 φ0 Ho Hk0 Hr0 σ} p s Q q => by
  refine hi p (sat_bind s) _ fun ws h1 J φ1 Hk1 Hr1 s1 p1 e1 wk D nD => ?_
  have s3 := sat_nox s1
  refine ⟨fun i m H => i + m = ws.length ∧ ∃ n acc avs hs' φ' Hk', acc.length ≤ n ∧ Ok X.K X.w φ' hs' (upd Ho D (.lst avs)) Hk' H ∧ Ex φ1 Hk1 φ' Hk' ∧ VRs X.K X.w φ' Hk' acc avs ∧ (lcM2 u mt mj u1 mt1 me (ws.drop i) n hs').sat (fun r h => P (acc ++ r) h) FF,
    ⟨ws.length, by omega, 0, [], [], h1, φ1, Hk1, Nat.le_refl _, p1.I.outer nD, Ex.refl, .nil, by rw [List.drop_zero]; exact s3⟩, fun i m H hW => ?_⟩
  obtain ⟨em, n, acc, avs, hs', φ', Hk', hla, I', e', hacc, s'⟩ := hW
  obtain ⟨w1, w2, w3⟩ := wk i H (e'.k.trans I'.kr)
  by_cases hi : i < ws.length
  · refine .inr ⟨w1 hi, fun H2 => ∃ n acc avs hs' φ' Hk', acc.length ≤ n ∧ Ok X.K X.w φ' hs' (upd Ho D (.lst avs)) Hk' H2 ∧ Ex φ1 Hk1 φ' Hk' ∧ VRs X.K X.w φ' Hk' acc avs ∧ (lcM2 u mt mj u1 mt1 me (ws.drop (i + 1)) n hs').sat (fun r h => P (acc ++ r) h) FF,
      fun H2 hN => ⟨m - 1, by omega, by omega, hN⟩, fun xv H2 hy => ?_⟩
    obtain ⟨e2, fd⟩ := w3 xv H2 hy
    have hd := List.getElem?_eq_getElem hi
    rw [lcM2_drop hd] at s'
    obtain ⟨b, hb, s4⟩ := sat_lf (sat_bind s')
    have I2 := I'.gro e2
    have eg := Ex.gro (φ := φ') I'.kr (H2 := H2)
    have hxv : VR X.K X.w φ' (gro Hk' H H2) (ws[i]) xv := (fd _ hd).mono e'.f (gro_le e'.k)
    have Rw : SR X.K X.w φ' (gro Hk' H H2) ρ (L2.wipe σ vs) := ((p1.R.ex e').ex eg).wipe hv
    refine hw _ _ _ _ (hu _ b hb φ' _ H2 _ xv I2.kr Rw hxv _ fun σ3 R3 wz => ?_)
    refine ht b I2 R3 (sat_bind s4) _ fun k h4 φ4 Hk4 Hr4 s5 I4 e4 => ?_
    cases k with
    | false => exact iteF ⟨n, acc, avs, h4, φ4, Hk4, hla, I4, e'.trans (eg.trans e4), hacc.ex (eg.trans e4), s5⟩
    | true =>
      refine iteT (hj b I4 (R3.ex e4) (sat_bind s5) _ fun us h5 J1 φ5 Hk5 Hr5 s6 I5 e5 wk1 => ?_)
      obtain ⟨_, hsh, s7⟩ := sat_lf (sat_bind s6)
      have hlen := short_le (gd_some hsh).1
      have ee : Ex φ' Hk' φ5 Hk5 := eg.trans (e4.trans e5)
      have R5 := (R3.ex e4).ex e5
      have s8 := sat_bind s7
      refine ⟨fun j k H => j + k = us.length ∧ ∃ acc avs hs' φ' Hk', acc.length ≤ n + j ∧ Ok X.K X.w φ' hs' (upd Ho D (.lst avs)) Hk' H ∧ Ex φ5 Hk5 φ' Hk' ∧ VRs X.K X.w φ' Hk' acc avs ∧ (lcM u1 (mt1 b) (me b) (us.drop j) hs').sat (fun r1 h => (lcM2 u mt mj u1 mt1 me (ws.drop (i + 1)) (n + us.length) h).sat (fun r2 h => P (acc ++ (r1 ++ r2)) h) FF) FF,
        ⟨us.length, by omega, acc, avs, h5, φ5, Hk5, by omega, I5, Ex.refl, hacc.ex ee, by rw [List.drop_zero]; exact sat_mono (fun r1 h hp => sat_bind hp) (fun _ _ h => h) s8⟩, fun j k H3 hW1 => ?_⟩
      obtain ⟨em1, acc1, avs1, hs1, φ6, Hk6, hla1, I6, e6, hacc1, s9⟩ := hW1
      obtain ⟨v1, v2, v3⟩ := wk1 j H3 (e6.k.trans I6.kr)
      by_cases hj1 : j < us.length
      · refine .inr ⟨v1 hj1, fun H4 => ∃ acc avs hs' φ' Hk', acc.length ≤ n + (j + 1) ∧ Ok X.K X.w φ' hs' (upd Ho D (.lst avs)) Hk' H4 ∧ Ex φ5 Hk5 φ' Hk' ∧ VRs X.K X.w φ' Hk' acc avs ∧ (lcM u1 (mt1 b) (me b) (us.drop (j + 1)) hs').sat (fun r1 h => (lcM2 u mt mj u1 mt1 me (ws.drop (i + 1)) (n + us.length) h).sat (fun r2 h => P (acc ++ (r1 ++ r2)) h) FF) FF,
          fun H4 hN => ⟨k - 1, by omega, by omega, hN⟩, fun yv H4 hy1 => ?_⟩
        obtain ⟨e7, fd1⟩ := v3 yv H4 hy1
        have hd1 := List.getElem?_eq_getElem hj1
        rw [lcM_drop hd1] at s9
        obtain ⟨c, hc', s10⟩ := sat_lf (sat_bind s9)
        have I7 := I6.gro e7
        have eg1 := Ex.gro (φ := φ6) I6.kr (H2 := H4)
        have hyv : VR X.K X.w φ6 (gro Hk6 H3 H4) (us[j]) yv := (fd1 _ hd1).mono e6.f (gro_le e6.k)
        have Rw1 : SR X.K X.w φ6 (gro Hk6 H3 H4) (f b) (L2.wipe σ3 vs1) := ((R5.ex e6).ex eg1).wipe (hv1 b)
        refine hw1 _ _ _ _ (hu1 b _ c hc' φ6 _ H4 _ yv I7.kr Rw1 hyv _ fun σ4 R7 wz1 => ?_)
        refine ht1 b c I7 R7 (sat_bind s10) _ fun k2 h8 φ8 Hk8 Hr8 s11 I8 e8 => ?_
        cases k2 with
        | true =>
          refine iteT (he b c I8 (R7.ex e8) (sat_bind s11) _ fun x h9 zv φ9 Hk9 Hr9 s12 I9 e9 hzv => ?_)
          have ee1 : Ex φ6 Hk6 φ9 Hk9 := eg1.trans (e8.trans e9)
          refine ⟨avs1, I9.out _ _ upd_same, by rw [VRs.len hacc1]; exact lt_line (by omega), acc1 ++ [x], avs1 ++ [zv], h9, φ9, Hk9, by rw [List.length_append, List.length_singleton]; omega, I9.output I9.nk, e6.trans ee1, (hacc1.ex ee1).app (.cons hzv .nil), ?_⟩
          have s13 := sat_bind (t := lcM u1 (mt1 b) (me b) (List.drop (j + 1) us) h9) (f := fun r h => rt (x :: r) h) s12
          refine sat_mono (fun r h hp => sat_mono (fun r2 h hp => ?_) (fun _ _ h => h) (show (lcM2 u mt mj u1 mt1 me (List.drop (i + 1) ws) (n + us.length) h).sat (fun r2 h => P (acc1 ++ (x :: r ++ r2)) h) FF from hp)) (fun _ _ h => h) s13
          have hp : P (acc1 ++ (x :: r ++ r2)) h := hp
          rw [List.append_assoc]
          exact hp
        | false => exact iteF ⟨acc1, avs1, h8, φ8, Hk8, by omega, I8, e6.trans (eg1.trans e8), hacc1.ex (eg1.trans e8), s11⟩
      · have : j = us.length := by omega
        subst this
        rw [List.drop_length] at s9
        exact .inl ⟨v2 rfl, n + us.length, acc1, avs1, hs1, φ6, Hk6, hla1, I6, e'.trans (ee.trans e6), hacc1, s9⟩
  · have : i = ws.length := by omega
    subst this
    rw [List.drop_length] at s'
    have s5 : P (acc ++ []) hs' := s'
    rw [List.append_nil] at s5
    exact .inl ⟨w2 rfl, q acc hs' D avs φ' Hk' H s5 I' (far_of p1.I.out nD) I'.nk (e1.trans e') hacc⟩
end
section
variable {X : Cx} {ρE ρ : Rho} {elt c c1 tg iter tg1 iter1 : Expr} {mi : M (List W)} {α β γ : Type} {vs1 : List Nat} {gt gt1 : TG} {scope : Scope} {own : List (Str × Nat)} {pos cpos py : Pos} {u : W → Option β} {f : β → Rho} {mt : β → M Bool} {me : β → M W} {n : Nat} {y : Str} {rest : List Stmt} {g : α → Rho} {st : Stmt} {t : TE} {ml : M (List W)}
abbrev PGb (X : Cx) (scope : Scope) (tg : Expr) (gt : TG) : Prop := ∀ (s : Shared) (H : Hp) (C : Addr) (cl : List (Str × Addr)) (fp : List Addr), PG (X.blk s H scope (compEnvC scope cl C X.env) fp) tg gt
/-- [elt for tg in iter]: the expression, its reading -/
structure LcP (X : Cx) (e : Expr) (scope : Scope) (t : TE) (ρ : Rho) (m : M (List W)) : Prop where
  pe : PE X e t
  ps : ∀ {n : Nat} {y : Str} {py pos : Pos}, X.N.Nodup → X.N[n]? = some y → X.env.scope.names.lookup y = some .local → swapsWith e (some (.Name y py)) pos.line X.env = pure true → PS X (.Assign [.Name y py] e pos) (tAsg t (gName n))
  lr : LR X t ρ m
theorem lcp0 (hi : IM X tg iter ρ mi) (hw : GW gt (own.map (·.2))) (hv : ∀ i ∈ own.map (·.2), ρ[i]? = some none) (hu : GM X.K X.w ρ gt u f) (he : ∀ b, BM X scope elt (f b) (me b)) (hN : X.N.Nodup) (ok : BlkOk X.N X.env.scope scope own) (hg : PGb X scope tg gt)
    (hc : X.calm = true := by rfl) (hs : ∀ x, foldedSetIterable iter X.env x = pure x := by intro _; rfl) : LcP X (.ListComp elt [⟨tg, iter, [], 0⟩] scope pos) scope (tLc (wI X tg iter) gt tYes (bE X scope elt) (own.map (·.2))) ρ (lc1 u (fun _ => rt true) me mi) :=
  ⟨pe_lc hc hN pi_w ok hg (fun _ _ _ _ _ => pts_nil) pe_b hs, fun hN hy hyl hsw => ps_setLc hc hN hy hyl hsw pi_w ok hg (fun _ _ _ _ _ => pts_nil) pe_b hs, lr_lc hi hw hv hu (fun _ => gtm_yes) fun b => (he b).ge⟩
theorem lcp1 (hi : IM X tg iter ρ mi) (hw : GW gt (own.map (·.2))) (hv : ∀ i ∈ own.map (·.2), ρ[i]? = some none) (hu : GM X.K X.w ρ gt u f) (ht : ∀ b, BTm X scope c (f b) (mt b)) (he : ∀ b, BM X scope elt (f b) (me b)) (hN : X.N.Nodup) (ok : BlkOk X.N X.env.scope scope own) (hg : PGb X scope tg gt)
    (hc : X.calm = true := by rfl) (hs : ∀ x, foldedSetIterable iter X.env x = pure x := by intro _; rfl) : LcP X (.ListComp elt [⟨tg, iter, [c], 0⟩] scope pos) scope (tLc (wI X tg iter) gt (bT X scope c) (bE X scope elt) (own.map (·.2))) ρ (lc1 u mt me mi) :=
  ⟨pe_lc hc hN pi_w ok hg (fun s H C cl fp => pts_one (pt_b s H C cl fp)) pe_b hs, fun hN hy hyl hsw => ps_setLc hc hN hy hyl hsw pi_w ok hg (fun s H C cl fp => pts_one (pt_b s H C cl fp)) pe_b hs, lr_lc hi hw hv hu (fun b => (ht b).gt) fun b => (he b).ge⟩
variable {mj : β → M (List W)} {u1 : W → Option γ} {f1 : β → γ → Rho} {mt1 : β → γ → M Bool} {me2 : β → γ → M W} {ifs ifs1 : List Expr} {tt tt1 : TT}
/-- two clauses, each with a test or none -/
theorem lcp2 (hi : IM X tg iter ρ mi) (hw : GW gt (own.map (·.2))) (hw1 : GW gt1 vs1) (hv : ∀ i ∈ own.map (·.2), ρ[i]? = some none) (hv1 : ∀ b, ∀ i ∈ vs1, (f b)[i]? = some none) (hu : GM X.K X.w ρ gt u f) (ht : ∀ b, GTm X.K X.w tt (f b) (mt b)) (hj : ∀ b, BIm X scope tg1 iter1 (f b) (mj b)) (hu1 : ∀ b, GM X.K X.w (f b) gt1 u1 (f1 b)) (ht1 : ∀ b c, GTm X.K X.w tt1 (f1 b c) (mt1 b c)) (he : ∀ b c, BM X scope elt (f1 b c) (me2 b c))
    (hN : X.N.Nodup) (ok : BlkOk X.N X.env.scope scope own) (hsub : ∀ i ∈ vs1, i ∈ own.map (·.2)) (hg : PGb X scope tg gt) (hg1 : PGb X scope tg1 gt1) (hp : ∀ (s : Shared) (H : Hp) (C : Addr) (cl : List (Str × Addr)) (fp : List Addr), PTs (X.blk s H scope (compEnvC scope cl C X.env) fp) ifs tt) (hp1 : ∀ (s : Shared) (H : Hp) (C : Addr) (cl : List (Str × Addr)) (fp : List Addr), PTs (X.blk s H scope (compEnvC scope cl C X.env) fp) ifs1 tt1)
    (hc : X.calm = true := by rfl) (hs : ∀ x, foldedSetIterable iter X.env x = pure x := by intro _; rfl) (hs1 : ∀ env x, foldedSetIterable iter1 env x = pure x := by intro _ _; rfl) :
    LcP X (.ListComp elt [⟨tg, iter, ifs, 0⟩, ⟨tg1, iter1, ifs1, 0⟩] scope pos) scope (tLc2 (wI X tg iter) gt tt (bI X scope tg1 iter1) gt1 tt1 (bE X scope elt) (own.map (·.2)) vs1) ρ (lc2 u mt mj u1 mt1 me2 mi) :=
  ⟨pe_lc2 hc hN pi_w ok hsub hg hp pi_b hg1 hp1 pe_b hs hs1, fun hN hy hyl hsw => ps_setLc2 hc hN hy hyl hsw pi_w ok hsub hg hp pi_b hg1 hp1 pe_b hs hs1, lr_lc2 hi hw hw1 hv hv1 hu ht (fun b => (hj b).gi) hu1 ht1 fun b c => (he b c).ge⟩
theorem pts0 : ∀ (s : Shared) (H : Hp) (C : Addr) (cl : List (Str × Addr)) (fp : List Addr), PTs (X.blk s H scope (compEnvC scope cl C X.env) fp) [] tYes := fun _ _ _ _ _ => pts_nil
theorem LcP.lm {e : Expr} (h : LcP X e scope t ρ ml) : LM X e ρ ml := LR.lm h.lr h.pe
/-- name = [..] -/
theorem sm_setF {k : W → M (Res W α)} {e : Expr} (h : LcP X e scope t ρ ml) (hN : X.N.Nodup) (hy : X.N[n]? = some y) (hyl : X.env.scope.names.lookup y = some .local) (hsw : swapsWith e (some (.Name y py)) pos.line X.env = pure true) (hE : ρE[n]? = some none) (hr : ∀ w, SM X ρE rest (ρ.set n (some w)) (k w) g) : SM X ρE (.Assign [.Name y py] e pos :: rest) ρ (bd (frzW ml) k) g := fun p s D nx r =>
  sSs_of (pss_cons (h.ps hN hy hyl hsw) pss_s) (h.lr p.pt (sat_bind (sat_bind s)) _ fun ws h1 t vs φ1 Hk1 Hr1 s1 I1 no nk e1 hv => by
    obtain ⟨I2, e2, hw⟩ := I1.claimF no nk hv
    have e12 := e1.trans e2
    exact hr _ (p.to I2 e12 ((p.R.ex e12).set hw) (p.sub.set hE)) s1 D (fun a hs' φ' Hk' Hr' σ' h q e' => nx a hs' φ' Hk' Hr' σ' h q (e12.trans e')) (fun w hs' v φ' Hk' Hr' h I e' hv => r w hs' v φ' Hk' Hr' h I (e12.trans e') hv))
end
def isL (o : W) : M (Nat × List W) := fun h => match o with
  | .ref i => match h.get i with | some (.lst ws) => .ok (i, ws) h | _ => .bad
  | _ => .bad
theorem isL_ok {o : W} {h : Hs} {P : Nat × List W → Hs → Prop} {E : Xc → Hs → Prop} (s : (isL o h).sat P E) : ∃ i ws, o = .ref i ∧ h.get i = some (.lst ws) ∧ P (i, ws) h := by
  cases o with
  | ref i =>
    have s : (match h.get i with | some (.lst ws) => T.ok (i, ws) h | _ => T.bad : T (Nat × List W)).sat P E := s
    cases g : h.get i with
    | none => rw [g] at s; exact s.elim
    | some u =>
      rw [g] at s
      cases u with
      | lst ws => exact ⟨i, ws, rfl, g, s⟩
      | _ => exact s.elim
  | _ => exact s.elim
/-- the list at i becomes ws -/
def putL (i : Nat) (ws : List W) : M Unit := fun h => .ok () (h.put i (.lst ws))
section
variable {X : Cx} {ρE ρ : Rho} {o e ix : Expr} {m1 m2 m3 : M W} {ml : M (List W)} {p0 p1 pos : Pos} {rest : List Stmt} {α : Type} {g : α → Rho}
def appM (m1 m2 : M W) : M W := bd m1 fun o => bd (isL o) fun _ => bd m2 fun w => bd (isL o) fun p => bd (lf (gd (shortS p.2.length) (some ()))) fun _ => bd (putL p.1 (p.2 ++ [w])) fun _ => rt (.dat .none)
theorem Ok.putL {K : PySem.W.Frag} {wd : World} {φ : List Addr} {hs : Hs} {Ho Hk Hr : Hp} {i : Nat} {a : Addr} {ws us : List W} {vs xs : List V} (I : Ok K wd φ hs Ho Hk Hr) (h : hs.get i = some (.lst ws)) (ha : φ[i]? = some a) (hv : VRs K wd φ Hk us xs) : Ok K wd φ (hs.put i (.lst us)) Ho Hk (upd Hr a (.lst xs)) := I.put h ha ⟨xs, upd_same, hv⟩
theorem at_lst {K : PySem.W.Frag} {wd : World} {φ : List Addr} {hs : Hs} {Ho Hk Hr : Hp} {i : Nat} {a : Addr} {ws : List W} (I : Ok K wd φ hs Ho Hk Hr) (h : hs.get i = some (.lst ws)) (ha : φ[i]? = some a) : ∃ vs, Hr a = some (.lst vs) ∧ VRs K wd φ Hk ws vs := by
  obtain ⟨b, q1, q2, q3, vs, q4, q5⟩ := I.obj i _ h
  rw [ha] at q1
  cases q1
  exact ⟨vs, q4, q5⟩
theorem em_append (ho : EM X o ρ m1) (he : EM X e ρ m2) (hp : PE X (.Call (.Attribute o "append" p1) [e] [] pos) (tBM X.K "list" rAppend (sE X o) (tCons (sE X e) tNil))) : EM X (.Call (.Attribute o "append" p1) [e] [] pos) ρ (appM m1 m2) := fun p s Q q => by
  refine sE_of hp (ho p (sat_bind s) _ fun ow h1 ov φ1 Hk1 Hr1 s1 p1 e1 hov => ?_)
  obtain ⟨i, ws, rfl, g1, s2⟩ := isL_ok (sat_bind s1)
  cases hov with
  | ref ha =>
    obtain ⟨vs, t1, t2⟩ := at_lst p1.I g1 ha
    refine ⟨.inl ⟨rfl, _, .inl (.inl t1)⟩, he p1 (sat_bind s2) _ fun w h2 v φ2 Hk2 Hr2 s3 p2 e2 hv => ?_⟩
    obtain ⟨i', ws', e0, g2, s4⟩ := isL_ok (sat_bind s3)
    cases e0
    have ha2 := e2.f _ _ ha
    obtain ⟨vs2, t3, t4⟩ := at_lst p2.I g2 ha2
    obtain ⟨_, hsh, s5⟩ := sat_lf (sat_bind s4)
    have hl := shortS_lt (gd_some hsh).1
    refine ⟨_, vs2, v, rfl, rfl, t3, by rw [VRs.len t4]; exact lt_line hl, ?_⟩
    have I3 := p2.I.putL (vs := vs2) g2 ha2 (t4.app (.cons hv .nil))
    exact q _ _ _ _ _ _ s5 (p2.go I3 Ex.refl) (e1.trans e2) (.dat .non)
/-- x[i] = e -/
def setM (m3 m1 m2 : M W) : M Unit := bd m3 fun v => bd m1 fun o => bd m2 fun i => bd (isL o) fun p => bd (lf ((asIW i).bind fun j => ixN p.2.length j)) fun k => putL p.1 (p.2.set k v)
theorem sm_put {k : M (Res W α)} (he : EM X e ρ m3) (ho : EM X o ρ m1) (hi : EM X ix ρ m2) (hr : SM X ρE rest ρ k g) (hp : PS X (.Assign [.Subscript o ix p1] e pos) (tAsg (sE X e) (gSub (sE X o) (sE X ix) rSetL))) : SM X ρE (.Assign [.Subscript o ix p1] e pos :: rest) ρ (bd (setM m3 m1 m2) fun _ => k) g := fun p s D nx r => by
  refine sSs_of (pss_cons hp pss_s) (he p.pt (sat_bind (sat_bind s)) _ fun w h1 v φ1 Hk1 Hr1 s1 p1 e1 hv => ho p1 (sat_bind s1) _ fun ow h2 ov φ2 Hk2 Hr2 s2 p2 e2 hov => hi p2 (sat_bind s2) _ fun iw h3 iv φ3 Hk3 Hr3 s3 p3 e3 hiv => ?_)
  obtain ⟨i, ws, rfl, g1, s4⟩ := isL_ok (sat_bind s3)
  obtain ⟨k', hk, s5⟩ := sat_lf (sat_bind s4)
  obtain ⟨j, hj, hk⟩ := bnd hk
  have := asIW_eq hj
  subst this
  obtain rfl := vr_int (X := X) hiv
  have hov := hov.ex e3
  cases hov with
  | ref ha =>
    obtain ⟨vs, t1, t2⟩ := at_lst p3.I g1 ha
    have e123 := e1.trans (e2.trans e3)
    refine ⟨_, vs, j, k', rfl, rfl, t1, by rw [VRs.len t2]; exact hk, ?_⟩
    have I4 := p3.I.putL (vs := vs) g1 ha (t2.set k' (hv.ex (e2.trans e3)))
    exact hr (p.to I4 e123 p3.R p.sub) s5 D (fun a hs' φ' Hk' Hr' σ' h q e' => nx a hs' φ' Hk' Hr' σ' h q (e123.trans e')) (fun w hs' v φ' Hk' Hr' h I e' hv => r w hs' v φ' Hk' Hr' h I (e123.trans e') hv)
end
end Hx
noncomputable section
namespace Hx
open PySem L2 Pd Gn PySem.Spec PyProof.Rows Zq
def spM (K : PySem.W.Frag) (wd : World) (mg : Str → Option Value) (n : Nat) (mf : List W → M W) : Sp := fun vs H Q E => ∃ (φ : List Addr) (hs : Hs) (Ho Hk : Hp) (ws : List W) (P : W → Hs → Prop) (Ex' : Xc → Hs → Prop), ws.length = n ∧ Ok K wd φ hs Ho Hk H ∧ VRs K wd φ Hk ws vs ∧ (mf ws hs).sat P Ex' ∧
  (∀ w hs' v φ' Hk' H', P w hs' → Ok K wd φ' hs' Ho Hk' H' → Ex φ Hk φ' Hk' → VR K wd φ' Hk' w v → Q v H') ∧ (∀ x hs' C d φ' Hk' H', Ex' x hs' → Ok K wd φ' hs' Ho Hk' H' → Ex φ Hk φ' Hk' → XA K mg x C d H' → E (.ref C) d H')
def finM (m : M (Res W Unit)) : M W := bd m fun r => match r with | .ret w => rt w | .nxt _ => rt (.dat .none)
def rhoW (ws : List W) (m : Nat) : Rho := ws.map some ++ List.replicate m none
def noR (n : Nat) : Rho := List.replicate n none
section
variable {P : Program} {w : World} {K : PySem.W.Frag} {wd : World} {mg : Str → Option Value} {base : Heap} {x qual : Str} {st : Stmt} {f : Addr} {fd : FuncData} {N ps : List Str} {k : Nat}
theorem start_sr {φ : List Addr} {Hk : Hp} {ws : List W} {vs : List V} (h : VRs K wd φ Hk ws vs) (hl : ws.length = ps.length) (hn : ps.length ≤ N.length) : SR K wd φ Hk (rhoW ws (N.length - ps.length)) (L2.start N vs) := by
  have lv := VRs.len h
  refine ⟨by unfold rhoW L2.start; simp [hl, lv], fun i w q => ?_⟩
  unfold rhoW at q
  by_cases z : i < ws.length
  · rw [List.getElem?_append_left (by simpa using z), List.getElem?_map, List.getElem?_eq_getElem z] at q
    obtain ⟨v, s1, s2⟩ := VRs.get h (List.getElem?_eq_getElem z)
    have q := Option.some.inj (Option.some.inj q)
    subst q
    exact ⟨v, start_get s1, s2⟩
  · rw [List.getElem?_append_right (by simpa using z), List.getElem?_replicate] at q
    split at q
    · cases Option.some.inj q
    · cases q
theorem le_noR : ∀ {r : Rho} {n : Nat}, r.length = n → LeR (noR n) r
  | [], 0, _ => .nil
  | [], n + 1, h => by simp at h
  | _ :: r, 0, h => by simp at h
  | x :: r, n + 1, h => .drop (le_noR (r := r) (by simpa using h))
theorem rhoW_len {ws : List W} (hl : ws.length = ps.length) (hn : ps.length ≤ N.length) : (rhoW ws (N.length - ps.length)).length = N.length := by
  unfold rhoW
  rw [List.length_append, List.length_map, List.length_replicate]
  omega
theorem FunY.okX {sp : Sp} (F : FunY K x qual st f fd) (S : FnScope N ps (defScope st)) (len : ∀ vs H Q E, sp vs H Q E → vs.length = ps.length)
    (hbody : ∀ (cdv : Value) (A : Around) (outer : List Env) (s : Shared) (H : Hp) (vs : List V) (Q : VK) (E : XK), Room k (A.deeper (envOfC qual (defScope st) s.heap.objs.size f cdv)) → sp vs H Q E →
      ∃ t, PSs (cxOf (L2.CX P w) P w K mg base N qual (defScope st) f cdv A outer s H E) (defBody st) t ∧ t { nx := fun _ H' => Q .non H', rt := Q } (L2.start N vs) H) : FnOk P w K mg base (L2.CX P w) (k + 1) f fd ps sp := by
  obtain ⟨oc, od, dV, kV, doc, pm, an, cdv, ct, osl, rfl, lk, hcd⟩ := F.ex
  exact fn_of lk hcd S len fun A outer s H vs Q E hr hsp => hbody cdv A outer s H vs Q E hr hsp
theorem Fun.y (F : Fun K x qual st f fd) : FunY K x qual st f fd := by
  obtain ⟨oc, od, kV, doc, pm, an, cdv, ct, osl, e, lk, hcd⟩ := F.ex
  exact ⟨⟨oc, od, _, kV, doc, pm, an, cdv, ct, osl, e, lk, hcd⟩, F.kp⟩
theorem defM {mb : List W → M (Res W Unit)} {g : Unit → Rho} (F : FunY K x qual st f fd) (S : FnScope N ps (defScope st)) (hl : ps.length ≤ N.length)
    (body : ∀ (cdv : Value) (A : Around) (outer : List Env) (s : Shared) (H : Hp) (E : XK), Room k (A.deeper (envOfC qual (defScope st) s.heap.objs.size f cdv)) →
      PassesOwn (model P w) (cxOf (L2.CX P w) P w K mg base N qual (defScope st) f cdv A outer s H E).A (cxOf (L2.CX P w) P w K mg base N qual (defScope st) f cdv A outer s H E).env (cxOf (L2.CX P w) P w K mg base N qual (defScope st) f cdv A outer s H E).xe → ∀ ws : List W, ws.length = ps.length →
      SM (cxOf (L2.CX P w) P w K mg base N qual (defScope st) f cdv A outer s H E) (noR N.length) (defBody st) (rhoW ws (N.length - ps.length)) (mb ws) g) :
    FnOk P w K mg base (L2.CX P w) (k + 1) f fd ps (spM K w mg ps.length fun ws => finM (mb ws)) := by
  refine FunY.okX F S (fun vs H Q E h => ?_) (fun cdv A outer s H vs Q E hr h => ?_)
  · obtain ⟨φ, hs, Ho, Hk, ws, P', Ex', h1, _, h2, _⟩ := h
    rw [VRs.len h2, h1]
  · obtain ⟨φ, hs, Ho, Hk, ws, P', Ex', h1, I, h2, s1, q1, q2⟩ := h
    refine ⟨_, pss_s, body cdv A outer s H E hr (passes_of rfl) ws h1 (Wx := fun cls d _ H => E cls d H) ⟨takes_of rfl rfl rfl rfl, I, start_sr h2 h1 hl, le_noR (rhoW_len h1 hl), fun x hs' C d φ' Hk' Hr' σ' e I' ee a _ => q2 x hs' C d φ' Hk' Hr' e I' ee a⟩ (sat_bind s1) _ (fun a hs' φ' Hk' Hr' σ' hp p' e' => ?_) (fun w hs' v φ' Hk' Hr' hp I' e' hv => ?_)⟩
    · exact q1 _ hs' .non φ' Hk' Hr' hp p'.I e' (.dat .non)
    · exact q1 w hs' v φ' Hk' Hr' hp I' e' hv
/-- where nothing is raised: the law -/
def spM0 (K : PySem.W.Frag) (wd : World) (n : Nat) (mf : List W → M W) : Sp := fun vs H Q _ => ∃ (φ : List Addr) (hs : Hs) (Ho Hk : Hp) (ws : List W) (P : W → Hs → Prop), ws.length = n ∧ Ok K wd φ hs Ho Hk H ∧ VRs K wd φ Hk ws vs ∧ (mf ws hs).sat P FF ∧
  (∀ w hs' v φ' Hk' H', P w hs' → Ok K wd φ' hs' Ho Hk' H' → Ex φ Hk φ' Hk' → VR K wd φ' Hk' w v → Q v H')
theorem defM0 {mb : List W → M (Res W Unit)} {g : Unit → Rho} (F : Fun K x qual st f fd) (S : FnScope N ps (defScope st)) (hl : ps.length ≤ N.length)
    (body : ∀ (cdv : Value) (A : Around) (outer : List Env) (s : Shared) (H : Hp) (E : XK), Room k (A.deeper (envOfC qual (defScope st) s.heap.objs.size f cdv)) →
      PassesOwn (model P w) (cxOf CX0 P w K mg base N qual (defScope st) f cdv A outer s H E).nox.A (cxOf CX0 P w K mg base N qual (defScope st) f cdv A outer s H E).nox.env (cxOf CX0 P w K mg base N qual (defScope st) f cdv A outer s H E).nox.xe → ∀ ws : List W, ws.length = ps.length →
      SM (cxOf CX0 P w K mg base N qual (defScope st) f cdv A outer s H E).nox (noR N.length) (defBody st) (rhoW ws (N.length - ps.length)) (mb ws) g) :
    FnOk P w K mg base CX0 (k + 1) f fd ps (spM0 K w ps.length fun ws => finM (mb ws)) := by
  refine F.ok S (fun vs H Q E h => ?_) (fun cdv A outer s H vs Q E hr h => ?_)
  · obtain ⟨φ, hs, Ho, Hk, ws, P', h1, _, h2, _⟩ := h
    rw [VRs.len h2, h1]
  · obtain ⟨φ, hs, Ho, Hk, ws, P', h1, I, h2, s1, q1⟩ := h
    have b : SM _ _ _ _ _ _ := fun {Wx E' P hs φ Ho Hk Hr σ} => body cdv A outer s H E hr PassesOwn.never ws h1 (Wx := Wx) (P := P) (hs := hs) (φ := φ) (Ho := Ho) (Hk := Hk) (Hr := Hr) (σ := σ)
    refine ⟨_, pss_s, b (Wx := fun _ _ _ _ => False) (E := FF) ⟨takes0, I, start_sr h2 h1 hl, le_noR (rhoW_len h1 hl), fun x hs' C d φ' Hk' Hr' σ' e => e.elim⟩ (sat_bind s1) _ (fun a hs' φ' Hk' Hr' σ' hp p' e' => ?_) (fun w hs' v φ' Hk' Hr' hp I' e' hv => ?_)⟩
    · exact q1 _ hs' .non φ' Hk' Hr' hp p'.I e' (.dat .non)
    · exact q1 w hs' v φ' Hk' Hr' hp I' e' hv
theorem FnOk.bad {CX : CXT} {n : Nat} (fl : ps.length = n) : FnOk P w K mg base CX k f fd ps (spM K w mg n fun _ => fun _ => .bad) :=
  ⟨fun vs H Q E h => by obtain ⟨φ, hs, Ho, Hk, ws, P', Ex', h1, I, h2, s1, q1, q2⟩ := h; exact s1.elim, fun A outer s H args us vs Q E hr he hb hv h => by obtain ⟨φ, hs, Ho, Hk, ws, P', Ex', h1, I, h2, s1, q1, q2⟩ := h; exact s1.elim⟩
/-- a def that raises nothing, for callers that may -/
theorem FnOk.x0 {sp : Sp} (F : FnOk P w K mg base CX0 k f fd ps sp) : FnOk P w K mg base (L2.CX P w) k f fd ps sp :=
  ⟨F.len, fun A outer s H args us vs Q E hr he hb hv hs => codeAny_mono (F.run A outer s H args us vs Q E hr he hb hv hs) fun r s' h => by
    cases r with
    | error e => exact (show False from h).elim
    | ok fl => cases fl <;> exact h⟩
end
structure CalM (P : Program) (w : World) (K : PySem.W.Frag) (mg : Str → Option Value) (base : Heap) (k : Nat) (x : Str) (ps : List Str) (n : Nat) (m : List W → M W) : Prop where
  ex : ∃ (f : Addr) (fd : FuncData), FnOk P w K mg base (L2.CX P w) k f fd ps (spM K w mg n m) ∧ mg x = some (.ref f) ∧ PySem.W.keepIn K (.ref f) = true ∧ Binds K fd ps []
def callM (n : Nat) (ma : M (List W)) (m : List W → M W) : M W := bd ma fun ws => bd (lf (gd (Nat.beq ws.length n) (some ()))) fun _ => m ws
section
variable {X : Cx} {ρ : Rho} {e : Expr} {es : List Expr} {ma : M (List W)} {m : List W → M W} {k n : Nat} {x : Str} {ps : List Str} {p0 pos : Pos}
theorem em_call (cl : CalM X.prog X.w X.K X.mg X.base k x ps n m) (hr : Room k X.A) (ha : AM X (e :: es) ρ ma) (hg : Gl X x := by rfl) (hdb : (x == ("__debug__" : Str)) = false := by decide) (he : starEach (e :: es) X.env = (false, eval e X.env) :: starEach es X.env := by rfl) (hpl : (backTo pos (starEach es X.env)).any (·.1) = false := by rfl) :
    EM X (.Call (.Name x p0) (e :: es) [] pos) ρ (callM n ma m) := fun p s Q q => by
  obtain ⟨f, fd, F, hm, hk, hb⟩ := cl.ex
  refine sE_of (pe_callS F hr hg hm hk hb (fun σ => passAt p.tk σ) pa_s hdb he hpl) (ha p (sat_bind s) _ fun ws h1 vs φ1 Hk1 Hr1 s1 p1 e1 hvs => ?_)
  obtain ⟨_, hn, s2⟩ := sat_lf (sat_bind s1)
  exact ⟨φ1, h1, _, Hk1, ws, _, _, Nat.eq_of_beq_eq_true (gd_some hn).1, p1.I, hvs, s2, fun w hs' v φ' Hk' H' hp I e hv => q w hs' v φ' Hk' H' hp (p1.go I e) (e1.trans e) hv, fun x hs' C d φ' Hk' H' hp I e ha => p1.x x hs' C d φ' Hk' H' hp I e ha⟩
end
def mState (ws : List W) : M W := fun h => match ws with
  | [.scr] => .ok (.ref h.nx) (h.new .st)
  | _ => .bad
def mTake (ws : List W) : M W := fun h => match ws with
  | [.ref i, .dat (.int m)] => match h.get i with
    | some .st => match decide (0 < m) && decide (m < 1000000) with
      | true => .draw m.toNat fun v => .ok (.dat (.int (v : Nat))) h
      | false => .bad
    | _ => .bad
  | _ => .bad
section
variable {P : Program} {w : World} {K : PySem.W.Frag} {wd : World} {mg : Str → Option Value} {base : Heap} {f : Addr} {fd : FuncData} {ps : List Str} {k : Nat}
theorem fn_state {φ : List PyData → List Int → Prop} (hφ : ∀ ns : List Int, ∃ s t, φ [.list (ns.map .int)] [s, t]) (F : FnOk P w K mg base CX0 k f fd ps (spN K 1 φ)) : FnOk P w K mg base (L2.CX P w) k f fd ps (spM K w mg 1 mState) :=
  FnOk.x0 (F.imp fun vs H Q E h => by
    obtain ⟨ph, hs, Ho, Hk, ws, P', Ex', h1, I, h2, s1, q1, q2⟩ := h
    unfold mState at s1
    split at s1
    · cases h2 with
      | cons h2 h3 =>
        cases h3
        cases h2 with
        | scr hl hd =>
          rename_i v ns
          obtain ⟨s, t, hst⟩ := hφ ns
          refine ⟨Hk, [.list (ns.map .int)], [s, t], hst, rfl, I.kr, .cons hd .nil, fun p H' e np hp => ?_⟩
          have I2 : Ok K w (ph ++ [p]) (hs.new .st) Ho Hk H' := I.new np e ⟨s, t, hp⟩
          refine q1 _ _ (.ref p) (ph ++ [p]) Hk H' s1 I2 ⟨Fx.app, Same.refl _⟩ (.ref ?_)
          rw [← I.len]
          simp
    · exact s1.elim)
theorem fn_take {φ : List PyData → List PyData → PyData → List PyData → Prop} (hφ : ∀ s t m : Int, 0 < m → m < 1000000 → ∃ (v : Nat) (s' t' : Int), (v : Int) < m ∧ φ [.int s, .int t] [.int m] (.int (v : Nat)) [.int s', .int t']) (F : FnOk P w K mg base CX0 k f fd ps (spB K 1 φ)) : FnOk P w K mg base (L2.CX P w) k f fd ps (spM K w mg 2 mTake) :=
  FnOk.x0 (F.imp fun vs H Q E h => by
    obtain ⟨ph, hs, Ho, Hk, ws, P', Ex', h1, I, h2, s1, q1, q2⟩ := h
    unfold mTake at s1
    split at s1
    · rename_i i m
      cases h2 with
      | cons h2 h3 =>
        cases h2 with
        | ref ha =>
          cases h3 with
          | cons h3 h4 =>
            cases h4
            cases h3 with
            | dat h3 =>
              cases h3
              cases g : hs.get i with
              | none => rw [g] at s1; exact s1.elim
              | some o =>
                rw [g] at s1
                cases o with
                | st =>
                  obtain ⟨a, r1, r2, r3, s, t, r4⟩ := I.obj i _ g
                  rw [ha] at r1
                  cases r1
                  cases z : (decide (0 < m) && decide (m < 1000000)) with
                  | false => simp only [z] at s1; exact s1.elim
                  | true =>
                    simp only [z] at s1
                    rw [Bool.and_eq_true] at z
                    obtain ⟨v, s', t', hv, hst⟩ := hφ s t m (of_decide_eq_true z.1) (of_decide_eq_true z.2)
                    refine ⟨Hk, _, [.int m], [.int s, .int t], [.int s, .int t], [.int m], .int (v : Nat), [.int s', .int t'], hst, rfl, rfl, r4, r2, I.kr, .cons (.int _) (.cons (.int _) .nil), .cons (.int _) .nil, fun vv H' us' far hus hdp hdv => ?_⟩
                    cases hdv
                    have e1 := DpAll.ints (ns := [s', t']) hdp
                    subst e1
                    have s2 : P' (.dat (.int (v : Nat))) hs := s1 v (by omega)
                    refine q1 _ hs (.int (v : Nat)) ph Hk H' s2 ⟨fun b o hb => far b o (ne_of_none hb r2) (I.kr _ _ hb), fun b o hb => far b o (ne_of_none hb r3) (I.out _ _ hb), I.len, I.low, fun j o hj => ?_, I.inj, I.dis⟩ Ex.refl (.dat (.int _))
                    obtain ⟨b, t1, t2, t3, t4⟩ := I.obj j o hj
                    refine ⟨b, t1, t2, t3, ?_⟩
                    by_cases q : j = i
                    · subst q
                      rw [g] at hj
                      cases hj
                      rw [ha] at t1
                      cases t1
                      exact ⟨s', t', hus⟩
                    · exact t4.mono Fx.refl (Same.refl _) fun u hu => far b u (fun z => q (I.inj j i b (by rw [hj]; exact fun z => nomatch z) (by rw [g]; exact fun z => nomatch z) t1 (by rw [z]; exact ha))) hu
                | _ => exact s1.elim
    · exact s1.elim)
/-- the law's own promise -/
theorem law_M {m : List W → M W} (hm : (m [.scr] ⟨0, []⟩).sat (fun w _ => w = .dat (.bool true)) FF) (F : FnOk P w K mg base CX0 k f fd ["script"] (spM0 K w 1 m)) : FnOk P w K mg base CX0 k f fd ["script"] (spLaw K) :=
  F.imp fun vs H Q E h => by
    obtain ⟨a, ns, rfl, hs, hl, q⟩ := h
    refine ⟨[], ⟨0, []⟩, fun _ => none, H, [.scr], _, rfl, ⟨Same.refl _, fun _ _ z => (nomatch z), rfl, fun i o z => (nomatch z), fun i o z => (nomatch z), fun i j a z => absurd rfl z, fun _ _ z => (nomatch z)⟩, .cons (.scr hl (.lst hs (DpAll.of_ints ns))) .nil, hm, fun w hs' v φ' Hk' H' hw _ _ hv => ?_⟩
    subst hw
    cases hv with
    | dat hv =>
      cases hv
      exact q H'
end
end Hx
noncomputable section
namespace Hx
open PySem L2 Pd Gn PySem.Spec PyProof.Rows Zq
def GWx (g : TG) (vs : List Nat) : Prop := ∀ v τ H (Q : L2.St → Hp → Prop), (g v τ H fun σ2 H2 => wipe σ2 vs = wipe τ vs → Q σ2 H2) → g v τ H fun σ2 H2 => wipe σ2 vs = wipe τ vs ∧ Q σ2 H2
def GWxs (g : TGs) (vs : List Nat) : Prop := ∀ us τ H (Q : L2.St → Hp → Prop), (g us τ H fun σ2 H2 => wipe σ2 vs = wipe τ vs → Q σ2 H2) → g us τ H fun σ2 H2 => wipe σ2 vs = wipe τ vs ∧ Q σ2 H2
theorem gwx_name {n : Nat} {vs : List Nat} (h : n ∈ vs) : GWx (gName n) vs := fun v τ H Q q => ⟨wipe_set h, q (wipe_set h)⟩
theorem gwxs_nil {vs : List Nat} : GWxs gNil vs := fun us τ H Q q => ⟨q.1, rfl, q.2 rfl⟩
/-- the wish may be weakened -/
def MonG (g : TG) : Prop := ∀ v τ H (Q Q' : L2.St → Hp → Prop), (∀ σ2 H2, Q σ2 H2 → Q' σ2 H2) → g v τ H Q → g v τ H Q'
def MonGs (g : TGs) : Prop := ∀ v τ H (Q Q' : L2.St → Hp → Prop), (∀ σ2 H2, Q σ2 H2 → Q' σ2 H2) → g v τ H Q → g v τ H Q'
theorem mon_name {n : Nat} : MonG (gName n) := fun v τ H Q Q' h q => h _ _ q
theorem mons_nil : MonGs gNil := fun v τ H Q Q' h q => ⟨q.1, h _ _ q.2⟩
theorem mons_cons {g : TG} {ts : TGs} (m1 : MonG g) (m2 : MonGs ts) : MonGs (gCons g ts) := fun vs τ H Q Q' h q => by
  obtain ⟨v, r, e, q⟩ := q
  exact ⟨v, r, e, m1 _ _ _ _ _ (fun σ2 H2 q2 => m2 _ _ _ _ _ h q2) q⟩
theorem mon_tup {K : PySem.W.Frag} {n : Nat} {ts : TGs} (m : MonGs ts) : MonG (gTup K n ts) := fun v τ H Q Q' h q => by
  obtain ⟨a, xs, e, h1, h2, q⟩ := q
  exact ⟨a, xs, e, h1, h2, m _ _ _ _ _ h q⟩
theorem gwxs_cons {g : TG} {ts : TGs} {vs : List Nat} (w1 : GWx g vs) (m1 : MonG g) (w2 : GWxs ts vs) (m2 : MonGs ts) : GWxs (gCons g ts) vs := fun us τ H Q q => by
  obtain ⟨v, r, e, q⟩ := q
  refine ⟨v, r, e, ?_⟩
  refine m1 _ _ _ _ _ (fun σ2 H2 q2 => ?_) (w1 v τ H (fun σ2 H2 => wipe σ2 vs = wipe τ vs ∧ ts r σ2 H2 fun σ3 H3 => wipe σ3 vs = wipe τ vs → Q σ3 H3) (m1 _ _ _ _ _ (fun σ2 H2 q2 e2 => ⟨e2, q2⟩) q))
  obtain ⟨_, e2, q2⟩ := q2
  refine m2 _ _ _ _ _ (fun σ3 H3 q3 => ?_) (w2 r σ2 H2 Q (m2 _ _ _ _ _ (fun σ3 H3 q3 e3 => q3 (e3.trans e2)) q2))
  exact ⟨q3.1.trans e2, q3.2⟩
theorem gwx_tup {K : PySem.W.Frag} {n : Nat} {ts : TGs} {vs : List Nat} (w : GWxs ts vs) : GWx (gTup K n ts) vs := fun v τ H Q q => by
  obtain ⟨a, xs, e, h1, h2, q⟩ := q
  exact ⟨a, xs, e, h1, h2, w _ _ _ _ q⟩
theorem GWx.gw {g : TG} {vs : List Nat} (h : GWx g vs) (m : MonG g) : GW g vs := fun v σ H Q q => by
  refine m _ _ _ _ _ (fun σ2 H2 q2 => ?_) (h v (wipe σ vs) H Q (m _ _ _ _ _ (fun σ2 H2 q2 e => q2 (by rw [e, wipe_twice])) q))
  exact ⟨by rw [q2.1, wipe_twice], q2.2⟩
def pMulY : PyData → PyData → Option PyData
  | .int i, .int j => gd (inR (-18446744073709551615) 18446744073709551615 i) (some (.int (i * j)))
  | .tuple ds, .int k => gd (!ds.isEmpty && inR (-1000) 1000 k && Nat.ble ds.length 1000) (some (.tuple (List.replicate k.toNat ds).flatten))
  | _, _ => none
section
variable {X : Cx} {ρ : Rho} {a b e : Expr} {m m1 m2 : M W} {ml ml2 : M (List W)} {pos p0 p1 : Pos}
theorem mul_f : OF X (binaryOp .Mult) (l2 pMulY) := of_l2 fun x y d h => by
  unfold pMulY at h
  split at h
  · obtain ⟨g1, g2⟩ := gd_some h
    obtain ⟨g3, g4⟩ := inR_at g1
    cases g2; exact ⟨_, op_mul, rd_int (.inl ⟨by omega, by omega⟩)⟩
  · obtain ⟨g1, g2⟩ := gd_some h
    rw [Bool.and_eq_true, Bool.and_eq_true] at g1
    obtain ⟨⟨q1, q2⟩, q3⟩ := g1
    obtain ⟨g3, g4⟩ := inR_at q2
    have hn : ∀ {ds : List PyData}, (!ds.isEmpty) = true → ds ≠ [] := fun h z => by subst z; cases h
    cases g2
    rename_i ds k
    by_cases hk : k ≤ 1
    · exact ⟨_, op_times, rd_times (hn q1) ⟨g3, hk⟩⟩
    · exact ⟨_, op_repT, rd_rep (hn q1) ⟨by omega, g4, Nat.le_of_ble_eq_true q3⟩⟩
  · cases h
theorem _root_.Hx.Ok.unout {K : PySem.W.Frag} {wd : World} {φ : List Addr} {hs : Hs} {Ho Hk Hr : Hp} {p : Addr} {u : HO} (I : Ok K wd φ hs (upd Ho p u) Hk Hr) (no : Ho p = none) : Ok K wd φ hs Ho Hk Hr := by
  refine ⟨I.kr, fun b o g => I.out _ _ (same_upd no b o g), I.len, I.low, fun i o g => ?_, I.inj, fun b o g => I.dis b o (same_upd no b o g)⟩
  obtain ⟨a, q1, q2, q3, q4⟩ := I.obj i o g
  have ne : a ≠ p := fun z => by rw [z, upd_same] at q3; cases q3
  rw [upd_ne ne] at q3
  exact ⟨a, q1, q2, q3, q4⟩
theorem _root_.Hx.Pt.out {Wx : WX} {E : Xc → Hs → Prop} {hs hs' : Hs} {φ φ' : List Addr} {Ho Hk Hk' Hr Hr' : Hp} {σ : L2.St} {q : Addr} {u : HO} (p : Pt X Wx E ρ hs φ Ho Hk Hr σ) (I : Ok X.K X.w φ' hs' (upd Ho q u) Hk' Hr') (no : Ho q = none) (e : Ex φ Hk φ' Hk') : Pt X Wx E ρ hs' φ' (upd Ho q u) Hk' Hr' σ :=
  ⟨p.tk, I, p.R.ex e, fun x hs'' C d φ'' Hk'' Hr'' h I' e' a => p.x x hs'' C d φ'' Hk'' Hr'' h (I'.unout no) (e.trans e') a⟩
end
end Hx
noncomputable section
namespace Hx
open PySem L2 Pd Gn PySem.Spec PyProof.Rows Zq
theorem ty_tupS {K : PySem.W.Frag} {H : Hp} {a : Addr} {vs : List V} (hs : SqT K H a vs) : TyX K H (.ref a) (.type "tuple") := by
  rcases hs with (h | ⟨o, h⟩) | h
  · exact .base (.tup h)
  · exact .fTuple h
  · obtain ⟨o, its, n, ho, hc, _⟩ := h
    exact .kTuple ho hc
theorem ty_lstS {K : PySem.W.Frag} {H : Hp} {a : Addr} {vs : List V} (hs : SqL K H a vs) : TyX K H (.ref a) (.type "list") := by
  rcases hs with (h | ⟨o, h⟩) | h
  · exact .base (.lst h)
  · exact .base (.frz h)
  · obtain ⟨o, its, n, ho, hc, _⟩ := h
    exact .kList ho hc
section
variable {X : Cx} {ρE ρ : Rho} {a b e o ix t : Expr} {es : List Expr} {rest body : List Stmt} {m m1 m2 m3 : M W} {ma : M (List W)} {p0 p1 p2 p3 px pr pos cpos tpos : Pos} {α β : Type} {g : α → Rho} {n i k1 k2 : Nat} {x y : Str}
def isiW (f : PyData → Option Bool) (h : Hs) : W → Option Bool
  | .dat d => f d
  | .tup _ => f (.tuple [])
  | .lst _ => f (.list [])
  | .ref i => match h.get i with | some (.lst _) => f (.list []) | _ => none
  | _ => none
def isiM (f : PyData → Option Bool) (m : M W) : M W := bd m fun w => fun h => lf ((isiW f h w).map fun k => .dat (.bool k)) h
theorem em_isi {T : String} {f : PyData → Option Bool} (hf : ∀ d r, f d = some r → kitB (tyN d) T = some r) (hn : ∀ d, f (.dict d) = none) (ha : EM X e ρ m) (h : PE X (.Call (.Name "isinstance" p0) [e, t] [] pos) (tCB (rIsi X.K) (tCons (sE X e) (tCons (tC (.ty T)) tNil)))) : EM X (.Call (.Name "isinstance" p0) [e, t] [] pos) ρ (isiM f m) := fun p s Q q => by
  refine sE_of h (ha p (sat_bind s) _ fun w h1 v φ1 Hk1 Hr1 s1 p1 e1 hv => ?_)
  obtain ⟨kw, hkw, s2⟩ := sat_lf s1
  obtain ⟨k, hk, hkw⟩ := mpd hkw
  subst hkw
  have fin : ∀ ty : String, TyX X.K Hr1 v (.type ty) → kitB ty T = some k → rIsi X.K [v, .ty T] Hr1 Q := fun ty hty hkk =>
    ⟨v, .ty T, .type ty, .type T, k, rfl, .ty T, hty, kit_ty hkk, q _ _ _ _ _ _ s2 p1 e1 (.dat (.bl _))⟩
  cases w with
  | dat d =>
    have hk : f d = some k := hk
    cases hv with
    | dat hd =>
      have hd := Dp.mono p1.I.kr _ hd
      cases d with
      | none => exact fin _ (ty_scal hd rfl) (hf _ _ hk)
      | bool b => exact fin _ (ty_scal hd rfl) (hf _ _ hk)
      | int b => exact fin _ (ty_scal hd rfl) (hf _ _ hk)
      | str b => exact fin _ (ty_scal hd rfl) (hf _ _ hk)
      | tuple b => exact fin _ (ty_tup hd) (hf _ _ hk)
      | list b => exact fin _ (ty_lst hd) (hf _ _ hk)
      | dict b => rw [hn] at hk; cases hk
  | tup ws =>
    cases hv with
    | tup hs _ => exact fin _ (ty_tupS (same_t p1.I.kr hs)) (hf _ _ hk)
  | lst ws =>
    cases hv with
    | lst hs _ => exact fin _ (ty_lstS (same_l p1.I.kr hs)) (hf _ _ hk)
  | ref i =>
    have hk : (match h1.get i with | some (.lst _) => f (.list []) | _ => none) = some k := hk
    cases g : h1.get i with
    | none => rw [g] at hk; cases hk
    | some u =>
      rw [g] at hk
      cases u with
      | lst ws =>
        cases hv with
        | ref ha =>
          obtain ⟨vs, t1, t2⟩ := at_lst p1.I g ha
          exact fin _ (ty_lstS (.inl (.inl t1))) (hf _ _ hk)
      | _ => cases hk
  | _ => cases hk
theorem isiC {T : String} {ty : Str} (hm : X.mg "isinstance" = none) (hm2 : X.mg ty = none) (hb : bootBuiltins ty = some (.type T)) (hnn : ty ≠ ("__name__" : Str)) (hd : (ty == ("__debug__" : Str)) = false) (hg : Gl X "isinstance") (hg2 : Gl X ty) (he : starEach [e, .Name ty tpos] X.env = (false, eval e X.env) :: starEach [.Name ty tpos] X.env) (he2 : starEach [.Name ty tpos] X.env = (false, eval (.Name ty tpos) X.env) :: starEach [] X.env) (hpl : (backTo pos (starEach [.Name ty tpos] X.env)).any (·.1) = false) :
    PE X (.Call (.Name "isinstance" p0) [e, .Name ty tpos] [] pos) (tCB (rIsi X.K) (tCons (sE X e) (tCons (tC (.ty T)) tNil))) := pe_callB call_isi hg hm (by decide +kernel) (pa_cons pe_s (pa_cons (pe_bltn hg2 hm2 hb rfl hnn hd) pa_nil he2) he) (by decide) (by decide) he hpl
theorem em_isInt (hm : X.mg "isinstance" = none) (hm2 : X.mg "int" = none) (ha : EM X e ρ m) (hg : Gl X "isinstance" := by rfl) (hg2 : Gl X "int" := by rfl) (he : starEach [e, .Name "int" tpos] X.env = (false, eval e X.env) :: starEach [.Name "int" tpos] X.env := by rfl) (he2 : starEach [.Name "int" tpos] X.env = (false, eval (.Name "int" tpos) X.env) :: starEach [] X.env := by rfl) (hpl : (backTo pos (starEach [.Name "int" tpos] X.env)).any (·.1) = false := by rfl) :
    EM X (.Call (.Name "isinstance" p0) [e, .Name "int" tpos] [] pos) ρ (isiM isIntO m) := em_isi isInt_k (fun _ => rfl) ha (isiC hm hm2 (by decide +kernel) (by decide) (by decide) hg hg2 he he2 hpl)
theorem em_isBool (hm : X.mg "isinstance" = none) (hm2 : X.mg "bool" = none) (ha : EM X e ρ m) (hg : Gl X "isinstance" := by rfl) (hg2 : Gl X "bool" := by rfl) (he : starEach [e, .Name "bool" tpos] X.env = (false, eval e X.env) :: starEach [.Name "bool" tpos] X.env := by rfl) (he2 : starEach [.Name "bool" tpos] X.env = (false, eval (.Name "bool" tpos) X.env) :: starEach [] X.env := by rfl) (hpl : (backTo pos (starEach [.Name "bool" tpos] X.env)).any (·.1) = false := by rfl) :
    EM X (.Call (.Name "isinstance" p0) [e, .Name "bool" tpos] [] pos) ρ (isiM isBoolO m) := em_isi isBool_k (fun _ => rfl) ha (isiC hm hm2 (by decide +kernel) (by decide) (by decide) hg hg2 he he2 hpl)
end
structure CalD (P : Program) (w : World) (K : PySem.W.Frag) (mg : Str → Option Value) (base : Heap) (k : Nat) (x : Str) (ps : List Str) (n : Nat) (dv : List W) (m : List W → M W) : Prop where
  ex : ∃ (f : Addr) (fd : FuncData) (us : List Value) (vs : List V), FnOk P w K mg base (L2.CX P w) k f fd ps (spM K w mg n m) ∧ mg x = some (.ref f) ∧ PySem.W.keepIn K (.ref f) = true ∧ Binds K fd ps us ∧ Vals vs us ∧ ∀ φ H, VRs K wd φ H dv vs
def T.at {α : Type} : T α → Nat → T α
  | .draw _ k, v => k v
  | _, _ => .bad
mutual
def noref : W → Bool
  | .dat _ => true
  | .ref _ => false
  | .tup ws => norefs ws
  | .lst ws => norefs ws
  | .ins _ fs => norefs fs
  | .scr => true
  | .dct kvs => norefD kvs
  | .tpx _ => true
def norefs : List W → Bool
  | [] => true
  | w :: ws => match noref w with | true => norefs ws | false => false
def norefD : List (NestedKey × W) → Bool
  | [] => true
  | p :: r => match norefP p with | true => norefD r | false => false
def norefP : NestedKey × W → Bool
  | (_, w) => noref w
end
mutual
theorem VR.nr {K : PySem.W.Frag} {wd : World} {φ φ' : List Addr} {H : Hp} : ∀ {w : W} {v : V}, noref w = true → VR K wd φ H w v → VR K wd φ' H w v
  | _, _, e, .dat h => .dat h
  | _, _, e, .ref h => by simp [noref] at e
  | _, _, e, .tup h g => .tup h (VRs.nr (by simpa [noref] using e) g)
  | _, _, e, .ins h1 h2 h3 g => .ins h1 h2 h3 (VRs.nr (by simpa [noref] using e) g)
  | _, _, e, .lst h g => .lst h (VRs.nr (by simpa [noref] using e) g)
  | _, _, e, .scr h g => .scr h g
  | _, _, e, .dct h g => .dct h (DRs.nr (by simpa [noref] using e) g)
  | _, _, e, .tpx h d g => .tpx h d g
theorem VRs.nr {K : PySem.W.Frag} {wd : World} {φ φ' : List Addr} {H : Hp} : ∀ {ws : List W} {vs : List V}, norefs ws = true → VRs K wd φ H ws vs → VRs K wd φ' H ws vs
  | _, _, e, .nil => .nil
  | w :: ws, _, e, .cons h g => by
    unfold norefs at e
    cases z : noref w with
    | false => rw [z] at e; cases e
    | true =>
      rw [z] at e
      exact .cons (VR.nr z h) (VRs.nr e g)
theorem DRs.nr {K : PySem.W.Frag} {wd : World} {φ φ' : List Addr} {H : Hp} : ∀ {kvs : List (NestedKey × W)} {es : List (NestedKey × Addr × V)}, norefD kvs = true → DRs K wd φ H kvs es → DRs K wd φ' H kvs es
  | _, _, e, .nil => .nil
  | (k, w) :: kvs, _, e, .cons h1 h2 h3 h4 => by
    unfold norefD norefP at e
    cases z : noref w with
    | false => simp only [z] at e; cases e
    | true =>
      simp only [z] at e
      exact .cons h1 h2 (VR.nr z h3) (DRs.nr e h4)
end
def isoT (h : Hs) : T W → T W
  | .ok w _ => match noref w with | true => .ok w h | false => .bad
  | .exc x _ => .exc x h
  | .draw n k => .draw n fun v => isoT h (k v)
  | .bad => .bad
theorem sat_iso {h : Hs} {P : W → Hs → Prop} {E : Xc → Hs → Prop} : ∀ {t : T W}, (isoT h t).sat P E → t.sat (fun w _ => noref w = true ∧ P w h) (fun x _ => E x h)
  | .ok w _, s => by
    have s : (match noref w with | true => T.ok w h | false => T.bad : T W).sat P E := s
    cases z : noref w with
    | true => rw [z] at s; exact ⟨z, s⟩
    | false => rw [z] at s; exact s.elim
  | .exc x _, s => s
  | .draw n k, s => fun v hv => sat_iso (t := k v) (s v hv)
  | .bad, s => s
def normI {β : Type} (i : Int) (k : Int → β) : β := match i with
  | .ofNat n => match n with
    | 0 => k (.ofNat 0)
    | p + 1 => k (.ofNat (p + 1))
  | .negSucc n => match n with
    | 0 => k (.negSucc 0)
    | p + 1 => k (.negSucc (p + 1))
theorem normI_eq {β : Type} {i : Int} {k : Int → β} : normI i k = k i := by
  cases i with
  | ofNat n => cases n <;> rfl
  | negSucc n => cases n <;> rfl
mutual
def normD {β : Type} : PyData → (PyData → β) → β
  | .none, k => k .none
  | .bool b, k => match b with | true => k (.bool true) | false => k (.bool false)
  | .int i, k => normI i fun j => k (.int j)
  | .str x, k => k (.str x)
  | .tuple ds, k => normDs ds fun es => k (.tuple es)
  | .list ds, k => normDs ds fun es => k (.list es)
  | .dict ds, k => k (.dict ds)
def normDs {β : Type} : List PyData → (List PyData → β) → β
  | [], k => k []
  | d :: ds, k => normD d fun e => normDs ds fun es => k (e :: es)
end
mutual
theorem normD_eq {β : Type} : ∀ {d : PyData} {k : PyData → β}, normD d k = k d
  | .none, k => by simp only [normD]
  | .bool b, k => by simp only [normD]; cases b <;> rfl
  | .int i, k => by simp only [normD]; exact normI_eq
  | .str x, k => by simp only [normD]
  | .tuple ds, k => by simp only [normD]; exact normDs_eq
  | .list ds, k => by simp only [normD]; exact normDs_eq
  | .dict ds, k => by simp only [normD]
theorem normDs_eq {β : Type} : ∀ {ds : List PyData} {k : List PyData → β}, normDs ds k = k ds
  | [], k => by simp only [normDs]
  | d :: ds, k => by
    simp only [normDs]
    rw [normD_eq, normDs_eq]
end
def normW {β : Type} (w : W) (k : W → β) : β := match w with
  | .dat d => normD d fun e => k (.dat e)
  | w => k w
theorem normW_eq {β : Type} {w : W} {k : W → β} : normW w k = k w := by
  cases w with
  | dat d => exact normD_eq
  | _ => rfl
def normWs {β : Type} : List W → (List W → β) → β
  | [], k => k []
  | w :: ws, k => normW w fun e => normWs ws fun es => k (e :: es)
theorem normWs_eq {β : Type} : ∀ {ws : List W} {k : List W → β}, normWs ws k = k ws
  | [], k => rfl
  | w :: ws, k => by
    show normW w (fun e => normWs ws fun es => k (e :: es)) = _
    rw [normW_eq, normWs_eq]
def callI (n : Nat) (ma : M (List W)) (m : List W → M W) : M W := bd ma fun ws => bd (lf (gd (Nat.beq ws.length n && norefs ws) (some ()))) fun _ => fun h => normWs ws fun ws => isoT h (m ws ⟨0, []⟩)
open Classical in
noncomputable def isoO (φ : List Addr) (hs : Hs) (Ho Hr : Hp) : Hp := fun b => if ∃ i o, hs.get i = some o ∧ φ[i]? = some b then Hr b else Ho b
section
variable {K : PySem.W.Frag} {wd : World} {φ φ' : List Addr} {hs hs' : Hs} {Ho Hk Hk' Hr Hr' : Hp}
theorem isoO_in {i : Nat} {o : Ob} {a : Addr} (h : hs.get i = some o) (ha : φ[i]? = some a) : isoO φ hs Ho Hr a = Hr a := if_pos ⟨i, o, h, ha⟩
theorem isoO_out {b : Addr} (I : Ok K wd φ hs Ho Hk Hr) {o : HO} (h : Ho b = some o) : isoO φ hs Ho Hr b = Ho b := if_neg fun ⟨i, u, h1, h2⟩ => by
  obtain ⟨a, q1, _, q3, _⟩ := I.obj i u h1
  rw [h2] at q1
  cases q1
  rw [h] at q3
  cases q3
theorem Ok.iso (I : Ok K wd φ hs Ho Hk Hr) : Ok K wd [] ⟨0, []⟩ (isoO φ hs Ho Hr) Hk Hr := by
  refine ⟨I.kr, fun b o g => ?_, rfl, fun i o z => (nomatch z), fun i o z => (nomatch z), fun i j a z => absurd rfl z, fun b o g => ?_⟩
  · by_cases q : ∃ i o, hs.get i = some o ∧ φ[i]? = some b
    · have e : isoO φ hs Ho Hr b = Hr b := if_pos q
      rw [e] at g; exact g
    · have e : isoO φ hs Ho Hr b = Ho b := if_neg q
      rw [e] at g; exact I.out _ _ g
  · by_cases q : ∃ i o, hs.get i = some o ∧ φ[i]? = some b
    · obtain ⟨i, u, h1, h2⟩ := q
      obtain ⟨a, q1, q2, _⟩ := I.obj i u h1
      rw [h2] at q1
      cases q1
      exact q2
    · have e : isoO φ hs Ho Hr b = Ho b := if_neg q
      rw [e] at g; exact I.dis _ _ g
theorem Ok.back (I : Ok K wd φ hs Ho Hk Hr) (J : Ok K wd φ' hs' (isoO φ hs Ho Hr) Hk' Hr') (e : Same Hk Hk') : Ok K wd φ hs Ho Hk' Hr' := by
  refine ⟨J.kr, fun b o g => J.out _ _ (by rw [isoO_out I g]; exact g), I.len, I.low, fun i o g => ?_, I.inj, fun b o g => J.dis b o (by rw [isoO_out I g]; exact g)⟩
  obtain ⟨a, q1, q2, q3, q4⟩ := I.obj i o g
  obtain ⟨u, hu⟩ := q4.there
  have eo : isoO φ hs Ho Hr a = some u := by rw [isoO_in g q1]; exact hu
  exact ⟨a, q1, J.dis a u eo, q3, q4.mono Fx.refl e fun v hv => J.out _ _ (by rw [isoO_in g q1]; exact hv)⟩
end
theorem em_callI {X : Cx} {ρ : Rho} {e : Expr} {es : List Expr} {ma : M (List W)} {m : List W → M W} {k n : Nat} {x : Str} {ps : List Str} {p0 pos : Pos} (cl : CalM X.prog X.w X.K X.mg X.base k x ps n m) (hr : Room k X.A) (ha : AM X (e :: es) ρ ma) (hg : Gl X x := by rfl) (hdb : (x == ("__debug__" : Str)) = false := by decide) (he : starEach (e :: es) X.env = (false, eval e X.env) :: starEach es X.env := by rfl) (hpl : (backTo pos (starEach es X.env)).any (·.1) = false := by rfl) :
    EM X (.Call (.Name x p0) (e :: es) [] pos) ρ (callI n ma m) := fun p s Q q => by
  obtain ⟨f, fd, F, hm, hk, hb⟩ := cl.ex
  refine sE_of (pe_callS F hr hg hm hk hb (fun σ => passAt p.tk σ) pa_s hdb he hpl) (ha p (sat_bind s) _ fun ws h1 vs φ1 Hk1 Hr1 s1 p1 e1 hvs => ?_)
  obtain ⟨_, hn, s2⟩ := sat_lf (sat_bind s1)
  have g := (gd_some hn).1
  rw [Bool.and_eq_true] at g
  rw [normWs_eq] at s2
  refine ⟨[], ⟨0, []⟩, _, Hk1, ws, _, _, Nat.eq_of_beq_eq_true g.1, p1.I.iso, VRs.nr g.2 hvs, sat_iso s2, fun w hs' v φ' Hk' H' hp I e hv => ?_, fun x hs' C d φ' Hk' H' hp I e ha => ?_⟩
  · have ee : Ex φ1 Hk1 φ1 Hk' := ⟨Fx.refl, e.k⟩
    exact q _ h1 v φ1 Hk' H' hp.2 (p1.go (p1.I.back I e.k) ee) (e1.trans ee) (VR.nr hp.1 hv)
  · have ee : Ex φ1 Hk1 φ1 Hk' := ⟨Fx.refl, e.k⟩
    exact p1.x x h1 C d φ1 Hk' H' hp (p1.I.back I e.k) ee ha
theorem em_callDI {X : Cx} {ρ : Rho} {e : Expr} {es : List Expr} {ma : M (List W)} {m : List W → M W} {k n : Nat} {x : Str} {ps : List Str} {dv : List W} {p0 pos : Pos} (cl : CalD X.prog X.w X.K X.mg X.base k x ps n dv m) (hr : Room k X.A) (ha : AM X (e :: es) ρ ma) (hg : Gl X x := by rfl) (hdb : (x == ("__debug__" : Str)) = false := by decide) (he : starEach (e :: es) X.env = (false, eval e X.env) :: starEach es X.env := by rfl) (hpl : (backTo pos (starEach es X.env)).any (·.1) = false := by rfl) :
    EM X (.Call (.Name x p0) (e :: es) [] pos) ρ (callI n (bd ma fun ws => rt (ws ++ dv)) m) := fun p s Q q => by
  obtain ⟨f, fd, us, vs, F, hm, hk, hb, rv, hv⟩ := cl.ex
  refine sE_of (pe_callSD F hr hg hm hk hb rv (fun σ => passAt p.tk σ) pa_s hdb he hpl) (ha p (sat_bind (sat_bind s)) _ fun ws h1 vs φ1 Hk1 Hr1 s1 p1 e1 hvs => ?_)
  obtain ⟨_, hn, s2⟩ := sat_lf (sat_bind s1)
  have g := (gd_some hn).1
  rw [Bool.and_eq_true] at g
  rw [normWs_eq] at s2
  refine ⟨[], ⟨0, []⟩, _, Hk1, ws ++ dv, _, _, Nat.eq_of_beq_eq_true g.1, p1.I.iso, VRs.nr g.2 (hvs.app (hv φ1 Hk1)), sat_iso s2, fun w hs' v φ' Hk' H' hp I e hv => ?_, fun x hs' C d φ' Hk' H' hp I e ha => ?_⟩
  · have ee : Ex φ1 Hk1 φ1 Hk' := ⟨Fx.refl, e.k⟩
    exact q _ h1 v φ1 Hk' H' hp.2 (p1.go (p1.I.back I e.k) ee) (e1.trans ee) (VR.nr hp.1 hv)
  · have ee : Ex φ1 Hk1 φ1 Hk' := ⟨Fx.refl, e.k⟩
    exact p1.x x h1 C d φ1 Hk' H' hp (p1.I.back I e.k) ee ha
end Hx
noncomputable section
namespace Hx
open PySem L2 Pd Gn PySem.Spec PyProof.Rows Zq
mutual
def keyOf : PyData → Option NestedKey
  | .none => some .none
  | .int i => some (.num i)
  | .str x => some (.text x)
  | .tuple ds => (keysOf ds).map .tup
  | .bool _ => none
  | .list _ => none
  | .dict _ => none
def keysOf : List PyData → Option (List NestedKey)
  | [] => some []
  | d :: ds => (keyOf d).bind fun k => (keysOf ds).map fun ks => k :: ks
end
mutual
theorem keyOf_data : ∀ {d : PyData} {k : NestedKey}, keyOf d = some k → k.data = d
  | .none, k, h => by simp only [keyOf] at h; cases h; rfl
  | .int i, k, h => by simp only [keyOf] at h; cases h; rfl
  | .str x, k, h => by simp only [keyOf] at h; cases h; rfl
  | .tuple ds, k, h => by
    simp only [keyOf] at h
    obtain ⟨ks, h1, h2⟩ := mpd h
    subst h2
    show PyData.tuple (NestedKey.datas ks) = _
    rw [keysOf_data h1]
  | .bool _, k, h => by simp [keyOf] at h
  | .list _, k, h => by simp [keyOf] at h
  | .dict _, k, h => by simp [keyOf] at h
theorem keysOf_data : ∀ {ds : List PyData} {ks : List NestedKey}, keysOf ds = some ks → NestedKey.datas ks = ds
  | [], ks, h => by simp only [keysOf] at h; cases h; rfl
  | d :: ds, ks, h => by
    simp only [keysOf] at h
    obtain ⟨k, h1, h⟩ := bnd h
    obtain ⟨ks', h2, h⟩ := mpd h
    subst h
    show k.data :: NestedKey.datas ks' = _
    rw [keyOf_data h1, keysOf_data h2]
end
/-- a value as a key: a tuple -/
def tkey (w : W) : Option NestedKey := match w with
  | .dat (.tuple ds) => (keyOf (.tuple ds)).bind fun k => gd (Nat.ble k.depth 8) (some k)
  | _ => none
theorem tkey_ok {K : PySem.W.Frag} {wd : World} {φ : List Addr} {H : Hp} {w : W} {v : V} {k : NestedKey} (e : tkey w = some k) (h : VR K wd φ H w v) : ∃ b, v = .ref b ∧ Dp K H (.ref b) k.data ∧ k.depth ≤ 8 := by
  unfold tkey at e
  split at e
  · obtain ⟨k', h1, h2⟩ := bnd e
    obtain ⟨g1, g2⟩ := gd_some h2
    cases g2
    cases h with
    | dat h =>
      cases h with
      | tup hs ha => exact ⟨_, rfl, by rw [keyOf_data h1]; exact .tup hs ha, Nat.le_of_ble_eq_true g1⟩
  · cases e
abbrev EX : List (NestedKey × Addr × V) → List (NestedKey × Addr × Value) → Prop := Paired (fun (p : NestedKey × Addr × V) (q : NestedKey × Addr × Value) => p.1 = q.1 ∧ p.2.1 = q.2.1 ∧ RelV p.2.2 q.2.2)
section
variable {X : Cx} {pins : List (Addr × Obj)} {σ : L2.St} {H : Hp} {s : Shared} {φ : List Addr}
mutual
theorem nk_is (I : Inv X pins σ H s) : ∀ {k : NestedKey} {v : V} {u : Value}, Dp X.K H v k.data → RelV v u → NestedIs s.heap k u
  | .none, v, u, h, r => by
    have h : Dp X.K H v .none := h
    cases h
    have r : u = .none := r
    subst r
    exact .none
  | .num i, v, u, h, r => by
    have h : Dp X.K H v (.int i) := h
    cases h
    obtain ⟨t, rfl⟩ := r
    exact .int i t
  | .text i, v, u, h, r => by
    have h : Dp X.K H v (.str i) := h
    cases h
    obtain ⟨t, rfl⟩ := r
    exact .text i t
  | .tup ks, v, u, h, r => by
    have h : Dp X.K H v (.tuple (NestedKey.datas ks)) := h
    cases h with
    | tup hs ha =>
      have r : u = .ref _ := r
      subst r
      obtain ⟨its, rv, ⟨o, ho, hc, n, hd⟩, _⟩ := I.tuple hs
      exact .tup ho hc hd (by simpa using nks_is I ha rv)
theorem nks_is (I : Inv X pins σ H s) : ∀ {ks : List NestedKey} {vs : List V} {us : List Value}, DpAll X.K H vs (NestedKey.datas ks) → Vals vs us → NestedAll s.heap ks us
  | [], vs, us, h, r => by
    have h : DpAll X.K H vs [] := h
    cases h
    cases r
    exact .nil
  | k :: ks, vs, us, h, r => by
    have h : DpAll X.K H vs (k.data :: NestedKey.datas ks) := h
    cases h with
    | cons h1 h2 =>
      cases r with
      | cons r1 r2 => exact .cons (nk_is I h1 r1) (nks_is I h2 r2)
end
theorem key_is (I : Inv X pins σ H s) {k : NestedKey} {b : Addr} (h : Dp X.K H (.ref b) k.data) (hd : k.depth ≤ 8) : (nestedKind X.prog X.w).is s.heap k b := ⟨nk_is I h rfl, hd⟩
theorem ex_is (I : Inv X pins σ H s) : ∀ {kvs : List (NestedKey × W)} {es : List (NestedKey × Addr × V)} {xs : List (NestedKey × Addr × Value)}, DRs X.K X.w φ H kvs es → EX es xs → ∀ x ∈ xs, (nestedKind X.prog X.w).is s.heap x.1 x.2.1
  | _, _, _, .nil, .nil, x, hx => nomatch hx
  | _, _, _, .cons h1 h2 h3 h4, .cons (b := y) r1 r2, x, hx => by
    rcases List.mem_cons.mp hx with e | hx
    · subst e
      obtain ⟨q1, q2, q3⟩ := r1
      rw [← q1, ← q2]
      exact key_is I h2 h1
    · exact ex_is I h4 r2 x hx
theorem dic_rd (I : Inv X pins σ H s) {a : Addr} {kvs : List (NestedKey × W)} {es : List (NestedKey × Addr × V)} (e : Rd H a (DicO X.w a es)) (D : DRs X.K X.w φ H kvs es) : es.length ≤ sizeLine ∧ (a == sysModules) = false ∧ ∃ xs, EX es xs ∧ s.heap.DictOfH (nestedKind X.prog X.w) a xs := by
  obtain ⟨⟨z, y, xs, r, o, es', ep, h1, h2, h3, h4, h5⟩, _, _⟩ := (show ObjOk X.prog X.w H s.heap a (DicO X.w a es) from e.ok I.hok)
  exact ⟨z, y, xs, r, o, es', ep, h1, h2, h3, h4, ex_is I D r, h5⟩
end
def dLook (k : NestedKey) : List (NestedKey × W) → Option W
  | [] => none
  | (j, w) :: r => match NestedKey.beq j k with | true => some w | false => dLook k r
def dPut (k : NestedKey) (w : W) : List (NestedKey × W) → List (NestedKey × W)
  | [] => [(k, w)]
  | (j, u) :: r => match NestedKey.beq j k with | true => (j, w) :: r | false => (j, u) :: dPut k w r
def ePut (k : NestedKey) (b : Addr) (v : V) : List (NestedKey × Addr × V) → List (NestedKey × Addr × V)
  | [] => [(k, b, v)]
  | (j, c, u) :: r => match NestedKey.beq j k with | true => (j, c, v) :: r | false => (j, c, u) :: ePut k b v r
def xPut (k : NestedKey) (b : Addr) (v : Value) : List (NestedKey × Addr × Value) → List (NestedKey × Addr × Value)
  | [] => [(k, b, v)]
  | (j, c, u) :: r => match NestedKey.beq j k with | true => (j, c, v) :: r | false => (j, c, u) :: xPut k b v r
theorem beq_no {a b : NestedKey} (h : NestedKey.beq a b = false) : a ≠ b := fun e => by rw [e, NestedKey.beq_self] at h; cases h
theorem atKey_cons {x : NestedKey × Addr × Value} {xs : List (NestedKey × Addr × Value)} {k : NestedKey} : atKey (x :: xs) k = match NestedKey.beq x.1 k with | true => some x.2 | false => atKey xs k := by
  cases z : NestedKey.beq x.1 k with
  | true => simp [atKey, NestedKey.eq_of_beq _ _ z]
  | false => simp [atKey, beq_no z]
section
variable {K : PySem.W.Frag} {wd : World} {φ : List Addr} {H : Hp} {k : NestedKey} {w : W} {b : Addr} {v : V} {u : Value}
theorem look_some : ∀ {kvs : List (NestedKey × W)} {es : List (NestedKey × Addr × V)} {xs : List (NestedKey × Addr × Value)}, DRs K wd φ H kvs es → EX es xs → dLook k kvs = some w → ∃ p v, atKey xs k = some p ∧ RelV v p.2 ∧ VR K wd φ H w v
  | _, _, _, .nil, .nil, h => nomatch h
  | (j, w') :: _, _, _ :: _, .cons h1 h2 h3 h4, .cons ⟨q1, q2, q3⟩ r2, h => by
    have q1 : j = _ := q1
    unfold dLook at h
    rw [atKey_cons, ← q1]
    cases z : NestedKey.beq j k with
    | true =>
      rw [z] at h
      cases h
      exact ⟨_, _, rfl, q3, h3⟩
    | false =>
      rw [z] at h
      exact look_some h4 r2 h
theorem look_none : ∀ {kvs : List (NestedKey × W)} {es : List (NestedKey × Addr × V)} {xs : List (NestedKey × Addr × Value)}, DRs K wd φ H kvs es → EX es xs → dLook k kvs = none → atKey xs k = none
  | _, _, _, .nil, .nil, h => rfl
  | (j, w') :: _, _, _ :: _, .cons h1 h2 h3 h4, .cons ⟨q1, q2, q3⟩ r2, h => by
    have q1 : j = _ := q1
    unfold dLook at h
    rw [atKey_cons, ← q1]
    cases z : NestedKey.beq j k with
    | true => rw [z] at h; cases h
    | false =>
      rw [z] at h
      exact look_none h4 r2 h
theorem put_D (hd : k.depth ≤ 8) (hk : Dp K H (.ref b) k.data) (hw : VR K wd φ H w v) : ∀ {kvs : List (NestedKey × W)} {es : List (NestedKey × Addr × V)}, DRs K wd φ H kvs es → DRs K wd φ H (dPut k w kvs) (ePut k b v es)
  | _, _, .nil => .cons hd hk hw .nil
  | (j, w') :: _, _, .cons h1 h2 h3 h4 => by
    unfold dPut ePut
    cases z : NestedKey.beq j k with
    | true => exact .cons h1 h2 hw h4
    | false => exact .cons h1 h2 h3 (put_D hd hk hw h4)
theorem put_E (hr : RelV v u) : ∀ {es : List (NestedKey × Addr × V)} {xs : List (NestedKey × Addr × Value)}, EX es xs → EX (ePut k b v es) (xPut k b u xs)
  | _, _, .nil => .cons ⟨rfl, rfl, hr⟩ .nil
  | (j, c, v') :: _, (j', c', u') :: _, .cons ⟨q1, q2, q3⟩ r => by
    have q1 : j = j' := q1
    subst q1
    unfold ePut xPut
    cases z : NestedKey.beq j k with
    | true => exact .cons ⟨rfl, q2, hr⟩ r
    | false => exact .cons ⟨rfl, q2, q3⟩ (put_E hr r)
theorem putAt_all : ∀ {xs : List (NestedKey × Addr × Value)}, k ∉ xs.map (·.1) → xs.map (putAt k u) = xs
  | [], _ => rfl
  | x :: xs, h => by
    have h1 : x.1 ≠ k := fun e => h (by rw [← e]; exact List.mem_cons_self)
    rw [List.map_cons, putAt_all fun z => h (List.mem_cons_of_mem _ z)]
    unfold putAt
    rw [if_neg h1]
theorem put_X : ∀ {xs : List (NestedKey × Addr × Value)}, (xs.map (·.1)).Nodup → storedH xs k b u = xPut k b u xs
  | [], _ => rfl
  | (j, c, u') :: xs, hn => by
    rw [List.map_cons] at hn
    obtain ⟨n1, n2⟩ := List.nodup_cons.mp hn
    have ih := put_X n2
    unfold xPut
    unfold storedH at ih ⊢
    rw [atKey_cons]
    cases z : NestedKey.beq j k with
    | true =>
      have e := NestedKey.eq_of_beq _ _ z
      subst e
      show (if true = true then _ else _) = _
      rw [if_pos rfl, List.map_cons, putAt_all n1]
      unfold putAt
      rw [if_pos rfl]
    | false =>
      show (if (atKey xs k).isSome = true then _ else _) = (j, c, u') :: xPut k b u xs
      rw [← ih]
      by_cases q : (atKey xs k).isSome = true
      · rw [if_pos q, if_pos q, List.map_cons]
        congr 1
        unfold putAt
        rw [if_neg (beq_no z)]
      · rw [if_neg q, if_neg q]
        rfl
theorem put_len : ∀ {es : List (NestedKey × Addr × V)}, (ePut k b v es).length ≤ es.length + 1
  | [] => Nat.le_refl _
  | (j, c, u) :: r => by
    unfold ePut
    cases z : NestedKey.beq j k with
    | true => exact Nat.le_succ _
    | false => exact Nat.succ_le_succ put_len
theorem DRs.len : ∀ {kvs : List (NestedKey × W)} {es : List (NestedKey × Addr × V)}, DRs K wd φ H kvs es → es.length = kvs.length
  | _, _, .nil => rfl
  | _, _, .cons _ _ _ h => by rw [List.length_cons, List.length_cons, DRs.len h]
end
theorem roomD {P : Program} {wd : World} {A : Around} {k : Nat} (hr : Room k A) : (nestedKind P wd).room A.in1 := by
  have := hr.un
  show A.units + 1 + 8 < cLine
  omega
end Hx
noncomputable section
namespace Hx
open PySem L2 Pd Gn PySem.Spec PyProof.Rows Zq
def isDR : Option Ob → Option (List (NestedKey × W))
  | some (.dic kvs) => some kvs
  | _ => none
def isD (h : Hs) : W → Option (List (NestedKey × W))
  | .dct kvs => some kvs
  | .ref i => isDR (h.get i)
  | _ => none
theorem isD_ok {K : PySem.W.Frag} {wd : World} {φ : List Addr} {hs : Hs} {Ho Hk Hr : Hp} {w : W} {v : V} {kvs : List (NestedKey × W)} (I : Ok K wd φ hs Ho Hk Hr) (hv : VR K wd φ Hk w v) (e : isD hs w = some kvs) : ∃ a es, v = .ref a ∧ Rd Hr a (DicO wd a es) ∧ DRs K wd φ Hk kvs es := by
  cases w with
  | dct l =>
    cases e
    cases hv with
    | dct h1 h2 => exact ⟨_, _, rfl, .inr ⟨_, I.kr _ _ h1⟩, h2⟩
  | ref i =>
    have e : isDR (hs.get i) = some kvs := e
    cases g : hs.get i with
    | none => rw [g] at e; cases e
    | some o =>
      rw [g] at e
      cases o with
      | dic l =>
        cases e
        cases hv with
        | ref ha =>
          obtain ⟨a, q1, q2, q3, es, q4, q5⟩ := I.obj i _ g
          rw [ha] at q1
          cases q1
          exact ⟨_, es, rfl, .inl q4, q5⟩
      | _ => cases e
  | _ => cases e
section
variable {X : Cx} {ρE ρ : Rho} {a b o e f ix tg iter : Expr} {rest sts : List Stmt} {m m1 m2 m3 : M W} {p0 p1 p2 pos apos cpos : Pos} {α β : Type} {g : α → Rho} {n i : Nat} {x : Str} {w : W}
/-- x[y], x a dict or a list, a tuple -/
def ixA (h : Hs) (x y : W) : Option W := match isD h x with
  | some kvs => (tkey y).bind fun k => dLook k kvs
  | none => (asIW y).bind fun i => (itemsH h x).bind fun ws => atI ws i
def ixD (m1 m2 : M W) : M W := bd m1 fun x => bd m2 fun y => fun h => lf (ixA h x y) h
theorem em_ixD (hr : Room n X.A) (ha : EM X a ρ m1) (hb : EM X b ρ m2) (hs : PlainIx b := by exact fun _ _ => rfl) : EM X (.Subscript a b pos) ρ (ixD m1 m2) := fun p s Q q => by
  refine sE_of (pe_ix wIx_r pe_s pe_s hs) (ha p (sat_bind s) _ fun x h1 u φ1 Hk1 Hr1 s1 p1 e1 hu => hb p1 (sat_bind s1) _ fun y h2 v φ2 Hk2 Hr2 s2 p2 e2 hv => ?_)
  obtain ⟨w, hw, s3⟩ := sat_lf s2
  unfold ixA at hw
  cases zd : isD h2 x with
  | some kvs =>
    rw [zd] at hw
    obtain ⟨k, h4, hw⟩ := bnd hw
    obtain ⟨ad, es, rfl, g1, g2⟩ := isD_ok p2.I (hu.ex e2) zd
    obtain ⟨bb, rfl, g3, g4⟩ := tkey_ok h4 hv
    intro value slice pins st τ vv uu I' rx ry hsub
    have rx : vv = .ref ad := rx
    subst rx
    have ry : uu = .ref bb := ry
    subst ry
    obtain ⟨z1, z2, xs, ex, dd⟩ := dic_rd I' g1 (DRs.mono Fx.refl p2.I.kr g2)
    obtain ⟨pp, v', hp, rv, hvr⟩ := look_some g2 ex hw
    exact subscriptTail_builtinR (x := pp.2) dd.typeIs PySem.F.slot_dict_getitem.lookup (wpAny_getItem_heap (Q := fun r s' => r = pp.2 ∧ EP X pins τ Q r s') (roomD hr) (key_is I' (Dp.mono p2.I.kr _ g3) g4) dd hp ⟨rfl, v', Hr2, I'.tok _, rv, q _ _ _ _ _ _ s3 p2 (e1.trans e2) hvr⟩) hsub
  | none =>
    rw [zd] at hw
    obtain ⟨i, h3, hw1⟩ := bnd hw
    obtain ⟨ws, h4, hw2⟩ := bnd hw1
    clear hw hw1
    have := asIW_eq h3
    subst this
    obtain rfl := vr_int (X := X) hv
    obtain ⟨t, ad, vs, rfl, g1, g2⟩ := (hu.ex e2).items p2.I h4
    obtain ⟨z, z1, z2⟩ := g2.at (i := i) (w := w) hw2
    cases t
    · exact wIx_of ix_list ⟨_, _, _, _, rfl, rfl, g1, z1, q _ _ _ _ _ _ s3 p2 (e1.trans e2) z2⟩
    · exact wIx_of ix_tup ⟨_, _, _, _, rfl, rfl, g1, z1, q _ _ _ _ _ _ s3 p2 (e1.trans e2) z2⟩
def wMt (X : Cx) (id : String) (xs : List V) (H : Hp) (Q : VK) : Prop := ∀ (pins : List (Addr × Obj)) (s : Shared) (σ : L2.St) (us : List Value), Inv X pins σ H s → Vals xs us → wpAny (model X.prog X.w) X.A (call (.builtin id) us) (EP X pins σ Q) X.xe s
theorem dic_type {pins : List (Addr × Obj)} {σ : L2.St} {H : Hp} {s : Shared} {ad : Addr} {es : List (NestedKey × Addr × V)} (I : Inv X pins σ H s) (h : Rd H ad (DicO X.w ad es)) : s.TypeIs (.ref ad) "dict" ∧ ∀ a, Value.ref ad = .ref a → ∃ ob, s.heap.get? a = some ob ∧ ob.dict = none := by
  obtain ⟨⟨z, y, xs, r, o, es', ep, h1, h2, h3, h4, h5⟩, _, _⟩ := (show ObjOk X.prog X.w H s.heap ad (DicO X.w ad es) from h.ok I.hok)
  exact ⟨⟨o, h1, h2.1⟩, fun a e => by cases e; exact ⟨o, h1, h2.2.1⟩⟩
def tDm2 (X : Cx) (id : String) (to te tf : TE) : TE := fun σ H Q => to σ H fun x H1 => (∃ ad es, x = .ref ad ∧ Rd H1 ad (DicO X.w ad es)) ∧ te σ H1 fun y H2 => tf σ H2 fun z H3 => wMt X id [x, y, z] H3 Q
theorem pe_dm2 {nm : Str} {id : String} {to te tf : TE} (slot : Slot "dict" nm id) (hty : typeOf (.builtin id) = pure (.type "method_descriptor")) (ho : PE X o to) (he : PE X e te) (hf : PE X f tf) (md : M2 X o nm apos e f cpos) : PE X (.Call (.Attribute o nm apos) [e, f] [] cpos) (tDm2 X id to te tf) := by
  refine ⟨fun pins s σ H Q I h => ?_⟩
  refine wpAny_Call_method md.base md.few md.line PySem.F.plainAttrs_dict slot hty (thn (ho.run pins s σ H _ I h) fun u s1 ⟨x, H1, I1, rx, ⟨ad, es, ex, d⟩, q1⟩ => ?_)
  subst ex
  obtain rfl : u = Value.ref ad := rx
  obtain ⟨t1, t2⟩ := dic_type I1 d
  refine ⟨t1, t2, ?_⟩
  rw [md.trees]
  refine Calls.callWith_builtin rfl (Calls.evalArgs_plain (Calls.spliced_cons (thn (he.run pins s1 σ H1 _ I1 q1) fun iv s2 ⟨y, H2, I2, ry, q2⟩ =>
    Calls.spliced_cons (thn (hf.run pins s2 σ H2 _ I2 q2) fun fv s3 ⟨z, H3, I3, rz, q3⟩ => Calls.spliced_nil ?_))))
  exact q3 pins s3 σ _ I3 (.cons rfl (.cons ry (.cons rz .nil)))
/-- d.get(k, x) -/
def dgetM (mo me mf : M W) : M W := bd mo fun x => bd (fun h => lf (isD h x) h) fun _ => bd me fun y => bd mf fun z => fun h => lf ((isD h x).bind fun kvs => (tkey y).map fun k => (dLook k kvs).getD z) h
theorem em_dgetD {mo me mf : M W} (hr : Room n X.A) (ho : EM X o ρ mo) (he : EM X e ρ me) (hf : EM X f ρ mf) (md : M2 X o "get" apos e f cpos := by exact ⟨rfl, rfl, rfl, rfl⟩) : EM X (.Call (.Attribute o "get" apos) [e, f] [] cpos) ρ (dgetM mo me mf) := fun p s Q q => by
  refine sE_of (pe_dm2 PySem.F.slot_dict_get PySem.F.type_dict_get pe_s pe_s pe_s md) (ho p (sat_bind s) _ fun x h1 xv φ1 Hk1 Hr1 s1 p1 e1 hx => ?_)
  obtain ⟨kv0, hk0, s1⟩ := sat_lf (sat_bind s1)
  obtain ⟨ad0, es0, rfl, g0, _⟩ := isD_ok p1.I hx hk0
  refine ⟨⟨ad0, es0, rfl, g0⟩, he p1 (sat_bind s1) _ fun y h2 yv φ2 Hk2 Hr2 s2 p2 e2 hy => hf p2 (sat_bind s2) _ fun z h3 zv φ3 Hk3 Hr3 s3 p3 e3 hz => ?_⟩
  obtain ⟨w, hw, s4⟩ := sat_lf s3
  obtain ⟨kvs, h4, hw⟩ := bnd hw
  obtain ⟨k, h5, hw⟩ := mpd hw
  obtain ⟨ad, es, ea, g1, g2⟩ := isD_ok p3.I (hx.ex (e2.trans e3)) h4
  cases ea
  obtain ⟨bb, rfl, g3, g4⟩ := tkey_ok h5 (hy.ex e3)
  intro pins st τ us I' rv
  cases rv with
  | @cons _ u1 _ _ r1 rv =>
    cases rv with
    | @cons _ u2 _ _ r2 rv =>
      cases rv with
      | @cons _ u3 _ _ r3 rv =>
        cases rv
        have r1 : u1 = .ref ad0 := r1
        subst r1
        have r2 : u2 = .ref bb := r2
        subst r2
        obtain ⟨z1, z2, xs, ex, dd⟩ := dic_rd I' g1 (DRs.mono Fx.refl p3.I.kr g2)
        refine call_meetsIn PySem.F.slot_dict_get dd.typeIs PySem.F.entry_dict_get (PySem.F.args_dict_get_3 _ _ _) (meetsH_dict_get_default (nestedKind X.prog X.w) ad0 bb z2 u3) ⟨roomD hr, k, xs, key_is I' (Dp.mono p3.I.kr _ g3) g4, dd, ?_⟩
        have ee := e1.trans (e2.trans e3)
        cases zz : dLook k kvs with
        | none =>
          rw [zz] at hw
          rw [look_none g2 ex zz]
          exact ⟨zv, Hr3, I'.tok _, r3, by rw [← hw] at s4; exact q _ _ _ _ _ _ s4 p3 ee hz⟩
        | some w' =>
          rw [zz] at hw
          obtain ⟨pp, v', hp, rv', hvr⟩ := look_some g2 ex zz
          rw [hp]
          exact ⟨v', Hr3, I'.tok _, rv', by rw [← hw] at s4; exact q _ _ _ _ _ _ s4 p3 ee hvr⟩
def isDm (o : W) : M (Nat × List (NestedKey × W)) := fun h => match o with
  | .ref i => match h.get i with | some (.dic kvs) => .ok (i, kvs) h | _ => .bad
  | _ => .bad
theorem isDm_ok {o : W} {h : Hs} {P : Nat × List (NestedKey × W) → Hs → Prop} {E : Xc → Hs → Prop} (s : (isDm o h).sat P E) : ∃ i kvs, o = .ref i ∧ h.get i = some (.dic kvs) ∧ P (i, kvs) h := by
  cases o with
  | ref i =>
    have s : (match h.get i with | some (.dic kvs) => T.ok (i, kvs) h | _ => T.bad : T (Nat × List (NestedKey × W))).sat P E := s
    cases g : h.get i with
    | none => rw [g] at s; exact s.elim
    | some u =>
      rw [g] at s
      cases u with
      | dic ws => exact ⟨i, ws, rfl, g, s⟩
      | _ => exact s.elim
  | _ => exact s.elim
def putDm (i : Nat) (kvs : List (NestedKey × W)) : M Unit := fun h => .ok () (h.put i (.dic kvs))
theorem dicO_ok {P : Program} {wd : World} {H : Hp} {h : Heap} {a : Addr} {es : List (NestedKey × Addr × V)} {xs : List (NestedKey × Addr × Value)} (z : es.length ≤ sizeLine) (y : (a == sysModules) = false) (r : EX es xs) (d : h.DictOfH (nestedKind P wd) a xs) : ObjOk P wd H h a (DicO wd a es) := by
  obtain ⟨o, es', ep, h1, h2, h3, h4, _, h5⟩ := d
  exact ⟨⟨z, y, xs, r, o, es', ep, h1, h2, h3, h4, h5⟩, ⟨o, h1⟩, fun g1 g2 ⟨z, y, xs, r, o, es', ep, h1, h2, h3, h4, h5⟩ k => ⟨z, y, xs, r, o, es', ep, k _ h1, h2, h3, h4, h5⟩⟩
def wSet (X : Cx) : TSet := fun o i v H K => ∀ (pins : List (Addr × Obj)) (s : Shared) (σ : L2.St) (ov iv u : Value), Inv X pins σ H s → RelV o ov → RelV i iv → RelV v u → wpAny (model X.prog X.w) X.A (setItem ov iv u) (fun _ s' => ∃ H', Inv X pins σ H' s' ∧ K H') X.xe s
theorem wSet_r : PSet X (wSet X) := fun pins s σ H o i v ov iv u Q I r1 r2 r3 h => h pins s σ ov iv u I r1 r2 r3
/-- x[y] = v, x a dict or a list -/
def setD (m3 m1 m2 : M W) : M Unit := bd m3 fun v => bd m1 fun o => bd m2 fun i => fun h => match isD h o with
  | some _ => (bd (isDm o) fun p => bd (lf (gd (shortS p.2.length) (tkey i))) fun k => putDm p.1 (dPut k v p.2)) h
  | none => (bd (isL o) fun p => bd (lf ((asIW i).bind fun j => ixN p.2.length j)) fun k => putL p.1 (p.2.set k v)) h
theorem sm_putD {k : M (Res W α)} (hr0 : Room n X.A) (he : EM X e ρ m3) (ho : EM X o ρ m1) (hi : EM X ix ρ m2) (hr : SM X ρE rest ρ k g) (hp : PS X (.Assign [.Subscript o ix p1] e pos) (tAsg (sE X e) (gSub (sE X o) (sE X ix) (wSet X)))) : SM X ρE (.Assign [.Subscript o ix p1] e pos :: rest) ρ (bd (setD m3 m1 m2) fun _ => k) g := fun p s D nx r => by
  refine sSs_of (pss_cons hp pss_s) (he p.pt (sat_bind (sat_bind s)) _ fun w h1 v φ1 Hk1 Hr1 s1 p1 e1 hv => ho p1 (sat_bind s1) _ fun ow h2 ov φ2 Hk2 Hr2 s2 p2 e2 hov => hi p2 (sat_bind s2) _ fun iw h3 iv φ3 Hk3 Hr3 s3 p3 e3 hiv => ?_)
  have e123 := e1.trans (e2.trans e3)
  have hv3 := hv.ex (e2.trans e3)
  have hov := hov.ex e3
  have fin : ∀ {hs' : Hs} {H' : Hp}, Ok X.K X.w φ3 hs' _ Hk3 H' → (k hs').sat _ _ → _ := fun {hs' H'} I4 s5 => hr (p.to I4 e123 p3.R p.sub) s5 D (fun a hs' φ' Hk' Hr' σ' h q e' => nx a hs' φ' Hk' Hr' σ' h q (e123.trans e')) (fun w hs' v φ' Hk' Hr' h I e' hv => r w hs' v φ' Hk' Hr' h I (e123.trans e') hv)
  cases zd : isD h3 ow with
  | some l =>
    rw [zd] at s3
    obtain ⟨i, kvs, rfl, g1, s4⟩ := isDm_ok (sat_bind s3)
    obtain ⟨kk, hk, s5⟩ := sat_lf (sat_bind s4)
    obtain ⟨hl, hk⟩ := gd_some hk
    have hl : kvs.length < 100000 := shortS_lt hl
    obtain ⟨bb, rfl, g3, g4⟩ := tkey_ok hk hiv
    cases hov with
    | @ref _ a0 ha =>
      obtain ⟨ad, q1, q2, q3, es, q4, q5⟩ := p3.I.obj i _ g1
      rw [ha] at q1
      cases q1
      intro pins st τ vo vi vv I' r1 r2 r3
      have r1 : vo = .ref a0 := r1
      subst r1
      have r2 : vi = .ref bb := r2
      subst r2
      obtain ⟨z1, z2, xs, ex, dd⟩ := dic_rd I' (.inl q4) (DRs.mono Fx.refl p3.I.kr q5)
      have lx : xs.length = es.length := (Paired.length ex).symm
      have le := DRs.len q5
      have hlen : (ePut kk bb v es).length ≤ sizeLine := by
        have := put_len (k := kk) (b := bb) (v := v) (es := es)
        have := le_line (n := kvs.length + 1) (by omega)
        omega
      refine wpAny_setItem_heap (hsz := by rw [lx]; exact z1) (roomD hr0) (key_is I' (Dp.mono p3.I.kr _ g3) g4) dd fun h' dd' hs => ?_
      have nod : (xs.map (·.1)).Nodup := by
        obtain ⟨_, _, _, _, _, _, _, _, hn⟩ := dd
        exact hn
      rw [put_X nod] at dd'
      have hq : ∃ q, h'.get? a0 = some q := by
        obtain ⟨o', _, _, ho', _⟩ := dd'
        exact ⟨o', ho'⟩
      refine ⟨_, d_write (ob := DicO X.w a0 (ePut kk bb v es)) I' (by rw [q4]; exact True.intro) hs hq (dicO_ok hlen z2 (put_E r3 ex) dd'), ?_⟩
      exact fin (p3.I.put (o' := .dic (dPut kk w kvs)) g1 ha ⟨_, upd_same, put_D g4 g3 hv3 q5⟩) s5
  | none =>
    rw [zd] at s3
    obtain ⟨i, ws, rfl, g1, s4⟩ := isL_ok (sat_bind s3)
    obtain ⟨k', hk, s5⟩ := sat_lf (sat_bind s4)
    obtain ⟨j, hj, hk⟩ := bnd hk
    have := asIW_eq hj
    subst this
    obtain rfl := vr_int (X := X) hiv
    cases hov with
    | ref ha =>
      obtain ⟨vs, t1, t2⟩ := at_lst p3.I g1 ha
      intro pins st τ vo vi vv I' r1 r2 r3
      exact set_list pins st τ Hr3 _ _ _ vo vi vv _ I' r1 r2 r3 ⟨_, vs, j, k', rfl, rfl, t1, by rw [VRs.len t2]; exact hk, fin (p3.I.putL (vs := vs) g1 ha (t2.set k' hv3)) s5⟩
end
end Hx
noncomputable section
namespace Hx
open PySem L2 Pd Gn PySem.Spec PyProof.Rows Zq
def dnewM : M W := fun h => .ok (.ref h.nx) (h.new (.dic []))
def ddspM (mk mv : M W) : M W := bd mk fun k => bd mv fun v => bd (lf (tkey k)) fun q => rt (.dct [(q, v)])
def frzDM (w : W) : M W := fun h => match w with
  | .ref i => match h.get i with | some (.dic kvs) => .ok (.dct kvs) (h.del i) | _ => .bad
  | .dct kvs => .ok (.dct kvs) h
  | _ => .bad
def keysW : List (NestedKey × W) → List W
  | [] => []
  | (k, _) :: r => .dat k.data :: keysW r
def itW : W → Option (List W)
  | .dct kvs => some (keysW kvs)
  | w => seqW w
def sqD (m : M W) : M (List W) := bd m fun w => lf (itW w)
def insR (x : Int) : List Int → List Int
  | [] => [x]
  | y :: r => match decide (x ≤ y) with | true => y :: insR x r | false => x :: y :: r
def sortR : List Int → List Int
  | [] => []
  | x :: r => insR x (sortR r)
def intsW : List W → Option (List Int)
  | [] => some []
  | .dat (.int i) :: r => (intsW r).map fun ns => i :: ns
  | _ => none
def srtRM (m : M W) : M (List W) := bd m fun w => fun h => lf (match kindT w with | true => none | false => (itemsH h w).bind fun ws => (intsW ws).map fun ns => (sortR ns).map fun i => .dat (.int i)) h
end Hx
namespace Hx
open PySem L2 Pd Gn PySem.Spec PyProof.Rows Zq
theorem Ok.claimD {K : PySem.W.Frag} {wd : World} {φ : List Addr} {hs : Hs} {Ho Hk Hr : Hp} {d : Addr} {u : HO} (I : Ok K wd φ hs (upd Ho d u) Hk Hr) (no : Ho d = none) (u' : HO) : Ok K wd φ hs Ho (upd Hk d u') (upd Hr d u') ∧ Same Hk (upd Hk d u') := by
  have nk : Hk d = none := I.dis d u upd_same
  have e : Same Hk (upd Hk d u') := new_same nk _
  refine ⟨⟨fun b v g => ?_, fun b v g => ?_, I.len, I.low, fun i o g => ?_, I.inj, fun b v g => ?_⟩, e⟩
  · by_cases q : b = d
    · subst q
      rw [upd_same] at g ⊢
      exact g
    · rw [upd_ne q] at g ⊢
      exact I.kr _ _ g
  · rw [upd_ne (ne_of_none g no)]
    exact I.out _ _ (same_upd no b v g)
  · obtain ⟨a, q1, q2, q3, q4⟩ := I.obj i o g
    have ne : a ≠ d := fun z => by rw [z, upd_same] at q3; cases q3
    rw [upd_ne ne] at q3
    exact ⟨a, q1, by rw [upd_ne ne]; exact q2, q3, q4.mono2 Fx.refl e (by rw [upd_ne ne])⟩
  · rw [upd_ne (ne_of_none g no)]
    exact I.dis b v (same_upd no b v g)
section
variable {X : Cx} {ρE ρ : Rho} {a b o e f ix tg iter : Expr} {es : List Expr} {rest sts : List Stmt} {m m1 m2 m3 : M W} {ma : M (List W)} {p0 p1 p2 pos apos cpos kpos : Pos} {α β : Type} {g : α → Rho} {n i : Nat} {x : Str} {w : W}
theorem em_dnew : EM X (.Dict [] [] pos) ρ dnewM := fun {Wx E P hs φ Ho Hk Hr σ} p s Q q pins st I => by
  have hn := I.hok.fresh (Nat.le_refl st.heap.objs.size)
  have new : ObjOk X.prog X.w (upd Hr st.heap.objs.size (DicO X.w st.heap.objs.size [])) (st.heap.push { cls := .type "dict", data := .dict #[] }) st.heap.objs.size (DicO X.w st.heap.objs.size []) :=
    dicO_ok (xs := []) (Nat.zero_le _) (beq_eq_false_iff_ne.mpr (Ne.symm (Nat.ne_of_lt I.big))) .nil (Heap.DictOfH.new _)
  have I2 : Ok X.K X.w (φ ++ [st.heap.objs.size]) (hs.new (.dic [])) Ho Hk (upd Hr st.heap.objs.size (DicO X.w st.heap.objs.size [])) := p.I.new hn (new_same hn _) ⟨[], upd_same, .nil⟩
  have ee : Ex φ Hk (φ ++ [st.heap.objs.size]) Hk := ⟨Fx.app, Same.refl _⟩
  exact wpAny_Dict_empty ⟨.ref st.heap.objs.size, _, I.laid (a := st.heap.objs.size) (o := DicO X.w st.heap.objs.size []) (t' := st.toks) (fun _ _ q => Heap.get?_push_of_some _ q) (Nat.le_refl _) new, rfl, q (.ref hs.nx) _ _ _ _ _ s (p.go I2 ee) ee (.ref (by rw [← p.I.len]; simp))⟩
theorem sSs_lock {D : Ends} {σ : L2.St} {H : Hp} {d : Addr} {u : HO} (h : H d = some u) (mu : Mut (some u)) (q : ∀ od, sSs X sts D σ (upd H d (.frz od u))) : sSs X sts D σ H := fun pins s I => by
  obtain ⟨od, I'⟩ := I.lock h mu
  exact q od pins s I'
theorem sm_frzD {k : W → M (Res W α)} (h : ρ[n]? = some (some w)) (hE : ρE[n]? = some none) (hr : ∀ w, SM X ρE sts (ρ.set n (some w)) (k w) g) : SM X ρE sts ρ (bd (frzDM w) k) g := fun {Wx E P hs φ Ho Hk Hr σ} p s D nx r => by
  obtain ⟨v, q1, q2⟩ := p.R.at_ n w h
  have s1 := sat_bind s
  cases w with
  | ref i =>
    have s1 : (match hs.get i with | some (.dic kvs) => T.ok (.dct kvs) (hs.del i) | _ => T.bad : T W).sat _ E := s1
    cases gg : hs.get i with
    | none => rw [gg] at s1; exact s1.elim
    | some o =>
      rw [gg] at s1
      cases o with
      | dic kvs =>
        cases q2 with
        | @ref _ a0 ha =>
          obtain ⟨ad, f1, f2, f3, es, f4, f5⟩ := p.I.obj i _ gg
          rw [ha] at f1
          cases f1
          refine sSs_lock f4 True.intro fun od => ?_
          obtain ⟨e2, I2⟩ := p.I.fix1 (.frz od (DicO X.w a0 es)) gg ha
          have ee : Ex φ Hk φ _ := ⟨Fx.refl, e2⟩
          have R := (p.R.ex ee).set (n := n) (VR.dct (kvs := kvs) upd_same (DRs.mono Fx.refl e2 f5))
          rw [set_same q1] at R
          exact hr _ (p.to I2 ee R (p.sub.set hE)) s1 D (fun a hs' φ' Hk' Hr' σ' h q e' => nx a hs' φ' Hk' Hr' σ' h q (ee.trans e')) (fun w hs' v φ' Hk' Hr' h I e' hv => r w hs' v φ' Hk' Hr' h I (ee.trans e') hv)
      | _ => exact s1.elim
  | dct kvs =>
    have R := p.R.set (n := n) q2
    rw [set_same q1] at R
    exact hr _ (p.to p.I Ex.refl R (p.sub.set hE)) s1 D nx r
  | _ => exact s1.elim
theorem em_ddsp {kk : Expr} {v : Expr} (hr : Room i X.A) (ha : EM X kk ρ m1) (hb : EM X v ρ m2) : EM X (.Dict [some kk] [v] pos) ρ (ddspM m1 m2) := fun {Wx E P hs φ Ho Hk Hr σ} p s Q q pins st I => by
  have hn := I.hok.fresh (Nat.le_refl st.heap.objs.size)
  have hsys : (st.heap.objs.size == sysModules) = false := beq_eq_false_iff_ne.mpr (Ne.symm (Nat.ne_of_lt I.big))
  have new : ObjOk X.prog X.w (upd Hr st.heap.objs.size (DicO X.w st.heap.objs.size [])) (st.heap.push { cls := .type "dict", data := .dict #[] }) st.heap.objs.size (DicO X.w st.heap.objs.size []) :=
    dicO_ok (xs := []) (Nat.zero_le _) hsys .nil (Heap.DictOfH.new _)
  have I1 := I.laid (a := st.heap.objs.size) (o := DicO X.w st.heap.objs.size []) (t' := st.toks) (fun _ _ q => Heap.get?_push_of_some _ q) (Nat.le_refl _) new
  have no := far_of p.I.out hn
  have p0 := p.out (p.I.outer (u := DicO X.w st.heap.objs.size []) hn) no Ex.refl
  refine wpAny_Dict_any rfl rfl (by simp) (by show 1 ≤ 15; omega) (pairTrees_cons_walk (thn (ha p0 (sat_bind s) (fun x H1 => ∀ s1 u, Inv X pins σ H1 s1 → L2.RelV x u → wpAny (model X.prog X.w) X.A (eval v X.env) (fun vv s₂ => wpAny (model X.prog X.w) X.A (evalPairs (pairTrees [] [] X.env pos)) (fun r s₃ => wpAny (model X.prog X.w) X.A (storeAll st.heap.objs.size ((u, vv) :: r)) (fun _ s₂ => EP X pins σ Q (.ref st.heap.objs.size) s₂) X.xe s₃) X.xe s₂) X.xe s1) (fun kw h1 kv φ1 Hk1 Hr1 s1 p1 e1 hk => ?_) pins _ I1) fun u s1 ⟨x, H1, I1, rx, hq⟩ => hq s1 u I1 rx))
  intro st1 u I1 ru
  refine thn (hb p1 (sat_bind s1) (fun y H2 => ∀ s2 vv, Inv X pins σ H2 s2 → L2.RelV y vv → wpAny (model X.prog X.w) X.A (storeAll st.heap.objs.size ((u, vv) :: [])) (fun _ s₂ => EP X pins σ Q (.ref st.heap.objs.size) s₂) X.xe s2) (fun vw h2 vv φ2 Hk2 Hr2 s2 p2 e2 hv => ?_) pins _ I1) fun vv s2 ⟨y, H2, I2, ry, hq⟩ => pairTrees_nil_walk (hq s2 vv I2 ry)
  intro st2 uu I2 rv
  obtain ⟨k, hkk, s3⟩ := sat_lf (sat_bind s2)
  obtain ⟨bb, rfl, g3, g4⟩ := tkey_ok hkk (hk.ex e2)
  have ru : u = .ref bb := ru
  subst ru
  have hd := p2.I.out _ _ (upd_same (o := DicO X.w st.heap.objs.size []) (a := st.heap.objs.size))
  obtain ⟨z1, z2, xs, ex, dd⟩ := dic_rd (φ := φ2) (kvs := []) I2 (.inl hd) .nil
  cases ex
  have hkey := key_is I2 (Dp.mono p2.I.kr _ g3) g4
  refine wpAny_storeAllH (knd := nestedKind X.prog X.w) (by have := hr.un; show X.A.units + 8 < cLine; omega) _ [(k, bb, uu)] [] st2 _ ⟨rfl, rfl, hkey, True.intro⟩ dd (by show 0 + 1 ≤ sizeLine; decide) fun h' tk dd' hs' => ?_
  have exx : EX [(k, bb, vv)] [(k, bb, uu)] := .cons ⟨rfl, rfl, rv⟩ .nil
  have hq : ∃ q, h'.get? st.heap.objs.size = some q := by
    obtain ⟨o', _, _, ho', _⟩ := dd'
    exact ⟨o', ho'⟩
  have I3 := d_write (ob := DicO X.w st.heap.objs.size [(k, bb, vv)]) (t' := tk) I2 (by rw [hd]; exact True.intro) hs' hq (dicO_ok (by show 1 ≤ sizeLine; decide) hsys exx dd')
  obtain ⟨od, I4⟩ := I3.lock (d := st.heap.objs.size) (u := DicO X.w st.heap.objs.size [(k, bb, vv)]) upd_same True.intro
  rw [upd_upd] at I4
  obtain ⟨I5, e5⟩ := p2.I.claimD no (.frz od (DicO X.w st.heap.objs.size [(k, bb, vv)]))
  have ee : Ex φ2 Hk2 φ2 _ := ⟨Fx.refl, e5⟩
  have e125 := e1.trans (e2.trans ee)
  exact ⟨.ref st.heap.objs.size, _, I4, rfl, q (.dct [(k, vw)]) h2 _ φ2 _ _ s3 (p.go I5 e125) e125 (.dct upd_same (.cons g4 (Dp.mono e5 _ g3) (hv.mono Fx.refl e5) .nil))⟩
end
end Hx
noncomputable section
namespace Hx
open PySem L2 Pd Gn PySem.Spec PyProof.Rows Zq
def Itq (wd : World) (d : Addr) (o : Obj) (es : List (NestedKey × Addr × V)) : It :=
  ⟨fun i H => H d = some (.frz o (DicO wd d es)) ∧ i < es.length, fun i H x H' => H' = H ∧ ∃ k b v, es[i]? = some (k, b, v) ∧ x = .ref b, fun i H => H d = some (.frz o (DicO wd d es)) ∧ es.length ≤ i⟩
theorem frzQ {X : Cx} {pins : List (Addr × Obj)} {σ : L2.St} {H : Hp} {s : Shared} {d : Addr} {o : Obj} {es : List (NestedKey × Addr × V)} (I : Inv X pins σ H s) (h : H d = some (.frz o (DicO X.w d es))) :
    (d == sysModules) = false ∧ s.heap.get? d = some o ∧ o.ExactDict ∧ ∃ (es' : Array DictEntry) (ep : Nat), o.data = .dict es' ep ∧ es'.size = es.length ∧ ∀ (i : Nat) (k : NestedKey) (b : Addr) (v : V), es[i]? = some (k, b, v) → ∃ en : DictEntry, es'[i]? = some en ∧ en.key = .ref b := by
  obtain ⟨hd, ⟨z, y, xs, r, o', es', ep, h1, h2, h3, h4, h5⟩, _, _⟩ := I.hok d _ h
  rw [hd] at h1
  cases h1
  refine ⟨y, hd, h2, es', ep, h3, ?_, fun i k b v e => ?_⟩
  · have l1 : es'.size = xs.length := by rw [← Array.length_toList, h4, List.length_map]
    have l2 : es.length = xs.length := Paired.length r
    omega
  · obtain ⟨q, hq, e1, e2, _⟩ := paired_get r e
    have ee : es'[i]? = (xs[i]?).map (fun x => (⟨x.1.hash X.w, .ref x.2.1, x.2.2⟩ : DictEntry)) := by rw [← Array.getElem?_toList, h4, List.getElem?_map]
    rw [hq] at ee
    exact ⟨_, ee, by show Value.ref q.2.1 = .ref b; rw [← e2]⟩
theorem turn_keysQ {P : Program} {w : World} {K : PySem.W.Frag} {tg : Expr} {d : Addr} {o : Obj} {es : List (NestedKey × Addr × V)} {es0 : Array DictEntry} {ep : Nat} (it : Addr) (hod : o.data = .dict es0 ep) : Turn P w K tg (Itq w d o es) [it] it (fun i h => h.IsKeyIter it d i es.length ep) where
  mem := by simp
  obj := fun i h st b hb => by
    have e : b = it := by simpa using hb
    subst e
    obtain ⟨oi, e, c, dd⟩ := st
    exact ⟨oi, e, fun v z => by rw [dd] at z; cases z⟩
  keep := fun i h h' st k => st.at fun oi e => k it (by simp) oi e
  item := by
    intro X hP hw hK hc i pins s σ H E I hf st hg
    subst hP hw hK
    obtain ⟨hd, hi⟩ := hg
    obtain ⟨f0, f1, f2, f3, f4, f5⟩ := hf it (by simp)
    obtain ⟨hs, hgd, hx, es', ep', hdt, hsz, ent⟩ := frzQ I hd
    obtain ⟨rfl, rfl⟩ := dict_ep hod hdt
    obtain ⟨⟨k, b, v⟩, hkv⟩ : ∃ p, es[i]? = some p := ⟨es[i], List.getElem?_eq_getElem hi⟩
    obtain ⟨en, hen, hkey⟩ := ent i k b v hkv
    refine next_key_item st hgd hdt hsz hen fun h' st' sb => ?_
    have I1 : Inv X pins σ H { s with heap := h' } := I.turned (t' := s.toks) (fun b ob hb e => (sb.2 b hb).trans e) f0 f1 f3 f4 f5
    obtain ⟨oi, e, c, dd⟩ := id st'
    exact ⟨en.key, rfl, go_of (s := { s with heap := h' }) e c dd (by decide) ⟨.ref b, H, I1, hkey, ⟨rfl, k, b, v, hkv, rfl⟩, st', fun b hb => (hf b hb).1⟩⟩
  done := by
    intro X hP hw hK hc i pins s σ H E I hf st hg
    subst hP hw hK
    obtain ⟨hd, hi⟩ := hg
    obtain ⟨f0, f1, f2, f3, f4, f5⟩ := hf it (by simp)
    obtain ⟨hs, hgd, hx, es', ep', hdt, hsz, ent⟩ := frzQ I hd
    obtain ⟨rfl, rfl⟩ := dict_ep hod hdt
    exact next_key_end (I.ok.hd hc) st hgd hdt hsz hi fun h' eb => ⟨rfl, I.turned (t' := s.toks) (fun b ob hb e => eb b ob hb e) f0 f1 f3 f4 f5⟩
  self := fun A i s Q E st h => by
    refine wpAny_pyIter_slot st.typeIs F.slot_dict_keyiterator_iter (wpAny_call_entry F.slot_dict_keyiterator_iter st.typeIs F.entry_dict_keyiterator_iter ?_ (F.args_dict_keyiterator_iter_1 _))
    show wpAny _ _ (ret (.ref it)) _ _ s
    exact wpAny_pure ⟨_, rfl, "dict_keyiterator", _, st.typeIs, F.slot_dict_keyiterator_next.lookup, h⟩
theorem keys_at {K : PySem.W.Frag} {wd : World} {φ : List Addr} {H : Hp} {k : NestedKey} {b : Addr} {v : V} {w : W} : ∀ {i : Nat} {kvs : List (NestedKey × W)} {es : List (NestedKey × Addr × V)}, DRs K wd φ H kvs es → es[i]? = some (k, b, v) → (keysW kvs)[i]? = some w → w = .dat k.data ∧ Dp K H (.ref b) k.data
  | i, _, _, .nil, h, _ => by simp at h
  | 0, _, _, .cons h1 h2 h3 h4, h, g => by
    simp only [List.getElem?_cons_zero, Option.some.injEq] at h
    cases h
    simp only [keysW, List.getElem?_cons_zero, Option.some.injEq] at g
    exact ⟨g.symm, h2⟩
  | i + 1, _, _, .cons h1 h2 h3 h4, h, g => keys_at (i := i) h4 (by simpa using h) (by simpa [keysW] using g)
theorem keysW_len : ∀ {kvs : List (NestedKey × W)}, (keysW kvs).length = kvs.length
  | [] => rfl
  | (k, w) :: r => by
    show (keysW r).length + 1 = _
    rw [keysW_len]
    rfl
theorem wkm_q {K : PySem.W.Frag} {wd : World} {φ : List Addr} {Hk : Hp} {d : Addr} {o : Obj} {kvs : List (NestedKey × W)} {es : List (NestedKey × Addr × V)} (h : Hk d = some (.frz o (DicO wd d es))) (D : DRs K wd φ Hk kvs es) : WkM K wd φ (Itq wd d o es) (keysW kvs) Hk := fun i Hr e => by
  have l := DRs.len D
  rw [keysW_len]
  refine ⟨fun hi => ⟨e _ _ h, by omega⟩, fun hi => ⟨e _ _ h, by omega⟩, fun x H' hy => ?_⟩
  obtain ⟨rfl, k, b, v, he, rfl⟩ := hy
  refine ⟨Same.refl _, fun w hw => ?_⟩
  obtain ⟨rfl, hd⟩ := keys_at D he hw
  exact .dat (Dp.mono (gro_same e) _ hd)
section
variable {X : Cx} {tg iter e : Expr} {ρ : Rho} {m : M W} {p0 pos cp kp : Pos} {n1 : Nat}
def tvD (X : Cx) (te : TE) : TI := fun σ H R => te σ H fun x H1 => (∃ t a xs, x = .ref a ∧ gSq X.K t H1 a xs ∧ R (itG X.K t a) H1) ∨ ∃ d o es, x = .ref d ∧ H1 d = some (.frz o (DicO X.w d es)) ∧ R (Itq X.w d o es) H1
theorem pi_valD {te : TE} (hl : PE X iter te) : PI X tg iter (tvD X te) := by
  refine ⟨fun pins s σ H R I h => ?_⟩
  refine thn (hl.run pins s σ H _ I h) fun v s1 ⟨x, H1, I1, r1, q1⟩ => ?_
  rcases q1 with ⟨t, a, xs, e, hq, q⟩ | ⟨d, o, es, e, hd, q⟩
  · subst e
    cases r1
    cases t
    · obtain ⟨its, rv, p, hz⟩ := I1.list hq
      refine wpAny_pyIter_list p.isList ?_
      refine ⟨s1.heap.objs.size, [s1.heap.objs.size], _, _, H1, rfl, I1.kept (t' := s1.toks) fun b o e => Heap.get?_push_of_some _ e, turn_list a _, ⟨_, Heap.get?_push_size _ rfl, rfl, rfl⟩, fun b hb => ?_, q⟩
      have e : b = s1.heap.objs.size := by simpa using hb
      subst e
      exact I1.fpOk (Nat.le_refl _) (I1.hok.fresh (Nat.le_refl _))
    · obtain ⟨its, rv, p, hz⟩ := I1.tuple hq
      refine wpAny_pyIter_tuple (show s1.heap.IsTuple a its.toArray from p) ?_
      refine ⟨s1.heap.objs.size, [s1.heap.objs.size], _, _, H1, rfl, I1.kept (t' := s1.toks) fun b o e => Heap.get?_push_of_some _ e, turn_tuple a _, ⟨_, Heap.get?_push_size _ rfl, rfl, rfl⟩, fun b hb => ?_, q⟩
      have e : b = s1.heap.objs.size := by simpa using hb
      subst e
      exact I1.fpOk (Nat.le_refl _) (I1.hok.fresh (Nat.le_refl _))
  · subst e
    obtain rfl : v = Value.ref d := r1
    obtain ⟨hs, hgd, hx, es', ep, hdt, hsz, ent⟩ := frzQ I1 hd
    refine iter_keys hs hgd hx hdt (pi_one (tk := s1.toks) I1 _ (turn_keysQ _ hdt) ⟨_, Heap.get?_push_size _ rfl, rfl, ?_⟩ q)
    rw [hsz] <;> rfl
theorem im_valD (ha : EM X iter ρ m) : IM X tg iter ρ (sqD m) := fun p s R q => wI_of (pi_valD pe_s) (ha p (sat_bind s) _ fun w h1 v φ1 Hk1 Hr1 s1 p1 e1 hv => by
  obtain ⟨ws, hw, s2⟩ := sat_lf s1
  cases w with
  | dct kvs =>
    cases hw
    cases hv with
    | dct g1 g2 => exact .inr ⟨_, _, _, rfl, p1.I.kr _ _ g1, q _ _ _ _ _ _ s2 p1 e1 (wkm_q g1 g2)⟩
  | dat d =>
    obtain ⟨t, a, xs, rfl, g1, g2⟩ := hv.seq (ws := ws) hw
    exact .inl ⟨t, a, xs, rfl, same_g p1.I.kr g1, q _ _ _ _ _ _ s2 p1 e1 (wkm_g g1 g2)⟩
  | tup d =>
    obtain ⟨t, a, xs, rfl, g1, g2⟩ := hv.seq (ws := ws) hw
    exact .inl ⟨t, a, xs, rfl, same_g p1.I.kr g1, q _ _ _ _ _ _ s2 p1 e1 (wkm_g g1 g2)⟩
  | lst d =>
    obtain ⟨t, a, xs, rfl, g1, g2⟩ := hv.seq (ws := ws) hw
    exact .inl ⟨t, a, xs, rfl, same_g p1.I.kr g1, q _ _ _ _ _ _ s2 p1 e1 (wkm_g g1 g2)⟩
  | _ => cases hw)
end
theorem insR_perm {x : Int} : ∀ {l : List Int}, (insR x l).Perm (x :: l)
  | [] => .refl _
  | y :: r => by
    unfold insR
    cases q : decide (x ≤ y) with
    | true => exact (List.Perm.cons y insR_perm).trans (.swap x y r)
    | false => exact .refl _
theorem sortR_perm : ∀ {l : List Int}, (sortR l).Perm l
  | [] => .refl _
  | x :: r => insR_perm.trans (.cons x sortR_perm)
theorem insR_ord {x : Int} : ∀ {l : List Int}, l.Pairwise (· ≥ ·) → (insR x l).Pairwise (· ≥ ·)
  | [], _ => by unfold insR; exact List.pairwise_singleton _ _
  | y :: r, h => by
    obtain ⟨h1, h2⟩ := List.pairwise_cons.mp h
    unfold insR
    cases q : decide (x ≤ y) with
    | true =>
      refine List.pairwise_cons.mpr ⟨fun z hz => ?_, insR_ord h2⟩
      rcases List.mem_cons.mp (insR_perm.mem_iff.mp hz) with e | hz
      · rw [e]; exact of_decide_eq_true q
      · exact h1 z hz
    | false =>
      have q := of_decide_eq_false q
      refine List.pairwise_cons.mpr ⟨fun z hz => ?_, h⟩
      rcases List.mem_cons.mp hz with e | hz
      · rw [e]; omega
      · have := h1 z hz; omega
theorem sortR_ord : ∀ {l : List Int}, (sortR l).Pairwise (· ≥ ·)
  | [] => .nil
  | x :: r => insR_ord sortR_ord
theorem ord_uniq : ∀ {l m : List Int}, l.Perm m → l.Pairwise (· ≥ ·) → m.Pairwise (· ≥ ·) → l = m
  | [], m, h, _, _ => by rw [List.Perm.eq_nil h.symm]
  | x :: l, [], h, _, _ => by cases List.Perm.eq_nil h
  | x :: l, y :: m, h, h1, h2 => by
    obtain ⟨a1, a2⟩ := List.pairwise_cons.mp h1
    obtain ⟨b1, b2⟩ := List.pairwise_cons.mp h2
    have e : x = y := by
      rcases List.mem_cons.mp (h.mem_iff.mp (List.mem_cons_self (a := x) (l := l))) with e | hx
      · exact e
      · rcases List.mem_cons.mp (h.mem_iff.mpr (List.mem_cons_self (a := y) (l := m))) with e | hy
        · exact e.symm
        · have := b1 x hx
          have := a1 y hy
          omega
    subst e
    rw [ord_uniq (List.Perm.cons_inv h) a2 b2]
theorem intsW_eq : ∀ {ws : List W} {ns : List Int}, intsW ws = some ns → ws = ns.map fun i => .dat (.int i)
  | [], ns, h => by cases h; rfl
  | w :: r, ns, h => by
    unfold intsW at h
    split at h
    · rename_i e; cases e
    · rename_i i r' e
      cases e
      obtain ⟨l, h1, h2⟩ := mpd h
      subst h2
      rw [intsW_eq h1]
      rfl
    · cases h
theorem vrs_ints {K : PySem.W.Frag} {wd : World} {φ : List Addr} {H : Hp} : ∀ {ns : List Int} {vs : List V}, VRs K wd φ H (ns.map fun i => .dat (.int i)) vs → vs = ns.map V.int
  | [], _, .nil => rfl
  | n :: ns, _, .cons h1 h2 => by
    cases h1 with
    | dat h1 =>
      cases h1
      rw [vrs_ints h2]
      rfl
theorem vrs_of_ints {K : PySem.W.Frag} {wd : World} {φ : List Addr} {H : Hp} : ∀ {ns : List Int}, VRs K wd φ H (ns.map fun i => .dat (.int i)) (ns.map V.int)
  | [] => .nil
  | n :: ns => .cons (.dat (.int n)) vrs_of_ints
section
variable {X : Cx} {tg iter e : Expr} {ρ : Rho} {m : M W} {p0 pos cp kp : Pos} {n1 : Nat}
theorem lm_sortR (hm : X.mg "sorted" = none) (ha : EM X e ρ m) (hg : Gl X "sorted" := by rfl) (hs : starEach [e] X.env = (false, eval e X.env) :: starEach [] X.env := by rfl)
    (hp : PE X (.Call (.Name "sorted" p0) [e] [⟨some "reverse", .Constant (.bool true) n1 cp, kp⟩] pos) (tCKw (rSortedKw X.K true [.bl true]) (sA X [e]) (fun σ H Q => Q [.bl true] H))) :
    LM X (.Call (.Name "sorted" p0) [e] [⟨some "reverse", .Constant (.bool true) n1 cp, kp⟩] pos) ρ (srtRM m) := fun p s Q q => by
  refine sE_of hp (sA_of (pa_cons pe_s pa_nil hs) (ha p (sat_bind s) _ fun w h1 v φ1 Hk1 Hr1 s1 p1 e1 hv => ?_))
  obtain ⟨us, hw, s2⟩ := sat_lf s1
  cases zk : kindT w with
  | true => rw [zk] at hw; cases hw
  | false =>
    rw [zk] at hw
    obtain ⟨ws, h4, hw⟩ := bnd hw
    obtain ⟨ns, h5, hw⟩ := mpd hw
    obtain ⟨ad, vs, rfl, g1, g2⟩ := VR.kF (X := X) p1.I hv zk h4
    rw [intsW_eq h5] at g2
    have ev := vrs_ints g2
    subst ev
    refine ⟨ad, ns, rfl, rfl, g1, fun ns' p hperm hord hnone => ?_⟩
    have en : ns' = sortR ns := ord_uniq (hperm.trans sortR_perm.symm) hord sortR_ord
    subst en
    subst hw
    exact q _ _ p _ φ1 Hk1 _ s2 (p1.I.outer hnone) (far_of p1.I.out hnone) (far_of p1.I.kr hnone) e1 vrs_of_ints
end
end Hx
noncomputable section
namespace Hx
open PySem L2 Pd Gn PySem.Spec PyProof.Rows Zq
theorem sat_bd {α β : Type} {m : M α} {f : α → M β} {h : Hs} {P : β → Hs → Prop} {E : Xc → Hs → Prop} (s : (m h).sat (fun a h' => (f a h').sat P E) E) : (bd m f h).sat P E := sat_of (t := m h) s
/-- numbers below 1009, at most n of them -/
def NumOK (l : List W) (n : Nat) : Prop := l.length ≤ n ∧ ∀ w ∈ l, ∃ i : Int, w = .dat (.int i) ∧ 0 ≤ i ∧ i < 1009
theorem NumOK.ints : ∀ {l : List W} {n : Nat}, NumOK l n → ∃ ns : List Int, l = ns.map (fun i => .dat (.int i)) ∧ ns.length ≤ n ∧ ∀ x ∈ ns, 0 ≤ x ∧ x < 1009
  | [], n, _ => ⟨[], rfl, Nat.zero_le _, fun _ h => nomatch h⟩
  | w :: l, n, h => by
    obtain ⟨i, rfl, h1, h2⟩ := h.2 w List.mem_cons_self
    have hl := h.1
    rw [List.length_cons] at hl
    obtain ⟨ns, e, g1, g2⟩ := NumOK.ints (l := l) (n := n - 1) ⟨by omega, fun w hw => h.2 w (List.mem_cons_of_mem _ hw)⟩
    refine ⟨i :: ns, by rw [e]; rfl, by rw [List.length_cons]; omega, fun x hx => ?_⟩
    rcases List.mem_cons.mp hx with e | hx
    · rw [e]; exact ⟨h1, h2⟩
    · exact g2 x hx
end Hx
noncomputable section
namespace Hx
open PySem L2 Pd Gn PySem.Spec PyProof.Rows Zq
section
end
section
end
end Hx
noncomputable section
namespace Hx
open PySem L2 Pd Gn PySem.Spec PyProof.Rows Zq
section
variable {X : Cx} {pins : List (Addr × Obj)} {σ : L2.St} {H B : Hp} {s : Shared}
mutual
theorem dp_reads (I : Inv X pins σ H s) (sm : Same B H) : ∀ {d : PyData} {v : V} {u : Value}, Dp X.K B v d → L2.RelV v u → ∃ as, Reads s.heap u d as
  | .none, v, u, h, r => by
    cases h
    have r : u = .none := r
    subst r
    exact ⟨_, .none⟩
  | .bool b, v, u, h, r => by
    cases h
    have r : u = .bool b := r
    subst r
    exact ⟨_, .bool b⟩
  | .int i, v, u, h, r => by
    cases h
    obtain ⟨t, rfl⟩ := r
    exact ⟨_, .int i t⟩
  | .str x, v, u, h, r => by
    cases h
    obtain ⟨t, rfl⟩ := r
    exact ⟨_, .str x t⟩
  | .tuple ds, v, u, h, r => by
    cases h with
    | tup hs ha =>
      have r : u = .ref _ := r
      subst r
      obtain ⟨its, rv, ⟨o, ho, hc, n, hd⟩, _⟩ := I.tuple (same_t sm hs)
      obtain ⟨as, ra⟩ := dps_reads I sm ha rv
      exact ⟨as, .tuple ho hc hd (by simpa using ra)⟩
  | .list ds, v, u, h, r => by
    cases h with
    | lst hs ha =>
      have r : u = .ref _ := r
      subst r
      obtain ⟨its, rv, ⟨o, n, ho, hc, _, hd⟩, _⟩ := I.list (same_l sm hs)
      obtain ⟨as, ra⟩ := dps_reads I sm ha rv
      exact ⟨_, .list ho hc hd (by simpa using ra)⟩
  | .dict ds, v, u, h, r => by cases h
theorem dps_reads (I : Inv X pins σ H s) (sm : Same B H) : ∀ {ds : List PyData} {vs : List V} {us : List Value}, DpAll X.K B vs ds → Vals vs us → ∃ as, ReadsAll s.heap us ds as
  | [], vs, us, h, r => by
    cases h
    cases r
    exact ⟨_, .nil⟩
  | d :: ds, vs, us, h, r => by
    cases h with
    | cons h1 h2 =>
      cases r with
      | cons r1 r2 =>
        obtain ⟨as, q1⟩ := dp_reads I sm h1 r1
        obtain ⟨bs, q2⟩ := dps_reads I sm h2 r2
        exact ⟨_, .cons q1 q2⟩
end
theorem each_dps : ∀ {ds : List PyData} {vs : List V} {us : List Value}, DpAll X.K B vs ds → Vals vs us → PySem.W.EachIs (fun u d => ∃ v, L2.RelV v u ∧ Dp X.K B v d) us ds
  | [], _, _, h, r => by
    cases h
    cases r
    exact .nil
  | d :: ds, _, _, h, r => by
    cases h with
    | cons h1 h2 =>
      cases r with
      | cons r1 r2 => exact .cons ⟨_, r1, h1⟩ (each_dps h2 r2)
theorem each_reads (I : Inv X pins σ H s) (sm : Same B H) : ∀ {ds : List PyData} {us : List Value}, PySem.W.EachIs (fun u d => ∃ v, L2.RelV v u ∧ Dp X.K B v d) us ds → PySem.W.EachIs (fun u d => ∃ as, Reads s.heap u d as) us ds
  | [], _, .nil => .nil
  | _ :: _, _, .cons ⟨v, r, h⟩ t => .cons (dp_reads I sm h r) (each_reads I sm t)
theorem each_back {K : PySem.W.Frag} : ∀ {ds : List PyData} {us : List Value}, PySem.W.EachIs (fun u d => ∃ v, L2.RelV v u ∧ Dp K B v d) us ds → ∃ ys, Vals ys us ∧ DpAll K B ys ds
  | [], _, .nil => ⟨[], .nil, .nil⟩
  | _ :: _, _, .cons ⟨v, r, h⟩ t => by
    obtain ⟨ys, q1, q2⟩ := each_back t
    exact ⟨v :: ys, .cons r q1, .cons h q2⟩
end
/-- sorted(xs), xs data -/
def rSortedD (K : PySem.W.Frag) : List V → Hp → VK → Prop := fun vs H Q => ∃ (a : Addr) (xs : List V) (ds : List PyData) (B : Hp), vs = [V.ref a] ∧ SqL K H a xs ∧ Same B H ∧ DpAll K B xs ds ∧ PySem.W.AllAlike ds ∧ PySem.W.Sortable ds ∧ (∀ d ∈ ds, d.depth ≤ 32) ∧
  ∀ (ys : List V) (p : Addr), DpAll K B ys (ds.mergeSort (PySem.W.dataLe false id)) → H p = none → Q (.ref p) (upd H p (.lst ys))
theorem cr_sortedD {X : Cx} (hu : X.A.units + 100 < cLine) : CallR X (.builtin "sorted") (rSortedD X.K) := by
  intro pins s σ H vs us Q I r h
  obtain ⟨a, xs, ds, B, rfl, hs, sm, hd, hal, hso, hdp, q⟩ := h
  obtain rfl := Vals.ref1 r
  obtain ⟨its, rv, hl, hz⟩ := I.list hs
  have e1 := each_dps (X := X) hd rv
  have e2 := each_reads I sm e1
  have hlen : ds.length = xs.length := by rw [DpAll.len hd]
  refine PySem.W.sorted_data (enc := id) hl.isList e1 e2 (by simpa using hal) (by simpa using hso) (by rw [hlen]; exact hz) (fun d hd' => ?_) fun out ol oe => ?_
  · have := hdp d hd'
    show X.A.units + 2 + d.depth < cLine
    omega
  · obtain ⟨ys, k1, k2⟩ := each_back oe
    obtain ⟨ep, he'⟩ := PyProof.Rows.sortedAll_at s.heap its out.toArray
    have hyl : ys.length ≤ sizeLine := by rw [k1.length, ol, hlen]; exact hz
    exact ⟨.ref _, upd H (s.heap.objs.size + 1) (.lst ys), I.laid (t' := s.toks) (fun _ _ => PyProof.Rows.sortedAll_old) (Nat.le_succ _) ⟨hyl, out, ep, k1, he'⟩, rfl, q ys _ k2 (I.hok.fresh (Nat.le_succ _))⟩
end Hx
noncomputable section
namespace Hx
open PySem L2 Pd Gn PySem.Spec PyProof.Rows Zq
/-- at most one item -/
def rSorted1 (K : PySem.W.Frag) : List V → Hp → VK → Prop := fun vs H Q => ∃ (a : Addr) (xs : List V), vs = [V.ref a] ∧ SqL K H a xs ∧ xs.length ≤ 1 ∧ ∀ p : Addr, H p = none → Q (.ref p) (upd H p (.lst xs))
theorem cr_sorted1 {X : Cx} : CallR X (.builtin "sorted") (rSorted1 X.K) := by
  intro pins s σ H vs us Q I r h
  obtain ⟨a, xs, rfl, hs, h1, q⟩ := h
  obtain rfl := Vals.ref1 r
  obtain ⟨its, rv, hl, hz⟩ := I.list hs
  have hle : its.length ≤ 1 := by rw [← rv.length]; exact h1
  refine SrtO.sorted_ord swo_none hl.isList (by rw [← rv.length]; exact hz) (fun h2 => absurd h2 (by omega)) fun out _ hb => ?_
  have hp : out.Perm its := hb.perm
  have e : out = its := by
    match its, hle, hp with
    | [], _, hp => exact hp.eq_nil
    | [x], _, hp => exact List.perm_singleton.mp hp
    | _ :: _ :: _, hle, _ => simp only [List.length_cons] at hle; omega
  subst e
  obtain ⟨ep, he'⟩ := PyProof.Rows.sortedAll_at s.heap out out.toArray
  exact ⟨.ref _, upd H (s.heap.objs.size + 1) (.lst xs), I.laid (t' := s.toks) (fun _ _ => PyProof.Rows.sortedAll_old) (Nat.le_succ _) ⟨hz, out, ep, rv, he'⟩, rfl, q _ (I.hok.fresh (Nat.le_succ _))⟩
abbrev dLt (a b : PyData) : Bool := PySem.W.dataLt a b
theorem dLt_trans {a b c : PyData} (h : dLt a b = true) (g : dLt b c = true) : dLt a c = true := PyProof.Rows.lex_trans _ _ _ h g
theorem dLt_irr {a : PyData} : dLt a a = false := PyProof.Rows.lex_irrefl _
theorem dLt_asymm {a b : PyData} (h : dLt a b = true) : dLt b a = false := by
  cases q : dLt b a with
  | false => rfl
  | true =>
    have := dLt_trans h q
    rw [dLt_irr] at this
    cases this
theorem le_trans' (a b c : PyData) (h : PySem.W.dataLe false id a b = true) (g : PySem.W.dataLe false id b c = true) : PySem.W.dataLe false id a c = true := by
  have h : (!dLt b a) = true := h
  have g : (!dLt c b) = true := g
  show (!dLt c a) = true
  cases q : dLt c a with
  | false => rfl
  | true =>
    rcases PyProof.Rows.lex_negTrans _ (PySem.W.keyToks b) _ q with z | z
    · have z : dLt c b = true := z
      rw [z] at g
      cases g
    · have z : dLt b a = true := z
      rw [z] at h
      cases h
theorem le_total' (a b : PyData) : (PySem.W.dataLe false id a b || PySem.W.dataLe false id b a) = true := by
  show ((!dLt b a) || (!dLt a b)) = true
  cases q : dLt b a with
  | false => rfl
  | true =>
    rw [dLt_asymm q]
    rfl
def insD (x : PyData) : List PyData → List PyData
  | [] => [x]
  | y :: r => match dLt y x with | true => y :: insD x r | false => x :: y :: r
def srtD : List PyData → List PyData
  | [] => []
  | x :: r => insD x (srtD r)
def ascD : List PyData → Bool
  | [] => true
  | x :: r => match r with | [] => true | y :: _ => match dLt x y with | true => ascD r | false => false
theorem insD_perm {x : PyData} : ∀ {l : List PyData}, (insD x l).Perm (x :: l)
  | [] => .refl _
  | y :: r => by
    unfold insD
    cases q : dLt y x with
    | true => exact (List.Perm.cons y insD_perm).trans (.swap x y r)
    | false => exact .refl _
theorem srtD_perm : ∀ {l : List PyData}, (srtD l).Perm l
  | [] => .refl _
  | x :: r => insD_perm.trans (.cons x srtD_perm)
theorem ascD_pw : ∀ {l : List PyData}, ascD l = true → l.Pairwise (fun a b => dLt a b = true)
  | [], _ => .nil
  | [x], _ => List.pairwise_singleton _ _
  | x :: y :: r, h => by
    unfold ascD at h
    cases q : dLt x y with
    | false => simp only [q] at h; cases h
    | true =>
      simp only [q] at h
      have ih := ascD_pw (l := y :: r) h
      refine List.pairwise_cons.mpr ⟨fun z hz => ?_, ih⟩
      rcases List.mem_cons.mp hz with e | hz
      · rw [e]; exact q
      · exact dLt_trans q ((List.pairwise_cons.mp ih).1 z hz)
theorem ms_uniq : ∀ {l m : List PyData}, m.Perm l → l.Pairwise (fun a b => dLt a b = true) → m.Pairwise (fun a b => PySem.W.dataLe false id a b = true) → m = l
  | [], m, h, _, _ => h.eq_nil
  | x :: l, [], h, _, _ => by cases h.symm.eq_nil
  | x :: l, y :: m, h, h1, h2 => by
    obtain ⟨a1, a2⟩ := List.pairwise_cons.mp h1
    obtain ⟨b1, b2⟩ := List.pairwise_cons.mp h2
    have e : y = x := by
      rcases List.mem_cons.mp (h.mem_iff.mp (List.mem_cons_self (a := y) (l := m))) with e | hy
      · exact e
      · have lt := a1 y hy
        rcases List.mem_cons.mp (h.mem_iff.mpr (List.mem_cons_self (a := x) (l := l))) with e | hx
        · exact e.symm
        · have : (!dLt x y) = true := b1 x hx
          rw [lt] at this
          cases this
    subst e
    rw [ms_uniq (List.Perm.cons_inv h) a2 b2]
theorem ms_eq {ds : List PyData} (h : ascD (srtD ds) = true) : ds.mergeSort (PySem.W.dataLe false id) = srtD ds :=
  ms_uniq ((List.mergeSort_perm _ _).trans srtD_perm.symm) (ascD_pw h) (List.pairwise_mergeSort le_trans' le_total' ds)
def tupNE : PyData → Bool
  | .tuple (_ :: _) => true
  | _ => false
def okSort (ds : List PyData) : Bool := ascD (srtD ds) && (ds.all (fun a => ds.all fun b => PySem.W.alike a b) && (ds.all tupNE && ds.all fun d => Nat.ble d.depth 32))
def srtDM (m : M W) : M (List W) := bd m fun w => fun h => lf (match kindT w with
  | true => none
  | false => (itemsH h w).bind fun ws => match Nat.ble ws.length 1 with
    | true => some ws
    | false => (datsOf ws).bind fun ds => gd (okSort ds) (some ((srtD ds).map .dat))) h
theorem lm_sortD {X : Cx} {ρ : Rho} {e : Expr} {m : M W} {p0 pos : Pos} {k : Nat} (hr : Room k X.A) (hm : X.mg "sorted" = none) (ha : EM X e ρ m) (hg : Gl X "sorted" := by rfl) (he : starEach [e] X.env = (false, eval e X.env) :: starEach [] X.env := by rfl) (hpl : (backTo pos (starEach ([] : List Expr) X.env)).any (·.1) = false := by rfl) :
    LM X (.Call (.Name "sorted" p0) [e] [] pos) ρ (srtDM m) := fun p s Q q => by
  refine sE_of (pe_callB (id := "sorted") wCall_r hg hm (by decide +kernel) (pa_cons pe_s pa_nil he) (by decide) (by decide) he hpl) (ha p (sat_bind s) _ fun w h1 v φ1 Hk1 Hr1 s1 p1 e1 hv => ?_)
  obtain ⟨us, hw, s2⟩ := sat_lf s1
  cases zk : kindT w with
  | true => rw [zk] at hw; cases hw
  | false =>
    rw [zk] at hw
    obtain ⟨ws, h4, hw⟩ := bnd hw
    obtain ⟨ad, vs, rfl, g1, g2⟩ := VR.kF (X := X) p1.I hv zk h4
    cases zl : Nat.ble ws.length 1 with
    | true =>
      rw [zl] at hw
      cases hw
      exact wCall_of cr_sorted1 ⟨ad, vs, rfl, g1, by rw [VRs.len g2]; exact Nat.le_of_ble_eq_true zl, fun p hnone => q _ _ p _ φ1 Hk1 _ s2 (p1.I.outer hnone) (far_of p1.I.out hnone) (far_of p1.I.kr hnone) e1 g2⟩
    | false =>
      rw [zl] at hw
      obtain ⟨ds, h5, hw⟩ := bnd hw
      obtain ⟨g, hw⟩ := gd_some hw
      cases hw
      unfold okSort at g
      rw [Bool.and_eq_true, Bool.and_eq_true, Bool.and_eq_true] at g
      obtain ⟨k1, k2, k3, k4⟩ := g
      have eds := datsOf_eq h5
      subst eds
      refine wCall_of (cr_sortedD (by have := hr.un; omega)) ⟨ad, vs, ds, Hk1, rfl, g1, p1.I.kr, VRs.dats g2, fun d hd d' hd' => List.all_eq_true.mp (List.all_eq_true.mp k2 d hd) d' hd', .inl fun d hd => ?_, fun d hd => Nat.le_of_ble_eq_true (List.all_eq_true.mp k4 d hd), fun ys p hy hnone => ?_⟩
      · have := List.all_eq_true.mp k3 d hd
        unfold tupNE at this
        split at this
        · exact ⟨_, _, rfl⟩
        · cases this
      · rw [ms_eq k1] at hy
        exact q _ _ p _ φ1 Hk1 _ s2 (p1.I.outer hnone) (far_of p1.I.out hnone) (far_of p1.I.kr hnone) e1 (VRs.of_dats hy)
end Hx
noncomputable section
namespace Hx
open PySem L2 Pd Gn PySem.Spec PyProof.Rows Zq
theorem VRs.rev {K : PySem.W.Frag} {wd : World} {φ : List Addr} {H : Hp} : ∀ {ws : List W} {vs : List V}, VRs K wd φ H ws vs → VRs K wd φ H ws.reverse vs.reverse
  | _, _, .nil => .nil
  | _, _, .cons h1 h2 => by
    rw [List.reverse_cons, List.reverse_cons]
    exact (VRs.rev h2).app (.cons h1 .nil)
section
variable {X : Cx} {ρE ρ : Rho} {a b o e f : Expr} {m m1 m2 : M W} {p1 p2 p3 pos apos cpos : Pos} {n k : Nat}
/-- xs[::-1], xs a list -/
def revM (m : M W) : M (List W) := bd m fun w => fun h => lf (match kindT w with | true => none | false => (itemsH h w).map List.reverse) h
theorem lm_rev (ha : EM X e ρ m) : LM X (.Subscript e (.Slice none none (some (.UnaryOp .USub (.Constant (.int 1) k p1) p2)) p3) pos) ρ (revM m) := fun p s Q q => by
  refine sE_of (pe_revL pe_s) (ha p (sat_bind s) _ fun w h1 v φ1 Hk1 Hr1 s1 p1' e1 hv => ?_)
  obtain ⟨us, hw, s2⟩ := sat_lf s1
  cases zk : kindT w with
  | true => rw [zk] at hw; cases hw
  | false =>
    rw [zk] at hw
    obtain ⟨ws, h4, hw⟩ := mpd hw
    subst hw
    obtain ⟨ad, vs, rfl, g1, g2⟩ := VR.kF (X := X) p1'.I hv zk h4
    exact ⟨ad, vs, rfl, g1, fun pp hnone => q _ _ pp _ φ1 Hk1 _ s2 (p1'.I.outer hnone) (far_of p1'.I.out hnone) (far_of p1'.I.kr hnone) e1 g2.rev⟩
end
end Hx
noncomputable section
namespace Hx
open PySem L2 Pd Gn PySem.Spec PyProof.Rows Zq
section
variable {X : Cx} {ρE ρ : Rho} {a b o e f : Expr} {sts : List Stmt} {m m1 m2 : M W} {p1 p2 p3 pos apos cpos : Pos} {n k : Nat} {α : Type} {g : α → Rho} {w : W}
def setdM (mo me mf : M W) : M W := bd mo fun x => bd (fun h => lf (isD h x) h) fun _ => bd me fun y => bd mf fun z => bd (isDm x) fun p => bd (lf (tkey y)) fun k => match dLook k p.2 with
  | some w => rt w
  | none => bd (lf (gd (shortS p.2.length) (some ()))) fun _ => bd (putDm p.1 (dPut k z p.2)) fun _ => rt z
theorem em_setd {mo me mf : M W} (hr : Room n X.A) (ho : EM X o ρ mo) (he : EM X e ρ me) (hf : EM X f ρ mf) (md : M2 X o "setdefault" apos e f cpos := by exact ⟨rfl, rfl, rfl, rfl⟩) : EM X (.Call (.Attribute o "setdefault" apos) [e, f] [] cpos) ρ (setdM mo me mf) := fun p s Q q => by
  refine sE_of (pe_dm2 PySem.F.slot_dict_setdefault PySem.F.type_dict_setdefault pe_s pe_s pe_s md) (ho p (sat_bind s) _ fun x h1 xv φ1 Hk1 Hr1 s1 p1 e1 hx => ?_)
  obtain ⟨kv0, hk0, s1⟩ := sat_lf (sat_bind s1)
  obtain ⟨ad0, es0, rfl, g0, _⟩ := isD_ok p1.I hx hk0
  refine ⟨⟨ad0, es0, rfl, g0⟩, he p1 (sat_bind s1) _ fun y h2 yv φ2 Hk2 Hr2 s2 p2 e2 hy => hf p2 (sat_bind s2) _ fun z h3 zv φ3 Hk3 Hr3 s3 p3 e3 hz => ?_⟩
  obtain ⟨i, kvs, rfl, gi, s4⟩ := isDm_ok (sat_bind s3)
  obtain ⟨k, h5, s5⟩ := sat_lf (sat_bind s4)
  obtain ⟨bb, rfl, g3, g4⟩ := tkey_ok h5 (hy.ex e3)
  have hx3 := hx.ex (e2.trans e3)
  have ee := e1.trans (e2.trans e3)
  cases hx3 with
  | ref ha =>
    obtain ⟨ad, q1, q2, q3, es, q4, q5⟩ := p3.I.obj i _ gi
    rw [ha] at q1
    cases q1
    intro pins st τ us I' rv
    cases rv with
    | @cons _ u1 _ _ r1 rv =>
      cases rv with
      | @cons _ u2 _ _ r2 rv =>
        cases rv with
        | @cons _ u3 _ _ r3 rv =>
          cases rv
          have r1 : u1 = .ref ad0 := r1
          subst r1
          have r2 : u2 = .ref bb := r2
          subst r2
          obtain ⟨z1, z2, xs, ex, dd⟩ := dic_rd I' (.inl q4) (DRs.mono Fx.refl p3.I.kr q5)
          have lx : xs.length = es.length := (Paired.length ex).symm
          have le := DRs.len q5
          have nod : (xs.map (·.1)).Nodup := by
            obtain ⟨_, _, _, _, _, _, _, _, hn⟩ := dd
            exact hn
          refine call_setdefault_heap (hsz := by rw [lx]; exact z1) (roomD hr) (key_is I' (Dp.mono p3.I.kr _ g3) g4) z2 dd (fun pp hp => ?_) (fun hnone h' dd' hs => ?_)
          · cases zz : dLook k kvs with
            | none => rw [look_none q5 ex zz] at hp; cases hp
            | some w' =>
              simp only [zz] at s5
              obtain ⟨pp', v', hp', rv', hvr⟩ := look_some q5 ex zz
              rw [hp] at hp'
              cases hp'
              exact ⟨v', Hr3, I'.tok _, rv', q _ _ _ _ _ _ s5 p3 ee hvr⟩
          · cases zz : dLook k kvs with
            | some w' =>
              obtain ⟨pp', v', hp', _, _⟩ := look_some q5 ex zz
              rw [hnone] at hp'
              cases hp'
            | none =>
              simp only [zz] at s5
              obtain ⟨_, hl, s6⟩ := sat_lf (sat_bind s5)
              have hl : kvs.length < 100000 := shortS_lt (gd_some hl).1
              have hlen : (ePut k bb zv es).length ≤ sizeLine := by
                have := put_len (k := k) (b := bb) (v := zv) (es := es)
                have := le_line (n := kvs.length + 1) (by omega)
                omega
              rw [put_X nod] at dd'
              have hq : ∃ q, h'.get? ad0 = some q := by
                obtain ⟨o', _, _, ho', _⟩ := dd'
                exact ⟨o', ho'⟩
              have J := p3.I.put (o' := .dic (dPut k z kvs)) (u := DicO X.w ad0 (ePut k bb zv es)) gi ha ⟨_, upd_same, put_D g4 g3 hz q5⟩
              exact ⟨zv, _, d_write (ob := DicO X.w ad0 (ePut k bb zv es)) I' (by rw [q4]; exact True.intro) hs hq (dicO_ok hlen z2 (put_E r3 ex) dd'), r3, q _ _ _ _ _ _ s6 (p3.go J Ex.refl) ee hz⟩
def frzEs : List (NestedKey × W) → M (List (NestedKey × W))
  | [] => rt []
  | (k, w) :: r => bd (frzM w) fun w' => bd (frzEs r) fun r' => rt ((k, w') :: r')
theorem frzEs_ok {K : PySem.W.Frag} {wd : World} {φ : List Addr} {Ho Hr : Hp} {E : Xc → Hs → Prop} : ∀ {kvs : List (NestedKey × W)} {es : List (NestedKey × Addr × V)} {hs : Hs} {Hk : Hp} {P : List (NestedKey × W) → Hs → Prop}, Ok K wd φ hs Ho Hk Hr → DRs K wd φ Hk kvs es → (frzEs kvs hs).sat P E →
    ∃ kvs' hs' Hk', Ok K wd φ hs' Ho Hk' Hr ∧ Same Hk Hk' ∧ DRs K wd φ Hk' kvs' es ∧ P kvs' hs'
  | [], _, hs, Hk, P, I, .nil, s => ⟨[], hs, Hk, I, Same.refl _, .nil, s⟩
  | (k, w) :: r, _, hs, Hk, P, I, .cons h1 h2 h3 h4, s => by
    obtain ⟨w', hs1, Hk1, I1, e1, v1, s1⟩ := frz_ok I h3 (sat_bind s)
    obtain ⟨r', hs2, Hk2, I2, e2, d2, s2⟩ := frzEs_ok I1 (h4.mono Fx.refl e1) (sat_bind s1)
    exact ⟨_, hs2, Hk2, I2, e1.trans e2, .cons h1 (Dp.mono (e1.trans e2) _ h2) (v1.mono Fx.refl e2) d2, s2⟩
def frzDDM (w : W) : M W := fun h => match w with
  | .ref i => match h.get i with
    | some (.dic kvs) => T.bind (frzEs kvs h) fun kvs' h' => match h'.get i with | some _ => .ok (.dct kvs') (h'.del i) | none => .bad
    | _ => .bad
  | .dct kvs => .ok (.dct kvs) h
  | _ => .bad
theorem sm_frzDD {k : W → M (Res W α)} (h : ρ[n]? = some (some w)) (hE : ρE[n]? = some none) (hr : ∀ w, SM X ρE sts (ρ.set n (some w)) (k w) g) : SM X ρE sts ρ (bd (frzDDM w) k) g := fun {Wx E P hs φ Ho Hk Hr σ} p s D nx r => by
  obtain ⟨v, q1, q2⟩ := p.R.at_ n w h
  have s1 := sat_bind s
  cases w with
  | ref i =>
    have s1 : (match hs.get i with | some (.dic kvs) => T.bind (frzEs kvs hs) (fun kvs' h' => match h'.get i with | some _ => T.ok (W.dct kvs') (h'.del i) | none => T.bad) | _ => T.bad : T W).sat _ E := s1
    cases gg : hs.get i with
    | none => rw [gg] at s1; exact s1.elim
    | some o =>
      rw [gg] at s1
      cases o with
      | dic kvs =>
        cases q2 with
        | @ref _ a0 ha =>
          obtain ⟨ad, f1, f2, f3, es, f4, f5⟩ := p.I.obj i _ gg
          rw [ha] at f1
          cases f1
          obtain ⟨kvs', hs1, Hk1, I1, e1, d1, s2⟩ := frzEs_ok p.I f5 (sat_bind s1)
          cases g2 : hs1.get i with
          | none => rw [g2] at s2; exact s2.elim
          | some o2 =>
            rw [g2] at s2
            refine sSs_lock f4 True.intro fun od => ?_
            obtain ⟨e2, I2⟩ := I1.fix1 (.frz od (DicO X.w a0 es)) g2 ha
            have ee : Ex φ Hk φ _ := ⟨Fx.refl, e1.trans e2⟩
            have R := (p.R.ex ee).set (n := n) (VR.dct (kvs := kvs') upd_same (DRs.mono Fx.refl e2 d1))
            rw [set_same q1] at R
            exact hr _ (p.to I2 ee R (p.sub.set hE)) s2 D (fun a hs' φ' Hk' Hr' σ' h q e' => nx a hs' φ' Hk' Hr' σ' h q (ee.trans e')) (fun w hs' v φ' Hk' Hr' h I e' hv => r w hs' v φ' Hk' Hr' h I (ee.trans e') hv)
      | _ => exact s1.elim
  | dct kvs =>
    have R := p.R.set (n := n) q2
    rw [set_same q1] at R
    exact hr _ (p.to p.I Ex.refl R (p.sub.set hE)) s1 D nx r
  | _ => exact s1.elim
end
end Hx
noncomputable section
namespace Hx
open PySem L2 Pd Gn PySem.Spec PyProof.Rows Zq
def listDM (m : M W) : M (List W) := bd m fun w => fun h => lf ((isD h w).map keysW) h
end Hx
noncomputable section
namespace Hx
open PySem L2 Pd Gn PySem.Spec PyProof.Rows Zq
section
variable {K : PySem.W.Frag} {wd : World} {φ φ' : List Addr} {hs hs' : Hs} {Ho Hk Hk' Hr H2 : Hp}
/-- all that stands is known -/
theorem Ok.all (H : Hp) : Ok K wd [] ⟨0, []⟩ (fun _ => none) H H := ⟨Same.refl _, fun _ _ z => (nomatch z), rfl, fun i o z => (nomatch z), fun i o z => (nomatch z), fun i j a z => absurd rfl z, fun _ _ z => (nomatch z)⟩
end
section
end
def scals : List W → Bool
  | [] => true
  | w :: r => match scal w with | true => scals r | false => false
theorem VRs.scal {K : PySem.W.Frag} {wd : World} {φ φ' : List Addr} {H H' : Hp} : ∀ {ws : List W} {vs : List V}, scals ws = true → VRs K wd φ H ws vs → VRs K wd φ' H' ws vs
  | [], _, _, .nil => .nil
  | w :: r, _, s, .cons h1 h2 => by
    unfold scals at s
    cases z : Hx.scal w with
    | false => rw [z] at s; cases s
    | true =>
      rw [z] at s
      exact .cons (VR.scal z h1) (VRs.scal s h2)
end Hx
noncomputable section
namespace Hx
open PySem L2 Pd Gn PySem.Spec PyProof.Rows Zq
end Hx
namespace Hx
open PySem L2 Pd Gn PySem.Spec PyProof.Rows Zq
theorem drs_keys {K : PySem.W.Frag} {wd : World} {φ : List Addr} {H : Hp} : ∀ {kvs : List (NestedKey × W)} {es : List (NestedKey × Addr × V)}, DRs K wd φ H kvs es → VRs K wd φ H (keysW kvs) (es.map fun e => V.ref e.2.1)
  | _, _, .nil => .nil
  | _, _, .cons h1 h2 h3 h4 => .cons (.dat h2) (drs_keys h4)
def rListQ (X : Cx) : List V → Hp → VK → Prop := fun xs H Q => ∃ p es, xs = [.ref p] ∧ Rd H p (DicO X.w p es) ∧ ∀ q, H q = none → Q (.ref q) (upd H q (.lst (es.map fun e => V.ref e.2.1)))
theorem call_list_q {X : Cx} (hc : X.calm = true) : CallR X (.type "list") (rListQ X) := by
  intro pins s σ H xs us Q I r h
  obtain ⟨p, es, e, hk, q⟩ := h
  subst e
  obtain rfl := Vals.ref1 r
  obtain ⟨⟨z, y, xs, r2, o, es', ep, h1, h2, h3, h4, h5⟩, _, _⟩ := (show ObjOk X.prog X.w H s.heap p (DicO X.w p es) from hk.ok I.hok)
  have l1 : es'.size = xs.length := by rw [← Array.length_toList, h4, List.length_map]
  have l2 : es.length = xs.length := Paired.length r2
  refine PySem.W.kdl_call (kdl_raw y h2 h3) (I.ok.hd hc) h1 (by omega) fun h' tk acc' c' hkeep hS hacc => ?_
  refine ⟨.ref s.heap.objs.size, upd H s.heap.objs.size (.lst (es.map fun e => V.ref e.2.1)), I.laid hkeep (Nat.le_refl _) (show ObjOk X.prog X.w _ _ _ (.lst (es.map fun e => V.ref e.2.1)) from ⟨?_, acc'.toList, c', ?_, ?_⟩), rfl, q _ (I.hok.fresh (Nat.le_refl _))⟩
  · rw [List.length_map]; omega
  · have el : acc'.toList.length = acc'.size := by simp
    refine vals_of_at (by rw [List.length_map, el, hacc.1]; omega) fun j x w k1 k2 => ?_
    obtain ⟨en, he, hw⟩ := hacc.2 j w (by rw [← Array.getElem?_toList]; exact k2)
    rw [List.getElem?_map] at k1
    cases ze : es[j]? with
    | none => rw [ze] at k1; cases k1
    | some e3 =>
      rw [ze] at k1
      cases k1
      obtain ⟨qq, hq, e1, e2, _⟩ := paired_get r2 ze
      have ee : es'[j]? = (xs[j]?).map (fun x => (⟨x.1.hash X.w, .ref x.2.1, x.2.2⟩ : DictEntry)) := by rw [← Array.getElem?_toList, h4, List.getElem?_map]
      rw [hq] at ee
      rw [ee] at he
      cases he
      subst hw
      show Value.ref qq.2.1 = Value.ref e3.2.1
      rw [← e2]
  · rw [Array.toArray_toList]; exact hS
theorem lm_listD {X : Cx} {ρ : Rho} {e : Expr} {m : M W} {p0 pos : Pos} (hc : X.calm = true) (hm : X.mg "list" = none) (ha : EM X e ρ m) (hg : Gl X "list" := by rfl) (he : starEach [e] X.env = [(false, eval e X.env)] := by rfl) (hpl : (backTo pos (starEach ([] : List Expr) X.env)).any (·.1) = false := by rfl) : LM X (.Call (.Name "list" p0) [e] [] pos) ρ (listDM m) := fun p s Q q => by
  refine sE_of (pe_callTy (call_list_q hc) hg hm (by decide +kernel) pa_s (by decide) (by decide) he hpl) (am_one ha he p (sat_bind s) _ fun w h1 v φ1 Hk1 Hr1 s1 p1 e1 hv => ?_)
  obtain ⟨us, hw, s2⟩ := sat_lf s1
  obtain ⟨kvs, hk, hw⟩ := mpd hw
  subst hw
  obtain ⟨ad, es, rfl, g1, g2⟩ := isD_ok p1.I hv hk
  exact ⟨ad, es, rfl, g1, fun l hl => q _ _ l _ φ1 Hk1 _ s2 (p1.I.outer hl) (far_of p1.I.out hl) (far_of p1.I.kr hl) e1 (drs_keys g2)⟩
end Hx
noncomputable section
namespace Hx
open PySem L2 Pd Gn PySem.Spec PyProof.Rows Zq
end Hx
noncomputable section
namespace Hx
open PySem L2 Pd Gn PySem.Spec PyProof.Rows Zq
section
variable {K : PySem.W.Frag} {wd : World} {φ : List Addr} {H : Hp} {k : Int} {w : W} {v : V}
theorem KRs.len : ∀ {kvs : List (Int × W)} {es : List (Key × V)}, KRs K wd φ H kvs es → es.length = kvs.length
  | _, _, .nil => rfl
  | _, _, .cons _ h => by rw [List.length_cons, List.length_cons, KRs.len h]
end
section
end
end Hx
noncomputable section
namespace Hx
open PySem L2 Pd Gn PySem.Spec PyProof.Rows Zq HT
section
end
section
end
end Hx
noncomputable section
namespace Hx
open PySem L2 Pd Gn PySem.Spec PyProof.Rows Zq
theorem VRs.erase {K : PySem.W.Frag} {wd : World} {φ : List Addr} {H : Hp} : ∀ {ws : List W} {vs : List V} {k : Nat}, VRs K wd φ H ws vs → VRs K wd φ H (ws.eraseIdx k) (vs.eraseIdx k)
  | _, _, _, .nil => .nil
  | _, _, 0, .cons _ h => h
  | _, _, k + 1, .cons h1 h => .cons h1 (VRs.erase h)
def popI (m1 m2 : M W) : M W := bd m1 fun o => bd (isL o) fun _ => bd m2 fun w => bd (lf (asIW w)) fun i => bd (isL o) fun p => bd (lf (match decide (0 ≤ i) with | true => gd (shortS p.2.length) (p.2[i.toNat]?) | false => none)) fun y => bd (putL p.1 (p.2.eraseIdx i.toNat)) fun _ => rt y
theorem em_popI {X : Cx} {ρ : Rho} {o e : Expr} {m1 m2 : M W} {p1 cpos : Pos} (ho : EM X o ρ m1) (he : EM X e ρ m2) (hp : PE X (.Call (.Attribute o "pop" p1) [e] [] cpos) (tBM X.K "list" rPopAt (sE X o) (tCons (sE X e) tNil))) : EM X (.Call (.Attribute o "pop" p1) [e] [] cpos) ρ (popI m1 m2) := fun p s Q q => by
  refine sE_of hp (ho p (sat_bind s) _ fun ow h1 ov φ1 Hk1 Hr1 s1 p1 e1 hov => ?_)
  obtain ⟨i, ws, rfl, g1, s2⟩ := isL_ok (sat_bind s1)
  cases hov with
  | ref ha =>
    obtain ⟨vs, t1, t2⟩ := at_lst p1.I g1 ha
    refine ⟨.inl ⟨rfl, _, .inl (.inl t1)⟩, he p1 (sat_bind s2) _ fun w h2 v φ2 Hk2 Hr2 s3 p2 e2 hv => ?_⟩
    obtain ⟨j, hj, s4⟩ := sat_lf (sat_bind s3)
    obtain ⟨i', ws', e0, g2, s5⟩ := isL_ok (sat_bind s4)
    cases e0
    have := asIW_eq hj
    subst this
    obtain rfl := vr_int (X := X) hv
    obtain ⟨y, hy, s6⟩ := sat_lf (sat_bind s5)
    have ha2 := e2.f _ _ ha
    obtain ⟨vs2, t3, t4⟩ := at_lst p2.I g2 ha2
    cases z : decide (0 ≤ j) with
    | false => rw [z] at hy; cases hy
    | true =>
      rw [z] at hy
      obtain ⟨hs, hy⟩ := gd_some hy
      have h0 := of_decide_eq_true z
      have hl := shortS_lt hs
      obtain ⟨yv, hyv, ry⟩ := t4.get hy
      have lp : j.toNat < vs2.length := (List.getElem?_eq_some_iff.mp hyv).1
      have le := VRs.len t4
      have hl : ws'.length < 100000 := hl
      refine ⟨_, vs2, j, j.toNat, yv, rfl, rfl, t3, by omega, by omega, seqIndex_of h0 (by omega), hyv, ?_⟩
      have I3 := p2.I.putL (vs := vs2) g2 ha2 (t4.erase (k := j.toNat))
      exact q _ _ _ _ _ _ s6 (p2.go I3 Ex.refl) (e1.trans e2) ry
end Hx
noncomputable section
namespace Hx
open PySem L2 Pd Gn PySem.Spec PyProof.Rows Zq
section
end
end Hx
namespace L2
open PySem PySem.Spec PyProof.Rows
section
end
end L2
noncomputable section
namespace Hx
open PySem L2 Pd Gn PySem.Spec PyProof.Rows Zq
section
end
end Hx
noncomputable section
namespace Hx
open PySem L2 Pd Gn PySem.Spec PyProof.Rows Zq
section
end
section
end
end Hx
noncomputable section
namespace Hx
open PySem L2 Pd Gn PySem.Spec PyProof.Rows Zq
section
end
end Hx
set_option pp.maxSteps 200
noncomputable section
namespace Hx
open PySem L2 Pd Gn PySem.Spec PyProof.Rows Zq
section
end
end Hx
noncomputable section
namespace Hx
open PySem L2 Pd Gn PySem.Spec PyProof.Rows Zq
def dcM {β : Type} (u : W → Option β) (mt : β → M Bool) (mk mv : β → M W) : List W → List (NestedKey × W) → M (List (NestedKey × W))
  | [], acc => rt acc
  | w :: ws, acc => bd (lf (u w)) fun b => bd (mt b) fun k => match k with
    | true => bd (mk b) fun y => bd (mv b) fun z => bd (lf (gd (shortS acc.length) (tkey y))) fun q => dcM u mt mk mv ws (dPut q z acc)
    | false => dcM u mt mk mv ws acc
def dc1 {β : Type} (u : W → Option β) (mt : β → M Bool) (mk mv : β → M W) (mi : M (List W)) : M (List (NestedKey × W)) := bd mi fun ws => bd (lf (gd (short ws.length) (some ()))) fun _ => nox (dcM u mt mk mv ws [])
section
end
section
end
end Hx
namespace L2
open PySem PySem.Spec PyProof.Rows
section
end
end L2
noncomputable section
namespace Hx
open PySem L2 Pd Gn PySem.Spec PyProof.Rows Zq
section
end
end Hx
noncomputable section
namespace Hx
open PySem L2 Pd Gn PySem.Spec PyProof.Rows Zq
section
end
end Hx
noncomputable section
namespace Hx
open PySem L2 Pd Gn PySem.Spec PyProof.Rows Zq
section
end
section
end
end Hx
noncomputable section
namespace Hx
open PySem L2 Pd Gn PySem.Spec PyProof.Rows Zq
section
end
section
end
section
end
end Hx
noncomputable section
namespace Hx
open PySem L2 Pd Gn PySem.Spec PyProof.Rows Zq
section
end
section
end
end Hx
noncomputable section
namespace Hx
open PySem L2 Pd Gn PySem.Spec PyProof.Rows Zq
section
end
end Hx
noncomputable section
namespace Hx
open PySem L2 Pd Gn PySem.Spec PyProof.Rows Zq
def ZR (h : Heap) (z TI TO : Addr) (a b : Value) : Prop := h.get? z = some { cls := .type "zip", data := .fields #[a, b, .bool false, .ref TI, .ref TO] }
abbrev Row := Addr × Addr × Array Value
def tupO (vs : List Value) : Obj := { cls := .type "tuple", data := .seq vs.toArray }
def Rows (h : Heap) (rows : List Row) (i : Nat) : Prop := ∀ r ∈ rows, h.IsTupleIter r.1 r.2.1 i ∧ h.IsTuple r.2.1 r.2.2
theorem tup_ne {h : Heap} {it t u : Addr} {i : Nat} {xs : Array Value} (a : h.IsTupleIter it u i) (b : h.IsTuple t xs) : t ≠ it := by
  rintro rfl
  obtain ⟨o, ho, hc, _⟩ := a
  obtain ⟨o2, ho2, hc2, _⟩ := b
  rw [ho] at ho2
  cases ho2
  rw [hc] at hc2
  exact absurd hc2 (by decide +kernel)
section
end
end Hx
noncomputable section
namespace Hx
open PySem L2 Pd Gn PySem.Spec PyProof.Rows Zq
section
end
end Hx
noncomputable section
namespace Hx
open PySem L2 Pd Gn PySem.Spec PyProof.Rows Zq
def ZSt (h : Heap) (z TI TO : Addr) (rows : List Row) (j : Nat) : Prop :=
  ((j = 0 ∧ ZR h z TI TO .none (.bool false) ∧ h.get? TO = some (tupO (List.replicate rows.length Value.none))) ∨ (0 < j ∧ ∃ T fl col, ZR h z TI TO (rawInt (T : Nat)) (.bool fl) ∧ h.get? T = some (tupO col))) ∧
  h.get? TI = some (tupO (rows.map fun r => .ref r.1)) ∧ Rows h rows j
section
variable {prog : Program} {w : World} {A : Around} {E : Value → Shared → Prop} {s : Shared} {z TI TO S : Addr} {rows : List Row} {m : Nat}
variable {R : Result → Shared → Prop}
theorem ZSt.type {h : Heap} {z TI TO : Addr} {rows : List Row} {j : Nat} (Z : ZSt h z TI TO rows j) : ∃ a b, ZR h z TI TO a b := by
  obtain ⟨a, _, _⟩ := Z
  rcases a with ⟨_, hz, _⟩ | ⟨_, T, fl, col, hz, _⟩
  · exact ⟨_, _, hz⟩
  · exact ⟨_, _, hz⟩
end
end Hx
noncomputable section
namespace Hx
open PySem L2 Pd Gn PySem.Spec PyProof.Rows Zq
abbrev Tx := Addr × Array Value
section
end
end Hx
noncomputable section
namespace Hx
open PySem L2 Pd Gn PySem.Spec PyProof.Rows Zq
inductive ZK (K : PySem.W.Frag) (H : Hp) (m : Nat) : List V → List (List V) → Prop
  | nil : ZK K H m [] []
  | cons {a : Addr} {xs : List V} {vs : List V} {xss : List (List V)} : SqT K H a xs → xs.length = m → ZK K H m vs xss → ZK K H m (.ref a :: vs) (xs :: xss)
inductive TR (h : Heap) (m : Nat) : List Tx → List (List V) → Prop
  | nil : TR h m [] []
  | cons {p : Tx} {xs : List V} {ps : List Tx} {xss : List (List V)} : h.IsTuple p.1 p.2 → Vals xs p.2.toList → p.2.size = m → TR h m ps xss → TR h m (p :: ps) (xs :: xss)
theorem TR.tup {h : Heap} {m : Nat} : ∀ {tx : List Tx} {xss : List (List V)}, TR h m tx xss → ∀ p ∈ tx, h.IsTuple p.1 p.2 ∧ p.2.size = m
  | _, _, .nil, p, hp => by cases hp
  | _, _, .cons a b c d, p, hp => by
    rcases List.mem_cons.mp hp with rfl | hp
    · exact ⟨a, c⟩
    · exact d.tup p hp
end Hx
noncomputable section
namespace Hx
open PySem L2 Pd Gn PySem.Spec PyProof.Rows Zq
section
variable {K : PySem.W.Frag} {wd : World} {φ : List Addr} {H : Hp}
theorem ZK.mono {H' : Hp} {m : Nat} (e : Same H H') : ∀ {vs : List V} {xss : List (List V)}, ZK K H m vs xss → ZK K H' m vs xss
  | _, _, .nil => .nil
  | _, _, .cons a b c => .cons (same_t e a) b (c.mono e)
end
section
end
end Hx
noncomputable section
namespace Hx
open PySem L2 Pd Gn PySem.Spec PyProof.Rows Zq
section
end
section
end
end Hx
set_option pp.maxSteps 200
noncomputable section
namespace Hx
open PySem L2 Pd Gn PySem.Spec PyProof.Rows Zq
section
end
section
end
section
end
end Hx
set_option pp.maxSteps 200
noncomputable section
namespace Hx
open PySem L2 Pd Gn PySem.Spec PyProof.Rows Zq
section
end
section
end
section
end
end Hx
set_option pp.maxSteps 200
noncomputable section
namespace Hx
open PySem L2 Pd Gn PySem.Spec PyProof.Rows Zq
section
end
section
end
section
end
end Hx
set_option pp.maxSteps 200
noncomputable section
namespace Hx
open PySem L2 Pd Gn PySem.Spec PyProof.Rows Zq
section
end
section
end
section
end
end Hx
set_option pp.maxSteps 200
noncomputable section
namespace Hx
open PySem L2 Pd Gn PySem.Spec PyProof.Rows Zq
section
end
section
end
end Hx
set_option pp.maxSteps 200
noncomputable section
namespace Hx
open PySem L2 Pd Gn PySem.Spec PyProof.Rows Zq
section
end
end Hx
set_option pp.maxSteps 200
noncomputable section
namespace Hx
open PySem L2 Pd Gn PySem.Spec PyProof.Rows Zq
section
end
end Hx
set_option pp.maxSteps 200
noncomputable section
namespace Hx
open PySem L2 Pd Gn PySem.Spec PyProof.Rows Zq PySem.W PySem.Calls
section
end
end Hx
set_option pp.maxSteps 300
noncomputable section
namespace Hx
open PySem L2 Pd Gn PySem.Spec PyProof.Rows Zq
section
end
section
end
end Hx
set_option pp.maxSteps 300
noncomputable section
namespace Hx
open PySem L2 Pd Gn PySem.Spec PyProof.Rows Zq
section
end
section
end
section
end
end Hx
set_option pp.maxSteps 300
noncomputable section
namespace Hx
open PySem L2 Pd Gn PySem.Spec PyProof.Rows Zq
section
end
section
end
section
end
end Hx
set_option pp.maxSteps 300
noncomputable section
namespace Hx
open PySem L2 Pd Gn PySem.Spec PyProof.Rows Zq
/-- a scalar and its value -/
def ScR (d : PyData) (v : V) : Prop := ∀ (K : PySem.W.Frag) (wd : World) (φ : List Addr) (H : Hp), VR K wd φ H (.dat d) v
theorem ScR.str (z : Str) : ScR (.str z) (.str z) := fun _ _ _ _ => .dat (.str _)
theorem ScR.bl (z : Bool) : ScR (.bool z) (.bl z) := fun _ _ _ _ => .dat (.bl _)
section
end
end Hx
set_option pp.maxSteps 300
noncomputable section
namespace Hx
open PySem L2 Pd Gn PySem.Spec PyProof.Rows Zq
section
end
section
end
end Hx
set_option pp.maxSteps 300
noncomputable section
namespace Sy
open PySem L2 Pd Gn PySem.Spec PyProof.Rows Zq Hx
theorem tb {α β : Type} (x : α) (h : Hs) (f : α → Hs → T β) : T.bind (.ok x h) f = f x h := rfl
theorem gdt {α : Type} (o : Option α) : gd true o = o := rfl
theorem isoT_ok {h h' : Hs} {w : W} (e : noref w = true) : isoT h (.ok w h') = .ok w h := by
  show (match noref w with | true => T.ok w h | false => T.bad : T W) = _
  rw [e]
theorem callI_eq {n : Nat} {ma : M (List W)} {mm : List W → M W} {h h' : Hs} {ws : List W} {w : W} (h1 : ma h = .ok ws h) (h2 : (Nat.beq ws.length n && norefs ws) = true) (h3 : mm ws ⟨0, []⟩ = .ok w h') (h4 : noref w = true) : callI n ma mm h = .ok w h := by
  simp only [callI, bd, h1, tb, h2, gdt, lf, normWs_eq, h3, isoT_ok h4]
theorem inR_of {lo hi i : Int} (h1 : lo ≤ i) (h2 : i ≤ hi) : Gn.inR lo hi i = true := by
  unfold Gn.inR
  rw [decide_eq_true h1, decide_eq_true h2]
  rfl
theorem bd_ok {α β : Type} {m : M α} {f : α → M β} {h h' : Hs} {a : α} (e : m h = .ok a h') : bd m f h = f a h' := by
  show (m h).bind f = _
  rw [e]
  rfl
theorem bin_eq {F : PyData → PyData → Option PyData} {m1 m2 : M W} {h : Hs} {x y z : PyData} (h1 : m1 h = .ok (.dat x) h) (h2 : m2 h = .ok (.dat y) h) (e : F x y = some z) : binM (l2 F) m1 m2 h = .ok (.dat z) h := by
  unfold binM
  rw [bd_ok h1, bd_ok h2]
  show lf ((F x y).map W.dat) h = _
  rw [e]
  rfl
theorem cmp_eq {F : W → W → Option Bool} {m1 m2 : M W} {h : Hs} {x y : W} {k : Bool} (h1 : m1 h = .ok x h) (h2 : m2 h = .ok y h) (e : F (view h x) (view h y) = some k) : cmpM F m1 m2 h = .ok k h := by
  unfold cmpM
  rw [bd_ok h1, bd_ok h2]
  show lf (F (view h x) (view h y)) h = _
  rw [e]
  rfl
theorem if_t {α : Type} {c : M Bool} {m1 m2 : M α} {h h' : Hs} (e : c h = .ok true h') : ifM c m1 m2 h = m1 h' := by
  unfold ifM
  rw [bd_ok e]
theorem if_f {α : Type} {c : M Bool} {m1 m2 : M α} {h h' : Hs} (e : c h = .ok false h') : ifM c m1 m2 h = m2 h' := by
  unfold ifM
  rw [bd_ok e]
theorem ret_ok {α : Type} {m : M (Res W Empty)} {h h' : Hs} {w : W} (e : m h = .ok (.ret w) h') : (retE m : M (Res W α)) h = .ok (.ret w) h' := by
  unfold retE
  rw [bd_ok e]
  rfl
theorem seq_nx {α β : Type} {m : M (Res W α)} {f : α → M (Res W β)} {h h' : Hs} {a : α} (e : m h = .ok (.nxt a) h') : seqM m f h = f a h' := by
  unfold seqM
  rw [bd_ok e]
abbrev iW (i : Int) : W := .dat (.int i)
theorem ap2 {m1 m2 : M W} {h : Hs} {x y : W} (h1 : m1 h = .ok x h) (h2 : m2 h = .ok y h) : apM m1 (apM m2 (rt [])) h = .ok [x, y] h := by
  unfold apM
  rw [bd_ok h1, bd_ok (a := [y]) (h' := h)]
  · rfl
  · rw [bd_ok h2]
    rfl
theorem ap1 {m1 : M W} {h : Hs} {x : W} (h1 : m1 h = .ok x h) : apM m1 (rt []) h = .ok [x] h := by
  unfold apM
  rw [bd_ok h1]
  rfl
theorem tv_ok {m : M W} {h : Hs} {b : Bool} (e : m h = .ok (.dat (.bool b)) h) : tvM m h = .ok b h := by
  unfold tvM
  rw [bd_ok e]
  rfl
theorem bv_ok {m : M W} {h : Hs} {b : Bool} (e : m h = .ok (.dat (.bool b)) h) : bvM m h = .ok b h := by
  unfold bvM
  rw [bd_ok e]
  rfl
theorem not_ok {m : M Bool} {h : Hs} {b : Bool} (e : m h = .ok b h) : Hx.notM m h = .ok (!b) h := by
  unfold Hx.notM
  rw [bd_ok e]
  rfl
theorem or_f {m1 m2 : M Bool} {h : Hs} {b : Bool} (e : m1 h = .ok false h) (e2 : m2 h = .ok b h) : Hx.orM m1 m2 h = .ok b h := by
  unfold Hx.orM
  rw [bd_ok e]
  exact e2
theorem and_t {m1 m2 : M Bool} {h : Hs} {b : Bool} (e : m1 h = .ok true h) (e2 : m2 h = .ok b h) : Hx.andM m1 m2 h = .ok b h := by
  unfold Hx.andM
  rw [bd_ok e]
  exact e2
theorem and_f {m1 m2 : M Bool} {h : Hs} (e : m1 h = .ok false h) : Hx.andM m1 m2 h = .ok false h := by
  unfold Hx.andM
  rw [bd_ok e]
  rfl
theorem bW_ok {m : M Bool} {h : Hs} {b : Bool} (e : m h = .ok b h) : bW m h = .ok (.dat (.bool b)) h := by
  unfold bW
  rw [bd_ok e]
  rfl
section
variable {α β : Type} {m m1 m2 : M W} {ma : M (List W)} {mm : List W → M W} {x y z : PyData} {i j p q p' q' a b : Int} {w : W} {ws : List W} {h' : Hs} {n : Nat}
def Ev {α : Type} (m : M α) (x : α) : Prop := ∀ h : Hs, m h = .ok x h
theorem ev_rt (x : α) : Ev (rt x) x := fun _ => rfl
theorem ev_bin {F : PyData → PyData → Option PyData} (h1 : Ev m1 (.dat x)) (h2 : Ev m2 (.dat y)) (e : F x y = some z) : Ev (binM (Hx.l2 F) m1 m2) (.dat z) := fun h => bin_eq (h1 h) (h2 h) e
theorem ev_cmp {F : W → W → Option Bool} {k : Bool} (h1 : Ev m1 (.dat x)) (h2 : Ev m2 (.dat y)) (e : F (.dat x) (.dat y) = some k) : Ev (cmpM F m1 m2) k := fun h => cmp_eq (h1 h) (h2 h) e
theorem ev_ap2 {x y : W} (h1 : Ev m1 x) (h2 : Ev m2 y) : Ev (apM m1 (apM m2 (rt []))) [x, y] := fun h => ap2 (h1 h) (h2 h)
theorem ev_call (h1 : Ev ma ws) (h2 : (Nat.beq ws.length n && norefs ws) = true) (h3 : mm ws ⟨0, []⟩ = .ok w h') (h4 : noref w = true) : Ev (callI n ma mm) w := fun h => callI_eq (h1 h) h2 h3 h4
theorem ev_add (h1 : Ev m1 (iW i)) (h2 : Ev m2 (iW j)) : Ev (binM (Hx.l2 pAddX) m1 m2) (iW (i + j)) := ev_bin h1 h2 rfl
theorem ev_sub (h1 : Ev m1 (iW i)) (h2 : Ev m2 (iW j)) : Ev (binM (Hx.l2 pSub) m1 m2) (iW (i - j)) := ev_bin h1 h2 rfl
theorem ev_eqI (h1 : Ev m1 (iW i)) (h2 : Ev m2 (iW j)) : Ev (cmpM (c2 cEq) m1 m2) (decide (i = j)) := ev_cmp h1 h2 rfl
theorem ev_gtI (h1 : Ev m1 (iW i)) (h2 : Ev m2 (iW j)) : Ev (cmpM (c2 cGt) m1 m2) (decide (i > j)) := ev_cmp h1 h2 rfl
theorem ev_bW {m : M Bool} {b : Bool} (e : Ev m b) : Ev (bW m) (.dat (.bool b)) := fun h => bW_ok (e h)
theorem ev_tv {b : Bool} (e : Ev m (.dat (.bool b))) : Ev (tvM m) b := fun h => tv_ok (e h)
theorem ev_not {m : M Bool} {b : Bool} (e : Ev m b) : Ev (Hx.notM m) (!b) := fun h => not_ok (e h)
theorem ev_bd {m : M α} {f : α → M β} {x : α} {y : β} (e : Ev m x) (e2 : Ev (f x) y) : Ev (bd m f) y := fun h => by
  rw [bd_ok (e h)]
  exact e2 h
theorem ev_fin {mb : M (Res W Unit)} (e : Ev mb (.ret w)) : Ev (finM mb) w := ev_bd e (ev_rt w)
theorem ev_ret (e : Ev m w) : Ev (bd m fun w => rt (.ret w) : M (Res W α)) (.ret w) := ev_bd e (ev_rt _)
theorem ev_ift {c : M Bool} {m1 m2 : M α} {x : α} (e : Ev c true) (e2 : Ev m1 x) : Ev (ifM c m1 m2) x := fun h => by rw [if_t (e h)]; exact e2 h
theorem ev_retE {m : M (Res W Empty)} (e : Ev m (.ret w)) : Ev (retE m : M (Res W α)) (.ret w) := fun h => ret_ok (e h)
theorem of_ev {m : M W} (e : Ev m w) : m ⟨0, []⟩ = .ok w ⟨0, []⟩ := e _
end
section
end
theorem datsOf_map : ∀ ds : List PyData, datsOf (ds.map .dat) = some ds
  | [] => rfl
  | d :: r => by
    show (match datsOf (r.map W.dat) with | some ds => some (d :: ds) | none => none) = _
    rw [datsOf_map r]
theorem mkL_dat (ds : List PyData) : mkL (ds.map .dat) = .dat (.list ds) := by
  unfold mkL
  rw [datsOf_map]
theorem mkT_dat (ds : List PyData) : mkT (ds.map .dat) = .dat (.tuple ds) := by
  unfold mkT
  rw [datsOf_map]
section
variable {β : Type} {u : W → Option β} {me : β → M W} {mi : M (List W)}
theorem ev_frz {ma : M (List W)} {ds : List PyData} (e : Ev ma (ds.map .dat)) : Ev (frzW ma) (.dat (.list ds)) := fun h => by
  unfold frzW
  rw [bd_ok (e h), mkL_dat]
  rfl
end
end Sy
set_option pp.maxSteps 300
noncomputable section
namespace Hx
open PySem L2 Pd Gn PySem.Spec PyProof.Rows Zq
section
end
end Hx
set_option pp.maxSteps 300
noncomputable section
namespace Sy
open PySem L2 TL Pd Gn PySem.Spec PyProof.Rows Zq Hx PySem.NumText
section
variable {m m1 m2 : M W} {a b : Str} {d : PyData} {i : Int}
theorem ev_u1 {F : PyData → Option PyData} {x : PyData} (e : Ev m (.dat x)) (h : F x = some d) : Ev (biM (u1 F) (apM m (rt []))) (.dat d) := fun hp => by
  unfold biM
  rw [bd_ok (ap1 (e hp))]
  show lf ((F x).map W.dat) hp = _
  rw [h]
  rfl
theorem ev_apc {ma : M (List W)} {w : W} {ws : List W} (e : Ev m w) (e2 : Ev ma ws) : Ev (apM m ma) (w :: ws) := ev_bd e (ev_bd e2 (ev_rt _))
end
def mk (l : List Nat) : Str := ⟨l.toArray⟩
def allT {α : Type} (p : α → Hs → Bool) : T α → Bool
  | .ok a h => p a h
  | .draw n k => allB n fun v => allT p (k v)
  | .exc _ _ => false
  | .bad => false
theorem sat_all {α : Type} {p : α → Hs → Bool} : ∀ {t : T α}, allT p t = true → t.sat (fun a h => p a h = true) FF
  | .ok a h, e => e
  | .draw n k, e => fun v hv => sat_all (t := k v) (allB_ok e v hv)
  | .exc _ _, e => by cases e
  | .bad, e => by cases e
end Sy
set_option pp.maxSteps 300
noncomputable section
namespace Hx
open PySem L2 Pd Gn PySem.Spec PyProof.Rows Zq
section
end
section
end
section
end
section
end
end Hx
noncomputable section
namespace K14
open PySem L2 Pd Gn PySem.Spec PyProof.Rows
def top (i : Nat) : Stmt := PySem.Challenge.pw_fivebases_k14_counts_of_fillings.main.body.getD i (.Pass ⟨0, 0, 0, 0⟩)
abbrev sState : Stmt := top 11
abbrev sTake : Stmt := top 12
theorem scState : FnScope ["script", "seed", "total", "cell"] ["script"] (defScope sState) := ⟨rfl, rfl, rfl, by decide +kernel, rfl, by decide +kernel, by decide +kernel⟩
theorem scTake : FnScope ["state", "m", "value"] ["state", "m"] (defScope sTake) := ⟨rfl, rfl, rfl, by decide +kernel, rfl, by decide +kernel, by decide +kernel⟩
/-- the built-in names that the top leaves as they are -/
structure Mg (mg : Str → Option Value) : Prop where
  len : mg "len" = none
  int : mg "int" = none
  abs : mg "abs" = none
  min : mg "min" = none
  range : mg "range" = none
def stepS (p : Int × Int) (x : Int) : Int × Int := (p.1 * 1000003 + (if x < 0 then -x else x), (p.2 * 48271 + x) % 2147483647)
def stateOf (ns : List Int) : Int × Int := (ns.take 63).foldl stepS (0, 1)
def phState : List PyData → List Int → Prop := fun ds ms => ∃ ns : List Int, ds = [.list (ns.map .int)] ∧ ms = [(stateOf ns).1, (stateOf ns).2]
theorem cut63 (ns : List Int) : Pd.cutD (ns.map PyData.int) none (some 63) = (ns.take 63).map PyData.int := by
  unfold Pd.cutD
  have e : HT.sIx (ns.map PyData.int).length (ns.map PyData.int).length (some 63) = min 63 (ns.map PyData.int).length := HT.sIx_nat _ _ 63
  rw [e]
  show ((ns.map PyData.int).drop 0).take (min 63 (ns.map PyData.int).length - 0) = _
  rw [List.drop_zero, Nat.sub_zero, ← List.map_take]
  congr 1
  rw [List.length_map, List.take_eq_take_iff]
  omega
theorem int_at {ns : List Int} {i : Nat} {d : PyData} (h : (ns.map PyData.int)[i]? = some d) : ∃ x, ns[i]? = some x ∧ d = .int x := by
  rw [List.getElem?_map] at h
  cases q : ns[i]? with
  | none => rw [q] at h; cases h
  | some x => rw [q] at h; exact ⟨x, rfl, (Option.some.inj h).symm⟩
theorem take_succ_at {α : Type} {ns : List α} {i : Nat} {x : α} (h : ns[i]? = some x) : ns.take (i + 1) = ns.take i ++ [x] := by
  rw [List.take_add_one, h]
  rfl
section
variable {P : Program} {w : World} {K : PySem.W.Frag} {mg : Str → Option Value} {base : Heap} {f : Addr} {fd : FuncData}
theorem ok_state (F : Fun K "_law_state" "_law_state" sState f fd) (T : Mg mg) : FnOk P w K mg base CX0 1 f fd ["script"] (spN K 1 phState) := by
  refine fdN_of F scState (by decide) (fun cdv A outer s H E hr ds ms h hl => ?_)
  obtain ⟨ns, rfl, rfl⟩ := h
  refine ss_set (n := 1) scState.nd rfl (by decide) ee_int ?_
  refine ss_set (n := 2) scState.nd rfl (by decide) ee_int ?_
  refine ss_for (fun i ρ => ∃ c, ρ = [.val (.list (ns.map .int)), .val (.int (((ns.take 63).take i).foldl stepS (0, 1)).1), .val (.int (((ns.take 63).take i).foldl stepS (0, 1)).2), c])
    (ei_list (ee_sliceL (ee_var (n := 0) rfl rfl) eo_none (eo_some ee_int))) (pg_name (i := 3) scState.nd rfl (.inl rfl)) ⟨_, rfl⟩ (fun i d ρi hd h => ?_) (fun ρ' h => ?_)
  · obtain ⟨c, rfl⟩ := h
    rw [cut63] at hd
    obtain ⟨x, hx, rfl⟩ := int_at hd
    refine ⟨_, eg_name (by decide), ?_⟩
    refine ss_set (n := 1) scState.nd rfl (by decide) (ee_op op_add (ee_op op_mul (ee_var (n := 1) rfl rfl) ee_int (rd_int (C := CMul) (.inr (by decide)))) (ee_abs T.abs (ee_var (n := 3) rfl rfl)) rd_int0) ?_
    refine ss_set (n := 2) scState.nd rfl (by decide) (ee_op op_mod (ee_toInt T.int (ee_op op_add (ee_op op_mul (ee_var (n := 2) rfl rfl) ee_int (rd_int (C := CMul) (.inr (by decide)))) (ee_var (n := 3) rfl rfl) rd_int0)) ee_int (rd_int (by decide))) ?_
    refine ss_nil ⟨.val (.int x), ?_⟩
    rw [take_succ_at hx, List.foldl_append]
    rfl
  · obtain ⟨c, rfl⟩ := h
    rw [cut63, List.length_map, List.take_length]
    exact ss_retNew (ns := [(stateOf ns).1, (stateOf ns).2]) (ea_cons (ee_var (n := 1) rfl rfl) (ea_cons (ee_var (n := 2) rfl rfl) ea_nil)) rfl
end
def take (s t m : Int) : Int × Int × Int := if 0 < s then (s % m, s / m, t) else ((((t * 48271 + 11) % 2147483647) / 7) % m, s, (t * 48271 + 11) % 2147483647)
theorem take_lt (s t m : Int) (h : 0 < m) : 0 ≤ (take s t m).1 ∧ (take s t m).1 < m := by
  unfold take
  split
  · exact ⟨Int.emod_nonneg _ (by omega), Int.emod_lt_of_pos _ h⟩
  · exact ⟨Int.emod_nonneg _ (by omega), Int.emod_lt_of_pos _ h⟩
def phTake : List PyData → List PyData → PyData → List PyData → Prop := fun cs ds d cs' => ∃ s t m : Int, cs = [.int s, .int t] ∧ ds = [.int m] ∧ 0 < m ∧ m < 1000000 ∧ d = .int (take s t m).1 ∧ cs' = [.int (take s t m).2.1, .int (take s t m).2.2]
section
variable {P : Program} {w : World} {K : PySem.W.Frag} {mg : Str → Option Value} {base : Heap} {f g : Addr} {fd gd : FuncData}
theorem ok_take (F : Fun K "_law_take" "_law_take" sTake f fd) (T : Mg mg) : FnOk P w K mg base CX0 1 f fd ["state", "m"] (spB K 1 phTake) := by
  refine fdB_of F scTake rfl (by decide) (fun cdv A outer s H E hr cs ds d cs' h hl => ?_)
  obtain ⟨s, t, m, rfl, rfl, h0, h1, rfl, rfl⟩ := h
  refine ss_ifR (et_cmp op_gt (own_ix (n := 0) rfl rfl ee_int rfl) ee_int rd_cmp) (fun hs => ?_) (fun hs => ?_)
  · have hs : 0 < s := of_decide_eq_true hs
    have e : take s t m = (s % m, s / m, t) := if_pos hs
    rw [e]
    refine ss_set (n := 2) scTake.nd rfl (by decide) (ee_op op_mod (ee_toInt T.int (own_ix (n := 0) rfl rfl ee_int rfl)) (ee_var (n := 1) rfl rfl) (rd_int h0)) ?_
    refine ss_put (n := 0) rfl rfl (ee_op op_fdiv (own_ix (n := 0) rfl rfl ee_int rfl) (ee_var (n := 1) rfl rfl) (rd_int (C := CDiv) ?_)) ee_int rfl ?_ (ps_asg pe_s (pg_sub (pv 0) pe_s set_list))
    · exact ⟨h0, by omega⟩
    · exact ss_ret (ee_var (n := 2) rfl rfl) ⟨rfl, rfl⟩
  · have hs : ¬ 0 < s := of_decide_eq_false hs
    have e : take s t m = ((((t * 48271 + 11) % 2147483647) / 7) % m, s, (t * 48271 + 11) % 2147483647) := if_neg hs
    rw [e]
    refine ss_put (n := 0) rfl rfl (ee_op op_mod (ee_toInt T.int (ee_op op_add (ee_op op_mul (own_ix (n := 0) rfl rfl ee_int rfl) ee_int (rd_int (C := CMul) (.inr (by decide)))) ee_int rd_int0)) ee_int (rd_int (by decide))) ee_int rfl ?_ (ps_asg pe_s (pg_sub (pv 0) pe_s set_list))
    exact ss_ret (ee_op op_mod (ee_toInt T.int (ee_op op_fdiv (own_ix (n := 0) rfl rfl ee_int rfl) ee_int (rd_int (C := CDiv) ⟨by decide, by decide⟩))) (ee_var (n := 1) rfl rfl) (rd_int h0)) ⟨rfl, rfl⟩
end
def m__law_state : List Hx.W → Hx.M Hx.W := Hx.mState
def m__law_take : List Hx.W → Hx.M Hx.W := Hx.mTake
section
variable {P : Program} {w : World} {K : PySem.W.Frag} {mg : Str → Option Value} {base : Heap} {f : Addr} {fd : FuncData}
theorem fnState (F : Fun K "_law_state" "_law_state" sState f fd) (T : Mg mg) : FnOk P w K mg base (L2.CX P w) 1 f fd ["script"] (Hx.spM K w mg 1 m__law_state) := Hx.fn_state (φ := phState) (fun ns => ⟨_, _, ns, rfl, rfl⟩) (ok_state F T)
theorem fnTake (F : Fun K "_law_take" "_law_take" sTake f fd) (T : Mg mg) : FnOk P w K mg base (L2.CX P w) 1 f fd ["state", "m"] (Hx.spM K w mg 2 m__law_take) := Hx.fn_take (φ := phTake) (fun s t m h0 h1 => by
  have h := take_lt s t m h0
  refine ⟨(take s t m).1.toNat, (take s t m).2.1, (take s t m).2.2, by omega, s, t, m, rfl, rfl, h0, h1, ?_, rfl⟩
  exact congrArg PyData.int (by omega)) (ok_take F T)
end
end K14
noncomputable section
namespace K14
open PySem L2 Pd Gn PySem.Spec PyProof.Rows Zq Hx
abbrev s_shares : Stmt := top 1
theorem sc_shares : FnScope ["limits", "k", "behind", "found", "limit", "taken", "left", "t", "_"] ["limits", "k"] (defScope s_shares) := ⟨rfl, rfl, rfl, by decide +kernel, rfl, by decide +kernel, by decide +kernel⟩
def g_shares (limits_0 k_0 : W) : M (Res W Unit) :=
  (bd (biM (u1 pSum) (apM (rt limits_0) (rt []))) fun behind_1 => (ifM (orM (cmpM (c2 cLt) (rt k_0) (rt (.dat (.int 0)))) (cmpM (c2 cGt) (rt k_0) (rt behind_1))) (retE (bd (frzW (lstM (rt []))) fun w => rt (.ret w))) (bd (frzW (lstM (apM (tupM (apM (tupM (rt [])) (apM (rt k_0) (rt [])))) (rt [])))) fun found_2 => (bd (sqM (rt limits_0)) fun ws => seqM (forM (stepM tgN fun x_3 (st_4 : W × W) => (bd (binM (l2 pSub) (rt st_4.1) (rt x_3)) fun behind_5 => (bd (frzW (lc2 (tgT 2 (tgsC tgN (tgsC tgN tgs0))) (fun x_7 => rt true) (fun x_7 => (rgD (biM (u2 pMin) (apM (rt x_7.2.1) (apM (rt x_3) (rt [])))) (binM (l2 pSub) (biM (u2 pMax) (apM (rt (.dat (.int 0))) (apM (binM (l2 pSub) (rt x_7.2.1) (rt behind_5)) (rt [])))) (rt (.dat (.int 1)))))) tgN (fun x_7 x_8 => rt true) (fun x_7 x_8 => (tupM (apM (binM (l2 pAddX) (rt x_7.1) (tupM (apM (rt x_8) (rt [])))) (apM (binM (l2 pSub) (rt x_7.2.1) (rt x_8)) (rt []))))) (sqM (rt st_4.2)))) fun found_6 => (rt (.nxt (behind_5, found_6)))))) ws (behind_1, found_2)) fun st_4 => (bd (frzW (lc1 (tgT 2 (tgsC tgN (tgsC tgN tgs0))) (fun _ => rt true) (fun x_9 => (rt x_9.1)) (sqM (rt st_4.2)))) fun w => rt (.ret w))))))
def b_shares : List W → M (Res W Unit)
  | [limits_0, k_0] => g_shares limits_0 k_0
  | _ => fun _ => .bad
def m_shares (ws : List W) : M W := finM (b_shares ws)
set_option maxHeartbeats 4000000 in
theorem ok_shares {P : Program} {w : World} {K : PySem.W.Frag} {mg : Str → Option Value} {base : Heap} {f : Addr} {fd : FuncData} (F : FunY K "shares" "shares" s_shares f fd) (T : MgB mg) : FnOk P w K mg base (L2.CX P w) 2 f fd ["limits", "k"] (spM K w mg 2 m_shares) :=
  defM (g := fun _ => noR 9) (mb := b_shares) F sc_shares (by decide) (fun cdv A outer s H E hr hp ws hlen => by
    match ws, hlen with
    | [limits_0, k_0], _ =>
      show SM _ _ _ _ (g_shares limits_0 k_0) _
      unfold g_shares
      exact (
(sm_set (n := 2) sc_shares.nd rfl rfl (em_B (sum_f rfl) T.sum (by decide +kernel) (am_cons (em_var (n := 0) (w := limits_0) rfl rfl) am_nil)) (fun behind_1 =>
 (sm_ifR (g0 := fun _ => noR 9) (tm_w (wm_or (tm_cmp (ltF hr) (em_var (n := 1) (w := k_0) rfl rfl) em_int) (wm_or1 (tm_cmp gtF (em_var (n := 1) (w := k_0) rfl rfl) (em_var (n := 2) (w := behind_1) rfl rfl)))))
 (sm_ret (em_frz (lm_lst am_nil)))
 (sm_set (n := 3) sc_shares.nd rfl rfl (em_frz (lm_lst (am_cons (em_tup (am_cons (em_tup am_nil) (am_cons (em_var (n := 1) (w := k_0) rfl rfl) am_nil))) am_nil))) (fun found_2 =>
 (sm_for (F := fun (st_4 : W × W) => [some limits_0, some k_0, some st_4.1, some st_4.2, none, none, none, none, none]) (Fb := fun x_3 (st_4 : W × W) => [some limits_0, some k_0, some st_4.1, some st_4.2, some x_3, none, none, none, none]) (z0 := (behind_1, found_2)) (im_val (em_var (n := 0) (w := limits_0) rfl rfl)) (pg_name (i := 4) sc_shares.nd rfl (by first | exact .inl rfl | exact .inr rfl)) (by exact (.keep (.keep (.keep (.keep (.drop (.drop (.drop (.drop (.drop LeR.nil)))))))))) (by exact le_noR rfl) (fun _ => gm_name) (fun _ _ => by exact le_noR rfl) (fun x_3 st_4 => by exact (
 (sm_set (n := 2) sc_shares.nd rfl rfl (em_bin sub_f (em_var (n := 2) (w := st_4.1) rfl rfl) (em_var (n := 4) (w := x_3) rfl rfl)) (fun behind_5 =>
 (sm_setF (n := 3) (lcp2 (own := [("taken", 5), ("left", 6), ("t", 7)]) (vs1 := [7]) (im_val (em_var (n := 3) (w := st_4.2) rfl rfl)) (GWx.gw (gwx_tup (gwxs_cons (gwx_name (by decide)) mon_name (gwxs_cons (gwx_name (by decide)) mon_name gwxs_nil mons_nil) (mons_cons mon_name mons_nil))) (mon_tup (mons_cons mon_name (mons_cons mon_name mons_nil)))) (GWx.gw (gwx_name (by decide)) mon_name) (by intro k hk; simp at hk; rcases hk with rfl | rfl | rfl <;> rfl) (fun _ => (by intro k hk; simp at hk; rcases hk with rfl <;> rfl)) (gm_tup (gms_cons gm_name fun _ => (gms_cons gm_name fun _ => gms_nil))) (fun _ => gtm_yes) (fun x_7 _ _ _ _ _ => (im_down T.range (em_B (min_f rfl) T.min (by decide +kernel) (am_cons (em_var (n := 6) (w := x_7.2.1) rfl rfl) (am_cons (em_var (n := 4) (w := x_3) rfl rfl) am_nil))) (em_bin sub_f (em_B (max_f rfl) T.max (by decide +kernel) (am_cons em_int (am_cons (em_bin sub_f (em_var (n := 6) (w := x_7.2.1) rfl rfl) (em_var (n := 2) (w := behind_5) rfl rfl)) am_nil))) em_int))) (fun _ => gm_name) (fun _ _ => gtm_yes) (fun x_7 x_8 _ _ _ _ _ => (em_tup (am_cons (em_bin add_f (em_var (n := 5) (w := x_7.1) rfl rfl) (em_tup (am_cons (em_var (n := 7) (w := x_8) rfl rfl) am_nil))) (am_cons (em_bin sub_f (em_var (n := 6) (w := x_7.2.1) rfl rfl) (em_var (n := 7) (w := x_8) rfl rfl)) am_nil)))) sc_shares.nd (blkOk_by (N := ["limits", "k", "behind", "found", "limit", "taken", "left", "t", "_"]) (sc := defScope s_shares) (by decide +kernel)) (by decide) (fun _ _ _ _ _ => (pg_tup rfl (pgs_cons (pg_name (i := 5) sc_shares.nd rfl (by first | exact .inl rfl | exact .inr rfl)) (pgs_cons (pg_name (i := 6) sc_shares.nd rfl (by first | exact .inl rfl | exact .inr rfl)) pgs_nil)))) (fun _ _ _ _ _ => (pg_name (i := 7) sc_shares.nd rfl (by first | exact .inl rfl | exact .inr rfl))) pts0 pts0) sc_shares.nd rfl rfl (sw_true rfl rfl rfl (by decide +kernel)) rfl (fun found_6 =>
 (sm_nil (z := (behind_5, found_6)) (by exact (.keep (.keep (.keep (.keep (.drop (.drop (.drop (.drop (.drop LeR.nil)))))))))) (by exact le_noR rfl)))))))) (fun st_4 => by exact (
 (sm_ret (em_frz (LcP.lm (lcp0 (own := [("taken", 5), ("_", 8)]) (im_val (em_var (n := 3) (w := st_4.2) rfl rfl)) (GWx.gw (gwx_tup (gwxs_cons (gwx_name (by decide)) mon_name (gwxs_cons (gwx_name (by decide)) mon_name gwxs_nil mons_nil) (mons_cons mon_name mons_nil))) (mon_tup (mons_cons mon_name (mons_cons mon_name mons_nil)))) (by intro k hk; simp at hk; rcases hk with rfl | rfl <;> rfl) (gm_tup (gms_cons gm_name fun _ => (gms_cons gm_name fun _ => gms_nil))) (fun x_9 _ _ _ _ _ => (em_var (n := 5) (w := x_9.1) rfl rfl)) sc_shares.nd (blkOk_by (N := ["limits", "k", "behind", "found", "limit", "taken", "left", "t", "_"]) (sc := defScope s_shares) (by decide +kernel)) (fun _ _ _ _ _ => (pg_tup rfl (pgs_cons (pg_name (i := 5) sc_shares.nd rfl (by first | exact .inl rfl | exact .inr rfl)) (pgs_cons (pg_name (i := 8) sc_shares.nd rfl (by first | exact .inl rfl | exact .inr rfl)) pgs_nil)))))))))) hp))))))))
abbrev s__starts : Stmt := top 3
theorem sc__starts : FnScope ["inner", "many"] ["inner", "many"] (defScope s__starts) := ⟨rfl, rfl, rfl, by decide +kernel, rfl, by decide +kernel, by decide +kernel⟩
def g__starts (inner_0 many_0 : W) : M (Res W Unit) :=
  (bd (binM (l2 pAddX) (rt inner_0) (binM (l2 pMulY) (tupM (apM (rt (.dat (.int 0))) (rt []))) (binM (l2 pSub) (rt many_0) (biM fLen (apM (rt inner_0) (rt [])))))) fun w => rt (.ret w))
def b__starts : List W → M (Res W Unit)
  | [inner_0, many_0] => g__starts inner_0 many_0
  | _ => fun _ => .bad
def m__starts (ws : List W) : M W := finM (b__starts ws)
set_option maxHeartbeats 4000000 in
theorem ok__starts {P : Program} {w : World} {K : PySem.W.Frag} {mg : Str → Option Value} {base : Heap} {f : Addr} {fd : FuncData} (F : FunY K "_starts" "_starts" s__starts f fd) (T : MgB mg) : FnOk P w K mg base (L2.CX P w) 2 f fd ["inner", "many"] (spM K w mg 2 m__starts) :=
  defM (g := fun _ => noR 2) (mb := b__starts) F sc__starts (by decide) (fun cdv A outer s H E hr hp ws hlen => by
    match ws, hlen with
    | [inner_0, many_0], _ =>
      show SM _ _ _ _ (g__starts inner_0 many_0) _
      unfold g__starts
      exact (
(sm_ret (em_bin add_f (em_var (n := 0) (w := inner_0) rfl rfl) (em_bin mul_f (em_tup (am_cons em_int am_nil)) (em_bin sub_f (em_var (n := 1) (w := many_0) rfl rfl) (em_B len_f T.len (by decide +kernel) (am_cons (em_var (n := 0) (w := inner_0) rfl rfl) am_nil))))))))
abbrev s__strips_up : Stmt := top 4
theorem sc__strips_up : FnScope ["outer", "shape", "k", "later", "ahead", "least", "part", "needed", "most", "above", "low", "high", "free", "limits", "t", "shared"] ["outer", "shape", "k", "later"] (defScope s__strips_up) := ⟨rfl, rfl, rfl, by decide +kernel, rfl, by decide +kernel, by decide +kernel⟩
def g__strips_up (outer_0 shape_0 k_0 later_0 : W) : M (Res W Unit) :=
  (bd (binM (l2 pAddX) (slM (rt outer_0) (soM (rt later_0)) (rt none)) (binM (l2 pMulY) (tupM (apM (rt (.dat (.int 0))) (rt []))) (biM (u2 pMin) (apM (rt later_0) (apM (biM fLen (apM (rt outer_0) (rt []))) (rt [])))))) fun ahead_1 => (bd (frzW (lc1 (tgT 2 (tgsC tgN (tgsC tgN tgs0))) (fun _ => rt true) (fun x_3 => (biM (u2 pMax) (apM (rt x_3.1) (apM (rt x_3.2.1) (rt []))))) (z2M (rt shape_0) (rt ahead_1)))) fun least_2 => (bd (frzW (lc1 (tgT 2 (tgsC tgN (tgsC tgN tgs0))) (fun _ => rt true) (fun x_5 => (biM (u2 pMin) (apM (rt x_5.1) (apM (rt x_5.2.1) (rt []))))) (z2M (rt outer_0) (binM (l2 pAddX) (slM (rt outer_0) (rt none) (soM (rt (.dat (.int 1))))) (rt shape_0))))) fun most_4 => (ifM (tvM (biM (u1 dAny) (apM (frzW (lc1 (tgT 2 (tgsC tgN (tgsC tgN tgs0))) (fun _ => rt true) (fun x_6 => (bW (cmpM (c2 cGt) (rt x_6.1) (rt x_6.2.1)))) (z2M (rt least_2) (rt most_4)))) (rt [])))) (retE (bd (frzW (lstM (rt []))) fun w => rt (.ret w))) (bd (binM (l2 pAddX) (binM (l2 pSub) (rt k_0) (biM (u1 pSum) (apM (rt least_2) (rt [])))) (biM (u1 pSum) (apM (rt shape_0) (rt [])))) fun free_7 => (bd (frzW (lc1 (tgT 2 (tgsC tgN (tgsC tgN tgs0))) (fun _ => rt true) (fun x_9 => (binM (l2 pSub) (rt x_9.2.1) (rt x_9.1))) (z2M (rt least_2) (rt most_4)))) fun limits_8 => (bd (frzW (lc1 tgN (fun _ => rt true) (fun x_10 => (toM (frzW (lc1 (tgT 2 (tgsC tgN (tgsC tgN tgs0))) (fun _ => rt true) (fun x_11 => (binM (l2 pAddX) (rt x_11.1) (rt x_11.2.1))) (z2M (rt least_2) (rt x_10)))))) (sqM (callI 2 (apM (rt limits_8) (apM (rt free_7) (rt []))) m_shares)))) fun w => rt (.ret w))))))))
def b__strips_up : List W → M (Res W Unit)
  | [outer_0, shape_0, k_0, later_0] => g__strips_up outer_0 shape_0 k_0 later_0
  | _ => fun _ => .bad
def m__strips_up (ws : List W) : M W := finM (b__strips_up ws)
set_option maxHeartbeats 4000000 in
theorem ok__strips_up {P : Program} {w : World} {K : PySem.W.Frag} {mg : Str → Option Value} {base : Heap} {f : Addr} {fd : FuncData} (F : FunY K "_strips_up" "_strips_up" s__strips_up f fd) (T : MgB mg) (c_shares : CalM P w K mg base 2 "shares" ["limits", "k"] 2 m_shares) : FnOk P w K mg base (L2.CX P w) 3 f fd ["outer", "shape", "k", "later"] (spM K w mg 4 m__strips_up) :=
  defM (g := fun _ => noR 16) (mb := b__strips_up) F sc__strips_up (by decide) (fun cdv A outer s H E hr hp ws hlen => by
    match ws, hlen with
    | [outer_0, shape_0, k_0, later_0], _ =>
      show SM _ _ _ _ (g__strips_up outer_0 shape_0 k_0 later_0) _
      unfold g__strips_up
      exact (
(sm_set (n := 4) sc__strips_up.nd rfl rfl (em_bin add_f (em_cut (em_var (n := 0) (w := outer_0) rfl rfl) (om_some (em_var (n := 3) (w := later_0) rfl rfl)) om_none) (em_bin mul_f (em_tup (am_cons em_int am_nil)) (em_B (min_f rfl) T.min (by decide +kernel) (am_cons (em_var (n := 3) (w := later_0) rfl rfl) (am_cons (em_B len_f T.len (by decide +kernel) (am_cons (em_var (n := 0) (w := outer_0) rfl rfl) am_nil)) am_nil))))) (fun ahead_1 =>
 (sm_set (n := 5) sc__strips_up.nd rfl rfl (em_frz (LcP.lm (lcp0 (own := [("part", 6), ("needed", 7)]) (im_z2 T.zip (em_var (n := 1) (w := shape_0) rfl rfl) (em_var (n := 4) (w := ahead_1) rfl rfl)) (GWx.gw (gwx_tup (gwxs_cons (gwx_name (by decide)) mon_name (gwxs_cons (gwx_name (by decide)) mon_name gwxs_nil mons_nil) (mons_cons mon_name mons_nil))) (mon_tup (mons_cons mon_name (mons_cons mon_name mons_nil)))) (by intro k hk; simp at hk; rcases hk with rfl | rfl <;> rfl) (gm_tup (gms_cons gm_name fun _ => (gms_cons gm_name fun _ => gms_nil))) (fun x_3 _ _ _ _ _ => (em_B (max_f rfl) T.max (by decide +kernel) (am_cons (em_var (n := 6) (w := x_3.1) rfl rfl) (am_cons (em_var (n := 7) (w := x_3.2.1) rfl rfl) am_nil)))) sc__strips_up.nd (blkOk_by (N := ["outer", "shape", "k", "later", "ahead", "least", "part", "needed", "most", "above", "low", "high", "free", "limits", "t", "shared"]) (sc := defScope s__strips_up) (by decide +kernel)) (fun _ _ _ _ _ => (pg_tup rfl (pgs_cons (pg_name (i := 6) sc__strips_up.nd rfl (by first | exact .inl rfl | exact .inr rfl)) (pgs_cons (pg_name (i := 7) sc__strips_up.nd rfl (by first | exact .inl rfl | exact .inr rfl)) pgs_nil))))))) (fun least_2 =>
 (sm_setF (n := 8) (lcp0 (own := [("part", 6), ("above", 9)]) (im_z2 T.zip (em_var (n := 0) (w := outer_0) rfl rfl) (em_bin add_f (em_cut (em_var (n := 0) (w := outer_0) rfl rfl) om_none (om_some em_int)) (em_var (n := 1) (w := shape_0) rfl rfl))) (GWx.gw (gwx_tup (gwxs_cons (gwx_name (by decide)) mon_name (gwxs_cons (gwx_name (by decide)) mon_name gwxs_nil mons_nil) (mons_cons mon_name mons_nil))) (mon_tup (mons_cons mon_name (mons_cons mon_name mons_nil)))) (by intro k hk; simp at hk; rcases hk with rfl | rfl <;> rfl) (gm_tup (gms_cons gm_name fun _ => (gms_cons gm_name fun _ => gms_nil))) (fun x_5 _ _ _ _ _ => (em_B (min_f rfl) T.min (by decide +kernel) (am_cons (em_var (n := 6) (w := x_5.1) rfl rfl) (am_cons (em_var (n := 9) (w := x_5.2.1) rfl rfl) am_nil)))) sc__strips_up.nd (blkOk_by (N := ["outer", "shape", "k", "later", "ahead", "least", "part", "needed", "most", "above", "low", "high", "free", "limits", "t", "shared"]) (sc := defScope s__strips_up) (by decide +kernel)) (fun _ _ _ _ _ => (pg_tup rfl (pgs_cons (pg_name (i := 6) sc__strips_up.nd rfl (by first | exact .inl rfl | exact .inr rfl)) (pgs_cons (pg_name (i := 9) sc__strips_up.nd rfl (by first | exact .inl rfl | exact .inr rfl)) pgs_nil))))) sc__strips_up.nd rfl rfl (sw_true rfl rfl rfl (by decide +kernel)) rfl (fun most_4 =>
 (sm_ifR (g0 := fun _ => noR 16) (tm_val (em_B (any_f rfl) T.any (by decide +kernel) (am_cons (em_frz (LcP.lm (lcp0 (own := [("low", 10), ("high", 11)]) (im_z2 T.zip (em_var (n := 5) (w := least_2) rfl rfl) (em_var (n := 8) (w := most_4) rfl rfl)) (GWx.gw (gwx_tup (gwxs_cons (gwx_name (by decide)) mon_name (gwxs_cons (gwx_name (by decide)) mon_name gwxs_nil mons_nil) (mons_cons mon_name mons_nil))) (mon_tup (mons_cons mon_name (mons_cons mon_name mons_nil)))) (by intro k hk; simp at hk; rcases hk with rfl | rfl <;> rfl) (gm_tup (gms_cons gm_name fun _ => (gms_cons gm_name fun _ => gms_nil))) (fun x_6 _ _ _ _ _ => (em_cmp gtF (em_var (n := 10) (w := x_6.1) rfl rfl) (em_var (n := 11) (w := x_6.2.1) rfl rfl))) sc__strips_up.nd (blkOk_by (N := ["outer", "shape", "k", "later", "ahead", "least", "part", "needed", "most", "above", "low", "high", "free", "limits", "t", "shared"]) (sc := defScope s__strips_up) (by decide +kernel)) (fun _ _ _ _ _ => (pg_tup rfl (pgs_cons (pg_name (i := 10) sc__strips_up.nd rfl (by first | exact .inl rfl | exact .inr rfl)) (pgs_cons (pg_name (i := 11) sc__strips_up.nd rfl (by first | exact .inl rfl | exact .inr rfl)) pgs_nil))))))) am_nil)))
 (sm_ret (em_frz (lm_lst am_nil)))
 (sm_set (n := 12) sc__strips_up.nd rfl rfl (em_bin add_f (em_bin sub_f (em_var (n := 2) (w := k_0) rfl rfl) (em_B (sum_f rfl) T.sum (by decide +kernel) (am_cons (em_var (n := 5) (w := least_2) rfl rfl) am_nil))) (em_B (sum_f rfl) T.sum (by decide +kernel) (am_cons (em_var (n := 1) (w := shape_0) rfl rfl) am_nil))) (fun free_7 =>
 (sm_setF (n := 13) (lcp0 (own := [("low", 10), ("high", 11)]) (im_z2 T.zip (em_var (n := 5) (w := least_2) rfl rfl) (em_var (n := 8) (w := most_4) rfl rfl)) (GWx.gw (gwx_tup (gwxs_cons (gwx_name (by decide)) mon_name (gwxs_cons (gwx_name (by decide)) mon_name gwxs_nil mons_nil) (mons_cons mon_name mons_nil))) (mon_tup (mons_cons mon_name (mons_cons mon_name mons_nil)))) (by intro k hk; simp at hk; rcases hk with rfl | rfl <;> rfl) (gm_tup (gms_cons gm_name fun _ => (gms_cons gm_name fun _ => gms_nil))) (fun x_9 _ _ _ _ _ => (em_bin sub_f (em_var (n := 11) (w := x_9.2.1) rfl rfl) (em_var (n := 10) (w := x_9.1) rfl rfl))) sc__strips_up.nd (blkOk_by (N := ["outer", "shape", "k", "later", "ahead", "least", "part", "needed", "most", "above", "low", "high", "free", "limits", "t", "shared"]) (sc := defScope s__strips_up) (by decide +kernel)) (fun _ _ _ _ _ => (pg_tup rfl (pgs_cons (pg_name (i := 10) sc__strips_up.nd rfl (by first | exact .inl rfl | exact .inr rfl)) (pgs_cons (pg_name (i := 11) sc__strips_up.nd rfl (by first | exact .inl rfl | exact .inr rfl)) pgs_nil))))) sc__strips_up.nd rfl rfl (sw_true rfl rfl rfl (by decide +kernel)) rfl (fun limits_8 =>
 (sm_ret (em_frz (LcP.lm (lcp0 (own := [("shared", 15)]) (im_val (em_callI c_shares (hr.mono (by omega)) (am_cons (em_var (n := 13) (w := limits_8) rfl rfl) (am_cons (em_var (n := 12) (w := free_7) rfl rfl) am_nil)))) (GWx.gw (gwx_name (by decide)) mon_name) (by intro k hk; simp at hk; rcases hk with rfl <;> rfl) gm_name (fun x_10 _ _ _ _ _ => (em_tuple T.tuple (em_frz (LcP.lm (lcp0 (own := [("low", 10), ("t", 14)]) (im_z2 T.zip (em_var (n := 5) (w := least_2) rfl rfl) (em_var (n := 15) (w := x_10) rfl rfl)) (GWx.gw (gwx_tup (gwxs_cons (gwx_name (by decide)) mon_name (gwxs_cons (gwx_name (by decide)) mon_name gwxs_nil mons_nil) (mons_cons mon_name mons_nil))) (mon_tup (mons_cons mon_name (mons_cons mon_name mons_nil)))) (by intro k hk; simp at hk; rcases hk with rfl | rfl <;> rfl) (gm_tup (gms_cons gm_name fun _ => (gms_cons gm_name fun _ => gms_nil))) (fun x_11 _ _ _ _ _ => (em_bin add_f (em_var (n := 10) (w := x_11.1) rfl rfl) (em_var (n := 14) (w := x_11.2.1) rfl rfl))) sc__strips_up.nd (blkOk_by (N := ["outer", "shape", "k", "later", "ahead", "least", "part", "needed", "most", "above", "low", "high", "free", "limits", "t", "shared"]) (by rfl)) (fun _ _ _ _ _ => (pg_tup rfl (pgs_cons (pg_name (i := 10) sc__strips_up.nd rfl (by first | exact .inl rfl | exact .inr rfl)) (pgs_cons (pg_name (i := 14) sc__strips_up.nd rfl (by first | exact .inl rfl | exact .inr rfl)) pgs_nil))))))))) sc__strips_up.nd (blkOk_by (N := ["outer", "shape", "k", "later", "ahead", "least", "part", "needed", "most", "above", "low", "high", "free", "limits", "t", "shared"]) (sc := defScope s__strips_up) (by decide +kernel)) (fun _ _ _ _ _ => (pg_name (i := 15) sc__strips_up.nd rfl (by first | exact .inl rfl | exact .inr rfl))))))))))))))))))))
abbrev s__is_full : Stmt := top 5
theorem sc__is_full : FnScope ["outer", "content", "inner"] ["outer", "content", "inner"] (defScope s__is_full) := ⟨rfl, rfl, rfl, by decide +kernel, rfl, by decide +kernel, by decide +kernel⟩
def g__is_full (outer_0 content_0 inner_0 : W) : M (Res W Unit) :=
  (bd (bW (cmpM (c2 cEq) (biM (u1 pSum) (apM (rt content_0) (rt []))) (binM (l2 pSub) (biM (u1 pSum) (apM (rt outer_0) (rt []))) (biM (u1 pSum) (apM (rt inner_0) (rt [])))))) fun w => rt (.ret w))
def b__is_full : List W → M (Res W Unit)
  | [outer_0, content_0, inner_0] => g__is_full outer_0 content_0 inner_0
  | _ => fun _ => .bad
def m__is_full (ws : List W) : M W := finM (b__is_full ws)
set_option maxHeartbeats 4000000 in
theorem ok__is_full {P : Program} {w : World} {K : PySem.W.Frag} {mg : Str → Option Value} {base : Heap} {f : Addr} {fd : FuncData} (F : FunY K "_is_full" "_is_full" s__is_full f fd) (T : MgB mg) : FnOk P w K mg base (L2.CX P w) 2 f fd ["outer", "content", "inner"] (spM K w mg 3 m__is_full) :=
  defM (g := fun _ => noR 3) (mb := b__is_full) F sc__is_full (by decide) (fun cdv A outer s H E hr hp ws hlen => by
    match ws, hlen with
    | [outer_0, content_0, inner_0], _ =>
      show SM _ _ _ _ (g__is_full outer_0 content_0 inner_0) _
      unfold g__is_full
      exact (
(sm_ret (em_cmp (eqF hr) (em_B (sum_f rfl) T.sum (by decide +kernel) (am_cons (em_var (n := 1) (w := content_0) rfl rfl) am_nil)) (em_bin sub_f (em_B (sum_f rfl) T.sum (by decide +kernel) (am_cons (em_var (n := 0) (w := outer_0) rfl rfl) am_nil)) (em_B (sum_f rfl) T.sum (by decide +kernel) (am_cons (em_var (n := 2) (w := inner_0) rfl rfl) am_nil)))))))
abbrev s__layers : Stmt := top 6
theorem sc__layers : FnScope ["outer", "content", "inner", "steps", "k", "many", "shapes", "layers", "done", "number", "before", "shape", "larger"] ["outer", "content", "inner"] (defScope s__layers) := ⟨rfl, rfl, rfl, by decide +kernel, rfl, by decide +kernel, by decide +kernel⟩
def g__layers (outer_0 content_0 inner_0 : W) : M (Res W Unit) :=
  (bd (frzW (lc1 (tgT 2 (tgsC tgN (tgsC tgN tgs0))) (fun x_2 => (cmpM (c2 cGt) (rt x_2.2.1) (rt (.dat (.int 0))))) (fun x_2 => (tupM (apM (binM (l2 pAddX) (rt x_2.1) (rt (.dat (.int 1)))) (apM (rt x_2.2.1) (rt []))))) (enM (rt content_0)))) fun steps_1 => (bd (frzW (lstM (apM (callI 2 (apM (rt inner_0) (apM (biM fLen (apM (rt outer_0) (rt []))) (rt []))) m__starts) (rt [])))) fun shapes_3 => (bd (ownW (lstM (rt []))) fun layers_4 => (bd (enM (rt steps_1)) fun ws => seqM (forM (stepM (tgT 2 (tgsC tgN (tgsC (tgT 2 (tgsC tgN (tgsC tgN tgs0))) tgs0))) fun x_5 (st_6 : W) => (bd dnewM fun before_7 => (bd (sqM (rt st_6)) fun ws => seqM (forM (stepM tgN fun x_8 (st_9 : Unit) => (bd (sqM (callI 4 (apM (rt outer_0) (apM (rt x_8) (apM (rt x_5.2.1.2.1) (apM (binM (l2 pSub) (binM (l2 pSub) (biM fLen (apM (rt steps_1) (rt []))) (rt x_5.1)) (rt (.dat (.int 1)))) (rt []))))) m__strips_up)) fun ws => seqM (forM (stepM tgN fun x_10 (st_11 : Unit) => (bd (appM (setdM (rt before_7) (rt x_10) (ownW (lstM (rt [])))) (rt x_8)) fun _ => (rt (.nxt ())))) ws ()) fun st_11 => (rt (.nxt ())))) ws ()) fun st_9 => (bd (frzDDM before_7) fun before_12 => (bd (appM (rt layers_4) (tupM (apM (rt x_5.2.1.1) (apM (rt before_12) (rt []))))) fun _ => (bd (frzW (listDM (rt before_12))) fun shapes_13 => (rt (.nxt shapes_13)))))))) ws shapes_3) fun st_6 => (bd (frzM layers_4) fun layers_14 => (bd (rt layers_14) fun w => rt (.ret w)))))))
def b__layers : List W → M (Res W Unit)
  | [outer_0, content_0, inner_0] => g__layers outer_0 content_0 inner_0
  | _ => fun _ => .bad
def m__layers (ws : List W) : M W := finM (b__layers ws)
set_option maxHeartbeats 4000000 in
theorem ok__layers {P : Program} {w : World} {K : PySem.W.Frag} {mg : Str → Option Value} {base : Heap} {f : Addr} {fd : FuncData} (F : FunY K "_layers" "_layers" s__layers f fd) (T : MgB mg) (c__starts : CalM P w K mg base 2 "_starts" ["inner", "many"] 2 m__starts) (c__strips_up : CalM P w K mg base 3 "_strips_up" ["outer", "shape", "k", "later"] 4 m__strips_up) : FnOk P w K mg base (L2.CX P w) 4 f fd ["outer", "content", "inner"] (spM K w mg 3 m__layers) :=
  defM (g := fun _ => noR 13) (mb := b__layers) F sc__layers (by decide) (fun cdv A outer s H E hr hp ws hlen => by
    match ws, hlen with
    | [outer_0, content_0, inner_0], _ =>
      show SM _ _ _ _ (g__layers outer_0 content_0 inner_0) _
      unfold g__layers
      exact (
(sm_setF (n := 3) (lcp1 (own := [("k", 4), ("many", 5)]) (im_enum T.enumerate (em_var (n := 1) (w := content_0) rfl rfl)) (GWx.gw (gwx_tup (gwxs_cons (gwx_name (by decide)) mon_name (gwxs_cons (gwx_name (by decide)) mon_name gwxs_nil mons_nil) (mons_cons mon_name mons_nil))) (mon_tup (mons_cons mon_name (mons_cons mon_name mons_nil)))) (by intro k hk; simp at hk; rcases hk with rfl | rfl <;> rfl) (gm_tup (gms_cons gm_name fun _ => (gms_cons gm_name fun _ => gms_nil))) (fun x_2 _ _ _ _ _ => (tm_cmp gtF (em_var (n := 5) (w := x_2.2.1) rfl rfl) em_int)) (fun x_2 _ _ _ _ _ => (em_tup (am_cons (em_bin add_f (em_var (n := 4) (w := x_2.1) rfl rfl) em_int) (am_cons (em_var (n := 5) (w := x_2.2.1) rfl rfl) am_nil)))) sc__layers.nd (blkOk_by (N := ["outer", "content", "inner", "steps", "k", "many", "shapes", "layers", "done", "number", "before", "shape", "larger"]) (sc := defScope s__layers) (by decide +kernel)) (fun _ _ _ _ _ => (pg_tup rfl (pgs_cons (pg_name (i := 4) sc__layers.nd rfl (by first | exact .inl rfl | exact .inr rfl)) (pgs_cons (pg_name (i := 5) sc__layers.nd rfl (by first | exact .inl rfl | exact .inr rfl)) pgs_nil))))) sc__layers.nd rfl rfl (sw_true rfl rfl rfl (by decide +kernel)) rfl (fun steps_1 =>
 (sm_set (n := 6) sc__layers.nd rfl rfl (em_frz (lm_lst (am_cons (em_callI c__starts (hr.mono (by omega)) (am_cons (em_var (n := 2) (w := inner_0) rfl rfl) (am_cons (em_B len_f T.len (by decide +kernel) (am_cons (em_var (n := 0) (w := outer_0) rfl rfl) am_nil)) am_nil))) am_nil))) (fun shapes_3 =>
 (sm_set (n := 7) sc__layers.nd rfl rfl (em_own (lm_lst am_nil)) (fun layers_4 =>
 (sm_for (F := fun (st_6 : W) => [some outer_0, some content_0, some inner_0, some steps_1, none, none, some st_6, some layers_4, none, none, none, none, none]) (Fb := fun x_5 (st_6 : W) => [some outer_0, some content_0, some inner_0, some steps_1, none, some x_5.2.1.2.1, some st_6, some layers_4, some x_5.1, some x_5.2.1.1, none, none, none]) (z0 := shapes_3) (im_enum T.enumerate (em_var (n := 3) (w := steps_1) rfl rfl)) (pg_tup rfl (pgs_cons (pg_name (i := 8) sc__layers.nd rfl (by first | exact .inl rfl | exact .inr rfl)) (pgs_cons (pg_tup rfl (pgs_cons (pg_name (i := 9) sc__layers.nd rfl (by first | exact .inl rfl | exact .inr rfl)) (pgs_cons (pg_name (i := 5) sc__layers.nd rfl (by first | exact .inl rfl | exact .inr rfl)) pgs_nil))) pgs_nil))) (by exact (.keep (.keep (.keep (.keep (.drop (.drop (.keep (.keep (.drop (.drop (.drop (.drop (.drop LeR.nil)))))))))))))) (by exact le_noR rfl) (fun _ => (gm_tup (gms_cons gm_name fun _ => (gms_cons (gm_tup (gms_cons gm_name fun _ => (gms_cons gm_name fun _ => gms_nil))) fun _ => gms_nil)))) (fun _ _ => by exact le_noR rfl) (fun x_5 st_6 => by exact (
 (sm_set (n := 10) sc__layers.nd rfl rfl em_dnew (fun before_7 =>
 (sm_for (F := fun (st_9 : Unit) => [some outer_0, some content_0, some inner_0, some steps_1, none, some x_5.2.1.2.1, some st_6, some layers_4, some x_5.1, some x_5.2.1.1, some before_7, none, none]) (Fb := fun x_8 (st_9 : Unit) => [some outer_0, some content_0, some inner_0, some steps_1, none, some x_5.2.1.2.1, some st_6, some layers_4, some x_5.1, some x_5.2.1.1, some before_7, some x_8, none]) (z0 := ()) (im_val (em_var (n := 6) (w := st_6) rfl rfl)) (pg_name (i := 11) sc__layers.nd rfl (by first | exact .inl rfl | exact .inr rfl)) (by exact (.keep (.keep (.keep (.keep (.drop (.keep (.keep (.keep (.keep (.keep (.keep (.drop (.drop LeR.nil)))))))))))))) (by exact le_noR rfl) (fun _ => gm_name) (fun _ _ => by exact le_noR rfl) (fun x_8 st_9 => by exact (
 (sm_for (F := fun (st_11 : Unit) => [some outer_0, some content_0, some inner_0, some steps_1, none, some x_5.2.1.2.1, some st_6, some layers_4, some x_5.1, some x_5.2.1.1, some before_7, some x_8, none]) (Fb := fun x_10 (st_11 : Unit) => [some outer_0, some content_0, some inner_0, some steps_1, none, some x_5.2.1.2.1, some st_6, some layers_4, some x_5.1, some x_5.2.1.1, some before_7, some x_8, some x_10]) (z0 := ()) (im_val (em_callI c__strips_up (hr.mono (by omega)) (am_cons (em_var (n := 0) (w := outer_0) rfl rfl) (am_cons (em_var (n := 11) (w := x_8) rfl rfl) (am_cons (em_var (n := 5) (w := x_5.2.1.2.1) rfl rfl) (am_cons (em_bin sub_f (em_bin sub_f (em_B len_f T.len (by decide +kernel) (am_cons (em_var (n := 3) (w := steps_1) rfl rfl) am_nil)) (em_var (n := 8) (w := x_5.1) rfl rfl)) em_int) am_nil)))))) (pg_name (i := 12) sc__layers.nd rfl (by first | exact .inl rfl | exact .inr rfl)) (by exact (.keep (.keep (.keep (.keep (.drop (.keep (.keep (.keep (.keep (.keep (.keep (.keep (.drop LeR.nil)))))))))))))) (by exact le_noR rfl) (fun _ => gm_name) (fun _ _ => by exact le_noR rfl) (fun x_10 st_11 => by exact (
 (sm_expr (em_append (em_setd hr (em_var (n := 10) (w := before_7) rfl rfl) (em_var (n := 12) (w := x_10) rfl rfl) (em_own (lm_lst am_nil))) (em_var (n := 11) (w := x_8) rfl rfl) (pe_bm PySem.F.plainAttrs_list PySem.F.slot_list_append PySem.F.type_list_append mt_append pe_s (pa_cons pe_s pa_nil)))
 (sm_nil (z := ()) (by exact (.keep (.keep (.keep (.keep (.drop (.keep (.keep (.keep (.keep (.keep (.keep (.keep (.drop LeR.nil)))))))))))))) (by exact le_noR rfl))))) (fun st_11 => by exact (
 (sm_nil (z := ()) (by exact (.keep (.keep (.keep (.keep (.drop (.keep (.keep (.keep (.keep (.keep (.keep (.drop (.drop LeR.nil)))))))))))))) (by exact le_noR rfl)))) hp))) (fun st_9 => by exact (
 (sm_frzDD (n := 10) (w := before_7) rfl rfl (fun before_12 => (sm_expr (em_append (em_var (n := 7) (w := layers_4) rfl rfl) (em_tup (am_cons (em_var (n := 9) (w := x_5.2.1.1) rfl rfl) (am_cons (em_var (n := 10) (w := before_12) rfl rfl) am_nil))) (pe_bm PySem.F.plainAttrs_list PySem.F.slot_list_append PySem.F.type_list_append mt_append pe_s (pa_cons pe_s pa_nil)))
 (sm_set (n := 6) sc__layers.nd rfl rfl (em_frz (lm_listD rfl T.list (em_var (n := 10) (w := before_12) rfl rfl))) (fun shapes_13 =>
 (sm_nil (z := shapes_13) (by exact (.keep (.keep (.keep (.keep (.drop (.drop (.keep (.keep (.drop (.drop (.drop (.drop (.drop LeR.nil)))))))))))))) (by exact le_noR rfl))))))))) hp))))) (fun st_6 => by exact (
 (sm_frz (n := 7) (w := layers_4) rfl rfl (fun layers_14 => (sm_ret (em_var (n := 7) (w := layers_14) rfl rfl)))))) hp)))))))))
abbrev s__begun : Stmt := top 7
theorem sc__begun : FnScope ["rows", "number", "larger", "smaller", "row", "x", "y"] ["rows", "number", "larger", "smaller"] (defScope s__begun) := ⟨rfl, rfl, rfl, by decide +kernel, rfl, by decide +kernel, by decide +kernel⟩
def g__begun (rows_0 number_0 larger_0 smaller_0 : W) : M (Res W Unit) :=
  (bd (toM (frzW (lc1 (tgT 3 (tgsC tgN (tgsC tgN (tgsC tgN tgs0)))) (fun _ => rt true) (fun x_1 => (binM (l2 pAddX) (binM (l2 pMulY) (tupM (apM (rt number_0) (rt []))) (binM (l2 pSub) (rt x_1.2.1) (rt x_1.2.2.1))) (rt x_1.1))) (z3M (rt rows_0) (rt larger_0) (rt smaller_0))))) fun w => rt (.ret w))
def b__begun : List W → M (Res W Unit)
  | [rows_0, number_0, larger_0, smaller_0] => g__begun rows_0 number_0 larger_0 smaller_0
  | _ => fun _ => .bad
def m__begun (ws : List W) : M W := finM (b__begun ws)
set_option maxHeartbeats 4000000 in
theorem ok__begun {P : Program} {w : World} {K : PySem.W.Frag} {mg : Str → Option Value} {base : Heap} {f : Addr} {fd : FuncData} (F : FunY K "_begun" "_begun" s__begun f fd) (T : MgB mg) : FnOk P w K mg base (L2.CX P w) 2 f fd ["rows", "number", "larger", "smaller"] (spM K w mg 4 m__begun) :=
  defM (g := fun _ => noR 7) (mb := b__begun) F sc__begun (by decide) (fun cdv A outer s H E hr hp ws hlen => by
    match ws, hlen with
    | [rows_0, number_0, larger_0, smaller_0], _ =>
      show SM _ _ _ _ (g__begun rows_0 number_0 larger_0 smaller_0) _
      unfold g__begun
      exact (
(sm_ret (em_tuple T.tuple (em_frz (LcP.lm (lcp0 (own := [("row", 4), ("x", 5), ("y", 6)]) (im_z3 T.zip (em_var (n := 0) (w := rows_0) rfl rfl) (em_var (n := 2) (w := larger_0) rfl rfl) (em_var (n := 3) (w := smaller_0) rfl rfl)) (GWx.gw (gwx_tup (gwxs_cons (gwx_name (by decide)) mon_name (gwxs_cons (gwx_name (by decide)) mon_name (gwxs_cons (gwx_name (by decide)) mon_name gwxs_nil mons_nil) (mons_cons mon_name mons_nil)) (mons_cons mon_name (mons_cons mon_name mons_nil)))) (mon_tup (mons_cons mon_name (mons_cons mon_name (mons_cons mon_name mons_nil))))) (by intro k hk; simp at hk; rcases hk with rfl | rfl | rfl <;> rfl) (gm_tup (gms_cons gm_name fun _ => (gms_cons gm_name fun _ => (gms_cons gm_name fun _ => gms_nil)))) (fun x_1 _ _ _ _ _ => (em_bin add_f (em_bin mul_f (em_tup (am_cons (em_var (n := 1) (w := number_0) rfl rfl) am_nil)) (em_bin sub_f (em_var (n := 5) (w := x_1.2.1) rfl rfl) (em_var (n := 6) (w := x_1.2.2.1) rfl rfl))) (em_var (n := 4) (w := x_1.1) rfl rfl))) sc__begun.nd (blkOk_by (N := ["rows", "number", "larger", "smaller", "row", "x", "y"]) (sc := defScope s__begun) (by decide +kernel)) (fun _ _ _ _ _ => (pg_tup rfl (pgs_cons (pg_name (i := 4) sc__begun.nd rfl (by first | exact .inl rfl | exact .inr rfl)) (pgs_cons (pg_name (i := 5) sc__begun.nd rfl (by first | exact .inl rfl | exact .inr rfl)) (pgs_cons (pg_name (i := 6) sc__begun.nd rfl (by first | exact .inl rfl | exact .inr rfl)) pgs_nil))))))))))))
abbrev s_fillings : Stmt := top 8
theorem sc_fillings : FnScope ["outer", "content", "inner", "found", "number", "before", "larger", "rows", "smaller", "_"] ["outer", "content", "inner"] (defScope s_fillings) := ⟨rfl, rfl, rfl, by decide +kernel, rfl, by decide +kernel, by decide +kernel⟩
def g_fillings (outer_0 content_0 inner_0 : W) : M (Res W Unit) :=
  (ifM (notM (tvM (callI 3 (apM (rt outer_0) (apM (rt content_0) (apM (rt inner_0) (rt [])))) m__is_full))) (retE (bd (tupM (rt [])) fun w => rt (.ret w))) (bd (frzW (lstM (apM (tupM (apM (rt outer_0) (apM (binM (l2 pMulY) (tupM (apM (tupM (rt [])) (rt []))) (biM fLen (apM (rt outer_0) (rt [])))) (rt [])))) (rt [])))) fun found_1 => (bd (sqM (frzW (revM (callI 3 (apM (rt outer_0) (apM (rt content_0) (apM (rt inner_0) (rt [])))) m__layers)))) fun ws => seqM (forM (stepM (tgT 2 (tgsC tgN (tgsC tgN tgs0))) fun x_2 (st_3 : W) => (bd (frzW (lc2 (tgT 2 (tgsC tgN (tgsC tgN tgs0))) (fun x_5 => rt true) (fun x_5 => (sqM (dgetM (rt x_2.2.1) (rt x_5.1) (frzW (lstM (rt [])))))) tgN (fun x_5 x_6 => rt true) (fun x_5 x_6 => (tupM (apM (rt x_6) (apM (callI 4 (apM (rt x_5.2.1) (apM (rt x_2.1) (apM (rt x_5.1) (apM (rt x_6) (rt []))))) m__begun) (rt []))))) (sqM (rt st_3)))) fun found_4 => (rt (.nxt found_4)))) ws found_1) fun st_3 => (bd (toM (frzW (srtDM (frzW (lc1 (tgT 2 (tgsC tgN (tgsC tgN tgs0))) (fun _ => rt true) (fun x_7 => (rt x_7.2.1)) (sqM (rt st_3))))))) fun w => rt (.ret w)))))
def b_fillings : List W → M (Res W Unit)
  | [outer_0, content_0, inner_0] => g_fillings outer_0 content_0 inner_0
  | _ => fun _ => .bad
def m_fillings (ws : List W) : M W := finM (b_fillings ws)
set_option maxHeartbeats 4000000 in
theorem ok_fillings {P : Program} {w : World} {K : PySem.W.Frag} {mg : Str → Option Value} {base : Heap} {f : Addr} {fd : FuncData} (F : FunY K "fillings" "fillings" s_fillings f fd) (T : MgB mg) (c__is_full : CalM P w K mg base 2 "_is_full" ["outer", "content", "inner"] 3 m__is_full) (c__layers : CalM P w K mg base 4 "_layers" ["outer", "content", "inner"] 3 m__layers) (c__begun : CalM P w K mg base 2 "_begun" ["rows", "number", "larger", "smaller"] 4 m__begun) : FnOk P w K mg base (L2.CX P w) 5 f fd ["outer", "content", "inner"] (spM K w mg 3 m_fillings) :=
  defM (g := fun _ => noR 10) (mb := b_fillings) F sc_fillings (by decide) (fun cdv A outer s H E hr hp ws hlen => by
    match ws, hlen with
    | [outer_0, content_0, inner_0], _ =>
      show SM _ _ _ _ (g_fillings outer_0 content_0 inner_0) _
      unfold g_fillings
      exact (
(sm_ifR (g0 := fun _ => noR 10) (tm_not (tm_val (em_callI c__is_full (hr.mono (by omega)) (am_cons (em_var (n := 0) (w := outer_0) rfl rfl) (am_cons (em_var (n := 1) (w := content_0) rfl rfl) (am_cons (em_var (n := 2) (w := inner_0) rfl rfl) am_nil))))))
 (sm_ret (em_tup am_nil))
 (sm_set (n := 3) sc_fillings.nd rfl rfl (em_frz (lm_lst (am_cons (em_tup (am_cons (em_var (n := 0) (w := outer_0) rfl rfl) (am_cons (em_bin mul_f (em_tup (am_cons (em_tup am_nil) am_nil)) (em_B len_f T.len (by decide +kernel) (am_cons (em_var (n := 0) (w := outer_0) rfl rfl) am_nil))) am_nil))) am_nil))) (fun found_1 =>
 (sm_for (F := fun (st_3 : W) => [some outer_0, some content_0, some inner_0, some st_3, none, none, none, none, none, none]) (Fb := fun x_2 (st_3 : W) => [some outer_0, some content_0, some inner_0, some st_3, some x_2.1, some x_2.2.1, none, none, none, none]) (z0 := found_1) (im_val (em_frz (lm_rev (em_callI c__layers (hr.mono (by omega)) (am_cons (em_var (n := 0) (w := outer_0) rfl rfl) (am_cons (em_var (n := 1) (w := content_0) rfl rfl) (am_cons (em_var (n := 2) (w := inner_0) rfl rfl) am_nil))))))) (pg_tup rfl (pgs_cons (pg_name (i := 4) sc_fillings.nd rfl (by first | exact .inl rfl | exact .inr rfl)) (pgs_cons (pg_name (i := 5) sc_fillings.nd rfl (by first | exact .inl rfl | exact .inr rfl)) pgs_nil))) (by exact (.keep (.keep (.keep (.keep (.drop (.drop (.drop (.drop (.drop (.drop LeR.nil))))))))))) (by exact le_noR rfl) (fun _ => (gm_tup (gms_cons gm_name fun _ => (gms_cons gm_name fun _ => gms_nil)))) (fun _ _ => by exact le_noR rfl) (fun x_2 st_3 => by exact (
 (sm_setF (n := 3) (lcp2 (own := [("larger", 6), ("rows", 7), ("smaller", 8)]) (vs1 := [8]) (im_val (em_var (n := 3) (w := st_3) rfl rfl)) (GWx.gw (gwx_tup (gwxs_cons (gwx_name (by decide)) mon_name (gwxs_cons (gwx_name (by decide)) mon_name gwxs_nil mons_nil) (mons_cons mon_name mons_nil))) (mon_tup (mons_cons mon_name (mons_cons mon_name mons_nil)))) (GWx.gw (gwx_name (by decide)) mon_name) (by intro k hk; simp at hk; rcases hk with rfl | rfl | rfl <;> rfl) (fun _ => (by intro k hk; simp at hk; rcases hk with rfl <;> rfl)) (gm_tup (gms_cons gm_name fun _ => (gms_cons gm_name fun _ => gms_nil))) (fun _ => gtm_yes) (fun x_5 _ _ _ _ _ => (im_val (em_dgetD hr (em_var (n := 5) (w := x_2.2.1) rfl rfl) (em_var (n := 6) (w := x_5.1) rfl rfl) (em_frz (lm_lst am_nil))))) (fun _ => gm_name) (fun _ _ => gtm_yes) (fun x_5 x_6 _ _ _ _ _ => (em_tup (am_cons (em_var (n := 8) (w := x_6) rfl rfl) (am_cons (em_callI c__begun (hr.mono (by omega)) (am_cons (em_var (n := 7) (w := x_5.2.1) rfl rfl) (am_cons (em_var (n := 4) (w := x_2.1) rfl rfl) (am_cons (em_var (n := 6) (w := x_5.1) rfl rfl) (am_cons (em_var (n := 8) (w := x_6) rfl rfl) am_nil))))) am_nil)))) sc_fillings.nd (blkOk_by (N := ["outer", "content", "inner", "found", "number", "before", "larger", "rows", "smaller", "_"]) (sc := defScope s_fillings) (by decide +kernel)) (by decide) (fun _ _ _ _ _ => (pg_tup rfl (pgs_cons (pg_name (i := 6) sc_fillings.nd rfl (by first | exact .inl rfl | exact .inr rfl)) (pgs_cons (pg_name (i := 7) sc_fillings.nd rfl (by first | exact .inl rfl | exact .inr rfl)) pgs_nil)))) (fun _ _ _ _ _ => (pg_name (i := 8) sc_fillings.nd rfl (by first | exact .inl rfl | exact .inr rfl))) pts0 pts0) sc_fillings.nd rfl rfl (sw_true rfl rfl rfl (by decide +kernel)) rfl (fun found_4 =>
 (sm_nil (z := found_4) (by exact (.keep (.keep (.keep (.keep (.drop (.drop (.drop (.drop (.drop (.drop LeR.nil))))))))))) (by exact le_noR rfl)))))) (fun st_3 => by exact (
 (sm_ret (em_tuple T.tuple (em_frz (lm_sortD hr T.sorted (em_frz (LcP.lm (lcp0 (own := [("_", 9), ("rows", 7)]) (im_val (em_var (n := 3) (w := st_3) rfl rfl)) (GWx.gw (gwx_tup (gwxs_cons (gwx_name (by decide)) mon_name (gwxs_cons (gwx_name (by decide)) mon_name gwxs_nil mons_nil) (mons_cons mon_name mons_nil))) (mon_tup (mons_cons mon_name (mons_cons mon_name mons_nil)))) (by intro k hk; simp at hk; rcases hk with rfl | rfl <;> rfl) (gm_tup (gms_cons gm_name fun _ => (gms_cons gm_name fun _ => gms_nil))) (fun x_7 _ _ _ _ _ => (em_var (n := 7) (w := x_7.2.1) rfl rfl)) sc_fillings.nd (blkOk_by (N := ["outer", "content", "inner", "found", "number", "before", "larger", "rows", "smaller", "_"]) (sc := defScope s_fillings) (by decide +kernel)) (fun _ _ _ _ _ => (pg_tup rfl (pgs_cons (pg_name (i := 9) sc_fillings.nd rfl (by first | exact .inl rfl | exact .inr rfl)) (pgs_cons (pg_name (i := 7) sc_fillings.nd rfl (by first | exact .inl rfl | exact .inr rfl)) pgs_nil))))))))))))) hp))))))
abbrev s_count_fillings : Stmt := top 9
theorem sc_count_fillings : FnScope ["outer", "content", "inner", "steps", "many", "counts", "done", "after", "shape", "larger"] ["outer", "content", "inner"] (defScope s_count_fillings) := ⟨rfl, rfl, rfl, by decide +kernel, rfl, by decide +kernel, by decide +kernel⟩
def g_count_fillings (outer_0 content_0 inner_0 : W) : M (Res W Unit) :=
  (ifM (notM (tvM (callI 3 (apM (rt outer_0) (apM (rt content_0) (apM (rt inner_0) (rt [])))) m__is_full))) (retE (bd (rt (.dat (.int 0))) fun w => rt (.ret w))) (bd (frzW (srtRM (frzW (lc1 tgN (fun x_2 => (cmpM (c2 cGt) (rt x_2) (rt (.dat (.int 0))))) (fun x_2 => (rt x_2)) (sqM (rt content_0)))))) fun steps_1 => (bd (ddspM (callI 2 (apM (rt inner_0) (apM (biM fLen (apM (rt outer_0) (rt []))) (rt []))) m__starts) (rt (.dat (.int 1)))) fun counts_3 => (bd (enM (rt steps_1)) fun ws => seqM (forM (stepM (tgT 2 (tgsC tgN (tgsC tgN tgs0))) fun x_4 (st_5 : W) => (bd dnewM fun after_6 => (bd (sqD (rt st_5)) fun ws => seqM (forM (stepM tgN fun x_7 (st_8 : Unit) => (bd (sqM (callI 4 (apM (rt outer_0) (apM (rt x_7) (apM (rt x_4.2.1) (apM (binM (l2 pSub) (binM (l2 pSub) (biM fLen (apM (rt steps_1) (rt []))) (rt x_4.1)) (rt (.dat (.int 1)))) (rt []))))) m__strips_up)) fun ws => seqM (forM (stepM tgN fun x_9 (st_10 : Unit) => (bd (setD (binM (l2 pAddX) (dgetM (rt after_6) (rt x_9) (rt (.dat (.int 0)))) (ixD (rt st_5) (rt x_7))) (rt after_6) (rt x_9)) fun _ => (rt (.nxt ())))) ws ()) fun st_10 => (rt (.nxt ())))) ws ()) fun st_8 => (bd (frzDM after_6) fun after_12 => (bd (rt after_12) fun counts_13 => (rt (.nxt counts_13))))))) ws counts_3) fun st_5 => (bd (dgetM (rt st_5) (rt outer_0) (rt (.dat (.int 0)))) fun w => rt (.ret w))))))
def b_count_fillings : List W → M (Res W Unit)
  | [outer_0, content_0, inner_0] => g_count_fillings outer_0 content_0 inner_0
  | _ => fun _ => .bad
def m_count_fillings (ws : List W) : M W := finM (b_count_fillings ws)
set_option maxHeartbeats 4000000 in
theorem ok_count_fillings {P : Program} {w : World} {K : PySem.W.Frag} {mg : Str → Option Value} {base : Heap} {f : Addr} {fd : FuncData} (F : FunY K "count_fillings" "count_fillings" s_count_fillings f fd) (T : MgB mg) (c__is_full : CalM P w K mg base 2 "_is_full" ["outer", "content", "inner"] 3 m__is_full) (c__starts : CalM P w K mg base 2 "_starts" ["inner", "many"] 2 m__starts) (c__strips_up : CalM P w K mg base 3 "_strips_up" ["outer", "shape", "k", "later"] 4 m__strips_up) : FnOk P w K mg base (L2.CX P w) 4 f fd ["outer", "content", "inner"] (spM K w mg 3 m_count_fillings) :=
  defM (g := fun _ => noR 10) (mb := b_count_fillings) F sc_count_fillings (by decide) (fun cdv A outer s H E hr hp ws hlen => by
    match ws, hlen with
    | [outer_0, content_0, inner_0], _ =>
      show SM _ _ _ _ (g_count_fillings outer_0 content_0 inner_0) _
      unfold g_count_fillings
      exact (
(sm_ifR (g0 := fun _ => noR 10) (tm_not (tm_val (em_callI c__is_full (hr.mono (by omega)) (am_cons (em_var (n := 0) (w := outer_0) rfl rfl) (am_cons (em_var (n := 1) (w := content_0) rfl rfl) (am_cons (em_var (n := 2) (w := inner_0) rfl rfl) am_nil))))))
 (sm_ret em_int)
 (sm_set (n := 3) sc_count_fillings.nd rfl rfl (em_frz (lm_sortR T.sorted (em_frz (LcP.lm (lcp1 (own := [("many", 4)]) (im_val (em_var (n := 1) (w := content_0) rfl rfl)) (GWx.gw (gwx_name (by decide)) mon_name) (by intro k hk; simp at hk; rcases hk with rfl <;> rfl) gm_name (fun x_2 _ _ _ _ _ => (tm_cmp gtF (em_var (n := 4) (w := x_2) rfl rfl) em_int)) (fun x_2 _ _ _ _ _ => (em_var (n := 4) (w := x_2) rfl rfl)) sc_count_fillings.nd (blkOk_by (N := ["outer", "content", "inner", "steps", "many", "counts", "done", "after", "shape", "larger"]) (sc := defScope s_count_fillings) (by decide +kernel)) (fun _ _ _ _ _ => (pg_name (i := 4) sc_count_fillings.nd rfl (by first | exact .inl rfl | exact .inr rfl)))))) (hp := by exact pe_callBK cr_sortedRev rfl T.sorted (by decide +kernel) pa_s (pk_cons pe_bl pk_nil)))) (fun steps_1 =>
 (sm_set (n := 5) sc_count_fillings.nd rfl rfl (em_ddsp hr (em_callI c__starts (hr.mono (by omega)) (am_cons (em_var (n := 2) (w := inner_0) rfl rfl) (am_cons (em_B len_f T.len (by decide +kernel) (am_cons (em_var (n := 0) (w := outer_0) rfl rfl) am_nil)) am_nil))) em_int) (fun counts_3 =>
 (sm_for (F := fun (st_5 : W) => [some outer_0, some content_0, some inner_0, some steps_1, none, some st_5, none, none, none, none]) (Fb := fun x_4 (st_5 : W) => [some outer_0, some content_0, some inner_0, some steps_1, some x_4.2.1, some st_5, some x_4.1, none, none, none]) (z0 := counts_3) (im_enum T.enumerate (em_var (n := 3) (w := steps_1) rfl rfl)) (pg_tup rfl (pgs_cons (pg_name (i := 6) sc_count_fillings.nd rfl (by first | exact .inl rfl | exact .inr rfl)) (pgs_cons (pg_name (i := 4) sc_count_fillings.nd rfl (by first | exact .inl rfl | exact .inr rfl)) pgs_nil))) (by exact (.keep (.keep (.keep (.keep (.drop (.keep (.drop (.drop (.drop (.drop LeR.nil))))))))))) (by exact le_noR rfl) (fun _ => (gm_tup (gms_cons gm_name fun _ => (gms_cons gm_name fun _ => gms_nil)))) (fun _ _ => by exact le_noR rfl) (fun x_4 st_5 => by exact (
 (sm_set (n := 7) sc_count_fillings.nd rfl rfl em_dnew (fun after_6 =>
 (sm_for (F := fun (st_8 : Unit) => [some outer_0, some content_0, some inner_0, some steps_1, some x_4.2.1, some st_5, some x_4.1, some after_6, none, none]) (Fb := fun x_7 (st_8 : Unit) => [some outer_0, some content_0, some inner_0, some steps_1, some x_4.2.1, some st_5, some x_4.1, some after_6, some x_7, none]) (z0 := ()) (im_valD (em_var (n := 5) (w := st_5) rfl rfl)) (pg_name (i := 8) sc_count_fillings.nd rfl (by first | exact .inl rfl | exact .inr rfl)) (by exact (.keep (.keep (.keep (.keep (.keep (.keep (.keep (.keep (.drop (.drop LeR.nil))))))))))) (by exact le_noR rfl) (fun _ => gm_name) (fun _ _ => by exact le_noR rfl) (fun x_7 st_8 => by exact (
 (sm_for (F := fun (st_10 : Unit) => [some outer_0, some content_0, some inner_0, some steps_1, some x_4.2.1, some st_5, some x_4.1, some after_6, some x_7, none]) (Fb := fun x_9 (st_10 : Unit) => [some outer_0, some content_0, some inner_0, some steps_1, some x_4.2.1, some st_5, some x_4.1, some after_6, some x_7, some x_9]) (z0 := ()) (im_val (em_callI c__strips_up (hr.mono (by omega)) (am_cons (em_var (n := 0) (w := outer_0) rfl rfl) (am_cons (em_var (n := 8) (w := x_7) rfl rfl) (am_cons (em_var (n := 4) (w := x_4.2.1) rfl rfl) (am_cons (em_bin sub_f (em_bin sub_f (em_B len_f T.len (by decide +kernel) (am_cons (em_var (n := 3) (w := steps_1) rfl rfl) am_nil)) (em_var (n := 6) (w := x_4.1) rfl rfl)) em_int) am_nil)))))) (pg_name (i := 9) sc_count_fillings.nd rfl (by first | exact .inl rfl | exact .inr rfl)) (by exact (.keep (.keep (.keep (.keep (.keep (.keep (.keep (.keep (.keep (.drop LeR.nil))))))))))) (by exact le_noR rfl) (fun _ => gm_name) (fun _ _ => by exact le_noR rfl) (fun x_9 st_10 => by exact (
 (sm_putD hr (em_bin add_f (em_dgetD hr (em_var (n := 7) (w := after_6) rfl rfl) (em_var (n := 9) (w := x_9) rfl rfl) em_int) (em_ixD hr (em_var (n := 5) (w := st_5) rfl rfl) (em_var (n := 8) (w := x_7) rfl rfl))) (em_var (n := 7) (w := after_6) rfl rfl) (em_var (n := 9) (w := x_9) rfl rfl) (sm_nil (z := ()) (by exact (.keep (.keep (.keep (.keep (.keep (.keep (.keep (.keep (.keep (.drop LeR.nil))))))))))) (by exact le_noR rfl)) (ps_asg pe_s (pg_sub pe_s pe_s wSet_r))))) (fun st_10 => by exact (
 (sm_nil (z := ()) (by exact (.keep (.keep (.keep (.keep (.keep (.keep (.keep (.keep (.drop (.drop LeR.nil))))))))))) (by exact le_noR rfl)))) hp))) (fun st_8 => by exact (
 (sm_frzD (n := 7) (w := after_6) rfl rfl (fun after_12 => (sm_set (n := 5) sc_count_fillings.nd rfl rfl (em_var (n := 7) (w := after_12) rfl rfl) (fun counts_13 =>
 (sm_nil (z := counts_13) (by exact (.keep (.keep (.keep (.keep (.drop (.keep (.drop (.drop (.drop (.drop LeR.nil))))))))))) (by exact le_noR rfl)))))))) hp))))) (fun st_5 => by exact (
 (sm_ret (em_dgetD hr (em_var (n := 5) (w := st_5) rfl rfl) (em_var (n := 0) (w := outer_0) rfl rfl) em_int)))) hp))))))))
abbrev s__law_partitions : Stmt := top 13
theorem sc__law_partitions : FnScope ["n", "most", "out", "head", "rest"] ["n", "most"] (defScope s__law_partitions) := ⟨rfl, rfl, rfl, by decide +kernel, rfl, by decide +kernel, by decide +kernel⟩
def g__law_partitions (rec : List W → M W) (n_0 most_0 : W) : M (Res W Unit) :=
  (ifM (cmpM (c2 cEq) (rt n_0) (rt (.dat (.int 0)))) (retE (bd (frzW (lstM (apM (tupM (rt [])) (rt [])))) fun w => rt (.ret w))) (bd (ownW (lstM (rt []))) fun out_1 => (bd (rgD (biM (u2 pMin) (apM (rt n_0) (apM (rt most_0) (rt [])))) (rt (.dat (.int 0)))) fun ws => seqM (forM (stepM tgN fun x_2 (st_3 : Unit) => (bd (sqM (callI 2 (apM (binM (l2 pSub) (rt n_0) (rt x_2)) (apM (rt x_2) (rt []))) rec)) fun ws => seqM (forM (stepM tgN fun x_4 (st_5 : Unit) => (bd (appM (rt out_1) (binM (l2 pAddX) (tupM (apM (rt x_2) (rt []))) (rt x_4))) fun _ => (rt (.nxt ())))) ws ()) fun st_5 => (rt (.nxt ())))) ws ()) fun st_3 => (bd (frzM out_1) fun out_6 => (bd (rt out_6) fun w => rt (.ret w))))))
def b__law_partitions (rec : List W → M W) : List W → M (Res W Unit)
  | [n_0, most_0] => g__law_partitions rec n_0 most_0
  | _ => fun _ => .bad
def r__law_partitions : Nat → List W → M W
  | 0, _ => fun _ => .bad
  | n + 1, ws => finM (b__law_partitions (r__law_partitions n) ws)
def m__law_partitions : List W → M W := r__law_partitions 9
set_option maxHeartbeats 4000000 in
theorem ok__law_partitions {P : Program} {w : World} {K : PySem.W.Frag} {mg : Str → Option Value} {base : Heap} {f : Addr} {fd : FuncData} (F : FunY K "_law_partitions" "_law_partitions" s__law_partitions f fd) (T : MgB mg) (m0 : mg "_law_partitions" = some (.ref f)) (b0 : Binds K fd ["n", "most"] []) : ∀ n : Nat, FnOk P w K mg base (L2.CX P w) (1 + n) f fd ["n", "most"] (spM K w mg 2 (r__law_partitions n))
  | 0 => FnOk.bad rfl
  | n + 1 => by
    have ih := ok__law_partitions (P := P) (w := w) (base := base) F T m0 b0 n
    have c__law_partitions : CalM P w K mg base (1 + n) "_law_partitions" ["n", "most"] 2 (r__law_partitions n) := ⟨f, fd, ih, m0, F.kp, b0⟩
    exact defM (g := fun _ => noR 5) (mb := b__law_partitions (r__law_partitions n)) F sc__law_partitions (by decide) (fun cdv A outer s H E hr hp ws hlen => by
    match ws, hlen with
    | [n_0, most_0], _ =>
      show SM _ _ _ _ (g__law_partitions (r__law_partitions n) n_0 most_0) _
      unfold g__law_partitions
      exact (
(sm_ifR (g0 := fun _ => noR 5) (tm_cmp (eqF hr) (em_var (n := 0) (w := n_0) rfl rfl) em_int)
 (sm_ret (em_frz (lm_lst (am_cons (em_tup am_nil) am_nil))))
 (sm_set (n := 2) sc__law_partitions.nd rfl rfl (em_own (lm_lst am_nil)) (fun out_1 =>
 (sm_for (F := fun (st_3 : Unit) => [some n_0, some most_0, some out_1, none, none]) (Fb := fun x_2 (st_3 : Unit) => [some n_0, some most_0, some out_1, some x_2, none]) (z0 := ()) (im_down T.range (em_B (min_f rfl) T.min (by decide +kernel) (am_cons (em_var (n := 0) (w := n_0) rfl rfl) (am_cons (em_var (n := 1) (w := most_0) rfl rfl) am_nil))) em_int) (pg_name (i := 3) sc__law_partitions.nd rfl (by first | exact .inl rfl | exact .inr rfl)) (by exact (.keep (.keep (.keep (.drop (.drop LeR.nil)))))) (by exact le_noR rfl) (fun _ => gm_name) (fun _ _ => by exact le_noR rfl) (fun x_2 st_3 => by exact (
 (sm_for (F := fun (st_5 : Unit) => [some n_0, some most_0, some out_1, some x_2, none]) (Fb := fun x_4 (st_5 : Unit) => [some n_0, some most_0, some out_1, some x_2, some x_4]) (z0 := ()) (im_val (em_callI c__law_partitions hr (am_cons (em_bin sub_f (em_var (n := 0) (w := n_0) rfl rfl) (em_var (n := 3) (w := x_2) rfl rfl)) (am_cons (em_var (n := 3) (w := x_2) rfl rfl) am_nil)))) (pg_name (i := 4) sc__law_partitions.nd rfl (by first | exact .inl rfl | exact .inr rfl)) (by exact (.keep (.keep (.keep (.keep (.drop LeR.nil)))))) (by exact le_noR rfl) (fun _ => gm_name) (fun _ _ => by exact le_noR rfl) (fun x_4 st_5 => by exact (
 (sm_expr (em_append (em_var (n := 2) (w := out_1) rfl rfl) (em_bin add_f (em_tup (am_cons (em_var (n := 3) (w := x_2) rfl rfl) am_nil)) (em_var (n := 4) (w := x_4) rfl rfl)) (pe_bm PySem.F.plainAttrs_list PySem.F.slot_list_append PySem.F.type_list_append mt_append pe_s (pa_cons pe_s pa_nil)))
 (sm_nil (z := ()) (by exact (.keep (.keep (.keep (.keep (.drop LeR.nil)))))) (by exact le_noR rfl))))) (fun st_5 => by exact (
 (sm_nil (z := ()) (by exact (.keep (.keep (.keep (.drop (.drop LeR.nil)))))) (by exact le_noR rfl)))) hp))) (fun st_3 => by exact (
 (sm_frz (n := 2) (w := out_1) rfl rfl (fun out_6 => (sm_ret (em_var (n := 2) (w := out_6) rfl rfl)))))) hp))))))
abbrev s__law_drawn_partition : Stmt := top 14
theorem sc__law_drawn_partition : FnScope ["state", "n", "rows"] ["state", "n"] (defScope s__law_drawn_partition) := ⟨rfl, rfl, rfl, by decide +kernel, rfl, by decide +kernel, by decide +kernel⟩
def g__law_drawn_partition (state_0 n_0 : W) : M (Res W Unit) :=
  (bd (callI 2 (apM (rt n_0) (apM (rt n_0) (rt []))) m__law_partitions) fun rows_1 => (bd (ixM (rt rows_1) (callM 2 (apM (rt state_0) (apM (biM fLen (apM (rt rows_1) (rt []))) (rt []))) m__law_take)) fun w => rt (.ret w)))
def b__law_drawn_partition : List W → M (Res W Unit)
  | [state_0, n_0] => g__law_drawn_partition state_0 n_0
  | _ => fun _ => .bad
def m__law_drawn_partition (ws : List W) : M W := finM (b__law_drawn_partition ws)
set_option maxHeartbeats 4000000 in
theorem ok__law_drawn_partition {P : Program} {w : World} {K : PySem.W.Frag} {mg : Str → Option Value} {base : Heap} {f : Addr} {fd : FuncData} (F : FunY K "_law_drawn_partition" "_law_drawn_partition" s__law_drawn_partition f fd) (T : MgB mg) (c__law_partitions : CalM P w K mg base 10 "_law_partitions" ["n", "most"] 2 m__law_partitions) (c__law_take : CalM P w K mg base 1 "_law_take" ["state", "m"] 2 m__law_take) : FnOk P w K mg base (L2.CX P w) 11 f fd ["state", "n"] (spM K w mg 2 m__law_drawn_partition) :=
  defM (g := fun _ => noR 3) (mb := b__law_drawn_partition) F sc__law_drawn_partition (by decide) (fun cdv A outer s H E hr hp ws hlen => by
    match ws, hlen with
    | [state_0, n_0], _ =>
      show SM _ _ _ _ (g__law_drawn_partition state_0 n_0) _
      unfold g__law_drawn_partition
      exact (
(sm_set (n := 2) sc__law_drawn_partition.nd rfl rfl (em_callI c__law_partitions (hr.mono (by omega)) (am_cons (em_var (n := 1) (w := n_0) rfl rfl) (am_cons (em_var (n := 1) (w := n_0) rfl rfl) am_nil))) (fun rows_1 =>
 (sm_ret (em_ix (em_var (n := 2) (w := rows_1) rfl rfl) (em_call c__law_take (hr.mono (by omega)) (am_cons (em_var (n := 0) (w := state_0) rfl rfl) (am_cons (em_B len_f T.len (by decide +kernel) (am_cons (em_var (n := 2) (w := rows_1) rfl rfl) am_nil)) am_nil)))))))))
abbrev s__law_at : Stmt := top 15
theorem sc__law_at : FnScope ["a", "i"] ["a", "i"] (defScope s__law_at) := ⟨rfl, rfl, rfl, by decide +kernel, rfl, by decide +kernel, by decide +kernel⟩
def g__law_at (a_0 i_0 : W) : M (Res W Unit) :=
  (bd (ifM (cmpM (c2 cLt) (rt i_0) (biM fLen (apM (rt a_0) (rt [])))) (ixM (rt a_0) (rt i_0)) (rt (.dat (.int 0)))) fun w => rt (.ret w))
def b__law_at : List W → M (Res W Unit)
  | [a_0, i_0] => g__law_at a_0 i_0
  | _ => fun _ => .bad
def m__law_at (ws : List W) : M W := finM (b__law_at ws)
set_option maxHeartbeats 4000000 in
theorem ok__law_at {P : Program} {w : World} {K : PySem.W.Frag} {mg : Str → Option Value} {base : Heap} {f : Addr} {fd : FuncData} (F : FunY K "_law_at" "_law_at" s__law_at f fd) (T : MgB mg) : FnOk P w K mg base (L2.CX P w) 2 f fd ["a", "i"] (spM K w mg 2 m__law_at) :=
  defM (g := fun _ => noR 2) (mb := b__law_at) F sc__law_at (by decide) (fun cdv A outer s H E hr hp ws hlen => by
    match ws, hlen with
    | [a_0, i_0], _ =>
      show SM _ _ _ _ (g__law_at a_0 i_0) _
      unfold g__law_at
      exact (
(sm_ret (em_if (tm_cmp (ltF hr) (em_var (n := 1) (w := i_0) rfl rfl) (em_B len_f T.len (by decide +kernel) (am_cons (em_var (n := 0) (w := a_0) rfl rfl) am_nil))) (em_ix (em_var (n := 0) (w := a_0) rfl rfl) (em_var (n := 1) (w := i_0) rfl rfl)) em_int))))
abbrev s__law_subpartitions : Stmt := top 16
theorem sc__law_subpartitions : FnScope ["a", "out", "i", "longer", "b", "most", "part"] ["a"] (defScope s__law_subpartitions) := ⟨rfl, rfl, rfl, by decide +kernel, rfl, by decide +kernel, by decide +kernel⟩
def g__law_subpartitions (a_0 : W) : M (Res W Unit) :=
  (bd (frzW (lstM (apM (tupM (rt [])) (rt [])))) fun out_1 => (bd (rg1 (biM fLen (apM (rt a_0) (rt [])))) fun ws => seqM (forM (stepM tgN fun x_2 (st_3 : W) => (bd (ownW (lstM (rt []))) fun longer_4 => (bd (sqM (rt st_3)) fun ws => seqM (forM (stepM tgN fun x_5 (st_6 : Unit) => (bd (ifM (cmpM (c2 cEq) (rt x_2) (rt (.dat (.int 0)))) (ixM (rt a_0) (rt x_2)) (biM (u2 pMin) (apM (ixM (rt a_0) (rt x_2)) (apM (ifM (cmpM (c2 cEq) (biM fLen (apM (rt x_5) (rt []))) (rt x_2)) (ixM (rt x_5) (binM (l2 pSub) (rt x_2) (rt (.dat (.int 1))))) (rt (.dat (.int 0)))) (rt []))))) fun most_7 => (bd (rg2 (rt (.dat (.int 1))) (binM (l2 pAddX) (rt most_7) (rt (.dat (.int 1))))) fun ws => seqM (forM (stepM tgN fun x_8 (st_9 : Unit) => (seqM (ifM (cmpM (c2 cEq) (biM fLen (apM (rt x_5) (rt []))) (rt x_2)) (bd (appM (rt longer_4) (binM (l2 pAddX) (rt x_5) (tupM (apM (rt x_8) (rt []))))) fun _ => (rt (.nxt ()))) ((rt (.nxt ())) : M (Res W (Unit)))) fun st_10 => (rt (.nxt ())))) ws ()) fun st_9 => (rt (.nxt ()))))) ws ()) fun st_6 => (bd (frzM longer_4) fun longer_12 => (bd (binM (l2 pAddX) (rt st_3) (rt longer_12)) fun out_13 => (rt (.nxt out_13))))))) ws out_1) fun st_3 => (bd (rt st_3) fun w => rt (.ret w))))
def b__law_subpartitions : List W → M (Res W Unit)
  | [a_0] => g__law_subpartitions a_0
  | _ => fun _ => .bad
def m__law_subpartitions (ws : List W) : M W := finM (b__law_subpartitions ws)
set_option maxHeartbeats 4000000 in
theorem ok__law_subpartitions {P : Program} {w : World} {K : PySem.W.Frag} {mg : Str → Option Value} {base : Heap} {f : Addr} {fd : FuncData} (F : FunY K "_law_subpartitions" "_law_subpartitions" s__law_subpartitions f fd) (T : MgB mg) : FnOk P w K mg base (L2.CX P w) 2 f fd ["a"] (spM K w mg 1 m__law_subpartitions) :=
  defM (g := fun _ => noR 7) (mb := b__law_subpartitions) F sc__law_subpartitions (by decide) (fun cdv A outer s H E hr hp ws hlen => by
    match ws, hlen with
    | [a_0], _ =>
      show SM _ _ _ _ (g__law_subpartitions a_0) _
      unfold g__law_subpartitions
      exact (
(sm_set (n := 1) sc__law_subpartitions.nd rfl rfl (em_frz (lm_lst (am_cons (em_tup am_nil) am_nil))) (fun out_1 =>
 (sm_for (F := fun (st_3 : W) => [some a_0, some st_3, none, none, none, none, none]) (Fb := fun x_2 (st_3 : W) => [some a_0, some st_3, some x_2, none, none, none, none]) (z0 := out_1) (im_range1 T.range (em_B len_f T.len (by decide +kernel) (am_cons (em_var (n := 0) (w := a_0) rfl rfl) am_nil))) (pg_name (i := 2) sc__law_subpartitions.nd rfl (by first | exact .inl rfl | exact .inr rfl)) (by exact (.keep (.keep (.drop (.drop (.drop (.drop (.drop LeR.nil)))))))) (by exact le_noR rfl) (fun _ => gm_name) (fun _ _ => by exact le_noR rfl) (fun x_2 st_3 => by exact (
 (sm_set (n := 3) sc__law_subpartitions.nd rfl rfl (em_own (lm_lst am_nil)) (fun longer_4 =>
 (sm_for (F := fun (st_6 : Unit) => [some a_0, some st_3, some x_2, some longer_4, none, none, none]) (Fb := fun x_5 (st_6 : Unit) => [some a_0, some st_3, some x_2, some longer_4, some x_5, none, none]) (z0 := ()) (im_val (em_var (n := 1) (w := st_3) rfl rfl)) (pg_name (i := 4) sc__law_subpartitions.nd rfl (by first | exact .inl rfl | exact .inr rfl)) (by exact (.keep (.keep (.keep (.keep (.drop (.drop (.drop LeR.nil)))))))) (by exact le_noR rfl) (fun _ => gm_name) (fun _ _ => by exact le_noR rfl) (fun x_5 st_6 => by exact (
 (sm_set (n := 5) sc__law_subpartitions.nd rfl rfl (em_if (tm_cmp (eqF hr) (em_var (n := 2) (w := x_2) rfl rfl) em_int) (em_ix (em_var (n := 0) (w := a_0) rfl rfl) (em_var (n := 2) (w := x_2) rfl rfl)) (em_B (min_f rfl) T.min (by decide +kernel) (am_cons (em_ix (em_var (n := 0) (w := a_0) rfl rfl) (em_var (n := 2) (w := x_2) rfl rfl)) (am_cons (em_if (tm_cmp (eqF hr) (em_B len_f T.len (by decide +kernel) (am_cons (em_var (n := 4) (w := x_5) rfl rfl) am_nil)) (em_var (n := 2) (w := x_2) rfl rfl)) (em_ix (em_var (n := 4) (w := x_5) rfl rfl) (em_bin sub_f (em_var (n := 2) (w := x_2) rfl rfl) em_int)) em_int) am_nil)))) (fun most_7 =>
 (sm_for (F := fun (st_9 : Unit) => [some a_0, some st_3, some x_2, some longer_4, some x_5, some most_7, none]) (Fb := fun x_8 (st_9 : Unit) => [some a_0, some st_3, some x_2, some longer_4, some x_5, some most_7, some x_8]) (z0 := ()) (im_range2 T.range em_int (em_bin add_f (em_var (n := 5) (w := most_7) rfl rfl) em_int)) (pg_name (i := 6) sc__law_subpartitions.nd rfl (by first | exact .inl rfl | exact .inr rfl)) (by exact (.keep (.keep (.keep (.keep (.keep (.keep (.drop LeR.nil)))))))) (by exact le_noR rfl) (fun _ => gm_name) (fun _ _ => by exact le_noR rfl) (fun x_8 st_9 => by exact (
 (sm_if (g1 := fun (st_10 : Unit) => [some a_0, some st_3, some x_2, some longer_4, some x_5, some most_7, some x_8]) (tm_cmp (eqF hr) (em_B len_f T.len (by decide +kernel) (am_cons (em_var (n := 4) (w := x_5) rfl rfl) am_nil)) (em_var (n := 2) (w := x_2) rfl rfl))
 (sm_expr (em_append (em_var (n := 3) (w := longer_4) rfl rfl) (em_bin add_f (em_var (n := 4) (w := x_5) rfl rfl) (em_tup (am_cons (em_var (n := 6) (w := x_8) rfl rfl) am_nil))) (pe_bm PySem.F.plainAttrs_list PySem.F.slot_list_append PySem.F.type_list_append mt_append pe_s (pa_cons pe_s pa_nil)))
 (sm_nil (z := ()) (by exact (.keep (.keep (.keep (.keep (.keep (.keep (.keep LeR.nil)))))))) (by exact le_noR rfl)))
 (sm_nil (z := ()) (by exact (.keep (.keep (.keep (.keep (.keep (.keep (.keep LeR.nil)))))))) (by exact le_noR rfl))
 (fun st_10 => (sm_nil (z := ()) (by exact (.keep (.keep (.keep (.keep (.keep (.keep (.drop LeR.nil)))))))) (by exact le_noR rfl)))))) (fun st_9 => by exact (
 (sm_nil (z := ()) (by exact (.keep (.keep (.keep (.keep (.drop (.drop (.drop LeR.nil)))))))) (by exact le_noR rfl)))) hp))))) (fun st_6 => by exact (
 (sm_frz (n := 3) (w := longer_4) rfl rfl (fun longer_12 => (sm_set (n := 1) sc__law_subpartitions.nd rfl rfl (em_bin add_f (em_var (n := 1) (w := st_3) rfl rfl) (em_var (n := 3) (w := longer_12) rfl rfl)) (fun out_13 =>
 (sm_nil (z := out_13) (by exact (.keep (.keep (.drop (.drop (.drop (.drop (.drop LeR.nil)))))))) (by exact le_noR rfl)))))))) hp))))) (fun st_3 => by exact (
 (sm_ret (em_var (n := 1) (w := st_3) rfl rfl)))) hp)))))
abbrev s__law_shape : Stmt := top 17
theorem sc__law_shape : FnScope ["state", "most", "outer", "inner", "below", "b"] ["state", "most"] (defScope s__law_shape) := ⟨rfl, rfl, rfl, by decide +kernel, rfl, by decide +kernel, by decide +kernel⟩
def g__law_shape (state_0 most_0 : W) : M (Res W Unit) :=
  (bd (callM 2 (apM (rt state_0) (apM (callM 2 (apM (rt state_0) (apM (binM (l2 pAddX) (rt most_0) (rt (.dat (.int 1)))) (rt []))) m__law_take) (rt []))) m__law_drawn_partition) fun outer_1 => (bd (tupM (rt [])) fun inner_2 => (seqM (ifM (cmpM (c2 cEq) (callM 2 (apM (rt state_0) (apM (rt (.dat (.int 2))) (rt []))) m__law_take) (rt (.dat (.int 0)))) (bd (frzW (lc1 tgN (fun x_5 => (cmpM (c2 cLe) (biM (u1 pSum) (apM (rt x_5) (rt []))) (rt (.dat (.int 3))))) (fun x_5 => (rt x_5)) (sqM (callI 1 (apM (rt outer_1) (rt [])) m__law_subpartitions)))) fun below_4 => (bd (ixM (rt below_4) (callM 2 (apM (rt state_0) (apM (biM fLen (apM (rt below_4) (rt []))) (rt []))) m__law_take)) fun inner_6 => (rt (.nxt inner_6)))) ((rt (.nxt inner_2)) : M (Res W (W)))) fun st_3 => (bd (tupM (apM (rt outer_1) (apM (rt st_3) (rt [])))) fun w => rt (.ret w)))))
def b__law_shape : List W → M (Res W Unit)
  | [state_0, most_0] => g__law_shape state_0 most_0
  | _ => fun _ => .bad
def m__law_shape (ws : List W) : M W := finM (b__law_shape ws)
set_option maxHeartbeats 4000000 in
theorem ok__law_shape {P : Program} {w : World} {K : PySem.W.Frag} {mg : Str → Option Value} {base : Heap} {f : Addr} {fd : FuncData} (F : FunY K "_law_shape" "_law_shape" s__law_shape f fd) (T : MgB mg) (c__law_take : CalM P w K mg base 1 "_law_take" ["state", "m"] 2 m__law_take) (c__law_drawn_partition : CalM P w K mg base 11 "_law_drawn_partition" ["state", "n"] 2 m__law_drawn_partition) (c__law_subpartitions : CalM P w K mg base 2 "_law_subpartitions" ["a"] 1 m__law_subpartitions) : FnOk P w K mg base (L2.CX P w) 12 f fd ["state", "most"] (spM K w mg 2 m__law_shape) :=
  defM (g := fun _ => noR 6) (mb := b__law_shape) F sc__law_shape (by decide) (fun cdv A outer s H E hr hp ws hlen => by
    match ws, hlen with
    | [state_0, most_0], _ =>
      show SM _ _ _ _ (g__law_shape state_0 most_0) _
      unfold g__law_shape
      exact (
(sm_set (n := 2) sc__law_shape.nd rfl rfl (em_call c__law_drawn_partition (hr.mono (by omega)) (am_cons (em_var (n := 0) (w := state_0) rfl rfl) (am_cons (em_call c__law_take (hr.mono (by omega)) (am_cons (em_var (n := 0) (w := state_0) rfl rfl) (am_cons (em_bin add_f (em_var (n := 1) (w := most_0) rfl rfl) em_int) am_nil))) am_nil))) (fun outer_1 =>
 (sm_set (n := 3) sc__law_shape.nd rfl rfl (em_tup am_nil) (fun inner_2 =>
 (sm_if (g1 := fun (st_3 : W) => [some state_0, some most_0, some outer_1, some st_3, none, none]) (tm_cmp (eqF hr) (em_call c__law_take (hr.mono (by omega)) (am_cons (em_var (n := 0) (w := state_0) rfl rfl) (am_cons em_int am_nil))) em_int)
 (sm_setF (n := 4) (lcp1 (own := [("b", 5)]) (im_val (em_callI c__law_subpartitions (hr.mono (by omega)) (am_cons (em_var (n := 2) (w := outer_1) rfl rfl) am_nil))) (GWx.gw (gwx_name (by decide)) mon_name) (by intro k hk; simp at hk; rcases hk with rfl <;> rfl) gm_name (fun x_5 _ _ _ _ _ => (tm_cmp leF (em_B (sum_f rfl) T.sum (by decide +kernel) (am_cons (em_var (n := 5) (w := x_5) rfl rfl) am_nil)) em_int)) (fun x_5 _ _ _ _ _ => (em_var (n := 5) (w := x_5) rfl rfl)) sc__law_shape.nd (blkOk_by (N := ["state", "most", "outer", "inner", "below", "b"]) (sc := defScope s__law_shape) (by decide +kernel)) (fun _ _ _ _ _ => (pg_name (i := 5) sc__law_shape.nd rfl (by first | exact .inl rfl | exact .inr rfl)))) sc__law_shape.nd rfl rfl (sw_true rfl rfl rfl (by decide +kernel)) rfl (fun below_4 =>
 (sm_set (n := 3) sc__law_shape.nd rfl rfl (em_ix (em_var (n := 4) (w := below_4) rfl rfl) (em_call c__law_take (hr.mono (by omega)) (am_cons (em_var (n := 0) (w := state_0) rfl rfl) (am_cons (em_B len_f T.len (by decide +kernel) (am_cons (em_var (n := 4) (w := below_4) rfl rfl) am_nil)) am_nil)))) (fun inner_6 =>
 (sm_nil (z := inner_6) (by exact (.keep (.keep (.keep (.keep (.drop (.drop LeR.nil))))))) (by exact le_noR rfl))))))
 (sm_nil (z := inner_2) (by exact (.keep (.keep (.keep (.keep (.drop (.drop LeR.nil))))))) (by exact le_noR rfl))
 (fun st_3 => (sm_ret (em_tup (am_cons (em_var (n := 2) (w := outer_1) rfl rfl) (am_cons (em_var (n := 3) (w := st_3) rfl rfl) am_nil))))))))))))
end K14
noncomputable section
namespace K14
open PySem L2 Pd Gn PySem.Spec PyProof.Rows Zq Hx
abbrev s_law : Stmt := top 18
theorem sc_law : FnScope ["script", "state", "outer", "inner", "boxes", "content", "k", "told", "left", "other", "at", "wide"] ["script"] (defScope s_law) := ⟨rfl, rfl, rfl, by decide +kernel, rfl, by decide +kernel, by decide +kernel⟩
def g_law (script_0 : W) : M (Res W Unit) :=
  (bd (callM 1 (apM (rt script_0) (rt [])) m__law_state) fun state_1 => (bd (callM 2 (apM (rt state_1) (apM (rt (.dat (.int 7))) (rt []))) m__law_shape) fun w => bd (lf ((tgT 2 (tgsC tgN (tgsC tgN tgs0))) w)) fun p_2 => (bd (binM (l2 pSub) (biM (u1 pSum) (apM (rt p_2.1) (rt []))) (biM (u1 pSum) (apM (rt p_2.2.1) (rt [])))) fun boxes_3 => (bd (ownW (lstM (rt []))) fun content_4 => (bd (rg1 (binM (l2 pAddX) (rt (.dat (.int 1))) (callM 2 (apM (rt state_1) (apM (rt (.dat (.int 4))) (rt []))) m__law_take))) fun ws => seqM (forM (stepM tgN fun x_5 (st_6 : Unit) => (bd (appM (rt content_4) (callM 2 (apM (rt state_1) (apM (binM (l2 pSub) (binM (l2 pAddX) (rt (.dat (.int 1))) (rt boxes_3)) (biM (u1 pSum) (apM (rt content_4) (rt [])))) (rt []))) m__law_take)) fun _ => (rt (.nxt ())))) ws ()) fun st_6 => (seqM (ifM (cmpM (c2 cGt) (callM 2 (apM (rt state_1) (apM (rt (.dat (.int 4))) (rt []))) m__law_take) (rt (.dat (.int 0)))) (bd (setM (binM (l2 pSub) (binM (l2 pAddX) (ixM (rt content_4) (rt (.dat (.int 0)))) (rt boxes_3)) (biM (u1 pSum) (apM (rt content_4) (rt [])))) (rt content_4) (rt (.dat (.int 0)))) fun _ => (rt (.nxt ()))) ((rt (.nxt ())) : M (Res W (Unit)))) fun st_7 => (bd (callI 3 (apM (rt p_2.1) (apM (toM (rt content_4)) (apM (rt p_2.2.1) (rt [])))) m_count_fillings) fun told_8 => (ifM (orM (notM (tvM (isiM isIntO (rt told_8)))) (orM (tvM (isiM isBoolO (rt told_8))) (cmpM (c2 cNe) (rt told_8) (biM fLen (apM (callI 3 (apM (rt p_2.1) (apM (toM (rt content_4)) (apM (rt p_2.2.1) (rt [])))) m_fillings) (rt [])))))) (retE (bd (rt (.dat (.bool false))) fun w => rt (.ret w))) (ifM (andM (cmpM (c2 cNe) (biM (u1 pSum) (apM (rt content_4) (rt []))) (rt boxes_3)) (cmpM (c2 cNe) (rt told_8) (rt (.dat (.int 0))))) (retE (bd (rt (.dat (.bool false))) fun w => rt (.ret w))) (bd (ownW (loM (rt content_4))) fun left_9 => (bd (ownW (lstM (rt []))) fun other_10 => (bd (rg1 (biM fLen (apM (rt content_4) (rt [])))) fun ws => seqM (forM (stepM tgN fun x_11 (st_12 : Unit) => (bd (appM (rt other_10) (popI (rt left_9) (callM 2 (apM (rt state_1) (apM (biM fLen (apM (rt left_9) (rt []))) (rt []))) m__law_take))) fun _ => (rt (.nxt ())))) ws ()) fun st_12 => (ifM (cmpM (c2 cNe) (callI 3 (apM (rt p_2.1) (apM (toM (rt other_10)) (apM (rt p_2.2.1) (rt [])))) m_count_fillings) (rt told_8)) (retE (bd (rt (.dat (.bool false))) fun w => rt (.ret w))) (bd (callM 2 (apM (rt state_1) (apM (binM (l2 pAddX) (biM fLen (apM (rt content_4) (rt []))) (rt (.dat (.int 1)))) (rt []))) m__law_take) fun at_13 => (bd (toM (binM (l2 pAddX) (binM (l2 pAddX) (slM (rt content_4) (rt none) (soM (rt at_13))) (frzW (lstM (apM (rt (.dat (.int 0))) (rt []))))) (slM (rt content_4) (soM (rt at_13)) (rt none)))) fun wide_14 => (ifM (orM (cmpM (c2 cNe) (callI 3 (apM (rt p_2.1) (apM (rt wide_14) (apM (rt p_2.2.1) (rt [])))) m_count_fillings) (rt told_8)) (cmpM (c2 cNe) (biM fLen (apM (callI 3 (apM (rt p_2.1) (apM (rt wide_14) (apM (rt p_2.2.1) (rt [])))) m_fillings) (rt []))) (rt told_8))) (retE (bd (rt (.dat (.bool false))) fun w => rt (.ret w))) (bd (bW (orM (bvM (bW (cmpM (c2 cNe) (rt p_2.2.1) (tupM (rt []))))) (bvM (bW (cmpM (c2 cEq) (callI 3 (bd (apM (rt p_2.1) (apM (rt wide_14) (rt []))) fun ws => rt (ws ++ [.dat (.tuple [])])) m_count_fillings) (rt told_8)))))) fun w => rt (.ret w))))))))))))))))))
def b_law : List W → M (Res W Unit)
  | [script_0] => g_law script_0
  | _ => fun _ => .bad
def m_law (ws : List W) : M W := finM (b_law ws)
set_option maxHeartbeats 4000000 in
theorem ok_law {P : Program} {w : World} {K : PySem.W.Frag} {mg : Str → Option Value} {base : Heap} {f : Addr} {fd : FuncData} (F : Fun K "law" "law" s_law f fd) (T : MgB mg) (c__law_state : CalM P w K mg base 1 "_law_state" ["script"] 1 m__law_state) (c__law_shape : CalM P w K mg base 12 "_law_shape" ["state", "most"] 2 m__law_shape) (c__law_take : CalM P w K mg base 1 "_law_take" ["state", "m"] 2 m__law_take) (c_count_fillings : CalM P w K mg base 4 "count_fillings" ["outer", "content", "inner"] 3 m_count_fillings) (c_fillings : CalM P w K mg base 5 "fillings" ["outer", "content", "inner"] 3 m_fillings) (d_count_fillings : CalD P w K mg base 4 "count_fillings" ["outer", "content", "inner"] 3 [.dat (.tuple [])] m_count_fillings) : FnOk P w K mg base CX0 13 f fd ["script"] (spM0 K w 1 m_law) :=
  defM0 (g := fun _ => noR 12) (mb := b_law) F sc_law (by decide) (fun cdv A outer s H E hr hp ws hlen => by
    match ws, hlen with
    | [script_0], _ =>
      show SM _ _ _ _ (g_law script_0) _
      unfold g_law
      exact (
(sm_set (n := 1) sc_law.nd rfl rfl (em_call c__law_state (hr.mono (by omega)) (am_cons (em_var (n := 0) (w := script_0) rfl rfl) am_nil)) (fun state_1 =>
 (sm_asg (em_call c__law_shape (hr.mono (by omega)) (am_cons (em_var (n := 1) (w := state_1) rfl rfl) (am_cons em_int am_nil))) (pg_tup rfl (pgs_cons (pg_name (i := 2) sc_law.nd rfl (by first | exact .inl rfl | exact .inr rfl)) (pgs_cons (pg_name (i := 3) sc_law.nd rfl (by first | exact .inl rfl | exact .inr rfl)) pgs_nil))) (gm_tup (gms_cons gm_name fun _ => (gms_cons gm_name fun _ => gms_nil))) (fun _ => by exact le_noR rfl) (fun p_2 =>
 (sm_set (n := 4) sc_law.nd rfl rfl (em_bin sub_f (em_B (sum_f rfl) T.sum (by decide +kernel) (am_cons (em_var (n := 2) (w := p_2.1) rfl rfl) am_nil)) (em_B (sum_f rfl) T.sum (by decide +kernel) (am_cons (em_var (n := 3) (w := p_2.2.1) rfl rfl) am_nil))) (fun boxes_3 =>
 (sm_set (n := 5) sc_law.nd rfl rfl (em_own (lm_lst am_nil)) (fun content_4 =>
 (sm_for (F := fun (st_6 : Unit) => [some script_0, some state_1, some p_2.1, some p_2.2.1, some boxes_3, some content_4, none, none, none, none, none, none]) (Fb := fun x_5 (st_6 : Unit) => [some script_0, some state_1, some p_2.1, some p_2.2.1, some boxes_3, some content_4, some x_5, none, none, none, none, none]) (z0 := ()) (im_range1 T.range (em_bin add_f em_int (em_call c__law_take (hr.mono (by omega)) (am_cons (em_var (n := 1) (w := state_1) rfl rfl) (am_cons em_int am_nil))))) (pg_name (i := 6) sc_law.nd rfl (by first | exact .inl rfl | exact .inr rfl)) (by exact (.keep (.keep (.keep (.keep (.keep (.keep (.drop (.drop (.drop (.drop (.drop (.drop LeR.nil))))))))))))) (by exact le_noR rfl) (fun _ => gm_name) (fun _ _ => by exact le_noR rfl) (fun x_5 st_6 => by exact (
 (sm_expr (em_append (em_var (n := 5) (w := content_4) rfl rfl) (em_call c__law_take (hr.mono (by omega)) (am_cons (em_var (n := 1) (w := state_1) rfl rfl) (am_cons (em_bin sub_f (em_bin add_f em_int (em_var (n := 4) (w := boxes_3) rfl rfl)) (em_B (sum_f rfl) T.sum (by decide +kernel) (am_cons (em_var (n := 5) (w := content_4) rfl rfl) am_nil))) am_nil))) (pe_bm PySem.F.plainAttrs_list PySem.F.slot_list_append PySem.F.type_list_append mt_append pe_s (pa_cons pe_s pa_nil)))
 (sm_nil (z := ()) (by exact (.keep (.keep (.keep (.keep (.keep (.keep (.drop (.drop (.drop (.drop (.drop (.drop LeR.nil))))))))))))) (by exact le_noR rfl))))) (fun st_6 => by exact (
 (sm_if (g1 := fun (st_7 : Unit) => [some script_0, some state_1, some p_2.1, some p_2.2.1, some boxes_3, some content_4, none, none, none, none, none, none]) (tm_cmp gtF (em_call c__law_take (hr.mono (by omega)) (am_cons (em_var (n := 1) (w := state_1) rfl rfl) (am_cons em_int am_nil))) em_int)
 (sm_put (em_bin sub_f (em_bin add_f (em_ix (em_var (n := 5) (w := content_4) rfl rfl) em_int) (em_var (n := 4) (w := boxes_3) rfl rfl)) (em_B (sum_f rfl) T.sum (by decide +kernel) (am_cons (em_var (n := 5) (w := content_4) rfl rfl) am_nil))) (em_var (n := 5) (w := content_4) rfl rfl) em_int (sm_nil (z := ()) (by exact (.keep (.keep (.keep (.keep (.keep (.keep (.drop (.drop (.drop (.drop (.drop (.drop LeR.nil))))))))))))) (by exact le_noR rfl)) (ps_asg pe_s (pg_sub pe_s pe_s set_list)))
 (sm_nil (z := ()) (by exact (.keep (.keep (.keep (.keep (.keep (.keep (.drop (.drop (.drop (.drop (.drop (.drop LeR.nil))))))))))))) (by exact le_noR rfl))
 (fun st_7 => (sm_set (n := 7) sc_law.nd rfl rfl (em_callI c_count_fillings (hr.mono (by omega)) (am_cons (em_var (n := 2) (w := p_2.1) rfl rfl) (am_cons (em_tuple T.tuple (em_var (n := 5) (w := content_4) rfl rfl)) (am_cons (em_var (n := 3) (w := p_2.2.1) rfl rfl) am_nil)))) (fun told_8 =>
 (sm_ifR (g0 := fun _ => noR 12) (tm_w (wm_or (tm_not (tm_val (em_isInt T.isinstance T.int (em_var (n := 7) (w := told_8) rfl rfl)))) (wm_or (tm_val (em_isBool T.isinstance T.bool (em_var (n := 7) (w := told_8) rfl rfl))) (wm_or1 (tm_cmp (neF hr) (em_var (n := 7) (w := told_8) rfl rfl) (em_B len_f T.len (by decide +kernel) (am_cons (em_callI c_fillings (hr.mono (by omega)) (am_cons (em_var (n := 2) (w := p_2.1) rfl rfl) (am_cons (em_tuple T.tuple (em_var (n := 5) (w := content_4) rfl rfl)) (am_cons (em_var (n := 3) (w := p_2.2.1) rfl rfl) am_nil)))) am_nil)))))))
 (sm_ret em_bl)
 (sm_ifR (g0 := fun _ => noR 12) (tm_w (wm_and (tm_cmp (neF hr) (em_B (sum_f rfl) T.sum (by decide +kernel) (am_cons (em_var (n := 5) (w := content_4) rfl rfl) am_nil)) (em_var (n := 4) (w := boxes_3) rfl rfl)) (wm_and1 (tm_cmp (neF hr) (em_var (n := 7) (w := told_8) rfl rfl) em_int))))
 (sm_ret em_bl)
 (sm_set (n := 8) sc_law.nd rfl rfl (em_own (lm_list T.list (em_var (n := 5) (w := content_4) rfl rfl))) (fun left_9 =>
 (sm_set (n := 9) sc_law.nd rfl rfl (em_own (lm_lst am_nil)) (fun other_10 =>
 (sm_for (F := fun (st_12 : Unit) => [some script_0, some state_1, some p_2.1, some p_2.2.1, some boxes_3, some content_4, none, some told_8, some left_9, some other_10, none, none]) (Fb := fun x_11 (st_12 : Unit) => [some script_0, some state_1, some p_2.1, some p_2.2.1, some boxes_3, some content_4, some x_11, some told_8, some left_9, some other_10, none, none]) (z0 := ()) (im_range1 T.range (em_B len_f T.len (by decide +kernel) (am_cons (em_var (n := 5) (w := content_4) rfl rfl) am_nil))) (pg_name (i := 6) sc_law.nd rfl (by first | exact .inl rfl | exact .inr rfl)) (by exact (.keep (.keep (.keep (.keep (.keep (.keep (.drop (.keep (.keep (.keep (.drop (.drop LeR.nil))))))))))))) (by exact le_noR rfl) (fun _ => gm_name) (fun _ _ => by exact le_noR rfl) (fun x_11 st_12 => by exact (
 (sm_expr (em_append (em_var (n := 9) (w := other_10) rfl rfl) (em_popI (em_var (n := 8) (w := left_9) rfl rfl) (em_call c__law_take (hr.mono (by omega)) (am_cons (em_var (n := 1) (w := state_1) rfl rfl) (am_cons (em_B len_f T.len (by decide +kernel) (am_cons (em_var (n := 8) (w := left_9) rfl rfl) am_nil)) am_nil))) (pe_bm PySem.F.plainAttrs_list PySem.F.slot_list_pop PySem.F.type_list_pop mt_popAt pe_s (pa_cons pe_s pa_nil))) (pe_bm PySem.F.plainAttrs_list PySem.F.slot_list_append PySem.F.type_list_append mt_append pe_s (pa_cons pe_s pa_nil)))
 (sm_nil (z := ()) (by exact (.keep (.keep (.keep (.keep (.keep (.keep (.drop (.keep (.keep (.keep (.drop (.drop LeR.nil))))))))))))) (by exact le_noR rfl))))) (fun st_12 => by exact (
 (sm_ifR (g0 := fun _ => noR 12) (tm_cmp (neF hr) (em_callI c_count_fillings (hr.mono (by omega)) (am_cons (em_var (n := 2) (w := p_2.1) rfl rfl) (am_cons (em_tuple T.tuple (em_var (n := 9) (w := other_10) rfl rfl)) (am_cons (em_var (n := 3) (w := p_2.2.1) rfl rfl) am_nil)))) (em_var (n := 7) (w := told_8) rfl rfl))
 (sm_ret em_bl)
 (sm_set (n := 10) sc_law.nd rfl rfl (em_call c__law_take (hr.mono (by omega)) (am_cons (em_var (n := 1) (w := state_1) rfl rfl) (am_cons (em_bin add_f (em_B len_f T.len (by decide +kernel) (am_cons (em_var (n := 5) (w := content_4) rfl rfl) am_nil)) em_int) am_nil))) (fun at_13 =>
 (sm_set (n := 11) sc_law.nd rfl rfl (em_tuple T.tuple (em_bin add_f (em_bin add_f (em_cut (em_var (n := 5) (w := content_4) rfl rfl) om_none (om_some (em_var (n := 10) (w := at_13) rfl rfl))) (em_frz (lm_lst (am_cons em_int am_nil)))) (em_cut (em_var (n := 5) (w := content_4) rfl rfl) (om_some (em_var (n := 10) (w := at_13) rfl rfl)) om_none))) (fun wide_14 =>
 (sm_ifR (g0 := fun _ => noR 12) (tm_w (wm_or (tm_cmp (neF hr) (em_callI c_count_fillings (hr.mono (by omega)) (am_cons (em_var (n := 2) (w := p_2.1) rfl rfl) (am_cons (em_var (n := 11) (w := wide_14) rfl rfl) (am_cons (em_var (n := 3) (w := p_2.2.1) rfl rfl) am_nil)))) (em_var (n := 7) (w := told_8) rfl rfl)) (wm_or1 (tm_cmp (neF hr) (em_B len_f T.len (by decide +kernel) (am_cons (em_callI c_fillings (hr.mono (by omega)) (am_cons (em_var (n := 2) (w := p_2.1) rfl rfl) (am_cons (em_var (n := 11) (w := wide_14) rfl rfl) (am_cons (em_var (n := 3) (w := p_2.2.1) rfl rfl) am_nil)))) am_nil)) (em_var (n := 7) (w := told_8) rfl rfl)))))
 (sm_ret em_bl)
 (sm_ret (em_or (em_cmp (neF hr) (em_var (n := 3) (w := p_2.2.1) rfl rfl) (em_tup am_nil)) (em_one (em_cmp (eqF hr) (em_callDI d_count_fillings (hr.mono (by omega)) (am_cons (em_var (n := 2) (w := p_2.1) rfl rfl) (am_cons (em_var (n := 11) (w := wide_14) rfl rfl) am_nil))) (em_var (n := 7) (w := told_8) rfl rfl))))))))))))) hp))))))))))))) hp)))))))))))
end K14
set_option maxHeartbeats 0
noncomputable section
namespace K14
open PySem L2 Pd Gn PySem.Spec PyProof.Rows Zq Hx
def callJ (n : Nat) (ma : M (List W)) (m : List W → M W) : M W := bd ma fun ws => bd (lf (gd (Nat.beq ws.length n && norefs ws) (some ()))) fun _ => fun h => isoT h (m ws ⟨0, []⟩)
theorem callJ_eq : callJ = callI := by
  funext n ma m h
  unfold callJ callI
  simp only [normWs_eq]
def LB (outer_0 inner_0 steps_1 : W) : M (Res W Unit) :=
  (bd (frzW (lstM (apM (callI 2 (apM (rt inner_0) (apM (biM fLen (apM (rt outer_0) (rt []))) (rt []))) m__starts) (rt [])))) fun shapes_3 => (bd (ownW (lstM (rt []))) fun layers_4 => (bd (enM (rt steps_1)) fun ws => seqM (forM (stepM (tgT 2 (tgsC tgN (tgsC (tgT 2 (tgsC tgN (tgsC tgN tgs0))) tgs0))) fun x_5 (st_6 : W) => (bd dnewM fun before_7 => (bd (sqM (rt st_6)) fun ws => seqM (forM (stepM tgN fun x_8 (st_9 : Unit) => (bd (sqM (callI 4 (apM (rt outer_0) (apM (rt x_8) (apM (rt x_5.2.1.2.1) (apM (binM (l2 pSub) (binM (l2 pSub) (biM fLen (apM (rt steps_1) (rt []))) (rt x_5.1)) (rt (.dat (.int 1)))) (rt []))))) m__strips_up)) fun ws => seqM (forM (stepM tgN fun x_10 (st_11 : Unit) => (bd (appM (setdM (rt before_7) (rt x_10) (ownW (lstM (rt [])))) (rt x_8)) fun _ => (rt (.nxt ())))) ws ()) fun st_11 => (rt (.nxt ())))) ws ()) fun st_9 => (bd (frzDDM before_7) fun before_12 => (bd (appM (rt layers_4) (tupM (apM (rt x_5.2.1.1) (apM (rt before_12) (rt []))))) fun _ => (bd (frzW (listDM (rt before_12))) fun shapes_13 => (rt (.nxt shapes_13)))))))) ws shapes_3) fun st_6 => (bd (frzM layers_4) fun layers_14 => (bd (rt layers_14) fun w => rt (.ret w))))))
def CB (outer_0 inner_0 steps_1 : W) : M (Res W Unit) :=
  (bd (ddspM (callI 2 (apM (rt inner_0) (apM (biM fLen (apM (rt outer_0) (rt []))) (rt []))) m__starts) (rt (.dat (.int 1)))) fun counts_3 => (bd (enM (rt steps_1)) fun ws => seqM (forM (stepM (tgT 2 (tgsC tgN (tgsC tgN tgs0))) fun x_4 (st_5 : W) => (bd dnewM fun after_6 => (bd (sqD (rt st_5)) fun ws => seqM (forM (stepM tgN fun x_7 (st_8 : Unit) => (bd (sqM (callI 4 (apM (rt outer_0) (apM (rt x_7) (apM (rt x_4.2.1) (apM (binM (l2 pSub) (binM (l2 pSub) (biM fLen (apM (rt steps_1) (rt []))) (rt x_4.1)) (rt (.dat (.int 1)))) (rt []))))) m__strips_up)) fun ws => seqM (forM (stepM tgN fun x_9 (st_10 : Unit) => (bd (setD (binM (l2 pAddX) (dgetM (rt after_6) (rt x_9) (rt (.dat (.int 0)))) (ixD (rt st_5) (rt x_7))) (rt after_6) (rt x_9)) fun _ => (rt (.nxt ())))) ws ()) fun st_10 => (rt (.nxt ())))) ws ()) fun st_8 => (bd (frzDM after_6) fun after_12 => (bd (rt after_12) fun counts_13 => (rt (.nxt counts_13))))))) ws counts_3) fun st_5 => (bd (dgetM (rt st_5) (rt outer_0) (rt (.dat (.int 0)))) fun w => rt (.ret w))))
def FP (outer_0 lay : W) : M (Res W Unit) :=
  (bd (frzW (lstM (apM (tupM (apM (rt outer_0) (apM (binM (l2 pMulY) (tupM (apM (tupM (rt [])) (rt []))) (biM fLen (apM (rt outer_0) (rt [])))) (rt [])))) (rt [])))) fun found_1 => (bd (sqM (frzW (revM (rt lay)))) fun ws => seqM (forM (stepM (tgT 2 (tgsC tgN (tgsC tgN tgs0))) fun x_2 (st_3 : W) => (bd (frzW (lc2 (tgT 2 (tgsC tgN (tgsC tgN tgs0))) (fun x_5 => rt true) (fun x_5 => (sqM (dgetM (rt x_2.2.1) (rt x_5.1) (frzW (lstM (rt [])))))) tgN (fun x_5 x_6 => rt true) (fun x_5 x_6 => (tupM (apM (rt x_6) (apM (callJ 4 (apM (rt x_5.2.1) (apM (rt x_2.1) (apM (rt x_5.1) (apM (rt x_6) (rt []))))) m__begun) (rt []))))) (sqM (rt st_3)))) fun found_4 => (rt (.nxt found_4)))) ws found_1) fun st_3 => (bd (frzW (lc1 (tgT 2 (tgsC tgN (tgsC tgN tgs0))) (fun _ => rt true) (fun x_7 => (rt x_7.2.1)) (sqM (rt st_3)))) fun w => rt (.ret w))))
def runC (o i st : W) : Option W := match finM (CB o i st) ⟨0, []⟩ with
  | .ok w _ => some w
  | _ => none
def runF (o i st : W) : Option W := match finM (LB o i st) ⟨0, []⟩ with
  | .ok lay _ => match noref lay with
    | true => match finM (FP o lay) ⟨0, []⟩ with
      | .ok w _ => some w
      | _ => none
    | false => none
  | _ => none
def tN (xs : List Nat) : W := .dat (.tuple (xs.map fun x : Nat => .int (x : Int)))
def lN (xs : List Nat) : W := .dat (.list (xs.map fun x : Nat => .int (x : Int)))
def stW (ns : List Int) (s : List Nat) : W := .dat (.list ((ns.zip s).map fun p => .tuple [.int p.1, .int (p.2 : Int)]))
end K14
set_option maxHeartbeats 1000000
noncomputable section
namespace K14
open PySem L2 Pd Gn PySem.Spec PyProof.Rows Zq Hx
def iD (n : Nat → Int) (k : Nat) : PyData := .int (n k)
def rwD (n : Nat → Int) (r : List Nat) : PyData := .tuple (r.map (iD n))
def fD (n : Nat → Int) (f : List (List Nat)) : PyData := .tuple (f.map (rwD n))
def rowsD (n : Nat → Int) (R : List (List (List Nat))) : List PyData := R.map (fD n)
/-- the numbers 1 .. j by n -/
def lab (n : Nat → Int) : Nat → Nat → List Int
  | _, 0 => []
  | i, j + 1 => n i :: lab n (i + 1) j
def EF (o i : List Nat) (e : List Nat × List (List (List Nat))) : Prop := ∀ n : Nat → Int, runF (tN o) (tN i) (stW (lab n 1 e.1.length) e.1) = some (.dat (.list (rowsD n e.2)))
def EC (o i : List Nat) (e : List Nat × Nat) : Prop := runC (tN o) (tN i) (lN e.1) = some (.dat (.int (e.2 : Int)))
theorem fc {α : Type} {p : α → Prop} {a : α} {l : List α} (h : p a) (h2 : ∀ x ∈ l, p x) : ∀ x ∈ a :: l, p x := List.forall_mem_cons.mpr ⟨h, h2⟩
/-- numbers grow -/
def Mono (n : Nat → Int) : Prop := ∀ x y, 1 ≤ x → x < y → n x < n y
def posR (r : List Nat) : Bool := r.all fun k => Nat.blt 0 k
def posF (f : List (List Nat)) : Bool := f.all posR
def shp (f : List (List Nat)) : List Nat := f.map List.length
theorem blt_mono {n : Nat → Int} (h : Mono n) {a b : Nat} (ha : 0 < a) (hb : 0 < b) : decide (n a < n b) = decide ((a : Int) < (b : Int)) := by
  refine decide_eq_decide.mpr ⟨fun z => ?_, fun z => h a b ha (by omega)⟩
  rcases Nat.lt_trichotomy a b with q | q | q
  · omega
  · subst q; omega
  · have := h b a hb q; omega
abbrev lx (a b : List (Int ⊕ List Nat)) : Bool := PyProof.Rows.lexLt PyProof.Rows.itemOrd a b
theorem lx_cons (a b : Int) (l m : List (Int ⊕ List Nat)) : lx (.inl a :: l) (.inl b :: m) = (decide (a < b) || (!decide (b < a) && lx l m)) := rfl
theorem lx_same (a : Int) (l m : List (Int ⊕ List Nat)) : lx (.inl a :: l) (.inl a :: m) = lx l m := by
  rw [lx_cons, decide_eq_false (by omega)]
  simp
theorem row_lx {n : Nat → Int} (h : Mono n) : ∀ (r s : List Nat) (t u t' u' : List (Int ⊕ List Nat)), r.length = s.length → posR r = true → posR s = true → lx t u = lx t' u' →
    lx (PySem.W.keyToksAll (r.map (iD n)) ++ t) (PySem.W.keyToksAll (s.map (iD n)) ++ u) = lx (PySem.W.keyToksAll (r.map (iD fun k => (k : Int))) ++ t') (PySem.W.keyToksAll (s.map (iD fun k => (k : Int))) ++ u')
  | [], [], t, u, t', u', _, _, _, e => by
    show lx (.inl 0 :: t) (.inl 0 :: u) = lx (.inl 0 :: t') (.inl 0 :: u')
    rw [lx_same, lx_same, e]
  | a :: r, b :: s, t, u, t', u', hl, hr, hs, e => by
    unfold posR at hr hs
    rw [List.all_cons, Bool.and_eq_true] at hr hs
    have ih := row_lx h r s t u t' u' (by simpa using hl) hr.2 hs.2 e
    show lx (.inl 1 :: (.inl (n a) :: (PySem.W.keyToksAll (r.map (iD n)) ++ t))) (.inl 1 :: (.inl (n b) :: (PySem.W.keyToksAll (s.map (iD n)) ++ u))) = lx (.inl 1 :: (.inl (a : Int) :: (PySem.W.keyToksAll (r.map (iD fun k => (k : Int))) ++ t'))) (.inl 1 :: (.inl (b : Int) :: (PySem.W.keyToksAll (s.map (iD fun k => (k : Int))) ++ u')))
    rw [lx_same, lx_same, lx_cons, lx_cons, ih, blt_mono h (Nat.blt_eq.mp hr.1) (Nat.blt_eq.mp hs.1), blt_mono h (Nat.blt_eq.mp hs.1) (Nat.blt_eq.mp hr.1)]
  | [], b :: s, _, _, _, _, hl, _, _, _ => by cases hl
  | a :: r, [], _, _, _, _, hl, _, _, _ => by cases hl
theorem fil_lx {n : Nat → Int} (h : Mono n) : ∀ (f g : List (List Nat)), shp f = shp g → posF f = true → posF g = true →
    lx (PySem.W.keyToksAll (f.map (rwD n))) (PySem.W.keyToksAll (g.map (rwD n))) = lx (PySem.W.keyToksAll (f.map (rwD fun k => (k : Int)))) (PySem.W.keyToksAll (g.map (rwD fun k => (k : Int))))
  | [], [], _, _, _ => rfl
  | r :: f, s :: g, hs, hf, hg => by
    unfold posF at hf hg
    rw [List.all_cons, Bool.and_eq_true] at hf hg
    have hs : r.length :: shp f = s.length :: shp g := hs
    have ih := fil_lx h f g (List.cons.inj hs).2 hf.2 hg.2
    show lx (.inl 1 :: (PySem.W.keyToksAll (r.map (iD n)) ++ PySem.W.keyToksAll (f.map (rwD n)))) (.inl 1 :: (PySem.W.keyToksAll (s.map (iD n)) ++ PySem.W.keyToksAll (g.map (rwD n)))) = lx (.inl 1 :: (PySem.W.keyToksAll (r.map (iD fun k => (k : Int))) ++ PySem.W.keyToksAll (f.map (rwD fun k => (k : Int))))) (.inl 1 :: (PySem.W.keyToksAll (s.map (iD fun k => (k : Int))) ++ PySem.W.keyToksAll (g.map (rwD fun k => (k : Int)))))
    rw [lx_same, lx_same]
    exact row_lx h r s _ _ _ _ (List.cons.inj hs).1 hf.1 hg.1 ih
  | [], s :: g, hs, _, _ => by cases hs
  | r :: f, [], hs, _, _ => by cases hs
theorem dLt_fD {n : Nat → Int} (h : Mono n) {f g : List (List Nat)} (hs : shp f = shp g) (hf : posF f = true) (hg : posF g = true) : dLt (fD n f) (fD n g) = dLt (fD (fun k => (k : Int)) f) (fD (fun k => (k : Int)) g) := fil_lx h f g hs hf hg
/-- fillings of one shape, with numbers from 1 on -/
def okR (R : List (List (List Nat))) : Bool := match R with
  | [] => true
  | f :: _ => !f.isEmpty && R.all fun g => posF g && decide (shp g = shp f)
structure OkR (R : List (List (List Nat))) (sh : List Nat) : Prop where
  ps : ∀ f ∈ R, posF f = true
  sh : ∀ f ∈ R, shp f = sh
theorem insD_map {n : Nat → Int} (h : Mono n) {sh : List Nat} {f : List (List Nat)} : ∀ {R : List (List (List Nat))}, OkR (f :: R) sh → ∃ R', insD (fD n f) (rowsD n R) = rowsD n R' ∧ insD (fD (fun k => (k : Int)) f) (rowsD (fun k => (k : Int)) R) = rowsD (fun k => (k : Int)) R' ∧ ∀ x ∈ R', x ∈ f :: R
  | [], _ => ⟨[f], rfl, rfl, fun x h => h⟩
  | g :: R, O => by
    have e := dLt_fD h (f := g) (g := f) ((O.sh g (by simp)).trans (O.sh f (by simp)).symm) (O.ps g (by simp)) (O.ps f (by simp))
    show ∃ R', (match dLt (fD n g) (fD n f) with | true => fD n g :: insD (fD n f) (rowsD n R) | false => fD n f :: fD n g :: rowsD n R) = rowsD n R' ∧ (match dLt (fD (fun k => (k : Int)) g) (fD (fun k => (k : Int)) f) with | true => fD (fun k => (k : Int)) g :: insD (fD (fun k => (k : Int)) f) (rowsD (fun k => (k : Int)) R) | false => fD (fun k => (k : Int)) f :: fD (fun k => (k : Int)) g :: rowsD (fun k => (k : Int)) R) = rowsD (fun k => (k : Int)) R' ∧ ∀ x ∈ R', x ∈ f :: g :: R
    rw [e]
    cases dLt (fD (fun k => (k : Int)) g) (fD (fun k => (k : Int)) f) with
    | false => exact ⟨f :: g :: R, rfl, rfl, fun x h => h⟩
    | true =>
      obtain ⟨R', e1, e2, e3⟩ := insD_map h (R := R) (f := f) (sh := sh) ⟨fun x hx => O.ps x (by simp at hx ⊢; rcases hx with e | e <;> simp [e]), fun x hx => O.sh x (by simp at hx ⊢; rcases hx with e | e <;> simp [e])⟩
      refine ⟨g :: R', ?_, ?_, fun x hx => ?_⟩
      · show fD n g :: insD (fD n f) (rowsD n R) = fD n g :: rowsD n R'
        rw [e1]
      · show fD _ g :: insD (fD _ f) (rowsD _ R) = fD _ g :: rowsD _ R'
        rw [e2]
      · rcases List.mem_cons.mp hx with rfl | hx
        · simp
        · have := e3 x hx
          simp at this ⊢
          rcases this with e | e <;> simp [e]
theorem srtD_map {n : Nat → Int} (h : Mono n) {sh : List Nat} : ∀ {R : List (List (List Nat))}, OkR R sh → ∃ R', srtD (rowsD n R) = rowsD n R' ∧ srtD (rowsD (fun k => (k : Int)) R) = rowsD (fun k => (k : Int)) R' ∧ ∀ x ∈ R', x ∈ R
  | [], _ => ⟨[], rfl, rfl, fun x h => h⟩
  | f :: R, O => by
    obtain ⟨R1, a1, a2, a3⟩ := srtD_map h (R := R) (sh := sh) ⟨fun x hx => O.ps x (List.mem_cons_of_mem _ hx), fun x hx => O.sh x (List.mem_cons_of_mem _ hx)⟩
    obtain ⟨R2, b1, b2, b3⟩ := insD_map h (R := R1) (f := f) (sh := sh) ⟨fun x hx => O.ps x (by
      rcases List.mem_cons.mp hx with rfl | hx
      · simp
      · exact List.mem_cons_of_mem _ (a3 x hx)), fun x hx => O.sh x (by
      rcases List.mem_cons.mp hx with rfl | hx
      · simp
      · exact List.mem_cons_of_mem _ (a3 x hx))⟩
    refine ⟨R2, ?_, ?_, fun x hx => ?_⟩
    · show insD (fD n f) (srtD (rowsD n R)) = _
      rw [a1, b1]
    · show insD (fD _ f) (srtD (rowsD _ R)) = _
      rw [a2, b2]
    · rcases List.mem_cons.mp (b3 x hx) with rfl | y
      · simp
      · exact List.mem_cons_of_mem _ (a3 x y)
theorem ascD_map {n : Nat → Int} (h : Mono n) {sh : List Nat} : ∀ {R : List (List (List Nat))}, OkR R sh → ascD (rowsD n R) = ascD (rowsD (fun k => (k : Int)) R)
  | [], _ => rfl
  | [f], _ => rfl
  | f :: g :: R, O => by
    have ih := ascD_map h (R := g :: R) (sh := sh) ⟨fun x hx => O.ps x (List.mem_cons_of_mem _ hx), fun x hx => O.sh x (List.mem_cons_of_mem _ hx)⟩
    have e := dLt_fD h (f := f) (g := g) ((O.sh f (by simp)).trans (O.sh g (by simp)).symm) (O.ps f (by simp)) (O.ps g (by simp))
    show (match dLt (fD n f) (fD n g) with | true => ascD (rowsD n (g :: R)) | false => false) = (match dLt (fD (fun k => (k : Int)) f) (fD (fun k => (k : Int)) g) with | true => ascD (rowsD (fun k => (k : Int)) (g :: R)) | false => false)
    rw [e, ih]
theorem alike_row (n : Nat → Int) : ∀ r s : List Nat, PySem.W.alikeAll (r.map (iD n)) (s.map (iD n)) = true
  | [], _ => by simp [PySem.W.alikeAll]
  | a :: r, [] => by simp [PySem.W.alikeAll]
  | a :: r, b :: s => by simp [PySem.W.alikeAll, PySem.W.alike, iD, alike_row n r s]
theorem alike_fil (n : Nat → Int) : ∀ f g : List (List Nat), PySem.W.alikeAll (f.map (rwD n)) (g.map (rwD n)) = true
  | [], _ => by simp [PySem.W.alikeAll]
  | a :: r, [] => by simp [PySem.W.alikeAll]
  | a :: r, b :: s => by
    have h := alike_fil n r s
    simp [PySem.W.alikeAll, PySem.W.alike, rwD, alike_row n a b, h]
theorem depth_row (n : Nat → Int) : ∀ r : List Nat, PyData.depthAll (r.map (iD n)) = 0
  | [] => by simp [PyData.depthAll]
  | a :: r => by simp [PyData.depthAll, iD, PyData.depth, depth_row n r]
theorem depth_fil (n : Nat → Int) : ∀ f : List (List Nat), PyData.depthAll (f.map (rwD n)) ≤ 1
  | [] => by simp [PyData.depthAll]
  | a :: r => by
    have := depth_fil n r
    simp [PyData.depthAll, rwD, PyData.depth, depth_row n a]
    omega
theorem okSort_map {n : Nat → Int} (h : Mono n) {R : List (List (List Nat))} (hr : okR R = true) (hs : ascD (srtD (rowsD (fun k => (k : Int)) R)) = true) : okSort (rowsD n R) = true ∧ (srtD (rowsD n R)).length = R.length := by
  cases R with
  | nil => exact ⟨rfl, rfl⟩
  | cons f R =>
    have hr : (!f.isEmpty && (f :: R).all fun g => posF g && decide (shp g = shp f)) = true := hr
    rw [Bool.and_eq_true] at hr
    obtain ⟨h0, h1⟩ := hr
    have O : OkR (f :: R) (shp f) := ⟨fun g hg => by
      have := List.all_eq_true.mp h1 g hg
      rw [Bool.and_eq_true] at this
      exact this.1, fun g hg => by
      have := List.all_eq_true.mp h1 g hg
      rw [Bool.and_eq_true] at this
      exact of_decide_eq_true this.2⟩
    obtain ⟨R', a1, a2, a3⟩ := srtD_map h O
    have O' : OkR R' (shp f) := ⟨fun x hx => O.ps x (a3 x hx), fun x hx => O.sh x (a3 x hx)⟩
    have fne : f ≠ [] := fun z => by rw [z] at h0; cases h0
    have ne : ∀ g ∈ f :: R, g ≠ [] := fun g hg z => by
      have e := O.sh g hg
      rw [z] at e
      cases f with
      | nil => exact fne rfl
      | cons a b => cases e
    refine ⟨?_, ?_⟩
    · unfold okSort
      rw [a1, ascD_map h O', ← a2, hs]
      have k1 : ((rowsD n (f :: R)).all fun a => (rowsD n (f :: R)).all fun b => PySem.W.alike a b) = true := List.all_eq_true.mpr fun a ha => List.all_eq_true.mpr fun b hb => by
        obtain ⟨x, _, rfl⟩ := List.mem_map.mp ha
        obtain ⟨y, _, rfl⟩ := List.mem_map.mp hb
        show PySem.W.alikeAll _ _ = true
        exact alike_fil n x y
      have k2 : (rowsD n (f :: R)).all tupNE = true := List.all_eq_true.mpr fun a ha => by
        obtain ⟨x, hx, rfl⟩ := List.mem_map.mp ha
        cases x with
        | nil => exact absurd rfl (ne _ hx)
        | cons c d => rfl
      have k3 : ((rowsD n (f :: R)).all fun d => Nat.ble d.depth 32) = true := List.all_eq_true.mpr fun a ha => by
        obtain ⟨x, _, rfl⟩ := List.mem_map.mp ha
        refine Nat.ble_eq_true_of_le ?_
        have := depth_fil n x
        show PyData.depthAll (x.map (rwD n)) + 1 ≤ 32
        omega
      rw [k1, k2, k3]
      rfl
    · have := (srtD_perm (l := rowsD n (f :: R))).length_eq
      rw [this]
      exact List.length_map _
def comps : Nat → Nat → List (List Nat)
  | 0, n => if n = 0 then [[]] else []
  | j + 1, n => (List.range n).flatMap fun k => (comps j (n - (k + 1))).map fun r => (k + 1) :: r
def okE (e : List Nat × List (List (List Nat))) : Bool := Nat.ble e.2.length 1 || (okR e.2 && ascD (srtD (rowsD (fun k => (k : Int)) e.2)))
def sd (s : List Nat) : List Nat := (sortR (s.map fun x : Nat => (x : Int))).map Int.toNat
def eqN : List Nat → List Nat → Bool
  | [], [] => true
  | a :: r, b :: s => Nat.beq a b && eqN r s
  | _, _ => false
def okI (b : Nat) (ins : List (List Nat × List (List (List Nat)))) (cn : List (List Nat × Nat)) : Bool :=
  ((List.range 5).all fun j => (comps j b).all fun s => ins.any fun e => eqN e.1 s) && ins.all fun e => okE e && cn.any fun c => eqN c.1 (sd e.1) && Nat.beq c.2 e.2.length
def Gd (o i : List Nat) : Prop := ∃ ins cn, (∀ e ∈ ins, EF o i e) ∧ (∀ e ∈ cn, EC o i e) ∧ okI (o.sum - i.sum) ins cn = true
end K14
set_option maxHeartbeats 0
noncomputable section
namespace K14
open PySem L2 Pd Gn PySem.Spec PyProof.Rows Zq Hx
def in_1 : List (List Nat × List (List (List Nat))) := [([1], [[[1]]])]
def cn_1 : List (List Nat × Nat) := [([1], 1)]
theorem f_1 : ∀ e ∈ in_1, EF [1] [] e := fc (fun n => by kernel_rfl) (List.forall_mem_nil _)
theorem c_1 : ∀ e ∈ cn_1, EC [1] [] e := fc (by show runC _ _ _ = _; kernel_rfl) (List.forall_mem_nil _)
theorem k_1 : okI 1 in_1 cn_1 = true := by decide +kernel
theorem g_1 : Gd [1] [] := ⟨in_1, cn_1, f_1, c_1, k_1⟩
def in_5 : List (List Nat × List (List (List Nat))) := [([], [[[]]])]
def cn_5 : List (List Nat × Nat) := [([], 1)]
theorem f_5 : ∀ e ∈ in_5, EF [2] [2] e := fc (fun n => by kernel_rfl) (List.forall_mem_nil _)
theorem c_5 : ∀ e ∈ cn_5, EC [2] [2] e := fc (by show runC _ _ _ = _; kernel_rfl) (List.forall_mem_nil _)
theorem k_5 : okI 0 in_5 cn_5 = true := by decide +kernel
theorem g_5 : Gd [2] [2] := ⟨in_5, cn_5, f_5, c_5, k_5⟩
def in_10 : List (List Nat × List (List (List Nat))) := [([2], [[[1, 1]]]),
 ([1, 1], [[[1, 2]]])]
def cn_10 : List (List Nat × Nat) := [([2], 1), ([1, 1], 1)]
theorem f_10 : ∀ e ∈ in_10, EF [3] [1] e := fc (fun n => by kernel_rfl) (fc (fun n => by kernel_rfl) (List.forall_mem_nil _))
theorem c_10 : ∀ e ∈ cn_10, EC [3] [1] e := fc (by show runC _ _ _ = _; kernel_rfl) (fc (by show runC _ _ _ = _; kernel_rfl) (List.forall_mem_nil _))
theorem k_10 : okI 2 in_10 cn_10 = true := by decide +kernel
theorem g_10 : Gd [3] [1] := ⟨in_10, cn_10, f_10, c_10, k_10⟩
def in_14 : List (List Nat × List (List (List Nat))) := [([2], [[[1], [1]]]),
 ([1, 1], [[[1], [2]], [[2], [1]]])]
def cn_14 : List (List Nat × Nat) := [([2], 1), ([1, 1], 2)]
theorem f_14 : ∀ e ∈ in_14, EF [2, 1] [1] e := fc (fun n => by kernel_rfl) (fc (fun n => by kernel_rfl) (List.forall_mem_nil _))
theorem c_14 : ∀ e ∈ cn_14, EC [2, 1] [1] e := fc (by show runC _ _ _ = _; kernel_rfl) (fc (by show runC _ _ _ = _; kernel_rfl) (List.forall_mem_nil _))
theorem k_14 : okI 2 in_14 cn_14 = true := by decide +kernel
theorem g_14 : Gd [2, 1] [1] := ⟨in_14, cn_14, f_14, c_14, k_14⟩
def in_15 : List (List Nat × List (List (List Nat))) := [([1], [[[], [1]]])]
def cn_15 : List (List Nat × Nat) := [([1], 1)]
theorem f_15 : ∀ e ∈ in_15, EF [2, 1] [2] e := fc (fun n => by kernel_rfl) (List.forall_mem_nil _)
theorem c_15 : ∀ e ∈ cn_15, EC [2, 1] [2] e := fc (by show runC _ _ _ = _; kernel_rfl) (List.forall_mem_nil _)
theorem k_15 : okI 1 in_15 cn_15 = true := by decide +kernel
theorem g_15 : Gd [2, 1] [2] := ⟨in_15, cn_15, f_15, c_15, k_15⟩
def in_22 : List (List Nat × List (List (List Nat))) := [([4], [[[1, 1, 1, 1]]]),
 ([1, 3], [[[1, 2, 2, 2]]]),
 ([2, 2], [[[1, 1, 2, 2]]]),
 ([3, 1], [[[1, 1, 1, 2]]]),
 ([1, 1, 2], [[[1, 2, 3, 3]]]),
 ([1, 2, 1], [[[1, 2, 2, 3]]]),
 ([2, 1, 1], [[[1, 1, 2, 3]]]),
 ([1, 1, 1, 1], [[[1, 2, 3, 4]]])]
def cn_22 : List (List Nat × Nat) := [([4], 1), ([3, 1], 1), ([2, 2], 1), ([2, 1, 1], 1), ([1, 1, 1, 1], 1)]
theorem f_22 : ∀ e ∈ in_22, EF [4] [] e := fc (fun n => by kernel_rfl) (fc (fun n => by kernel_rfl) (fc (fun n => by kernel_rfl) (fc (fun n => by kernel_rfl) (fc (fun n => by kernel_rfl) (fc (fun n => by kernel_rfl) (fc (fun n => by kernel_rfl) (fc (fun n => by kernel_rfl) (List.forall_mem_nil _))))))))
theorem c_22 : ∀ e ∈ cn_22, EC [4] [] e := fc (by show runC _ _ _ = _; kernel_rfl) (fc (by show runC _ _ _ = _; kernel_rfl) (fc (by show runC _ _ _ = _; kernel_rfl) (fc (by show runC _ _ _ = _; kernel_rfl) (fc (by show runC _ _ _ = _; kernel_rfl) (List.forall_mem_nil _)))))
theorem k_22 : okI 4 in_22 cn_22 = true := by decide +kernel
theorem g_22 : Gd [4] [] := ⟨in_22, cn_22, f_22, c_22, k_22⟩
def in_23 : List (List Nat × List (List (List Nat))) := [([3], [[[1, 1, 1]]]),
 ([1, 2], [[[1, 2, 2]]]),
 ([2, 1], [[[1, 1, 2]]]),
 ([1, 1, 1], [[[1, 2, 3]]])]
def cn_23 : List (List Nat × Nat) := [([3], 1), ([2, 1], 1), ([1, 1, 1], 1)]
theorem f_23 : ∀ e ∈ in_23, EF [4] [1] e := fc (fun n => by kernel_rfl) (fc (fun n => by kernel_rfl) (fc (fun n => by kernel_rfl) (fc (fun n => by kernel_rfl) (List.forall_mem_nil _))))
theorem c_23 : ∀ e ∈ cn_23, EC [4] [1] e := fc (by show runC _ _ _ = _; kernel_rfl) (fc (by show runC _ _ _ = _; kernel_rfl) (fc (by show runC _ _ _ = _; kernel_rfl) (List.forall_mem_nil _)))
theorem k_23 : okI 3 in_23 cn_23 = true := by decide +kernel
theorem g_23 : Gd [4] [1] := ⟨in_23, cn_23, f_23, c_23, k_23⟩
def in_26 : List (List Nat × List (List (List Nat))) := [([4], []),
 ([1, 3], [[[1, 2, 2], [2]]]),
 ([2, 2], [[[1, 1, 2], [2]]]),
 ([3, 1], [[[1, 1, 1], [2]]]),
 ([1, 1, 2], [[[1, 2, 3], [3]], [[1, 3, 3], [2]]]),
 ([1, 2, 1], [[[1, 2, 2], [3]], [[1, 2, 3], [2]]]),
 ([2, 1, 1], [[[1, 1, 2], [3]], [[1, 1, 3], [2]]]),
 ([1, 1, 1, 1], [[[1, 2, 3], [4]], [[1, 2, 4], [3]], [[1, 3, 4], [2]]])]
def cn_26 : List (List Nat × Nat) := [([4], 0), ([3, 1], 1), ([2, 2], 1), ([2, 1, 1], 2), ([1, 1, 1, 1], 3)]
theorem f_26 : ∀ e ∈ in_26, EF [3, 1] [] e := fc (fun n => by kernel_rfl) (fc (fun n => by kernel_rfl) (fc (fun n => by kernel_rfl) (fc (fun n => by kernel_rfl) (fc (fun n => by kernel_rfl) (fc (fun n => by kernel_rfl) (fc (fun n => by kernel_rfl) (fc (fun n => by kernel_rfl) (List.forall_mem_nil _))))))))
theorem c_26 : ∀ e ∈ cn_26, EC [3, 1] [] e := fc (by show runC _ _ _ = _; kernel_rfl) (fc (by show runC _ _ _ = _; kernel_rfl) (fc (by show runC _ _ _ = _; kernel_rfl) (fc (by show runC _ _ _ = _; kernel_rfl) (fc (by show runC _ _ _ = _; kernel_rfl) (List.forall_mem_nil _)))))
theorem k_26 : okI 4 in_26 cn_26 = true := by decide +kernel
theorem g_26 : Gd [3, 1] [] := ⟨in_26, cn_26, f_26, c_26, k_26⟩
def in_30 : List (List Nat × List (List (List Nat))) := [([2], [[[1, 1], []]]),
 ([1, 1], [[[1, 2], []]])]
def cn_30 : List (List Nat × Nat) := [([2], 1), ([1, 1], 1)]
theorem f_30 : ∀ e ∈ in_30, EF [3, 1] [1, 1] e := fc (fun n => by kernel_rfl) (fc (fun n => by kernel_rfl) (List.forall_mem_nil _))
theorem c_30 : ∀ e ∈ cn_30, EC [3, 1] [1, 1] e := fc (by show runC _ _ _ = _; kernel_rfl) (fc (by show runC _ _ _ = _; kernel_rfl) (List.forall_mem_nil _))
theorem k_30 : okI 2 in_30 cn_30 = true := by decide +kernel
theorem g_30 : Gd [3, 1] [1, 1] := ⟨in_30, cn_30, f_30, c_30, k_30⟩
def in_33 : List (List Nat × List (List (List Nat))) := [([3], []),
 ([1, 2], [[[1], [2, 2]]]),
 ([2, 1], [[[1], [1, 2]]]),
 ([1, 1, 1], [[[1], [2, 3]], [[2], [1, 3]]])]
def cn_33 : List (List Nat × Nat) := [([3], 0), ([2, 1], 1), ([1, 1, 1], 2)]
theorem f_33 : ∀ e ∈ in_33, EF [2, 2] [1] e := fc (fun n => by kernel_rfl) (fc (fun n => by kernel_rfl) (fc (fun n => by kernel_rfl) (fc (fun n => by kernel_rfl) (List.forall_mem_nil _))))
theorem c_33 : ∀ e ∈ cn_33, EC [2, 2] [1] e := fc (by show runC _ _ _ = _; kernel_rfl) (fc (by show runC _ _ _ = _; kernel_rfl) (fc (by show runC _ _ _ = _; kernel_rfl) (List.forall_mem_nil _)))
theorem k_33 : okI 3 in_33 cn_33 = true := by decide +kernel
theorem g_33 : Gd [2, 2] [1] := ⟨in_33, cn_33, f_33, c_33, k_33⟩
def in_41 : List (List Nat × List (List (List Nat))) := [([1], [[[], [], [1]]])]
def cn_41 : List (List Nat × Nat) := [([1], 1)]
theorem f_41 : ∀ e ∈ in_41, EF [2, 1, 1] [2, 1] e := fc (fun n => by kernel_rfl) (List.forall_mem_nil _)
theorem c_41 : ∀ e ∈ cn_41, EC [2, 1, 1] [2, 1] e := fc (by show runC _ _ _ = _; kernel_rfl) (List.forall_mem_nil _)
theorem k_41 : okI 1 in_41 cn_41 = true := by decide +kernel
theorem g_41 : Gd [2, 1, 1] [2, 1] := ⟨in_41, cn_41, f_41, c_41, k_41⟩
def in_44 : List (List Nat × List (List (List Nat))) := [([3], []),
 ([1, 2], []),
 ([2, 1], []),
 ([1, 1, 1], [[[], [1], [2], [3]]])]
def cn_44 : List (List Nat × Nat) := [([3], 0), ([2, 1], 0), ([1, 1, 1], 1)]
theorem f_44 : ∀ e ∈ in_44, EF [1, 1, 1, 1] [1] e := fc (fun n => by kernel_rfl) (fc (fun n => by kernel_rfl) (fc (fun n => by kernel_rfl) (fc (fun n => by kernel_rfl) (List.forall_mem_nil _))))
theorem c_44 : ∀ e ∈ cn_44, EC [1, 1, 1, 1] [1] e := fc (by show runC _ _ _ = _; kernel_rfl) (fc (by show runC _ _ _ = _; kernel_rfl) (fc (by show runC _ _ _ = _; kernel_rfl) (List.forall_mem_nil _)))
theorem k_44 : okI 3 in_44 cn_44 = true := by decide +kernel
theorem g_44 : Gd [1, 1, 1, 1] [1] := ⟨in_44, cn_44, f_44, c_44, k_44⟩
def in_52 : List (List Nat × List (List (List Nat))) := [([4], [[[1, 1, 1], [1]]]),
 ([1, 3], [[[1, 2, 2], [2]], [[2, 2, 2], [1]]]),
 ([2, 2], [[[1, 1, 2], [2]], [[1, 2, 2], [1]]]),
 ([3, 1], [[[1, 1, 1], [2]], [[1, 1, 2], [1]]]),
 ([1, 1, 2], [[[1, 2, 3], [3]], [[1, 3, 3], [2]], [[2, 3, 3], [1]]]),
 ([1, 2, 1], [[[1, 2, 2], [3]], [[1, 2, 3], [2]], [[2, 2, 3], [1]]]),
 ([2, 1, 1], [[[1, 1, 2], [3]], [[1, 1, 3], [2]], [[1, 2, 3], [1]]]),
 ([1, 1, 1, 1], [[[1, 2, 3], [4]], [[1, 2, 4], [3]], [[1, 3, 4], [2]], [[2, 3, 4], [1]]])]
def cn_52 : List (List Nat × Nat) := [([4], 1), ([3, 1], 2), ([2, 2], 2), ([2, 1, 1], 3), ([1, 1, 1, 1], 4)]
theorem f_52 : ∀ e ∈ in_52, EF [4, 1] [1] e := fc (fun n => by kernel_rfl) (fc (fun n => by kernel_rfl) (fc (fun n => by kernel_rfl) (fc (fun n => by kernel_rfl) (fc (fun n => by kernel_rfl) (fc (fun n => by kernel_rfl) (fc (fun n => by kernel_rfl) (fc (fun n => by kernel_rfl) (List.forall_mem_nil _))))))))
theorem c_52 : ∀ e ∈ cn_52, EC [4, 1] [1] e := fc (by show runC _ _ _ = _; kernel_rfl) (fc (by show runC _ _ _ = _; kernel_rfl) (fc (by show runC _ _ _ = _; kernel_rfl) (fc (by show runC _ _ _ = _; kernel_rfl) (fc (by show runC _ _ _ = _; kernel_rfl) (List.forall_mem_nil _)))))
theorem k_52 : okI 4 in_52 cn_52 = true := by decide +kernel
theorem g_52 : Gd [4, 1] [1] := ⟨in_52, cn_52, f_52, c_52, k_52⟩
def in_71 : List (List Nat × List (List (List Nat))) := [([4], []),
 ([1, 3], []),
 ([2, 2], [[[1], [1, 2], [2]]]),
 ([3, 1], []),
 ([1, 1, 2], [[[1], [2, 3], [3]], [[2], [1, 3], [3]]]),
 ([1, 2, 1], [[[1], [2, 2], [3]], [[2], [1, 3], [2]]]),
 ([2, 1, 1], [[[1], [1, 2], [3]], [[1], [1, 3], [2]]]),
 ([1, 1, 1, 1], [[[1], [2, 3], [4]], [[2], [1, 3], [4]], [[1], [2, 4], [3]], [[2], [1, 4], [3]], [[3], [1, 4], [2]]])]
def cn_71 : List (List Nat × Nat) := [([4], 0), ([3, 1], 0), ([2, 2], 1), ([2, 1, 1], 2), ([1, 1, 1, 1], 5)]
theorem f_71 : ∀ e ∈ in_71, EF [2, 2, 1] [1] e := fc (fun n => by kernel_rfl) (fc (fun n => by kernel_rfl) (fc (fun n => by kernel_rfl) (fc (fun n => by kernel_rfl) (fc (fun n => by kernel_rfl) (fc (fun n => by kernel_rfl) (fc (fun n => by kernel_rfl) (fc (fun n => by kernel_rfl) (List.forall_mem_nil _))))))))
theorem c_71 : ∀ e ∈ cn_71, EC [2, 2, 1] [1] e := fc (by show runC _ _ _ = _; kernel_rfl) (fc (by show runC _ _ _ = _; kernel_rfl) (fc (by show runC _ _ _ = _; kernel_rfl) (fc (by show runC _ _ _ = _; kernel_rfl) (fc (by show runC _ _ _ = _; kernel_rfl) (List.forall_mem_nil _)))))
theorem k_71 : okI 4 in_71 cn_71 = true := by decide +kernel
theorem g_71 : Gd [2, 2, 1] [1] := ⟨in_71, cn_71, f_71, c_71, k_71⟩
def in_74 : List (List Nat × List (List (List Nat))) := [([2], [[[], [1], [1]]]),
 ([1, 1], [[[], [1], [2]], [[], [2], [1]]])]
def cn_74 : List (List Nat × Nat) := [([2], 1), ([1, 1], 2)]
theorem f_74 : ∀ e ∈ in_74, EF [2, 2, 1] [2, 1] e := fc (fun n => by kernel_rfl) (fc (fun n => by kernel_rfl) (List.forall_mem_nil _))
theorem c_74 : ∀ e ∈ cn_74, EC [2, 2, 1] [2, 1] e := fc (by show runC _ _ _ = _; kernel_rfl) (fc (by show runC _ _ _ = _; kernel_rfl) (List.forall_mem_nil _))
theorem k_74 : okI 2 in_74 cn_74 = true := by decide +kernel
theorem g_74 : Gd [2, 2, 1] [2, 1] := ⟨in_74, cn_74, f_74, c_74, k_74⟩
def in_83 : List (List Nat × List (List (List Nat))) := [([4], []),
 ([1, 3], []),
 ([2, 2], []),
 ([3, 1], []),
 ([1, 1, 2], []),
 ([1, 2, 1], []),
 ([2, 1, 1], []),
 ([1, 1, 1, 1], [[[], [1], [2], [3], [4]]])]
def cn_83 : List (List Nat × Nat) := [([4], 0), ([3, 1], 0), ([2, 2], 0), ([2, 1, 1], 0), ([1, 1, 1, 1], 1)]
theorem f_83 : ∀ e ∈ in_83, EF [1, 1, 1, 1, 1] [1] e := fc (fun n => by kernel_rfl) (fc (fun n => by kernel_rfl) (fc (fun n => by kernel_rfl) (fc (fun n => by kernel_rfl) (fc (fun n => by kernel_rfl) (fc (fun n => by kernel_rfl) (fc (fun n => by kernel_rfl) (fc (fun n => by kernel_rfl) (List.forall_mem_nil _))))))))
theorem c_83 : ∀ e ∈ cn_83, EC [1, 1, 1, 1, 1] [1] e := fc (by show runC _ _ _ = _; kernel_rfl) (fc (by show runC _ _ _ = _; kernel_rfl) (fc (by show runC _ _ _ = _; kernel_rfl) (fc (by show runC _ _ _ = _; kernel_rfl) (fc (by show runC _ _ _ = _; kernel_rfl) (List.forall_mem_nil _)))))
theorem k_83 : okI 4 in_83 cn_83 = true := by decide +kernel
theorem g_83 : Gd [1, 1, 1, 1, 1] [1] := ⟨in_83, cn_83, f_83, c_83, k_83⟩
def in_93 : List (List Nat × List (List (List Nat))) := [([3], [[[1, 1], [1]]]),
 ([1, 2], [[[1, 2], [2]], [[2, 2], [1]]]),
 ([2, 1], [[[1, 1], [2]], [[1, 2], [1]]]),
 ([1, 1, 1], [[[1, 2], [3]], [[1, 3], [2]], [[2, 3], [1]]])]
def cn_93 : List (List Nat × Nat) := [([3], 1), ([2, 1], 2), ([1, 1, 1], 3)]
theorem f_93 : ∀ e ∈ in_93, EF [5, 1] [3] e := fc (fun n => by kernel_rfl) (fc (fun n => by kernel_rfl) (fc (fun n => by kernel_rfl) (fc (fun n => by kernel_rfl) (List.forall_mem_nil _))))
theorem c_93 : ∀ e ∈ cn_93, EC [5, 1] [3] e := fc (by show runC _ _ _ = _; kernel_rfl) (fc (by show runC _ _ _ = _; kernel_rfl) (fc (by show runC _ _ _ = _; kernel_rfl) (List.forall_mem_nil _)))
theorem k_93 : okI 3 in_93 cn_93 = true := by decide +kernel
theorem g_93 : Gd [5, 1] [3] := ⟨in_93, cn_93, f_93, c_93, k_93⟩
def in_103 : List (List Nat × List (List (List Nat))) := [([5], []),
 ([1, 4], [[[2, 2, 2], [1], [2]]]),
 ([2, 3], [[[1, 2, 2], [1], [2]]]),
 ([3, 2], [[[1, 1, 2], [1], [2]]]),
 ([4, 1], [[[1, 1, 1], [1], [2]]]),
 ([1, 1, 3], [[[1, 3, 3], [2], [3]], [[2, 3, 3], [1], [3]], [[3, 3, 3], [1], [2]]]),
 ([1, 2, 2], [[[1, 2, 3], [2], [3]], [[2, 2, 3], [1], [3]], [[2, 3, 3], [1], [2]]]),
 ([1, 3, 1], [[[1, 2, 2], [2], [3]], [[2, 2, 2], [1], [3]], [[2, 2, 3], [1], [2]]]),
 ([2, 1, 2], [[[1, 1, 3], [2], [3]], [[1, 2, 3], [1], [3]], [[1, 3, 3], [1], [2]]]),
 ([2, 2, 1], [[[1, 1, 2], [2], [3]], [[1, 2, 2], [1], [3]], [[1, 2, 3], [1], [2]]]),
 ([3, 1, 1], [[[1, 1, 1], [2], [3]], [[1, 1, 2], [1], [3]], [[1, 1, 3], [1], [2]]]),
 ([1, 1, 1, 2], [[[1, 2, 4], [3], [4]], [[1, 3, 4], [2], [4]], [[2, 3, 4], [1], [4]], [[1, 4, 4], [2], [3]], [[2, 4, 4], [1], [3]], [[3, 4, 4], [1], [2]]]),
 ([1, 1, 2, 1], [[[1, 2, 3], [3], [4]], [[1, 3, 3], [2], [4]], [[2, 3, 3], [1], [4]], [[1, 3, 4], [2], [3]], [[2, 3, 4], [1], [3]], [[3, 3, 4], [1], [2]]]),
 ([1, 2, 1, 1], [[[1, 2, 2], [3], [4]], [[1, 2, 3], [2], [4]], [[2, 2, 3], [1], [4]], [[1, 2, 4], [2], [3]], [[2, 2, 4], [1], [3]], [[2, 3, 4], [1], [2]]]),
 ([2, 1, 1, 1], [[[1, 1, 2], [3], [4]], [[1, 1, 3], [2], [4]], [[1, 2, 3], [1], [4]], [[1, 1, 4], [2], [3]], [[1, 2, 4], [1], [3]], [[1, 3, 4], [1], [2]]])]
def cn_103 : List (List Nat × Nat) := [([5], 0), ([4, 1], 1), ([3, 2], 1), ([3, 1, 1], 3), ([2, 2, 1], 3), ([2, 1, 1, 1], 6)]
theorem f_103 : ∀ e ∈ in_103, EF [4, 1, 1] [1] e := fc (fun n => by kernel_rfl) (fc (fun n => by kernel_rfl) (fc (fun n => by kernel_rfl) (fc (fun n => by kernel_rfl) (fc (fun n => by kernel_rfl) (fc (fun n => by kernel_rfl) (fc (fun n => by kernel_rfl) (fc (fun n => by kernel_rfl) (fc (fun n => by kernel_rfl) (fc (fun n => by kernel_rfl) (fc (fun n => by kernel_rfl) (fc (fun n => by kernel_rfl) (fc (fun n => by kernel_rfl) (fc (fun n => by kernel_rfl) (fc (fun n => by kernel_rfl) (List.forall_mem_nil _)))))))))))))))
theorem c_103 : ∀ e ∈ cn_103, EC [4, 1, 1] [1] e := fc (by show runC _ _ _ = _; kernel_rfl) (fc (by show runC _ _ _ = _; kernel_rfl) (fc (by show runC _ _ _ = _; kernel_rfl) (fc (by show runC _ _ _ = _; kernel_rfl) (fc (by show runC _ _ _ = _; kernel_rfl) (fc (by show runC _ _ _ = _; kernel_rfl) (List.forall_mem_nil _))))))
theorem k_103 : okI 5 in_103 cn_103 = true := by decide +kernel
theorem g_103 : Gd [4, 1, 1] [1] := ⟨in_103, cn_103, f_103, c_103, k_103⟩
def in_106 : List (List Nat × List (List (List Nat))) := [([4], [[[1, 1, 1], [], [1]]]),
 ([1, 3], [[[1, 2, 2], [], [2]], [[2, 2, 2], [], [1]]]),
 ([2, 2], [[[1, 1, 2], [], [2]], [[1, 2, 2], [], [1]]]),
 ([3, 1], [[[1, 1, 1], [], [2]], [[1, 1, 2], [], [1]]]),
 ([1, 1, 2], [[[1, 2, 3], [], [3]], [[1, 3, 3], [], [2]], [[2, 3, 3], [], [1]]]),
 ([1, 2, 1], [[[1, 2, 2], [], [3]], [[1, 2, 3], [], [2]], [[2, 2, 3], [], [1]]]),
 ([2, 1, 1], [[[1, 1, 2], [], [3]], [[1, 1, 3], [], [2]], [[1, 2, 3], [], [1]]]),
 ([1, 1, 1, 1], [[[1, 2, 3], [], [4]], [[1, 2, 4], [], [3]], [[1, 3, 4], [], [2]], [[2, 3, 4], [], [1]]])]
def cn_106 : List (List Nat × Nat) := [([4], 1), ([3, 1], 2), ([2, 2], 2), ([2, 1, 1], 3), ([1, 1, 1, 1], 4)]
theorem f_106 : ∀ e ∈ in_106, EF [4, 1, 1] [1, 1] e := fc (fun n => by kernel_rfl) (fc (fun n => by kernel_rfl) (fc (fun n => by kernel_rfl) (fc (fun n => by kernel_rfl) (fc (fun n => by kernel_rfl) (fc (fun n => by kernel_rfl) (fc (fun n => by kernel_rfl) (fc (fun n => by kernel_rfl) (List.forall_mem_nil _))))))))
theorem c_106 : ∀ e ∈ cn_106, EC [4, 1, 1] [1, 1] e := fc (by show runC _ _ _ = _; kernel_rfl) (fc (by show runC _ _ _ = _; kernel_rfl) (fc (by show runC _ _ _ = _; kernel_rfl) (fc (by show runC _ _ _ = _; kernel_rfl) (fc (by show runC _ _ _ = _; kernel_rfl) (List.forall_mem_nil _)))))
theorem k_106 : okI 4 in_106 cn_106 = true := by decide +kernel
theorem g_106 : Gd [4, 1, 1] [1, 1] := ⟨in_106, cn_106, f_106, c_106, k_106⟩
def in_109 : List (List Nat × List (List (List Nat))) := [([6], []),
 ([1, 5], []),
 ([2, 4], []),
 ([3, 3], [[[1, 1, 1], [2, 2, 2]]]),
 ([4, 2], []),
 ([5, 1], []),
 ([1, 1, 4], []),
 ([1, 2, 3], [[[1, 2, 2], [3, 3, 3]]]),
 ([1, 3, 2], [[[1, 2, 2], [2, 3, 3]]]),
 ([1, 4, 1], []),
 ([2, 1, 3], [[[1, 1, 2], [3, 3, 3]]]),
 ([2, 2, 2], [[[1, 1, 2], [2, 3, 3]]]),
 ([2, 3, 1], [[[1, 1, 2], [2, 2, 3]]]),
 ([3, 1, 2], [[[1, 1, 1], [2, 3, 3]]]),
 ([3, 2, 1], [[[1, 1, 1], [2, 2, 3]]]),
 ([4, 1, 1], []),
 ([1, 1, 1, 3], [[[1, 2, 3], [4, 4, 4]]]),
 ([1, 1, 2, 2], [[[1, 2, 3], [3, 4, 4]], [[1, 3, 3], [2, 4, 4]]]),
 ([1, 1, 3, 1], [[[1, 2, 3], [3, 3, 4]]]),
 ([1, 2, 1, 2], [[[1, 2, 2], [3, 4, 4]], [[1, 2, 3], [2, 4, 4]]]),
 ([1, 2, 2, 1], [[[1, 2, 2], [3, 3, 4]], [[1, 2, 3], [2, 3, 4]]]),
 ([1, 3, 1, 1], [[[1, 2, 2], [2, 3, 4]]]),
 ([2, 1, 1, 2], [[[1, 1, 2], [3, 4, 4]], [[1, 1, 3], [2, 4, 4]]]),
 ([2, 1, 2, 1], [[[1, 1, 2], [3, 3, 4]], [[1, 1, 3], [2, 3, 4]]]),
 ([2, 2, 1, 1], [[[1, 1, 2], [2, 3, 4]], [[1, 1, 3], [2, 2, 4]]]),
 ([3, 1, 1, 1], [[[1, 1, 1], [2, 3, 4]]])]
def cn_109 : List (List Nat × Nat) := [([6], 0), ([5, 1], 0), ([4, 2], 0), ([4, 1, 1], 0), ([3, 3], 1), ([3, 2, 1], 1), ([3, 1, 1, 1], 1), ([2, 2, 2], 1), ([2, 2, 1, 1], 2)]
theorem f_109 : ∀ e ∈ in_109, EF [3, 3] [] e := fc (fun n => by kernel_rfl) (fc (fun n => by kernel_rfl) (fc (fun n => by kernel_rfl) (fc (fun n => by kernel_rfl) (fc (fun n => by kernel_rfl) (fc (fun n => by kernel_rfl) (fc (fun n => by kernel_rfl) (fc (fun n => by kernel_rfl) (fc (fun n => by kernel_rfl) (fc (fun n => by kernel_rfl) (fc (fun n => by kernel_rfl) (fc (fun n => by kernel_rfl) (fc (fun n => by kernel_rfl) (fc (fun n => by kernel_rfl) (fc (fun n => by kernel_rfl) (fc (fun n => by kernel_rfl) (fc (fun n => by kernel_rfl) (fc (fun n => by kernel_rfl) (fc (fun n => by kernel_rfl) (fc (fun n => by kernel_rfl) (fc (fun n => by kernel_rfl) (fc (fun n => by kernel_rfl) (fc (fun n => by kernel_rfl) (fc (fun n => by kernel_rfl) (fc (fun n => by kernel_rfl) (fc (fun n => by kernel_rfl) (List.forall_mem_nil _))))))))))))))))))))))))))
theorem c_109 : ∀ e ∈ cn_109, EC [3, 3] [] e := fc (by show runC _ _ _ = _; kernel_rfl) (fc (by show runC _ _ _ = _; kernel_rfl) (fc (by show runC _ _ _ = _; kernel_rfl) (fc (by show runC _ _ _ = _; kernel_rfl) (fc (by show runC _ _ _ = _; kernel_rfl) (fc (by show runC _ _ _ = _; kernel_rfl) (fc (by show runC _ _ _ = _; kernel_rfl) (fc (by show runC _ _ _ = _; kernel_rfl) (fc (by show runC _ _ _ = _; kernel_rfl) (List.forall_mem_nil _)))))))))
theorem k_109 : okI 6 in_109 cn_109 = true := by decide +kernel
theorem g_109 : Gd [3, 3] [] := ⟨in_109, cn_109, f_109, c_109, k_109⟩
def in_113 : List (List Nat × List (List (List Nat))) := [([4], []),
 ([1, 3], []),
 ([2, 2], [[[1, 1], [2, 2]]]),
 ([3, 1], []),
 ([1, 1, 2], [[[1, 2], [3, 3]]]),
 ([1, 2, 1], [[[1, 2], [2, 3]]]),
 ([2, 1, 1], [[[1, 1], [2, 3]]]),
 ([1, 1, 1, 1], [[[1, 2], [3, 4]], [[1, 3], [2, 4]]])]
def cn_113 : List (List Nat × Nat) := [([4], 0), ([3, 1], 0), ([2, 2], 1), ([2, 1, 1], 1), ([1, 1, 1, 1], 2)]
theorem f_113 : ∀ e ∈ in_113, EF [3, 3] [1, 1] e := fc (fun n => by kernel_rfl) (fc (fun n => by kernel_rfl) (fc (fun n => by kernel_rfl) (fc (fun n => by kernel_rfl) (fc (fun n => by kernel_rfl) (fc (fun n => by kernel_rfl) (fc (fun n => by kernel_rfl) (fc (fun n => by kernel_rfl) (List.forall_mem_nil _))))))))
theorem c_113 : ∀ e ∈ cn_113, EC [3, 3] [1, 1] e := fc (by show runC _ _ _ = _; kernel_rfl) (fc (by show runC _ _ _ = _; kernel_rfl) (fc (by show runC _ _ _ = _; kernel_rfl) (fc (by show runC _ _ _ = _; kernel_rfl) (fc (by show runC _ _ _ = _; kernel_rfl) (List.forall_mem_nil _)))))
theorem k_113 : okI 4 in_113 cn_113 = true := by decide +kernel
theorem g_113 : Gd [3, 3] [1, 1] := ⟨in_113, cn_113, f_113, c_113, k_113⟩
def in_117 : List (List Nat × List (List (List Nat))) := [([4], []),
 ([1, 3], [[[2], [1, 2], [2]]]),
 ([2, 2], [[[1], [1, 2], [2]], [[2], [1, 1], [2]]]),
 ([3, 1], [[[1], [1, 1], [2]]]),
 ([1, 1, 2], [[[1], [2, 3], [3]], [[2], [1, 3], [3]], [[3], [1, 2], [3]], [[3], [1, 3], [2]]]),
 ([1, 2, 1], [[[1], [2, 2], [3]], [[2], [1, 2], [3]], [[2], [1, 3], [2]], [[3], [1, 2], [2]]]),
 ([2, 1, 1], [[[1], [1, 2], [3]], [[2], [1, 1], [3]], [[1], [1, 3], [2]], [[3], [1, 1], [2]]]),
 ([1, 1, 1, 1], [[[1], [2, 3], [4]], [[2], [1, 3], [4]], [[3], [1, 2], [4]], [[1], [2, 4], [3]], [[2], [1, 4], [3]], [[3], [1, 4], [2]], [[4], [1, 2], [3]], [[4], [1, 3], [2]]])]
def cn_117 : List (List Nat × Nat) := [([4], 0), ([3, 1], 1), ([2, 2], 2), ([2, 1, 1], 4), ([1, 1, 1, 1], 8)]
theorem f_117 : ∀ e ∈ in_117, EF [3, 2, 1] [2] e := fc (fun n => by kernel_rfl) (fc (fun n => by kernel_rfl) (fc (fun n => by kernel_rfl) (fc (fun n => by kernel_rfl) (fc (fun n => by kernel_rfl) (fc (fun n => by kernel_rfl) (fc (fun n => by kernel_rfl) (fc (fun n => by kernel_rfl) (List.forall_mem_nil _))))))))
theorem c_117 : ∀ e ∈ cn_117, EC [3, 2, 1] [2] e := fc (by show runC _ _ _ = _; kernel_rfl) (fc (by show runC _ _ _ = _; kernel_rfl) (fc (by show runC _ _ _ = _; kernel_rfl) (fc (by show runC _ _ _ = _; kernel_rfl) (fc (by show runC _ _ _ = _; kernel_rfl) (List.forall_mem_nil _)))))
theorem k_117 : okI 4 in_117 cn_117 = true := by decide +kernel
theorem g_117 : Gd [3, 2, 1] [2] := ⟨in_117, cn_117, f_117, c_117, k_117⟩
def in_118 : List (List Nat × List (List (List Nat))) := [([3], []),
 ([1, 2], [[[], [1, 2], [2]]]),
 ([2, 1], [[[], [1, 1], [2]]]),
 ([1, 1, 1], [[[], [1, 2], [3]], [[], [1, 3], [2]]])]
def cn_118 : List (List Nat × Nat) := [([3], 0), ([2, 1], 1), ([1, 1, 1], 2)]
theorem f_118 : ∀ e ∈ in_118, EF [3, 2, 1] [3] e := fc (fun n => by kernel_rfl) (fc (fun n => by kernel_rfl) (fc (fun n => by kernel_rfl) (fc (fun n => by kernel_rfl) (List.forall_mem_nil _))))
theorem c_118 : ∀ e ∈ cn_118, EC [3, 2, 1] [3] e := fc (by show runC _ _ _ = _; kernel_rfl) (fc (by show runC _ _ _ = _; kernel_rfl) (fc (by show runC _ _ _ = _; kernel_rfl) (List.forall_mem_nil _)))
theorem k_118 : okI 3 in_118 cn_118 = true := by decide +kernel
theorem g_118 : Gd [3, 2, 1] [3] := ⟨in_118, cn_118, f_118, c_118, k_118⟩
def in_120 : List (List Nat × List (List (List Nat))) := [([3], [[[1], [1], [1]]]),
 ([1, 2], [[[1], [2], [2]], [[2], [1], [2]], [[2], [2], [1]]]),
 ([2, 1], [[[1], [1], [2]], [[1], [2], [1]], [[2], [1], [1]]]),
 ([1, 1, 1], [[[1], [2], [3]], [[2], [1], [3]], [[1], [3], [2]], [[2], [3], [1]], [[3], [1], [2]], [[3], [2], [1]]])]
def cn_120 : List (List Nat × Nat) := [([3], 1), ([2, 1], 3), ([1, 1, 1], 6)]
theorem f_120 : ∀ e ∈ in_120, EF [3, 2, 1] [2, 1] e := fc (fun n => by kernel_rfl) (fc (fun n => by kernel_rfl) (fc (fun n => by kernel_rfl) (fc (fun n => by kernel_rfl) (List.forall_mem_nil _))))
theorem c_120 : ∀ e ∈ cn_120, EC [3, 2, 1] [2, 1] e := fc (by show runC _ _ _ = _; kernel_rfl) (fc (by show runC _ _ _ = _; kernel_rfl) (fc (by show runC _ _ _ = _; kernel_rfl) (List.forall_mem_nil _)))
theorem k_120 : okI 3 in_120 cn_120 = true := by decide +kernel
theorem g_120 : Gd [3, 2, 1] [2, 1] := ⟨in_120, cn_120, f_120, c_120, k_120⟩
def in_139 : List (List Nat × List (List (List Nat))) := [([3], []),
 ([1, 2], [[[], [2], [1], [2]]]),
 ([2, 1], [[[], [1], [1], [2]]]),
 ([1, 1, 1], [[[], [1], [2], [3]], [[], [2], [1], [3]], [[], [3], [1], [2]]])]
def cn_139 : List (List Nat × Nat) := [([3], 0), ([2, 1], 1), ([1, 1, 1], 3)]
theorem f_139 : ∀ e ∈ in_139, EF [2, 2, 1, 1] [2, 1] e := fc (fun n => by kernel_rfl) (fc (fun n => by kernel_rfl) (fc (fun n => by kernel_rfl) (fc (fun n => by kernel_rfl) (List.forall_mem_nil _))))
theorem c_139 : ∀ e ∈ cn_139, EC [2, 2, 1, 1] [2, 1] e := fc (by show runC _ _ _ = _; kernel_rfl) (fc (by show runC _ _ _ = _; kernel_rfl) (fc (by show runC _ _ _ = _; kernel_rfl) (List.forall_mem_nil _)))
theorem k_139 : okI 3 in_139 cn_139 = true := by decide +kernel
theorem g_139 : Gd [2, 2, 1, 1] [2, 1] := ⟨in_139, cn_139, f_139, c_139, k_139⟩
def in_146 : List (List Nat × List (List (List Nat))) := [([3], []),
 ([1, 2], [[[2], [], [], [1], [2]]]),
 ([2, 1], [[[1], [], [], [1], [2]]]),
 ([1, 1, 1], [[[1], [], [], [2], [3]], [[2], [], [], [1], [3]], [[3], [], [], [1], [2]]])]
def cn_146 : List (List Nat × Nat) := [([3], 0), ([2, 1], 1), ([1, 1, 1], 3)]
theorem f_146 : ∀ e ∈ in_146, EF [2, 1, 1, 1, 1] [1, 1, 1] e := fc (fun n => by kernel_rfl) (fc (fun n => by kernel_rfl) (fc (fun n => by kernel_rfl) (fc (fun n => by kernel_rfl) (List.forall_mem_nil _))))
theorem c_146 : ∀ e ∈ cn_146, EC [2, 1, 1, 1, 1] [1, 1, 1] e := fc (by show runC _ _ _ = _; kernel_rfl) (fc (by show runC _ _ _ = _; kernel_rfl) (fc (by show runC _ _ _ = _; kernel_rfl) (List.forall_mem_nil _)))
theorem k_146 : okI 3 in_146 cn_146 = true := by decide +kernel
theorem g_146 : Gd [2, 1, 1, 1, 1] [1, 1, 1] := ⟨in_146, cn_146, f_146, c_146, k_146⟩
def in_152 : List (List Nat × List (List (List Nat))) := [([6], [[[1, 1, 1, 1, 1, 1]]]),
 ([1, 5], [[[1, 2, 2, 2, 2, 2]]]),
 ([2, 4], [[[1, 1, 2, 2, 2, 2]]]),
 ([3, 3], [[[1, 1, 1, 2, 2, 2]]]),
 ([4, 2], [[[1, 1, 1, 1, 2, 2]]]),
 ([5, 1], [[[1, 1, 1, 1, 1, 2]]]),
 ([1, 1, 4], [[[1, 2, 3, 3, 3, 3]]]),
 ([1, 2, 3], [[[1, 2, 2, 3, 3, 3]]]),
 ([1, 3, 2], [[[1, 2, 2, 2, 3, 3]]]),
 ([1, 4, 1], [[[1, 2, 2, 2, 2, 3]]]),
 ([2, 1, 3], [[[1, 1, 2, 3, 3, 3]]]),
 ([2, 2, 2], [[[1, 1, 2, 2, 3, 3]]]),
 ([2, 3, 1], [[[1, 1, 2, 2, 2, 3]]]),
 ([3, 1, 2], [[[1, 1, 1, 2, 3, 3]]]),
 ([3, 2, 1], [[[1, 1, 1, 2, 2, 3]]]),
 ([4, 1, 1], [[[1, 1, 1, 1, 2, 3]]]),
 ([1, 1, 1, 3], [[[1, 2, 3, 4, 4, 4]]]),
 ([1, 1, 2, 2], [[[1, 2, 3, 3, 4, 4]]]),
 ([1, 1, 3, 1], [[[1, 2, 3, 3, 3, 4]]]),
 ([1, 2, 1, 2], [[[1, 2, 2, 3, 4, 4]]]),
 ([1, 2, 2, 1], [[[1, 2, 2, 3, 3, 4]]]),
 ([1, 3, 1, 1], [[[1, 2, 2, 2, 3, 4]]]),
 ([2, 1, 1, 2], [[[1, 1, 2, 3, 4, 4]]]),
 ([2, 1, 2, 1], [[[1, 1, 2, 3, 3, 4]]]),
 ([2, 2, 1, 1], [[[1, 1, 2, 2, 3, 4]]]),
 ([3, 1, 1, 1], [[[1, 1, 1, 2, 3, 4]]])]
def cn_152 : List (List Nat × Nat) := [([6], 1), ([5, 1], 1), ([4, 2], 1), ([4, 1, 1], 1), ([3, 3], 1), ([3, 2, 1], 1), ([3, 1, 1, 1], 1), ([2, 2, 2], 1), ([2, 2, 1, 1], 1)]
theorem f_152 : ∀ e ∈ in_152, EF [7] [1] e := fc (fun n => by kernel_rfl) (fc (fun n => by kernel_rfl) (fc (fun n => by kernel_rfl) (fc (fun n => by kernel_rfl) (fc (fun n => by kernel_rfl) (fc (fun n => by kernel_rfl) (fc (fun n => by kernel_rfl) (fc (fun n => by kernel_rfl) (fc (fun n => by kernel_rfl) (fc (fun n => by kernel_rfl) (fc (fun n => by kernel_rfl) (fc (fun n => by kernel_rfl) (fc (fun n => by kernel_rfl) (fc (fun n => by kernel_rfl) (fc (fun n => by kernel_rfl) (fc (fun n => by kernel_rfl) (fc (fun n => by kernel_rfl) (fc (fun n => by kernel_rfl) (fc (fun n => by kernel_rfl) (fc (fun n => by kernel_rfl) (fc (fun n => by kernel_rfl) (fc (fun n => by kernel_rfl) (fc (fun n => by kernel_rfl) (fc (fun n => by kernel_rfl) (fc (fun n => by kernel_rfl) (fc (fun n => by kernel_rfl) (List.forall_mem_nil _))))))))))))))))))))))))))
theorem c_152 : ∀ e ∈ cn_152, EC [7] [1] e := fc (by show runC _ _ _ = _; kernel_rfl) (fc (by show runC _ _ _ = _; kernel_rfl) (fc (by show runC _ _ _ = _; kernel_rfl) (fc (by show runC _ _ _ = _; kernel_rfl) (fc (by show runC _ _ _ = _; kernel_rfl) (fc (by show runC _ _ _ = _; kernel_rfl) (fc (by show runC _ _ _ = _; kernel_rfl) (fc (by show runC _ _ _ = _; kernel_rfl) (fc (by show runC _ _ _ = _; kernel_rfl) (List.forall_mem_nil _)))))))))
theorem k_152 : okI 6 in_152 cn_152 = true := by decide +kernel
theorem g_152 : Gd [7] [1] := ⟨in_152, cn_152, f_152, c_152, k_152⟩
def in_163 : List (List Nat × List (List (List Nat))) := [([5], [[[1, 1, 1], [1, 1]]]),
 ([1, 4], [[[1, 2, 2], [2, 2]], [[2, 2, 2], [1, 2]]]),
 ([2, 3], [[[1, 1, 2], [2, 2]], [[1, 2, 2], [1, 2]], [[2, 2, 2], [1, 1]]]),
 ([3, 2], [[[1, 1, 1], [2, 2]], [[1, 1, 2], [1, 2]], [[1, 2, 2], [1, 1]]]),
 ([4, 1], [[[1, 1, 1], [1, 2]], [[1, 1, 2], [1, 1]]]),
 ([1, 1, 3], [[[1, 2, 3], [3, 3]], [[1, 3, 3], [2, 3]], [[2, 3, 3], [1, 3]], [[3, 3, 3], [1, 2]]]),
 ([1, 2, 2], [[[1, 2, 2], [3, 3]], [[1, 2, 3], [2, 3]], [[2, 2, 3], [1, 3]], [[1, 3, 3], [2, 2]], [[2, 3, 3], [1, 2]]]),
 ([1, 3, 1], [[[1, 2, 2], [2, 3]], [[2, 2, 2], [1, 3]], [[1, 2, 3], [2, 2]], [[2, 2, 3], [1, 2]]]),
 ([2, 1, 2], [[[1, 1, 2], [3, 3]], [[1, 1, 3], [2, 3]], [[1, 2, 3], [1, 3]], [[1, 3, 3], [1, 2]], [[2, 3, 3], [1, 1]]]),
 ([2, 2, 1], [[[1, 1, 2], [2, 3]], [[1, 2, 2], [1, 3]], [[1, 1, 3], [2, 2]], [[1, 2, 3], [1, 2]], [[2, 2, 3], [1, 1]]]),
 ([3, 1, 1], [[[1, 1, 1], [2, 3]], [[1, 1, 2], [1, 3]], [[1, 1, 3], [1, 2]], [[1, 2, 3], [1, 1]]]),
 ([1, 1, 1, 2], [[[1, 2, 3], [4, 4]], [[1, 2, 4], [3, 4]], [[1, 3, 4], [2, 4]], [[2, 3, 4], [1, 4]], [[1, 4, 4], [2, 3]], [[2, 4, 4], [1, 3]], [[3, 4, 4], [1, 2]]]),
 ([1, 1, 2, 1], [[[1, 2, 3], [3, 4]], [[1, 3, 3], [2, 4]], [[2, 3, 3], [1, 4]], [[1, 2, 4], [3, 3]], [[1, 3, 4], [2, 3]], [[2, 3, 4], [1, 3]], [[3, 3, 4], [1, 2]]]),
 ([1, 2, 1, 1], [[[1, 2, 2], [3, 4]], [[1, 2, 3], [2, 4]], [[2, 2, 3], [1, 4]], [[1, 2, 4], [2, 3]], [[2, 2, 4], [1, 3]], [[1, 3, 4], [2, 2]], [[2, 3, 4], [1, 2]]]),
 ([2, 1, 1, 1], [[[1, 1, 2], [3, 4]], [[1, 1, 3], [2, 4]], [[1, 2, 3], [1, 4]], [[1, 1, 4], [2, 3]], [[1, 2, 4], [1, 3]], [[1, 3, 4], [1, 2]], [[2, 3, 4], [1, 1]]])]
def cn_163 : List (List Nat × Nat) := [([5], 1), ([4, 1], 2), ([3, 2], 3), ([3, 1, 1], 4), ([2, 2, 1], 5), ([2, 1, 1, 1], 7)]
theorem f_163 : ∀ e ∈ in_163, EF [5, 2] [2] e := fc (fun n => by kernel_rfl) (fc (fun n => by kernel_rfl) (fc (fun n => by kernel_rfl) (fc (fun n => by kernel_rfl) (fc (fun n => by kernel_rfl) (fc (fun n => by kernel_rfl) (fc (fun n => by kernel_rfl) (fc (fun n => by kernel_rfl) (fc (fun n => by kernel_rfl) (fc (fun n => by kernel_rfl) (fc (fun n => by kernel_rfl) (fc (fun n => by kernel_rfl) (fc (fun n => by kernel_rfl) (fc (fun n => by kernel_rfl) (fc (fun n => by kernel_rfl) (List.forall_mem_nil _)))))))))))))))
theorem c_163 : ∀ e ∈ cn_163, EC [5, 2] [2] e := fc (by show runC _ _ _ = _; kernel_rfl) (fc (by show runC _ _ _ = _; kernel_rfl) (fc (by show runC _ _ _ = _; kernel_rfl) (fc (by show runC _ _ _ = _; kernel_rfl) (fc (by show runC _ _ _ = _; kernel_rfl) (fc (by show runC _ _ _ = _; kernel_rfl) (List.forall_mem_nil _))))))
theorem k_163 : okI 5 in_163 cn_163 = true := by decide +kernel
theorem g_163 : Gd [5, 2] [2] := ⟨in_163, cn_163, f_163, c_163, k_163⟩
def in_172 : List (List Nat × List (List (List Nat))) := [([4], [[[1, 1, 1], [], [1]]]),
 ([1, 3], [[[1, 2, 2], [], [2]], [[2, 2, 2], [], [1]]]),
 ([2, 2], [[[1, 1, 2], [], [2]], [[1, 2, 2], [], [1]]]),
 ([3, 1], [[[1, 1, 1], [], [2]], [[1, 1, 2], [], [1]]]),
 ([1, 1, 2], [[[1, 2, 3], [], [3]], [[1, 3, 3], [], [2]], [[2, 3, 3], [], [1]]]),
 ([1, 2, 1], [[[1, 2, 2], [], [3]], [[1, 2, 3], [], [2]], [[2, 2, 3], [], [1]]]),
 ([2, 1, 1], [[[1, 1, 2], [], [3]], [[1, 1, 3], [], [2]], [[1, 2, 3], [], [1]]]),
 ([1, 1, 1, 1], [[[1, 2, 3], [], [4]], [[1, 2, 4], [], [3]], [[1, 3, 4], [], [2]], [[2, 3, 4], [], [1]]])]
def cn_172 : List (List Nat × Nat) := [([4], 1), ([3, 1], 2), ([2, 2], 2), ([2, 1, 1], 3), ([1, 1, 1, 1], 4)]
theorem f_172 : ∀ e ∈ in_172, EF [5, 1, 1] [2, 1] e := fc (fun n => by kernel_rfl) (fc (fun n => by kernel_rfl) (fc (fun n => by kernel_rfl) (fc (fun n => by kernel_rfl) (fc (fun n => by kernel_rfl) (fc (fun n => by kernel_rfl) (fc (fun n => by kernel_rfl) (fc (fun n => by kernel_rfl) (List.forall_mem_nil _))))))))
theorem c_172 : ∀ e ∈ cn_172, EC [5, 1, 1] [2, 1] e := fc (by show runC _ _ _ = _; kernel_rfl) (fc (by show runC _ _ _ = _; kernel_rfl) (fc (by show runC _ _ _ = _; kernel_rfl) (fc (by show runC _ _ _ = _; kernel_rfl) (fc (by show runC _ _ _ = _; kernel_rfl) (List.forall_mem_nil _)))))
theorem k_172 : okI 4 in_172 cn_172 = true := by decide +kernel
theorem g_172 : Gd [5, 1, 1] [2, 1] := ⟨in_172, cn_172, f_172, c_172, k_172⟩
def in_176 : List (List Nat × List (List (List Nat))) := [([5], []),
 ([1, 4], [[[1, 2], [2, 2, 2]]]),
 ([2, 3], [[[1, 1], [2, 2, 2]], [[1, 2], [1, 2, 2]]]),
 ([3, 2], [[[1, 1], [1, 2, 2]], [[1, 2], [1, 1, 2]]]),
 ([4, 1], [[[1, 1], [1, 1, 2]]]),
 ([1, 1, 3], [[[1, 2], [3, 3, 3]], [[1, 3], [2, 3, 3]], [[2, 3], [1, 3, 3]]]),
 ([1, 2, 2], [[[1, 2], [2, 3, 3]], [[2, 2], [1, 3, 3]], [[1, 3], [2, 2, 3]], [[2, 3], [1, 2, 3]]]),
 ([1, 3, 1], [[[1, 2], [2, 2, 3]], [[2, 2], [1, 2, 3]], [[1, 3], [2, 2, 2]]]),
 ([2, 1, 2], [[[1, 1], [2, 3, 3]], [[1, 2], [1, 3, 3]], [[1, 3], [1, 2, 3]], [[2, 3], [1, 1, 3]]]),
 ([2, 2, 1], [[[1, 1], [2, 2, 3]], [[1, 2], [1, 2, 3]], [[2, 2], [1, 1, 3]], [[1, 3], [1, 2, 2]]]),
 ([3, 1, 1], [[[1, 1], [1, 2, 3]], [[1, 2], [1, 1, 3]], [[1, 3], [1, 1, 2]]]),
 ([1, 1, 1, 2], [[[1, 2], [3, 4, 4]], [[1, 3], [2, 4, 4]], [[2, 3], [1, 4, 4]], [[1, 4], [2, 3, 4]], [[2, 4], [1, 3, 4]], [[3, 4], [1, 2, 4]]]),
 ([1, 1, 2, 1], [[[1, 2], [3, 3, 4]], [[1, 3], [2, 3, 4]], [[2, 3], [1, 3, 4]], [[3, 3], [1, 2, 4]], [[1, 4], [2, 3, 3]], [[2, 4], [1, 3, 3]]]),
 ([1, 2, 1, 1], [[[1, 2], [2, 3, 4]], [[2, 2], [1, 3, 4]], [[1, 3], [2, 2, 4]], [[2, 3], [1, 2, 4]], [[1, 4], [2, 2, 3]], [[2, 4], [1, 2, 3]]]),
 ([2, 1, 1, 1], [[[1, 1], [2, 3, 4]], [[1, 2], [1, 3, 4]], [[1, 3], [1, 2, 4]], [[2, 3], [1, 1, 4]], [[1, 4], [1, 2, 3]], [[2, 4], [1, 1, 3]]])]
def cn_176 : List (List Nat × Nat) := [([5], 0), ([4, 1], 1), ([3, 2], 2), ([3, 1, 1], 3), ([2, 2, 1], 4), ([2, 1, 1, 1], 6)]
theorem f_176 : ∀ e ∈ in_176, EF [4, 3] [2] e := fc (fun n => by kernel_rfl) (fc (fun n => by kernel_rfl) (fc (fun n => by kernel_rfl) (fc (fun n => by kernel_rfl) (fc (fun n => by kernel_rfl) (fc (fun n => by kernel_rfl) (fc (fun n => by kernel_rfl) (fc (fun n => by kernel_rfl) (fc (fun n => by kernel_rfl) (fc (fun n => by kernel_rfl) (fc (fun n => by kernel_rfl) (fc (fun n => by kernel_rfl) (fc (fun n => by kernel_rfl) (fc (fun n => by kernel_rfl) (fc (fun n => by kernel_rfl) (List.forall_mem_nil _)))))))))))))))
theorem c_176 : ∀ e ∈ cn_176, EC [4, 3] [2] e := fc (by show runC _ _ _ = _; kernel_rfl) (fc (by show runC _ _ _ = _; kernel_rfl) (fc (by show runC _ _ _ = _; kernel_rfl) (fc (by show runC _ _ _ = _; kernel_rfl) (fc (by show runC _ _ _ = _; kernel_rfl) (fc (by show runC _ _ _ = _; kernel_rfl) (List.forall_mem_nil _))))))
theorem k_176 : okI 5 in_176 cn_176 = true := by decide +kernel
theorem g_176 : Gd [4, 3] [2] := ⟨in_176, cn_176, f_176, c_176, k_176⟩
def in_181 : List (List Nat × List (List (List Nat))) := [([6], []),
 ([1, 5], []),
 ([2, 4], [[[1, 2, 2], [1, 2], [2]]]),
 ([3, 3], [[[1, 1, 2], [1, 2], [2]]]),
 ([4, 2], [[[1, 1, 1], [1, 2], [2]]]),
 ([5, 1], []),
 ([1, 1, 4], [[[1, 3, 3], [2, 3], [3]], [[2, 3, 3], [1, 3], [3]]]),
 ([1, 2, 3], [[[1, 2, 3], [2, 3], [3]], [[2, 2, 3], [1, 3], [3]], [[1, 3, 3], [2, 2], [3]], [[2, 3, 3], [1, 3], [2]]]),
 ([1, 3, 2], [[[1, 2, 2], [2, 3], [3]], [[2, 2, 2], [1, 3], [3]], [[1, 2, 3], [2, 2], [3]], [[2, 2, 3], [1, 3], [2]]]),
 ([1, 4, 1], [[[1, 2, 2], [2, 2], [3]], [[2, 2, 2], [1, 3], [2]]]),
 ([2, 1, 3], [[[1, 1, 3], [2, 3], [3]], [[1, 2, 3], [1, 3], [3]], [[1, 3, 3], [1, 2], [3]], [[1, 3, 3], [1, 3], [2]]]),
 ([2, 2, 2], [[[1, 1, 2], [2, 3], [3]], [[1, 2, 2], [1, 3], [3]], [[1, 1, 3], [2, 2], [3]], [[1, 2, 3], [1, 2], [3]], [[1, 2, 3], [1, 3], [2]], [[1, 3, 3], [1, 2], [2]]]),
 ([2, 3, 1], [[[1, 1, 2], [2, 2], [3]], [[1, 2, 2], [1, 2], [3]], [[1, 2, 2], [1, 3], [2]], [[1, 2, 3], [1, 2], [2]]]),
 ([3, 1, 2], [[[1, 1, 1], [2, 3], [3]], [[1, 1, 2], [1, 3], [3]], [[1, 1, 3], [1, 2], [3]], [[1, 1, 3], [1, 3], [2]]]),
 ([3, 2, 1], [[[1, 1, 1], [2, 2], [3]], [[1, 1, 2], [1, 2], [3]], [[1, 1, 2], [1, 3], [2]], [[1, 1, 3], [1, 2], [2]]]),
 ([4, 1, 1], [[[1, 1, 1], [1, 2], [3]], [[1, 1, 1], [1, 3], [2]]]),
 ([1, 1, 1, 3], [[[1, 2, 4], [3, 4], [4]], [[1, 3, 4], [2, 4], [4]], [[2, 3, 4], [1, 4], [4]], [[1, 4, 4], [2, 3], [4]], [[2, 4, 4], [1, 3], [4]], [[1, 4, 4], [2, 4], [3]], [[2, 4, 4], [1, 4], [3]], [[3, 4, 4], [1, 4], [2]]]),
 ([1, 1, 2, 2], [[[1, 2, 3], [3, 4], [4]], [[1, 3, 3], [2, 4], [4]], [[2, 3, 3], [1, 4], [4]], [[1, 2, 4], [3, 3], [4]], [[1, 3, 4], [2, 3], [4]], [[2, 3, 4], [1, 3], [4]], [[1, 3, 4], [2, 4], [3]], [[2, 3, 4], [1, 4], [3]], [[3, 3, 4], [1, 4], [2]], [[1, 4, 4], [2, 3], [3]], [[2, 4, 4], [1, 3], [3]]]),
 ([1, 1, 3, 1], [[[1, 2, 3], [3, 3], [4]], [[1, 3, 3], [2, 3], [4]], [[2, 3, 3], [1, 3], [4]], [[1, 3, 3], [2, 4], [3]], [[2, 3, 3], [1, 4], [3]], [[3, 3, 3], [1, 4], [2]], [[1, 3, 4], [2, 3], [3]], [[2, 3, 4], [1, 3], [3]]]),
 ([1, 2, 1, 2], [[[1, 2, 2], [3, 4], [4]], [[1, 2, 3], [2, 4], [4]], [[2, 2, 3], [1, 4], [4]], [[1, 2, 4], [2, 3], [4]], [[2, 2, 4], [1, 3], [4]], [[1, 3, 4], [2, 2], [4]], [[1, 2, 4], [2, 4], [3]], [[2, 2, 4], [1, 4], [3]], [[2, 3, 4], [1, 4], [2]], [[1, 4, 4], [2, 2], [3]], [[2, 4, 4], [1, 3], [2]]]),
 ([1, 2, 2, 1], [[[1, 2, 2], [3, 3], [4]], [[1, 2, 3], [2, 3], [4]], [[2, 2, 3], [1, 3], [4]], [[1, 3, 3], [2, 2], [4]], [[1, 2, 3], [2, 4], [3]], [[2, 2, 3], [1, 4], [3]], [[2, 3, 3], [1, 4], [2]], [[1, 2, 4], [2, 3], [3]], [[2, 2, 4], [1, 3], [3]], [[1, 3, 4], [2, 2], [3]], [[2, 3, 4], [1, 3], [2]]]),
 ([1, 3, 1, 1], [[[1, 2, 2], [2, 3], [4]], [[2, 2, 2], [1, 3], [4]], [[1, 2, 3], [2, 2], [4]], [[1, 2, 2], [2, 4], [3]], [[2, 2, 2], [1, 4], [3]], [[2, 2, 3], [1, 4], [2]], [[1, 2, 4], [2, 2], [3]], [[2, 2, 4], [1, 3], [2]]]),
 ([2, 1, 1, 2], [[[1, 1, 2], [3, 4], [4]], [[1, 1, 3], [2, 4], [4]], [[1, 2, 3], [1, 4], [4]], [[1, 1, 4], [2, 3], [4]], [[1, 2, 4], [1, 3], [4]], [[1, 3, 4], [1, 2], [4]], [[1, 1, 4], [2, 4], [3]], [[1, 2, 4], [1, 4], [3]], [[1, 3, 4], [1, 4], [2]], [[1, 4, 4], [1, 2], [3]], [[1, 4, 4], [1, 3], [2]]]),
 ([2, 1, 2, 1], [[[1, 1, 2], [3, 3], [4]], [[1, 1, 3], [2, 3], [4]], [[1, 2, 3], [1, 3], [4]], [[1, 3, 3], [1, 2], [4]], [[1, 1, 3], [2, 4], [3]], [[1, 2, 3], [1, 4], [3]], [[1, 3, 3], [1, 4], [2]], [[1, 1, 4], [2, 3], [3]], [[1, 2, 4], [1, 3], [3]], [[1, 3, 4], [1, 2], [3]], [[1, 3, 4], [1, 3], [2]]]),
 ([2, 2, 1, 1], [[[1, 1, 2], [2, 3], [4]], [[1, 2, 2], [1, 3], [4]], [[1, 1, 3], [2, 2], [4]], [[1, 2, 3], [1, 2], [4]], [[1, 1, 2], [2, 4], [3]], [[1, 2, 2], [1, 4], [3]], [[1, 2, 3], [1, 4], [2]], [[1, 1, 4], [2, 2], [3]], [[1, 2, 4], [1, 2], [3]], [[1, 2, 4], [1, 3], [2]], [[1, 3, 4], [1, 2], [2]]]),
 ([3, 1, 1, 1], [[[1, 1, 1], [2, 3], [4]], [[1, 1, 2], [1, 3], [4]], [[1, 1, 3], [1, 2], [4]], [[1, 1, 1], [2, 4], [3]], [[1, 1, 2], [1, 4], [3]], [[1, 1, 3], [1, 4], [2]], [[1, 1, 4], [1, 2], [3]], [[1, 1, 4], [1, 3], [2]]])]
def cn_181 : List (List Nat × Nat) := [([6], 0), ([5, 1], 0), ([4, 2], 1), ([4, 1, 1], 2), ([3, 3], 1), ([3, 2, 1], 4), ([3, 1, 1, 1], 8), ([2, 2, 2], 6), ([2, 2, 1, 1], 11)]
theorem f_181 : ∀ e ∈ in_181, EF [4, 2, 1] [1] e := fc (fun n => by kernel_rfl) (fc (fun n => by kernel_rfl) (fc (fun n => by kernel_rfl) (fc (fun n => by kernel_rfl) (fc (fun n => by kernel_rfl) (fc (fun n => by kernel_rfl) (fc (fun n => by kernel_rfl) (fc (fun n => by kernel_rfl) (fc (fun n => by kernel_rfl) (fc (fun n => by kernel_rfl) (fc (fun n => by kernel_rfl) (fc (fun n => by kernel_rfl) (fc (fun n => by kernel_rfl) (fc (fun n => by kernel_rfl) (fc (fun n => by kernel_rfl) (fc (fun n => by kernel_rfl) (fc (fun n => by kernel_rfl) (fc (fun n => by kernel_rfl) (fc (fun n => by kernel_rfl) (fc (fun n => by kernel_rfl) (fc (fun n => by kernel_rfl) (fc (fun n => by kernel_rfl) (fc (fun n => by kernel_rfl) (fc (fun n => by kernel_rfl) (fc (fun n => by kernel_rfl) (fc (fun n => by kernel_rfl) (List.forall_mem_nil _))))))))))))))))))))))))))
theorem c_181 : ∀ e ∈ cn_181, EC [4, 2, 1] [1] e := fc (by show runC _ _ _ = _; kernel_rfl) (fc (by show runC _ _ _ = _; kernel_rfl) (fc (by show runC _ _ _ = _; kernel_rfl) (fc (by show runC _ _ _ = _; kernel_rfl) (fc (by show runC _ _ _ = _; kernel_rfl) (fc (by show runC _ _ _ = _; kernel_rfl) (fc (by show runC _ _ _ = _; kernel_rfl) (fc (by show runC _ _ _ = _; kernel_rfl) (fc (by show runC _ _ _ = _; kernel_rfl) (List.forall_mem_nil _)))))))))
theorem k_181 : okI 6 in_181 cn_181 = true := by decide +kernel
theorem g_181 : Gd [4, 2, 1] [1] := ⟨in_181, cn_181, f_181, c_181, k_181⟩
def in_186 : List (List Nat × List (List (List Nat))) := [([4], []),
 ([1, 3], [[[1, 2, 2], [2], []]]),
 ([2, 2], [[[1, 1, 2], [2], []]]),
 ([3, 1], [[[1, 1, 1], [2], []]]),
 ([1, 1, 2], [[[1, 2, 3], [3], []], [[1, 3, 3], [2], []]]),
 ([1, 2, 1], [[[1, 2, 2], [3], []], [[1, 2, 3], [2], []]]),
 ([2, 1, 1], [[[1, 1, 2], [3], []], [[1, 1, 3], [2], []]]),
 ([1, 1, 1, 1], [[[1, 2, 3], [4], []], [[1, 2, 4], [3], []], [[1, 3, 4], [2], []]])]
def cn_186 : List (List Nat × Nat) := [([4], 0), ([3, 1], 1), ([2, 2], 1), ([2, 1, 1], 2), ([1, 1, 1, 1], 3)]
theorem f_186 : ∀ e ∈ in_186, EF [4, 2, 1] [1, 1, 1] e := fc (fun n => by kernel_rfl) (fc (fun n => by kernel_rfl) (fc (fun n => by kernel_rfl) (fc (fun n => by kernel_rfl) (fc (fun n => by kernel_rfl) (fc (fun n => by kernel_rfl) (fc (fun n => by kernel_rfl) (fc (fun n => by kernel_rfl) (List.forall_mem_nil _))))))))
theorem c_186 : ∀ e ∈ cn_186, EC [4, 2, 1] [1, 1, 1] e := fc (by show runC _ _ _ = _; kernel_rfl) (fc (by show runC _ _ _ = _; kernel_rfl) (fc (by show runC _ _ _ = _; kernel_rfl) (fc (by show runC _ _ _ = _; kernel_rfl) (fc (by show runC _ _ _ = _; kernel_rfl) (List.forall_mem_nil _)))))
theorem k_186 : okI 4 in_186 cn_186 = true := by decide +kernel
theorem g_186 : Gd [4, 2, 1] [1, 1, 1] := ⟨in_186, cn_186, f_186, c_186, k_186⟩
def in_189 : List (List Nat × List (List (List Nat))) := [([5], []),
 ([1, 4], []),
 ([2, 3], []),
 ([3, 2], []),
 ([4, 1], []),
 ([1, 1, 3], [[[3, 3], [1], [2], [3]]]),
 ([1, 2, 2], [[[2, 3], [1], [2], [3]]]),
 ([1, 3, 1], [[[2, 2], [1], [2], [3]]]),
 ([2, 1, 2], [[[1, 3], [1], [2], [3]]]),
 ([2, 2, 1], [[[1, 2], [1], [2], [3]]]),
 ([3, 1, 1], [[[1, 1], [1], [2], [3]]]),
 ([1, 1, 1, 2], [[[1, 4], [2], [3], [4]], [[2, 4], [1], [3], [4]], [[3, 4], [1], [2], [4]], [[4, 4], [1], [2], [3]]]),
 ([1, 1, 2, 1], [[[1, 3], [2], [3], [4]], [[2, 3], [1], [3], [4]], [[3, 3], [1], [2], [4]], [[3, 4], [1], [2], [3]]]),
 ([1, 2, 1, 1], [[[1, 2], [2], [3], [4]], [[2, 2], [1], [3], [4]], [[2, 3], [1], [2], [4]], [[2, 4], [1], [2], [3]]]),
 ([2, 1, 1, 1], [[[1, 1], [2], [3], [4]], [[1, 2], [1], [3], [4]], [[1, 3], [1], [2], [4]], [[1, 4], [1], [2], [3]]])]
def cn_189 : List (List Nat × Nat) := [([5], 0), ([4, 1], 0), ([3, 2], 0), ([3, 1, 1], 1), ([2, 2, 1], 1), ([2, 1, 1, 1], 4)]
theorem f_189 : ∀ e ∈ in_189, EF [4, 1, 1, 1] [2] e := fc (fun n => by kernel_rfl) (fc (fun n => by kernel_rfl) (fc (fun n => by kernel_rfl) (fc (fun n => by kernel_rfl) (fc (fun n => by kernel_rfl) (fc (fun n => by kernel_rfl) (fc (fun n => by kernel_rfl) (fc (fun n => by kernel_rfl) (fc (fun n => by kernel_rfl) (fc (fun n => by kernel_rfl) (fc (fun n => by kernel_rfl) (fc (fun n => by kernel_rfl) (fc (fun n => by kernel_rfl) (fc (fun n => by kernel_rfl) (fc (fun n => by kernel_rfl) (List.forall_mem_nil _)))))))))))))))
theorem c_189 : ∀ e ∈ cn_189, EC [4, 1, 1, 1] [2] e := fc (by show runC _ _ _ = _; kernel_rfl) (fc (by show runC _ _ _ = _; kernel_rfl) (fc (by show runC _ _ _ = _; kernel_rfl) (fc (by show runC _ _ _ = _; kernel_rfl) (fc (by show runC _ _ _ = _; kernel_rfl) (fc (by show runC _ _ _ = _; kernel_rfl) (List.forall_mem_nil _))))))
theorem k_189 : okI 5 in_189 cn_189 = true := by decide +kernel
theorem g_189 : Gd [4, 1, 1, 1] [2] := ⟨in_189, cn_189, f_189, c_189, k_189⟩
def in_195 : List (List Nat × List (List (List Nat))) := [([6], []),
 ([1, 5], []),
 ([2, 4], []),
 ([3, 3], [[[1, 1], [1, 2, 2], [2]]]),
 ([4, 2], []),
 ([5, 1], []),
 ([1, 1, 4], []),
 ([1, 2, 3], [[[1, 2], [2, 3, 3], [3]], [[2, 2], [1, 3, 3], [3]]]),
 ([1, 3, 2], [[[1, 2], [2, 2, 3], [3]], [[2, 2], [1, 3, 3], [2]]]),
 ([1, 4, 1], []),
 ([2, 1, 3], [[[1, 1], [2, 3, 3], [3]], [[1, 2], [1, 3, 3], [3]]]),
 ([2, 2, 2], [[[1, 1], [2, 2, 3], [3]], [[1, 2], [1, 2, 3], [3]], [[1, 2], [1, 3, 3], [2]]]),
 ([2, 3, 1], [[[1, 1], [2, 2, 2], [3]], [[1, 2], [1, 2, 3], [2]]]),
 ([3, 1, 2], [[[1, 1], [1, 2, 3], [3]], [[1, 1], [1, 3, 3], [2]]]),
 ([3, 2, 1], [[[1, 1], [1, 2, 2], [3]], [[1, 1], [1, 2, 3], [2]]]),
 ([4, 1, 1], []),
 ([1, 1, 1, 3], [[[1, 2], [3, 4, 4], [4]], [[1, 3], [2, 4, 4], [4]], [[2, 3], [1, 4, 4], [4]]]),
 ([1, 1, 2, 2], [[[1, 2], [3, 3, 4], [4]], [[1, 3], [2, 3, 4], [4]], [[2, 3], [1, 3, 4], [4]], [[1, 3], [2, 4, 4], [3]], [[2, 3], [1, 4, 4], [3]], [[3, 3], [1, 4, 4], [2]]]),
 ([1, 1, 3, 1], [[[1, 2], [3, 3, 3], [4]], [[1, 3], [2, 3, 4], [3]], [[2, 3], [1, 3, 4], [3]]]),
 ([1, 2, 1, 2], [[[1, 2], [2, 3, 4], [4]], [[2, 2], [1, 3, 4], [4]], [[1, 3], [2, 2, 4], [4]], [[1, 2], [2, 4, 4], [3]], [[2, 2], [1, 4, 4], [3]], [[2, 3], [1, 4, 4], [2]]]),
 ([1, 2, 2, 1], [[[1, 2], [2, 3, 3], [4]], [[2, 2], [1, 3, 3], [4]], [[1, 2], [2, 3, 4], [3]], [[2, 2], [1, 3, 4], [3]], [[1, 3], [2, 2, 4], [3]], [[2, 3], [1, 3, 4], [2]]]),
 ([1, 3, 1, 1], [[[1, 2], [2, 2, 3], [4]], [[1, 2], [2, 2, 4], [3]], [[2, 2], [1, 3, 4], [2]]]),
 ([2, 1, 1, 2], [[[1, 1], [2, 3, 4], [4]], [[1, 2], [1, 3, 4], [4]], [[1, 3], [1, 2, 4], [4]], [[1, 1], [2, 4, 4], [3]], [[1, 2], [1, 4, 4], [3]], [[1, 3], [1, 4, 4], [2]]]),
 ([2, 1, 2, 1], [[[1, 1], [2, 3, 3], [4]], [[1, 2], [1, 3, 3], [4]], [[1, 1], [2, 3, 4], [3]], [[1, 2], [1, 3, 4], [3]], [[1, 3], [1, 2, 4], [3]], [[1, 3], [1, 3, 4], [2]]]),
 ([2, 2, 1, 1], [[[1, 1], [2, 2, 3], [4]], [[1, 2], [1, 2, 3], [4]], [[1, 1], [2, 2, 4], [3]], [[1, 2], [1, 2, 4], [3]], [[1, 2], [1, 3, 4], [2]], [[1, 3], [1, 2, 4], [2]]]),
 ([3, 1, 1, 1], [[[1, 1], [1, 2, 3], [4]], [[1, 1], [1, 2, 4], [3]], [[1, 1], [1, 3, 4], [2]]])]
def cn_195 : List (List Nat × Nat) := [([6], 0), ([5, 1], 0), ([4, 2], 0), ([4, 1, 1], 0), ([3, 3], 1), ([3, 2, 1], 2), ([3, 1, 1, 1], 3), ([2, 2, 2], 3), ([2, 2, 1, 1], 6)]
theorem f_195 : ∀ e ∈ in_195, EF [3, 3, 1] [1] e := fc (fun n => by kernel_rfl) (fc (fun n => by kernel_rfl) (fc (fun n => by kernel_rfl) (fc (fun n => by kernel_rfl) (fc (fun n => by kernel_rfl) (fc (fun n => by kernel_rfl) (fc (fun n => by kernel_rfl) (fc (fun n => by kernel_rfl) (fc (fun n => by kernel_rfl) (fc (fun n => by kernel_rfl) (fc (fun n => by kernel_rfl) (fc (fun n => by kernel_rfl) (fc (fun n => by kernel_rfl) (fc (fun n => by kernel_rfl) (fc (fun n => by kernel_rfl) (fc (fun n => by kernel_rfl) (fc (fun n => by kernel_rfl) (fc (fun n => by kernel_rfl) (fc (fun n => by kernel_rfl) (fc (fun n => by kernel_rfl) (fc (fun n => by kernel_rfl) (fc (fun n => by kernel_rfl) (fc (fun n => by kernel_rfl) (fc (fun n => by kernel_rfl) (fc (fun n => by kernel_rfl) (fc (fun n => by kernel_rfl) (List.forall_mem_nil _))))))))))))))))))))))))))
theorem c_195 : ∀ e ∈ cn_195, EC [3, 3, 1] [1] e := fc (by show runC _ _ _ = _; kernel_rfl) (fc (by show runC _ _ _ = _; kernel_rfl) (fc (by show runC _ _ _ = _; kernel_rfl) (fc (by show runC _ _ _ = _; kernel_rfl) (fc (by show runC _ _ _ = _; kernel_rfl) (fc (by show runC _ _ _ = _; kernel_rfl) (fc (by show runC _ _ _ = _; kernel_rfl) (fc (by show runC _ _ _ = _; kernel_rfl) (fc (by show runC _ _ _ = _; kernel_rfl) (List.forall_mem_nil _)))))))))
theorem k_195 : okI 6 in_195 cn_195 = true := by decide +kernel
theorem g_195 : Gd [3, 3, 1] [1] := ⟨in_195, cn_195, f_195, c_195, k_195⟩
def in_206 : List (List Nat × List (List (List Nat))) := [([4], []),
 ([1, 3], [[[2], [1], [2, 2]]]),
 ([2, 2], [[[1], [1], [2, 2]], [[2], [1], [1, 2]]]),
 ([3, 1], [[[1], [1], [1, 2]]]),
 ([1, 1, 2], [[[1], [2], [3, 3]], [[2], [1], [3, 3]], [[3], [1], [2, 3]], [[3], [2], [1, 3]]]),
 ([1, 2, 1], [[[1], [2], [2, 3]], [[2], [1], [2, 3]], [[2], [2], [1, 3]], [[3], [1], [2, 2]]]),
 ([2, 1, 1], [[[1], [1], [2, 3]], [[1], [2], [1, 3]], [[2], [1], [1, 3]], [[3], [1], [1, 2]]]),
 ([1, 1, 1, 1], [[[1], [2], [3, 4]], [[2], [1], [3, 4]], [[1], [3], [2, 4]], [[2], [3], [1, 4]], [[3], [1], [2, 4]], [[3], [2], [1, 4]], [[4], [1], [2, 3]], [[4], [2], [1, 3]]])]
def cn_206 : List (List Nat × Nat) := [([4], 0), ([3, 1], 1), ([2, 2], 2), ([2, 1, 1], 4), ([1, 1, 1, 1], 8)]
theorem f_206 : ∀ e ∈ in_206, EF [3, 2, 2] [2, 1] e := fc (fun n => by kernel_rfl) (fc (fun n => by kernel_rfl) (fc (fun n => by kernel_rfl) (fc (fun n => by kernel_rfl) (fc (fun n => by kernel_rfl) (fc (fun n => by kernel_rfl) (fc (fun n => by kernel_rfl) (fc (fun n => by kernel_rfl) (List.forall_mem_nil _))))))))
theorem c_206 : ∀ e ∈ cn_206, EC [3, 2, 2] [2, 1] e := fc (by show runC _ _ _ = _; kernel_rfl) (fc (by show runC _ _ _ = _; kernel_rfl) (fc (by show runC _ _ _ = _; kernel_rfl) (fc (by show runC _ _ _ = _; kernel_rfl) (fc (by show runC _ _ _ = _; kernel_rfl) (List.forall_mem_nil _)))))
theorem k_206 : okI 4 in_206 cn_206 = true := by decide +kernel
theorem g_206 : Gd [3, 2, 2] [2, 1] := ⟨in_206, cn_206, f_206, c_206, k_206⟩
def in_208 : List (List Nat × List (List (List Nat))) := [([7], []),
 ([1, 6], []),
 ([2, 5], []),
 ([3, 4], []),
 ([4, 3], []),
 ([5, 2], []),
 ([6, 1], []),
 ([1, 1, 5], []),
 ([1, 2, 4], []),
 ([1, 3, 3], []),
 ([1, 4, 2], []),
 ([1, 5, 1], []),
 ([2, 1, 4], []),
 ([2, 2, 3], []),
 ([2, 3, 2], []),
 ([2, 4, 1], []),
 ([3, 1, 3], []),
 ([3, 2, 2], []),
 ([3, 3, 1], []),
 ([4, 1, 2], []),
 ([4, 2, 1], []),
 ([5, 1, 1], []),
 ([1, 1, 1, 4], []),
 ([1, 1, 2, 3], [[[1, 3, 4], [2, 4], [3], [4]]]),
 ([1, 1, 3, 2], [[[1, 3, 3], [2, 4], [3], [4]]]),
 ([1, 1, 4, 1], []),
 ([1, 2, 1, 3], [[[1, 2, 4], [2, 4], [3], [4]]]),
 ([1, 2, 2, 2], [[[1, 2, 3], [2, 4], [3], [4]], [[1, 2, 4], [2, 3], [3], [4]]]),
 ([1, 2, 3, 1], [[[1, 2, 3], [2, 3], [3], [4]]]),
 ([1, 3, 1, 2], [[[1, 2, 2], [2, 4], [3], [4]]]),
 ([1, 3, 2, 1], [[[1, 2, 2], [2, 3], [3], [4]]]),
 ([1, 4, 1, 1], []),
 ([2, 1, 1, 3], [[[1, 1, 4], [2, 4], [3], [4]]]),
 ([2, 1, 2, 2], [[[1, 1, 3], [2, 4], [3], [4]], [[1, 1, 4], [2, 3], [3], [4]]]),
 ([2, 1, 3, 1], [[[1, 1, 3], [2, 3], [3], [4]]]),
 ([2, 2, 1, 2], [[[1, 1, 2], [2, 4], [3], [4]], [[1, 1, 4], [2, 2], [3], [4]]]),
 ([2, 2, 2, 1], [[[1, 1, 2], [2, 3], [3], [4]], [[1, 1, 3], [2, 2], [3], [4]]]),
 ([2, 3, 1, 1], [[[1, 1, 2], [2, 2], [3], [4]]]),
 ([3, 1, 1, 2], [[[1, 1, 1], [2, 4], [3], [4]]]),
 ([3, 1, 2, 1], [[[1, 1, 1], [2, 3], [3], [4]]]),
 ([3, 2, 1, 1], [[[1, 1, 1], [2, 2], [3], [4]]]),
 ([4, 1, 1, 1], [])]
def cn_208 : List (List Nat × Nat) := [([7], 0), ([6, 1], 0), ([5, 2], 0), ([5, 1, 1], 0), ([4, 3], 0), ([4, 2, 1], 0), ([4, 1, 1, 1], 0), ([3, 3, 1], 0), ([3, 2, 2], 0), ([3, 2, 1, 1], 1), ([2, 2, 2, 1], 2)]
theorem f_208 : ∀ e ∈ in_208, EF [3, 2, 1, 1] [] e := fc (fun n => by kernel_rfl) (fc (fun n => by kernel_rfl) (fc (fun n => by kernel_rfl) (fc (fun n => by kernel_rfl) (fc (fun n => by kernel_rfl) (fc (fun n => by kernel_rfl) (fc (fun n => by kernel_rfl) (fc (fun n => by kernel_rfl) (fc (fun n => by kernel_rfl) (fc (fun n => by kernel_rfl) (fc (fun n => by kernel_rfl) (fc (fun n => by kernel_rfl) (fc (fun n => by kernel_rfl) (fc (fun n => by kernel_rfl) (fc (fun n => by kernel_rfl) (fc (fun n => by kernel_rfl) (fc (fun n => by kernel_rfl) (fc (fun n => by kernel_rfl) (fc (fun n => by kernel_rfl) (fc (fun n => by kernel_rfl) (fc (fun n => by kernel_rfl) (fc (fun n => by kernel_rfl) (fc (fun n => by kernel_rfl) (fc (fun n => by kernel_rfl) (fc (fun n => by kernel_rfl) (fc (fun n => by kernel_rfl) (fc (fun n => by kernel_rfl) (fc (fun n => by kernel_rfl) (fc (fun n => by kernel_rfl) (fc (fun n => by kernel_rfl) (fc (fun n => by kernel_rfl) (fc (fun n => by kernel_rfl) (fc (fun n => by kernel_rfl) (fc (fun n => by kernel_rfl) (fc (fun n => by kernel_rfl) (fc (fun n => by kernel_rfl) (fc (fun n => by kernel_rfl) (fc (fun n => by kernel_rfl) (fc (fun n => by kernel_rfl) (fc (fun n => by kernel_rfl) (fc (fun n => by kernel_rfl) (fc (fun n => by kernel_rfl) (List.forall_mem_nil _))))))))))))))))))))))))))))))))))))))))))
theorem c_208 : ∀ e ∈ cn_208, EC [3, 2, 1, 1] [] e := fc (by show runC _ _ _ = _; kernel_rfl) (fc (by show runC _ _ _ = _; kernel_rfl) (fc (by show runC _ _ _ = _; kernel_rfl) (fc (by show runC _ _ _ = _; kernel_rfl) (fc (by show runC _ _ _ = _; kernel_rfl) (fc (by show runC _ _ _ = _; kernel_rfl) (fc (by show runC _ _ _ = _; kernel_rfl) (fc (by show runC _ _ _ = _; kernel_rfl) (fc (by show runC _ _ _ = _; kernel_rfl) (fc (by show runC _ _ _ = _; kernel_rfl) (fc (by show runC _ _ _ = _; kernel_rfl) (List.forall_mem_nil _)))))))))))
theorem k_208 : okI 7 in_208 cn_208 = true := by decide +kernel
theorem g_208 : Gd [3, 2, 1, 1] [] := ⟨in_208, cn_208, f_208, c_208, k_208⟩
def in_213 : List (List Nat × List (List (List Nat))) := [([4], []),
 ([1, 3], [[[2], [2], [1], [2]]]),
 ([2, 2], [[[1], [2], [1], [2]], [[2], [1], [1], [2]]]),
 ([3, 1], [[[1], [1], [1], [2]]]),
 ([1, 1, 2], [[[1], [3], [2], [3]], [[2], [3], [1], [3]], [[3], [1], [2], [3]], [[3], [2], [1], [3]], [[3], [3], [1], [2]]]),
 ([1, 2, 1], [[[1], [2], [2], [3]], [[2], [1], [2], [3]], [[2], [2], [1], [3]], [[2], [3], [1], [2]], [[3], [2], [1], [2]]]),
 ([2, 1, 1], [[[1], [1], [2], [3]], [[1], [2], [1], [3]], [[2], [1], [1], [3]], [[1], [3], [1], [2]], [[3], [1], [1], [2]]]),
 ([1, 1, 1, 1], [[[1], [2], [3], [4]], [[2], [1], [3], [4]], [[1], [3], [2], [4]], [[2], [3], [1], [4]], [[3], [1], [2], [4]], [[3], [2], [1], [4]], [[1], [4], [2], [3]], [[2], [4], [1], [3]], [[3], [4], [1], [2]], [[4], [1], [2], [3]], [[4], [2], [1], [3]], [[4], [3], [1], [2]]])]
def cn_213 : List (List Nat × Nat) := [([4], 0), ([3, 1], 1), ([2, 2], 2), ([2, 1, 1], 5), ([1, 1, 1, 1], 12)]
theorem f_213 : ∀ e ∈ in_213, EF [3, 2, 1, 1] [2, 1] e := fc (fun n => by kernel_rfl) (fc (fun n => by kernel_rfl) (fc (fun n => by kernel_rfl) (fc (fun n => by kernel_rfl) (fc (fun n => by kernel_rfl) (fc (fun n => by kernel_rfl) (fc (fun n => by kernel_rfl) (fc (fun n => by kernel_rfl) (List.forall_mem_nil _))))))))
theorem c_213 : ∀ e ∈ cn_213, EC [3, 2, 1, 1] [2, 1] e := fc (by show runC _ _ _ = _; kernel_rfl) (fc (by show runC _ _ _ = _; kernel_rfl) (fc (by show runC _ _ _ = _; kernel_rfl) (fc (by show runC _ _ _ = _; kernel_rfl) (fc (by show runC _ _ _ = _; kernel_rfl) (List.forall_mem_nil _)))))
theorem k_213 : okI 4 in_213 cn_213 = true := by decide +kernel
theorem g_213 : Gd [3, 2, 1, 1] [2, 1] := ⟨in_213, cn_213, f_213, c_213, k_213⟩
def in_220 : List (List Nat × List (List (List Nat))) := [([4], []),
 ([1, 3], []),
 ([2, 2], []),
 ([3, 1], []),
 ([1, 1, 2], [[[3], [], [1], [2], [3]]]),
 ([1, 2, 1], [[[2], [], [1], [2], [3]]]),
 ([2, 1, 1], [[[1], [], [1], [2], [3]]]),
 ([1, 1, 1, 1], [[[1], [], [2], [3], [4]], [[2], [], [1], [3], [4]], [[3], [], [1], [2], [4]], [[4], [], [1], [2], [3]]])]
def cn_220 : List (List Nat × Nat) := [([4], 0), ([3, 1], 0), ([2, 2], 0), ([2, 1, 1], 1), ([1, 1, 1, 1], 4)]
theorem f_220 : ∀ e ∈ in_220, EF [3, 1, 1, 1, 1] [2, 1] e := fc (fun n => by kernel_rfl) (fc (fun n => by kernel_rfl) (fc (fun n => by kernel_rfl) (fc (fun n => by kernel_rfl) (fc (fun n => by kernel_rfl) (fc (fun n => by kernel_rfl) (fc (fun n => by kernel_rfl) (fc (fun n => by kernel_rfl) (List.forall_mem_nil _))))))))
theorem c_220 : ∀ e ∈ cn_220, EC [3, 1, 1, 1, 1] [2, 1] e := fc (by show runC _ _ _ = _; kernel_rfl) (fc (by show runC _ _ _ = _; kernel_rfl) (fc (by show runC _ _ _ = _; kernel_rfl) (fc (by show runC _ _ _ = _; kernel_rfl) (fc (by show runC _ _ _ = _; kernel_rfl) (List.forall_mem_nil _)))))
theorem k_220 : okI 4 in_220 cn_220 = true := by decide +kernel
theorem g_220 : Gd [3, 1, 1, 1, 1] [2, 1] := ⟨in_220, cn_220, f_220, c_220, k_220⟩
def in_221 : List (List Nat × List (List (List Nat))) := [([4], []),
 ([1, 3], [[[2, 2], [], [], [1], [2]]]),
 ([2, 2], [[[1, 2], [], [], [1], [2]]]),
 ([3, 1], [[[1, 1], [], [], [1], [2]]]),
 ([1, 1, 2], [[[1, 3], [], [], [2], [3]], [[2, 3], [], [], [1], [3]], [[3, 3], [], [], [1], [2]]]),
 ([1, 2, 1], [[[1, 2], [], [], [2], [3]], [[2, 2], [], [], [1], [3]], [[2, 3], [], [], [1], [2]]]),
 ([2, 1, 1], [[[1, 1], [], [], [2], [3]], [[1, 2], [], [], [1], [3]], [[1, 3], [], [], [1], [2]]]),
 ([1, 1, 1, 1], [[[1, 2], [], [], [3], [4]], [[1, 3], [], [], [2], [4]], [[2, 3], [], [], [1], [4]], [[1, 4], [], [], [2], [3]], [[2, 4], [], [], [1], [3]], [[3, 4], [], [], [1], [2]]])]
def cn_221 : List (List Nat × Nat) := [([4], 0), ([3, 1], 1), ([2, 2], 1), ([2, 1, 1], 3), ([1, 1, 1, 1], 6)]
theorem f_221 : ∀ e ∈ in_221, EF [3, 1, 1, 1, 1] [1, 1, 1] e := fc (fun n => by kernel_rfl) (fc (fun n => by kernel_rfl) (fc (fun n => by kernel_rfl) (fc (fun n => by kernel_rfl) (fc (fun n => by kernel_rfl) (fc (fun n => by kernel_rfl) (fc (fun n => by kernel_rfl) (fc (fun n => by kernel_rfl) (List.forall_mem_nil _))))))))
theorem c_221 : ∀ e ∈ cn_221, EC [3, 1, 1, 1, 1] [1, 1, 1] e := fc (by show runC _ _ _ = _; kernel_rfl) (fc (by show runC _ _ _ = _; kernel_rfl) (fc (by show runC _ _ _ = _; kernel_rfl) (fc (by show runC _ _ _ = _; kernel_rfl) (fc (by show runC _ _ _ = _; kernel_rfl) (List.forall_mem_nil _)))))
theorem k_221 : okI 4 in_221 cn_221 = true := by decide +kernel
theorem g_221 : Gd [3, 1, 1, 1, 1] [1, 1, 1] := ⟨in_221, cn_221, f_221, c_221, k_221⟩
def in_225 : List (List Nat × List (List (List Nat))) := [([5], []),
 ([1, 4], []),
 ([2, 3], []),
 ([3, 2], []),
 ([4, 1], []),
 ([1, 1, 3], []),
 ([1, 2, 2], [[[1], [2], [2, 3], [3]]]),
 ([1, 3, 1], []),
 ([2, 1, 2], [[[1], [2], [1, 3], [3]]]),
 ([2, 2, 1], [[[1], [2], [1, 3], [2]]]),
 ([3, 1, 1], []),
 ([1, 1, 1, 2], [[[1], [2], [3, 4], [4]], [[1], [3], [2, 4], [4]], [[2], [3], [1, 4], [4]]]),
 ([1, 1, 2, 1], [[[1], [2], [3, 3], [4]], [[1], [3], [2, 4], [3]], [[2], [3], [1, 4], [3]]]),
 ([1, 2, 1, 1], [[[1], [2], [2, 3], [4]], [[1], [2], [2, 4], [3]], [[2], [3], [1, 4], [2]]]),
 ([2, 1, 1, 1], [[[1], [2], [1, 3], [4]], [[1], [2], [1, 4], [3]], [[1], [3], [1, 4], [2]]])]
def cn_225 : List (List Nat × Nat) := [([5], 0), ([4, 1], 0), ([3, 2], 0), ([3, 1, 1], 0), ([2, 2, 1], 1), ([2, 1, 1, 1], 3)]
theorem f_225 : ∀ e ∈ in_225, EF [2, 2, 2, 1] [1, 1] e := fc (fun n => by kernel_rfl) (fc (fun n => by kernel_rfl) (fc (fun n => by kernel_rfl) (fc (fun n => by kernel_rfl) (fc (fun n => by kernel_rfl) (fc (fun n => by kernel_rfl) (fc (fun n => by kernel_rfl) (fc (fun n => by kernel_rfl) (fc (fun n => by kernel_rfl) (fc (fun n => by kernel_rfl) (fc (fun n => by kernel_rfl) (fc (fun n => by kernel_rfl) (fc (fun n => by kernel_rfl) (fc (fun n => by kernel_rfl) (fc (fun n => by kernel_rfl) (List.forall_mem_nil _)))))))))))))))
theorem c_225 : ∀ e ∈ cn_225, EC [2, 2, 2, 1] [1, 1] e := fc (by show runC _ _ _ = _; kernel_rfl) (fc (by show runC _ _ _ = _; kernel_rfl) (fc (by show runC _ _ _ = _; kernel_rfl) (fc (by show runC _ _ _ = _; kernel_rfl) (fc (by show runC _ _ _ = _; kernel_rfl) (fc (by show runC _ _ _ = _; kernel_rfl) (List.forall_mem_nil _))))))
theorem k_225 : okI 5 in_225 cn_225 = true := by decide +kernel
theorem g_225 : Gd [2, 2, 2, 1] [1, 1] := ⟨in_225, cn_225, f_225, c_225, k_225⟩
def in_230 : List (List Nat × List (List (List Nat))) := [([5], []),
 ([1, 4], []),
 ([2, 3], []),
 ([3, 2], []),
 ([4, 1], []),
 ([1, 1, 3], []),
 ([1, 2, 2], []),
 ([1, 3, 1], []),
 ([2, 1, 2], []),
 ([2, 2, 1], []),
 ([3, 1, 1], []),
 ([1, 1, 1, 2], [[[], [1, 4], [2], [3], [4]]]),
 ([1, 1, 2, 1], [[[], [1, 3], [2], [3], [4]]]),
 ([1, 2, 1, 1], [[[], [1, 2], [2], [3], [4]]]),
 ([2, 1, 1, 1], [[[], [1, 1], [2], [3], [4]]])]
def cn_230 : List (List Nat × Nat) := [([5], 0), ([4, 1], 0), ([3, 2], 0), ([3, 1, 1], 0), ([2, 2, 1], 0), ([2, 1, 1, 1], 1)]
theorem f_230 : ∀ e ∈ in_230, EF [2, 2, 1, 1, 1] [2] e := fc (fun n => by kernel_rfl) (fc (fun n => by kernel_rfl) (fc (fun n => by kernel_rfl) (fc (fun n => by kernel_rfl) (fc (fun n => by kernel_rfl) (fc (fun n => by kernel_rfl) (fc (fun n => by kernel_rfl) (fc (fun n => by kernel_rfl) (fc (fun n => by kernel_rfl) (fc (fun n => by kernel_rfl) (fc (fun n => by kernel_rfl) (fc (fun n => by kernel_rfl) (fc (fun n => by kernel_rfl) (fc (fun n => by kernel_rfl) (fc (fun n => by kernel_rfl) (List.forall_mem_nil _)))))))))))))))
theorem c_230 : ∀ e ∈ cn_230, EC [2, 2, 1, 1, 1] [2] e := fc (by show runC _ _ _ = _; kernel_rfl) (fc (by show runC _ _ _ = _; kernel_rfl) (fc (by show runC _ _ _ = _; kernel_rfl) (fc (by show runC _ _ _ = _; kernel_rfl) (fc (by show runC _ _ _ = _; kernel_rfl) (fc (by show runC _ _ _ = _; kernel_rfl) (List.forall_mem_nil _))))))
theorem k_230 : okI 5 in_230 cn_230 = true := by decide +kernel
theorem g_230 : Gd [2, 2, 1, 1, 1] [2] := ⟨in_230, cn_230, f_230, c_230, k_230⟩
end K14
set_option maxHeartbeats 0
noncomputable section
namespace K14
open PySem L2 Pd Gn PySem.Spec PyProof.Rows Zq Hx
def in_2 : List (List Nat × List (List (List Nat))) := [([], [[[]]])]
def cn_2 : List (List Nat × Nat) := [([], 1)]
theorem f_2 : ∀ e ∈ in_2, EF [1] [1] e := fc (fun n => by kernel_rfl) (List.forall_mem_nil _)
theorem c_2 : ∀ e ∈ cn_2, EC [1] [1] e := fc (by show runC _ _ _ = _; kernel_rfl) (List.forall_mem_nil _)
theorem k_2 : okI 0 in_2 cn_2 = true := by decide +kernel
theorem g_2 : Gd [1] [1] := ⟨in_2, cn_2, f_2, c_2, k_2⟩
def in_7 : List (List Nat × List (List (List Nat))) := [([1], [[[], [1]]])]
def cn_7 : List (List Nat × Nat) := [([1], 1)]
theorem f_7 : ∀ e ∈ in_7, EF [1, 1] [1] e := fc (fun n => by kernel_rfl) (List.forall_mem_nil _)
theorem c_7 : ∀ e ∈ cn_7, EC [1, 1] [1] e := fc (by show runC _ _ _ = _; kernel_rfl) (List.forall_mem_nil _)
theorem k_7 : okI 1 in_7 cn_7 = true := by decide +kernel
theorem g_7 : Gd [1, 1] [1] := ⟨in_7, cn_7, f_7, c_7, k_7⟩
def in_16 : List (List Nat × List (List (List Nat))) := [([1], [[[1], []]])]
def cn_16 : List (List Nat × Nat) := [([1], 1)]
theorem f_16 : ∀ e ∈ in_16, EF [2, 1] [1, 1] e := fc (fun n => by kernel_rfl) (List.forall_mem_nil _)
theorem c_16 : ∀ e ∈ cn_16, EC [2, 1] [1, 1] e := fc (by show runC _ _ _ = _; kernel_rfl) (List.forall_mem_nil _)
theorem k_16 : okI 1 in_16 cn_16 = true := by decide +kernel
theorem g_16 : Gd [2, 1] [1, 1] := ⟨in_16, cn_16, f_16, c_16, k_16⟩
def in_42 : List (List Nat × List (List (List Nat))) := [([1], [[[1], [], []]])]
def cn_42 : List (List Nat × Nat) := [([1], 1)]
theorem f_42 : ∀ e ∈ in_42, EF [2, 1, 1] [1, 1, 1] e := fc (fun n => by kernel_rfl) (List.forall_mem_nil _)
theorem c_42 : ∀ e ∈ cn_42, EC [2, 1, 1] [1, 1, 1] e := fc (by show runC _ _ _ = _; kernel_rfl) (List.forall_mem_nil _)
theorem k_42 : okI 1 in_42 cn_42 = true := by decide +kernel
theorem g_42 : Gd [2, 1, 1] [1, 1, 1] := ⟨in_42, cn_42, f_42, c_42, k_42⟩
def in_45 : List (List Nat × List (List (List Nat))) := [([2], []),
 ([1, 1], [[[], [], [1], [2]]])]
def cn_45 : List (List Nat × Nat) := [([2], 0), ([1, 1], 1)]
theorem f_45 : ∀ e ∈ in_45, EF [1, 1, 1, 1] [1, 1] e := fc (fun n => by kernel_rfl) (fc (fun n => by kernel_rfl) (List.forall_mem_nil _))
theorem c_45 : ∀ e ∈ cn_45, EC [1, 1, 1, 1] [1, 1] e := fc (by show runC _ _ _ = _; kernel_rfl) (fc (by show runC _ _ _ = _; kernel_rfl) (List.forall_mem_nil _))
theorem k_45 : okI 2 in_45 cn_45 = true := by decide +kernel
theorem g_45 : Gd [1, 1, 1, 1] [1, 1] := ⟨in_45, cn_45, f_45, c_45, k_45⟩
def in_47 : List (List Nat × List (List (List Nat))) := [([5], [[[1, 1, 1, 1, 1]]]),
 ([1, 4], [[[1, 2, 2, 2, 2]]]),
 ([2, 3], [[[1, 1, 2, 2, 2]]]),
 ([3, 2], [[[1, 1, 1, 2, 2]]]),
 ([4, 1], [[[1, 1, 1, 1, 2]]]),
 ([1, 1, 3], [[[1, 2, 3, 3, 3]]]),
 ([1, 2, 2], [[[1, 2, 2, 3, 3]]]),
 ([1, 3, 1], [[[1, 2, 2, 2, 3]]]),
 ([2, 1, 2], [[[1, 1, 2, 3, 3]]]),
 ([2, 2, 1], [[[1, 1, 2, 2, 3]]]),
 ([3, 1, 1], [[[1, 1, 1, 2, 3]]]),
 ([1, 1, 1, 2], [[[1, 2, 3, 4, 4]]]),
 ([1, 1, 2, 1], [[[1, 2, 3, 3, 4]]]),
 ([1, 2, 1, 1], [[[1, 2, 2, 3, 4]]]),
 ([2, 1, 1, 1], [[[1, 1, 2, 3, 4]]])]
def cn_47 : List (List Nat × Nat) := [([5], 1), ([4, 1], 1), ([3, 2], 1), ([3, 1, 1], 1), ([2, 2, 1], 1), ([2, 1, 1, 1], 1)]
theorem f_47 : ∀ e ∈ in_47, EF [5] [] e := fc (fun n => by kernel_rfl) (fc (fun n => by kernel_rfl) (fc (fun n => by kernel_rfl) (fc (fun n => by kernel_rfl) (fc (fun n => by kernel_rfl) (fc (fun n => by kernel_rfl) (fc (fun n => by kernel_rfl) (fc (fun n => by kernel_rfl) (fc (fun n => by kernel_rfl) (fc (fun n => by kernel_rfl) (fc (fun n => by kernel_rfl) (fc (fun n => by kernel_rfl) (fc (fun n => by kernel_rfl) (fc (fun n => by kernel_rfl) (fc (fun n => by kernel_rfl) (List.forall_mem_nil _)))))))))))))))
theorem c_47 : ∀ e ∈ cn_47, EC [5] [] e := fc (by show runC _ _ _ = _; kernel_rfl) (fc (by show runC _ _ _ = _; kernel_rfl) (fc (by show runC _ _ _ = _; kernel_rfl) (fc (by show runC _ _ _ = _; kernel_rfl) (fc (by show runC _ _ _ = _; kernel_rfl) (fc (by show runC _ _ _ = _; kernel_rfl) (List.forall_mem_nil _))))))
theorem k_47 : okI 5 in_47 cn_47 = true := by decide +kernel
theorem g_47 : Gd [5] [] := ⟨in_47, cn_47, f_47, c_47, k_47⟩
def in_50 : List (List Nat × List (List (List Nat))) := [([2], [[[1, 1]]]),
 ([1, 1], [[[1, 2]]])]
def cn_50 : List (List Nat × Nat) := [([2], 1), ([1, 1], 1)]
theorem f_50 : ∀ e ∈ in_50, EF [5] [3] e := fc (fun n => by kernel_rfl) (fc (fun n => by kernel_rfl) (List.forall_mem_nil _))
theorem c_50 : ∀ e ∈ cn_50, EC [5] [3] e := fc (by show runC _ _ _ = _; kernel_rfl) (fc (by show runC _ _ _ = _; kernel_rfl) (List.forall_mem_nil _))
theorem k_50 : okI 2 in_50 cn_50 = true := by decide +kernel
theorem g_50 : Gd [5] [3] := ⟨in_50, cn_50, f_50, c_50, k_50⟩
def in_53 : List (List Nat × List (List (List Nat))) := [([3], [[[1, 1], [1]]]),
 ([1, 2], [[[1, 2], [2]], [[2, 2], [1]]]),
 ([2, 1], [[[1, 1], [2]], [[1, 2], [1]]]),
 ([1, 1, 1], [[[1, 2], [3]], [[1, 3], [2]], [[2, 3], [1]]])]
def cn_53 : List (List Nat × Nat) := [([3], 1), ([2, 1], 2), ([1, 1, 1], 3)]
theorem f_53 : ∀ e ∈ in_53, EF [4, 1] [2] e := fc (fun n => by kernel_rfl) (fc (fun n => by kernel_rfl) (fc (fun n => by kernel_rfl) (fc (fun n => by kernel_rfl) (List.forall_mem_nil _))))
theorem c_53 : ∀ e ∈ cn_53, EC [4, 1] [2] e := fc (by show runC _ _ _ = _; kernel_rfl) (fc (by show runC _ _ _ = _; kernel_rfl) (fc (by show runC _ _ _ = _; kernel_rfl) (List.forall_mem_nil _)))
theorem k_53 : okI 3 in_53 cn_53 = true := by decide +kernel
theorem g_53 : Gd [4, 1] [2] := ⟨in_53, cn_53, f_53, c_53, k_53⟩
def in_57 : List (List Nat × List (List (List Nat))) := [([5], []),
 ([1, 4], []),
 ([2, 3], [[[1, 1, 2], [2, 2]]]),
 ([3, 2], [[[1, 1, 1], [2, 2]]]),
 ([4, 1], []),
 ([1, 1, 3], [[[1, 2, 3], [3, 3]]]),
 ([1, 2, 2], [[[1, 2, 2], [3, 3]], [[1, 2, 3], [2, 3]]]),
 ([1, 3, 1], [[[1, 2, 2], [2, 3]]]),
 ([2, 1, 2], [[[1, 1, 2], [3, 3]], [[1, 1, 3], [2, 3]]]),
 ([2, 2, 1], [[[1, 1, 2], [2, 3]], [[1, 1, 3], [2, 2]]]),
 ([3, 1, 1], [[[1, 1, 1], [2, 3]]]),
 ([1, 1, 1, 2], [[[1, 2, 3], [4, 4]], [[1, 2, 4], [3, 4]], [[1, 3, 4], [2, 4]]]),
 ([1, 1, 2, 1], [[[1, 2, 3], [3, 4]], [[1, 3, 3], [2, 4]], [[1, 2, 4], [3, 3]]]),
 ([1, 2, 1, 1], [[[1, 2, 2], [3, 4]], [[1, 2, 3], [2, 4]], [[1, 2, 4], [2, 3]]]),
 ([2, 1, 1, 1], [[[1, 1, 2], [3, 4]], [[1, 1, 3], [2, 4]], [[1, 1, 4], [2, 3]]])]
def cn_57 : List (List Nat × Nat) := [([5], 0), ([4, 1], 0), ([3, 2], 1), ([3, 1, 1], 1), ([2, 2, 1], 2), ([2, 1, 1, 1], 3)]
theorem f_57 : ∀ e ∈ in_57, EF [3, 2] [] e := fc (fun n => by kernel_rfl) (fc (fun n => by kernel_rfl) (fc (fun n => by kernel_rfl) (fc (fun n => by kernel_rfl) (fc (fun n => by kernel_rfl) (fc (fun n => by kernel_rfl) (fc (fun n => by kernel_rfl) (fc (fun n => by kernel_rfl) (fc (fun n => by kernel_rfl) (fc (fun n => by kernel_rfl) (fc (fun n => by kernel_rfl) (fc (fun n => by kernel_rfl) (fc (fun n => by kernel_rfl) (fc (fun n => by kernel_rfl) (fc (fun n => by kernel_rfl) (List.forall_mem_nil _)))))))))))))))
theorem c_57 : ∀ e ∈ cn_57, EC [3, 2] [] e := fc (by show runC _ _ _ = _; kernel_rfl) (fc (by show runC _ _ _ = _; kernel_rfl) (fc (by show runC _ _ _ = _; kernel_rfl) (fc (by show runC _ _ _ = _; kernel_rfl) (fc (by show runC _ _ _ = _; kernel_rfl) (fc (by show runC _ _ _ = _; kernel_rfl) (List.forall_mem_nil _))))))
theorem k_57 : okI 5 in_57 cn_57 = true := by decide +kernel
theorem g_57 : Gd [3, 2] [] := ⟨in_57, cn_57, f_57, c_57, k_57⟩
def in_60 : List (List Nat × List (List (List Nat))) := [([2], [[[], [1, 1]]]),
 ([1, 1], [[[], [1, 2]]])]
def cn_60 : List (List Nat × Nat) := [([2], 1), ([1, 1], 1)]
theorem f_60 : ∀ e ∈ in_60, EF [3, 2] [3] e := fc (fun n => by kernel_rfl) (fc (fun n => by kernel_rfl) (List.forall_mem_nil _))
theorem c_60 : ∀ e ∈ cn_60, EC [3, 2] [3] e := fc (by show runC _ _ _ = _; kernel_rfl) (fc (by show runC _ _ _ = _; kernel_rfl) (List.forall_mem_nil _))
theorem k_60 : okI 2 in_60 cn_60 = true := by decide +kernel
theorem g_60 : Gd [3, 2] [3] := ⟨in_60, cn_60, f_60, c_60, k_60⟩
def in_61 : List (List Nat × List (List (List Nat))) := [([3], []),
 ([1, 2], [[[1, 2], [2]]]),
 ([2, 1], [[[1, 1], [2]]]),
 ([1, 1, 1], [[[1, 2], [3]], [[1, 3], [2]]])]
def cn_61 : List (List Nat × Nat) := [([3], 0), ([2, 1], 1), ([1, 1, 1], 2)]
theorem f_61 : ∀ e ∈ in_61, EF [3, 2] [1, 1] e := fc (fun n => by kernel_rfl) (fc (fun n => by kernel_rfl) (fc (fun n => by kernel_rfl) (fc (fun n => by kernel_rfl) (List.forall_mem_nil _))))
theorem c_61 : ∀ e ∈ cn_61, EC [3, 2] [1, 1] e := fc (by show runC _ _ _ = _; kernel_rfl) (fc (by show runC _ _ _ = _; kernel_rfl) (fc (by show runC _ _ _ = _; kernel_rfl) (List.forall_mem_nil _)))
theorem k_61 : okI 3 in_61 cn_61 = true := by decide +kernel
theorem g_61 : Gd [3, 2] [1, 1] := ⟨in_61, cn_61, f_61, c_61, k_61⟩
def in_70 : List (List Nat × List (List (List Nat))) := [([5], []),
 ([1, 4], []),
 ([2, 3], []),
 ([3, 2], []),
 ([4, 1], []),
 ([1, 1, 3], []),
 ([1, 2, 2], [[[1, 2], [2, 3], [3]]]),
 ([1, 3, 1], []),
 ([2, 1, 2], [[[1, 1], [2, 3], [3]]]),
 ([2, 2, 1], [[[1, 1], [2, 2], [3]]]),
 ([3, 1, 1], []),
 ([1, 1, 1, 2], [[[1, 2], [3, 4], [4]], [[1, 3], [2, 4], [4]]]),
 ([1, 1, 2, 1], [[[1, 2], [3, 3], [4]], [[1, 3], [2, 4], [3]]]),
 ([1, 2, 1, 1], [[[1, 2], [2, 3], [4]], [[1, 2], [2, 4], [3]]]),
 ([2, 1, 1, 1], [[[1, 1], [2, 3], [4]], [[1, 1], [2, 4], [3]]])]
def cn_70 : List (List Nat × Nat) := [([5], 0), ([4, 1], 0), ([3, 2], 0), ([3, 1, 1], 0), ([2, 2, 1], 1), ([2, 1, 1, 1], 2)]
theorem f_70 : ∀ e ∈ in_70, EF [2, 2, 1] [] e := fc (fun n => by kernel_rfl) (fc (fun n => by kernel_rfl) (fc (fun n => by kernel_rfl) (fc (fun n => by kernel_rfl) (fc (fun n => by kernel_rfl) (fc (fun n => by kernel_rfl) (fc (fun n => by kernel_rfl) (fc (fun n => by kernel_rfl) (fc (fun n => by kernel_rfl) (fc (fun n => by kernel_rfl) (fc (fun n => by kernel_rfl) (fc (fun n => by kernel_rfl) (fc (fun n => by kernel_rfl) (fc (fun n => by kernel_rfl) (fc (fun n => by kernel_rfl) (List.forall_mem_nil _)))))))))))))))
theorem c_70 : ∀ e ∈ cn_70, EC [2, 2, 1] [] e := fc (by show runC _ _ _ = _; kernel_rfl) (fc (by show runC _ _ _ = _; kernel_rfl) (fc (by show runC _ _ _ = _; kernel_rfl) (fc (by show runC _ _ _ = _; kernel_rfl) (fc (by show runC _ _ _ = _; kernel_rfl) (fc (by show runC _ _ _ = _; kernel_rfl) (List.forall_mem_nil _))))))
theorem k_70 : okI 5 in_70 cn_70 = true := by decide +kernel
theorem g_70 : Gd [2, 2, 1] [] := ⟨in_70, cn_70, f_70, c_70, k_70⟩
def in_78 : List (List Nat × List (List (List Nat))) := [([3], []),
 ([1, 2], []),
 ([2, 1], []),
 ([1, 1, 1], [[[], [1], [2], [3]]])]
def cn_78 : List (List Nat × Nat) := [([3], 0), ([2, 1], 0), ([1, 1, 1], 1)]
theorem f_78 : ∀ e ∈ in_78, EF [2, 1, 1, 1] [2] e := fc (fun n => by kernel_rfl) (fc (fun n => by kernel_rfl) (fc (fun n => by kernel_rfl) (fc (fun n => by kernel_rfl) (List.forall_mem_nil _))))
theorem c_78 : ∀ e ∈ cn_78, EC [2, 1, 1, 1] [2] e := fc (by show runC _ _ _ = _; kernel_rfl) (fc (by show runC _ _ _ = _; kernel_rfl) (fc (by show runC _ _ _ = _; kernel_rfl) (List.forall_mem_nil _)))
theorem k_78 : okI 3 in_78 cn_78 = true := by decide +kernel
theorem g_78 : Gd [2, 1, 1, 1] [2] := ⟨in_78, cn_78, f_78, c_78, k_78⟩
def in_80 : List (List Nat × List (List (List Nat))) := [([2], []),
 ([1, 1], [[[], [], [1], [2]]])]
def cn_80 : List (List Nat × Nat) := [([2], 0), ([1, 1], 1)]
theorem f_80 : ∀ e ∈ in_80, EF [2, 1, 1, 1] [2, 1] e := fc (fun n => by kernel_rfl) (fc (fun n => by kernel_rfl) (List.forall_mem_nil _))
theorem c_80 : ∀ e ∈ cn_80, EC [2, 1, 1, 1] [2, 1] e := fc (by show runC _ _ _ = _; kernel_rfl) (fc (by show runC _ _ _ = _; kernel_rfl) (List.forall_mem_nil _))
theorem k_80 : okI 2 in_80 cn_80 = true := by decide +kernel
theorem g_80 : Gd [2, 1, 1, 1] [2, 1] := ⟨in_80, cn_80, f_80, c_80, k_80⟩
def in_89 : List (List Nat × List (List (List Nat))) := [([3], [[[1, 1, 1]]]),
 ([1, 2], [[[1, 2, 2]]]),
 ([2, 1], [[[1, 1, 2]]]),
 ([1, 1, 1], [[[1, 2, 3]]])]
def cn_89 : List (List Nat × Nat) := [([3], 1), ([2, 1], 1), ([1, 1, 1], 1)]
theorem f_89 : ∀ e ∈ in_89, EF [6] [3] e := fc (fun n => by kernel_rfl) (fc (fun n => by kernel_rfl) (fc (fun n => by kernel_rfl) (fc (fun n => by kernel_rfl) (List.forall_mem_nil _))))
theorem c_89 : ∀ e ∈ cn_89, EC [6] [3] e := fc (by show runC _ _ _ = _; kernel_rfl) (fc (by show runC _ _ _ = _; kernel_rfl) (fc (by show runC _ _ _ = _; kernel_rfl) (List.forall_mem_nil _)))
theorem k_89 : okI 3 in_89 cn_89 = true := by decide +kernel
theorem g_89 : Gd [6] [3] := ⟨in_89, cn_89, f_89, c_89, k_89⟩
def in_91 : List (List Nat × List (List (List Nat))) := [([5], [[[1, 1, 1, 1], [1]]]),
 ([1, 4], [[[1, 2, 2, 2], [2]], [[2, 2, 2, 2], [1]]]),
 ([2, 3], [[[1, 1, 2, 2], [2]], [[1, 2, 2, 2], [1]]]),
 ([3, 2], [[[1, 1, 1, 2], [2]], [[1, 1, 2, 2], [1]]]),
 ([4, 1], [[[1, 1, 1, 1], [2]], [[1, 1, 1, 2], [1]]]),
 ([1, 1, 3], [[[1, 2, 3, 3], [3]], [[1, 3, 3, 3], [2]], [[2, 3, 3, 3], [1]]]),
 ([1, 2, 2], [[[1, 2, 2, 3], [3]], [[1, 2, 3, 3], [2]], [[2, 2, 3, 3], [1]]]),
 ([1, 3, 1], [[[1, 2, 2, 2], [3]], [[1, 2, 2, 3], [2]], [[2, 2, 2, 3], [1]]]),
 ([2, 1, 2], [[[1, 1, 2, 3], [3]], [[1, 1, 3, 3], [2]], [[1, 2, 3, 3], [1]]]),
 ([2, 2, 1], [[[1, 1, 2, 2], [3]], [[1, 1, 2, 3], [2]], [[1, 2, 2, 3], [1]]]),
 ([3, 1, 1], [[[1, 1, 1, 2], [3]], [[1, 1, 1, 3], [2]], [[1, 1, 2, 3], [1]]]),
 ([1, 1, 1, 2], [[[1, 2, 3, 4], [4]], [[1, 2, 4, 4], [3]], [[1, 3, 4, 4], [2]], [[2, 3, 4, 4], [1]]]),
 ([1, 1, 2, 1], [[[1, 2, 3, 3], [4]], [[1, 2, 3, 4], [3]], [[1, 3, 3, 4], [2]], [[2, 3, 3, 4], [1]]]),
 ([1, 2, 1, 1], [[[1, 2, 2, 3], [4]], [[1, 2, 2, 4], [3]], [[1, 2, 3, 4], [2]], [[2, 2, 3, 4], [1]]]),
 ([2, 1, 1, 1], [[[1, 1, 2, 3], [4]], [[1, 1, 2, 4], [3]], [[1, 1, 3, 4], [2]], [[1, 2, 3, 4], [1]]])]
def cn_91 : List (List Nat × Nat) := [([5], 1), ([4, 1], 2), ([3, 2], 2), ([3, 1, 1], 3), ([2, 2, 1], 3), ([2, 1, 1, 1], 4)]
theorem f_91 : ∀ e ∈ in_91, EF [5, 1] [1] e := fc (fun n => by kernel_rfl) (fc (fun n => by kernel_rfl) (fc (fun n => by kernel_rfl) (fc (fun n => by kernel_rfl) (fc (fun n => by kernel_rfl) (fc (fun n => by kernel_rfl) (fc (fun n => by kernel_rfl) (fc (fun n => by kernel_rfl) (fc (fun n => by kernel_rfl) (fc (fun n => by kernel_rfl) (fc (fun n => by kernel_rfl) (fc (fun n => by kernel_rfl) (fc (fun n => by kernel_rfl) (fc (fun n => by kernel_rfl) (fc (fun n => by kernel_rfl) (List.forall_mem_nil _)))))))))))))))
theorem c_91 : ∀ e ∈ cn_91, EC [5, 1] [1] e := fc (by show runC _ _ _ = _; kernel_rfl) (fc (by show runC _ _ _ = _; kernel_rfl) (fc (by show runC _ _ _ = _; kernel_rfl) (fc (by show runC _ _ _ = _; kernel_rfl) (fc (by show runC _ _ _ = _; kernel_rfl) (fc (by show runC _ _ _ = _; kernel_rfl) (List.forall_mem_nil _))))))
theorem k_91 : okI 5 in_91 cn_91 = true := by decide +kernel
theorem g_91 : Gd [5, 1] [1] := ⟨in_91, cn_91, f_91, c_91, k_91⟩
def in_92 : List (List Nat × List (List (List Nat))) := [([4], [[[1, 1, 1], [1]]]),
 ([1, 3], [[[1, 2, 2], [2]], [[2, 2, 2], [1]]]),
 ([2, 2], [[[1, 1, 2], [2]], [[1, 2, 2], [1]]]),
 ([3, 1], [[[1, 1, 1], [2]], [[1, 1, 2], [1]]]),
 ([1, 1, 2], [[[1, 2, 3], [3]], [[1, 3, 3], [2]], [[2, 3, 3], [1]]]),
 ([1, 2, 1], [[[1, 2, 2], [3]], [[1, 2, 3], [2]], [[2, 2, 3], [1]]]),
 ([2, 1, 1], [[[1, 1, 2], [3]], [[1, 1, 3], [2]], [[1, 2, 3], [1]]]),
 ([1, 1, 1, 1], [[[1, 2, 3], [4]], [[1, 2, 4], [3]], [[1, 3, 4], [2]], [[2, 3, 4], [1]]])]
def cn_92 : List (List Nat × Nat) := [([4], 1), ([3, 1], 2), ([2, 2], 2), ([2, 1, 1], 3), ([1, 1, 1, 1], 4)]
theorem f_92 : ∀ e ∈ in_92, EF [5, 1] [2] e := fc (fun n => by kernel_rfl) (fc (fun n => by kernel_rfl) (fc (fun n => by kernel_rfl) (fc (fun n => by kernel_rfl) (fc (fun n => by kernel_rfl) (fc (fun n => by kernel_rfl) (fc (fun n => by kernel_rfl) (fc (fun n => by kernel_rfl) (List.forall_mem_nil _))))))))
theorem c_92 : ∀ e ∈ cn_92, EC [5, 1] [2] e := fc (by show runC _ _ _ = _; kernel_rfl) (fc (by show runC _ _ _ = _; kernel_rfl) (fc (by show runC _ _ _ = _; kernel_rfl) (fc (by show runC _ _ _ = _; kernel_rfl) (fc (by show runC _ _ _ = _; kernel_rfl) (List.forall_mem_nil _)))))
theorem k_92 : okI 4 in_92 cn_92 = true := by decide +kernel
theorem g_92 : Gd [5, 1] [2] := ⟨in_92, cn_92, f_92, c_92, k_92⟩
def in_94 : List (List Nat × List (List (List Nat))) := [([4], [[[1, 1, 1, 1], []]]),
 ([1, 3], [[[1, 2, 2, 2], []]]),
 ([2, 2], [[[1, 1, 2, 2], []]]),
 ([3, 1], [[[1, 1, 1, 2], []]]),
 ([1, 1, 2], [[[1, 2, 3, 3], []]]),
 ([1, 2, 1], [[[1, 2, 2, 3], []]]),
 ([2, 1, 1], [[[1, 1, 2, 3], []]]),
 ([1, 1, 1, 1], [[[1, 2, 3, 4], []]])]
def cn_94 : List (List Nat × Nat) := [([4], 1), ([3, 1], 1), ([2, 2], 1), ([2, 1, 1], 1), ([1, 1, 1, 1], 1)]
theorem f_94 : ∀ e ∈ in_94, EF [5, 1] [1, 1] e := fc (fun n => by kernel_rfl) (fc (fun n => by kernel_rfl) (fc (fun n => by kernel_rfl) (fc (fun n => by kernel_rfl) (fc (fun n => by kernel_rfl) (fc (fun n => by kernel_rfl) (fc (fun n => by kernel_rfl) (fc (fun n => by kernel_rfl) (List.forall_mem_nil _))))))))
theorem c_94 : ∀ e ∈ cn_94, EC [5, 1] [1, 1] e := fc (by show runC _ _ _ = _; kernel_rfl) (fc (by show runC _ _ _ = _; kernel_rfl) (fc (by show runC _ _ _ = _; kernel_rfl) (fc (by show runC _ _ _ = _; kernel_rfl) (fc (by show runC _ _ _ = _; kernel_rfl) (List.forall_mem_nil _)))))
theorem k_94 : okI 4 in_94 cn_94 = true := by decide +kernel
theorem g_94 : Gd [5, 1] [1, 1] := ⟨in_94, cn_94, f_94, c_94, k_94⟩
def in_95 : List (List Nat × List (List (List Nat))) := [([3], [[[1, 1, 1], []]]),
 ([1, 2], [[[1, 2, 2], []]]),
 ([2, 1], [[[1, 1, 2], []]]),
 ([1, 1, 1], [[[1, 2, 3], []]])]
def cn_95 : List (List Nat × Nat) := [([3], 1), ([2, 1], 1), ([1, 1, 1], 1)]
theorem f_95 : ∀ e ∈ in_95, EF [5, 1] [2, 1] e := fc (fun n => by kernel_rfl) (fc (fun n => by kernel_rfl) (fc (fun n => by kernel_rfl) (fc (fun n => by kernel_rfl) (List.forall_mem_nil _))))
theorem c_95 : ∀ e ∈ cn_95, EC [5, 1] [2, 1] e := fc (by show runC _ _ _ = _; kernel_rfl) (fc (by show runC _ _ _ = _; kernel_rfl) (fc (by show runC _ _ _ = _; kernel_rfl) (List.forall_mem_nil _)))
theorem k_95 : okI 3 in_95 cn_95 = true := by decide +kernel
theorem g_95 : Gd [5, 1] [2, 1] := ⟨in_95, cn_95, f_95, c_95, k_95⟩
def in_97 : List (List Nat × List (List (List Nat))) := [([5], []),
 ([1, 4], [[[1, 2, 2], [2, 2]]]),
 ([2, 3], [[[1, 1, 2], [2, 2]], [[1, 2, 2], [1, 2]]]),
 ([3, 2], [[[1, 1, 1], [2, 2]], [[1, 1, 2], [1, 2]]]),
 ([4, 1], [[[1, 1, 1], [1, 2]]]),
 ([1, 1, 3], [[[1, 2, 3], [3, 3]], [[1, 3, 3], [2, 3]], [[2, 3, 3], [1, 3]]]),
 ([1, 2, 2], [[[1, 2, 2], [3, 3]], [[1, 2, 3], [2, 3]], [[2, 2, 3], [1, 3]], [[1, 3, 3], [2, 2]]]),
 ([1, 3, 1], [[[1, 2, 2], [2, 3]], [[2, 2, 2], [1, 3]], [[1, 2, 3], [2, 2]]]),
 ([2, 1, 2], [[[1, 1, 2], [3, 3]], [[1, 1, 3], [2, 3]], [[1, 2, 3], [1, 3]], [[1, 3, 3], [1, 2]]]),
 ([2, 2, 1], [[[1, 1, 2], [2, 3]], [[1, 2, 2], [1, 3]], [[1, 1, 3], [2, 2]], [[1, 2, 3], [1, 2]]]),
 ([3, 1, 1], [[[1, 1, 1], [2, 3]], [[1, 1, 2], [1, 3]], [[1, 1, 3], [1, 2]]]),
 ([1, 1, 1, 2], [[[1, 2, 3], [4, 4]], [[1, 2, 4], [3, 4]], [[1, 3, 4], [2, 4]], [[2, 3, 4], [1, 4]], [[1, 4, 4], [2, 3]], [[2, 4, 4], [1, 3]]]),
 ([1, 1, 2, 1], [[[1, 2, 3], [3, 4]], [[1, 3, 3], [2, 4]], [[2, 3, 3], [1, 4]], [[1, 2, 4], [3, 3]], [[1, 3, 4], [2, 3]], [[2, 3, 4], [1, 3]]]),
 ([1, 2, 1, 1], [[[1, 2, 2], [3, 4]], [[1, 2, 3], [2, 4]], [[2, 2, 3], [1, 4]], [[1, 2, 4], [2, 3]], [[2, 2, 4], [1, 3]], [[1, 3, 4], [2, 2]]]),
 ([2, 1, 1, 1], [[[1, 1, 2], [3, 4]], [[1, 1, 3], [2, 4]], [[1, 2, 3], [1, 4]], [[1, 1, 4], [2, 3]], [[1, 2, 4], [1, 3]], [[1, 3, 4], [1, 2]]])]
def cn_97 : List (List Nat × Nat) := [([5], 0), ([4, 1], 1), ([3, 2], 2), ([3, 1, 1], 3), ([2, 2, 1], 4), ([2, 1, 1, 1], 6)]
theorem f_97 : ∀ e ∈ in_97, EF [4, 2] [1] e := fc (fun n => by kernel_rfl) (fc (fun n => by kernel_rfl) (fc (fun n => by kernel_rfl) (fc (fun n => by kernel_rfl) (fc (fun n => by kernel_rfl) (fc (fun n => by kernel_rfl) (fc (fun n => by kernel_rfl) (fc (fun n => by kernel_rfl) (fc (fun n => by kernel_rfl) (fc (fun n => by kernel_rfl) (fc (fun n => by kernel_rfl) (fc (fun n => by kernel_rfl) (fc (fun n => by kernel_rfl) (fc (fun n => by kernel_rfl) (fc (fun n => by kernel_rfl) (List.forall_mem_nil _)))))))))))))))
theorem c_97 : ∀ e ∈ cn_97, EC [4, 2] [1] e := fc (by show runC _ _ _ = _; kernel_rfl) (fc (by show runC _ _ _ = _; kernel_rfl) (fc (by show runC _ _ _ = _; kernel_rfl) (fc (by show runC _ _ _ = _; kernel_rfl) (fc (by show runC _ _ _ = _; kernel_rfl) (fc (by show runC _ _ _ = _; kernel_rfl) (List.forall_mem_nil _))))))
theorem k_97 : okI 5 in_97 cn_97 = true := by decide +kernel
theorem g_97 : Gd [4, 2] [1] := ⟨in_97, cn_97, f_97, c_97, k_97⟩
def in_99 : List (List Nat × List (List (List Nat))) := [([3], [[[1], [1, 1]]]),
 ([1, 2], [[[1], [2, 2]], [[2], [1, 2]]]),
 ([2, 1], [[[1], [1, 2]], [[2], [1, 1]]]),
 ([1, 1, 1], [[[1], [2, 3]], [[2], [1, 3]], [[3], [1, 2]]])]
def cn_99 : List (List Nat × Nat) := [([3], 1), ([2, 1], 2), ([1, 1, 1], 3)]
theorem f_99 : ∀ e ∈ in_99, EF [4, 2] [3] e := fc (fun n => by kernel_rfl) (fc (fun n => by kernel_rfl) (fc (fun n => by kernel_rfl) (fc (fun n => by kernel_rfl) (List.forall_mem_nil _))))
theorem c_99 : ∀ e ∈ cn_99, EC [4, 2] [3] e := fc (by show runC _ _ _ = _; kernel_rfl) (fc (by show runC _ _ _ = _; kernel_rfl) (fc (by show runC _ _ _ = _; kernel_rfl) (List.forall_mem_nil _)))
theorem k_99 : okI 3 in_99 cn_99 = true := by decide +kernel
theorem g_99 : Gd [4, 2] [3] := ⟨in_99, cn_99, f_99, c_99, k_99⟩
def in_111 : List (List Nat × List (List (List Nat))) := [([4], []),
 ([1, 3], [[[1], [2, 2, 2]]]),
 ([2, 2], [[[1], [1, 2, 2]]]),
 ([3, 1], [[[1], [1, 1, 2]]]),
 ([1, 1, 2], [[[1], [2, 3, 3]], [[2], [1, 3, 3]]]),
 ([1, 2, 1], [[[1], [2, 2, 3]], [[2], [1, 2, 3]]]),
 ([2, 1, 1], [[[1], [1, 2, 3]], [[2], [1, 1, 3]]]),
 ([1, 1, 1, 1], [[[1], [2, 3, 4]], [[2], [1, 3, 4]], [[3], [1, 2, 4]]])]
def cn_111 : List (List Nat × Nat) := [([4], 0), ([3, 1], 1), ([2, 2], 1), ([2, 1, 1], 2), ([1, 1, 1, 1], 3)]
theorem f_111 : ∀ e ∈ in_111, EF [3, 3] [2] e := fc (fun n => by kernel_rfl) (fc (fun n => by kernel_rfl) (fc (fun n => by kernel_rfl) (fc (fun n => by kernel_rfl) (fc (fun n => by kernel_rfl) (fc (fun n => by kernel_rfl) (fc (fun n => by kernel_rfl) (fc (fun n => by kernel_rfl) (List.forall_mem_nil _))))))))
theorem c_111 : ∀ e ∈ cn_111, EC [3, 3] [2] e := fc (by show runC _ _ _ = _; kernel_rfl) (fc (by show runC _ _ _ = _; kernel_rfl) (fc (by show runC _ _ _ = _; kernel_rfl) (fc (by show runC _ _ _ = _; kernel_rfl) (fc (by show runC _ _ _ = _; kernel_rfl) (List.forall_mem_nil _)))))
theorem k_111 : okI 4 in_111 cn_111 = true := by decide +kernel
theorem g_111 : Gd [3, 3] [2] := ⟨in_111, cn_111, f_111, c_111, k_111⟩
def in_124 : List (List Nat × List (List (List Nat))) := [([4], []),
 ([1, 3], []),
 ([2, 2], []),
 ([3, 1], []),
 ([1, 1, 2], [[[3], [1], [2], [3]]]),
 ([1, 2, 1], [[[2], [1], [2], [3]]]),
 ([2, 1, 1], [[[1], [1], [2], [3]]]),
 ([1, 1, 1, 1], [[[1], [2], [3], [4]], [[2], [1], [3], [4]], [[3], [1], [2], [4]], [[4], [1], [2], [3]]])]
def cn_124 : List (List Nat × Nat) := [([4], 0), ([3, 1], 0), ([2, 2], 0), ([2, 1, 1], 1), ([1, 1, 1, 1], 4)]
theorem f_124 : ∀ e ∈ in_124, EF [3, 1, 1, 1] [2] e := fc (fun n => by kernel_rfl) (fc (fun n => by kernel_rfl) (fc (fun n => by kernel_rfl) (fc (fun n => by kernel_rfl) (fc (fun n => by kernel_rfl) (fc (fun n => by kernel_rfl) (fc (fun n => by kernel_rfl) (fc (fun n => by kernel_rfl) (List.forall_mem_nil _))))))))
theorem c_124 : ∀ e ∈ cn_124, EC [3, 1, 1, 1] [2] e := fc (by show runC _ _ _ = _; kernel_rfl) (fc (by show runC _ _ _ = _; kernel_rfl) (fc (by show runC _ _ _ = _; kernel_rfl) (fc (by show runC _ _ _ = _; kernel_rfl) (fc (by show runC _ _ _ = _; kernel_rfl) (List.forall_mem_nil _)))))
theorem k_124 : okI 4 in_124 cn_124 = true := by decide +kernel
theorem g_124 : Gd [3, 1, 1, 1] [2] := ⟨in_124, cn_124, f_124, c_124, k_124⟩
def in_131 : List (List Nat × List (List (List Nat))) := [([4], []),
 ([1, 3], []),
 ([2, 2], [[[], [1, 1], [2, 2]]]),
 ([3, 1], []),
 ([1, 1, 2], [[[], [1, 2], [3, 3]]]),
 ([1, 2, 1], [[[], [1, 2], [2, 3]]]),
 ([2, 1, 1], [[[], [1, 1], [2, 3]]]),
 ([1, 1, 1, 1], [[[], [1, 2], [3, 4]], [[], [1, 3], [2, 4]]])]
def cn_131 : List (List Nat × Nat) := [([4], 0), ([3, 1], 0), ([2, 2], 1), ([2, 1, 1], 1), ([1, 1, 1, 1], 2)]
theorem f_131 : ∀ e ∈ in_131, EF [2, 2, 2] [2] e := fc (fun n => by kernel_rfl) (fc (fun n => by kernel_rfl) (fc (fun n => by kernel_rfl) (fc (fun n => by kernel_rfl) (fc (fun n => by kernel_rfl) (fc (fun n => by kernel_rfl) (fc (fun n => by kernel_rfl) (fc (fun n => by kernel_rfl) (List.forall_mem_nil _))))))))
theorem c_131 : ∀ e ∈ cn_131, EC [2, 2, 2] [2] e := fc (by show runC _ _ _ = _; kernel_rfl) (fc (by show runC _ _ _ = _; kernel_rfl) (fc (by show runC _ _ _ = _; kernel_rfl) (fc (by show runC _ _ _ = _; kernel_rfl) (fc (by show runC _ _ _ = _; kernel_rfl) (List.forall_mem_nil _)))))
theorem k_131 : okI 4 in_131 cn_131 = true := by decide +kernel
theorem g_131 : Gd [2, 2, 2] [2] := ⟨in_131, cn_131, f_131, c_131, k_131⟩
def in_133 : List (List Nat × List (List (List Nat))) := [([3], []),
 ([1, 2], [[[], [1], [2, 2]]]),
 ([2, 1], [[[], [1], [1, 2]]]),
 ([1, 1, 1], [[[], [1], [2, 3]], [[], [2], [1, 3]]])]
def cn_133 : List (List Nat × Nat) := [([3], 0), ([2, 1], 1), ([1, 1, 1], 2)]
theorem f_133 : ∀ e ∈ in_133, EF [2, 2, 2] [2, 1] e := fc (fun n => by kernel_rfl) (fc (fun n => by kernel_rfl) (fc (fun n => by kernel_rfl) (fc (fun n => by kernel_rfl) (List.forall_mem_nil _))))
theorem c_133 : ∀ e ∈ cn_133, EC [2, 2, 2] [2, 1] e := fc (by show runC _ _ _ = _; kernel_rfl) (fc (by show runC _ _ _ = _; kernel_rfl) (fc (by show runC _ _ _ = _; kernel_rfl) (List.forall_mem_nil _)))
theorem k_133 : okI 3 in_133 cn_133 = true := by decide +kernel
theorem g_133 : Gd [2, 2, 2] [2, 1] := ⟨in_133, cn_133, f_133, c_133, k_133⟩
def in_150 : List (List Nat × List (List (List Nat))) := [([3], []),
 ([1, 2], []),
 ([2, 1], []),
 ([1, 1, 1], [[[], [], [], [1], [2], [3]]])]
def cn_150 : List (List Nat × Nat) := [([3], 0), ([2, 1], 0), ([1, 1, 1], 1)]
theorem f_150 : ∀ e ∈ in_150, EF [1, 1, 1, 1, 1, 1] [1, 1, 1] e := fc (fun n => by kernel_rfl) (fc (fun n => by kernel_rfl) (fc (fun n => by kernel_rfl) (fc (fun n => by kernel_rfl) (List.forall_mem_nil _))))
theorem c_150 : ∀ e ∈ cn_150, EC [1, 1, 1, 1, 1, 1] [1, 1, 1] e := fc (by show runC _ _ _ = _; kernel_rfl) (fc (by show runC _ _ _ = _; kernel_rfl) (fc (by show runC _ _ _ = _; kernel_rfl) (List.forall_mem_nil _)))
theorem k_150 : okI 3 in_150 cn_150 = true := by decide +kernel
theorem g_150 : Gd [1, 1, 1, 1, 1, 1] [1, 1, 1] := ⟨in_150, cn_150, f_150, c_150, k_150⟩
def in_154 : List (List Nat × List (List (List Nat))) := [([4], [[[1, 1, 1, 1]]]),
 ([1, 3], [[[1, 2, 2, 2]]]),
 ([2, 2], [[[1, 1, 2, 2]]]),
 ([3, 1], [[[1, 1, 1, 2]]]),
 ([1, 1, 2], [[[1, 2, 3, 3]]]),
 ([1, 2, 1], [[[1, 2, 2, 3]]]),
 ([2, 1, 1], [[[1, 1, 2, 3]]]),
 ([1, 1, 1, 1], [[[1, 2, 3, 4]]])]
def cn_154 : List (List Nat × Nat) := [([4], 1), ([3, 1], 1), ([2, 2], 1), ([2, 1, 1], 1), ([1, 1, 1, 1], 1)]
theorem f_154 : ∀ e ∈ in_154, EF [7] [3] e := fc (fun n => by kernel_rfl) (fc (fun n => by kernel_rfl) (fc (fun n => by kernel_rfl) (fc (fun n => by kernel_rfl) (fc (fun n => by kernel_rfl) (fc (fun n => by kernel_rfl) (fc (fun n => by kernel_rfl) (fc (fun n => by kernel_rfl) (List.forall_mem_nil _))))))))
theorem c_154 : ∀ e ∈ cn_154, EC [7] [3] e := fc (by show runC _ _ _ = _; kernel_rfl) (fc (by show runC _ _ _ = _; kernel_rfl) (fc (by show runC _ _ _ = _; kernel_rfl) (fc (by show runC _ _ _ = _; kernel_rfl) (fc (by show runC _ _ _ = _; kernel_rfl) (List.forall_mem_nil _)))))
theorem k_154 : okI 4 in_154 cn_154 = true := by decide +kernel
theorem g_154 : Gd [7] [3] := ⟨in_154, cn_154, f_154, c_154, k_154⟩
def in_157 : List (List Nat × List (List (List Nat))) := [([5], [[[1, 1, 1, 1], [1]]]),
 ([1, 4], [[[1, 2, 2, 2], [2]], [[2, 2, 2, 2], [1]]]),
 ([2, 3], [[[1, 1, 2, 2], [2]], [[1, 2, 2, 2], [1]]]),
 ([3, 2], [[[1, 1, 1, 2], [2]], [[1, 1, 2, 2], [1]]]),
 ([4, 1], [[[1, 1, 1, 1], [2]], [[1, 1, 1, 2], [1]]]),
 ([1, 1, 3], [[[1, 2, 3, 3], [3]], [[1, 3, 3, 3], [2]], [[2, 3, 3, 3], [1]]]),
 ([1, 2, 2], [[[1, 2, 2, 3], [3]], [[1, 2, 3, 3], [2]], [[2, 2, 3, 3], [1]]]),
 ([1, 3, 1], [[[1, 2, 2, 2], [3]], [[1, 2, 2, 3], [2]], [[2, 2, 2, 3], [1]]]),
 ([2, 1, 2], [[[1, 1, 2, 3], [3]], [[1, 1, 3, 3], [2]], [[1, 2, 3, 3], [1]]]),
 ([2, 2, 1], [[[1, 1, 2, 2], [3]], [[1, 1, 2, 3], [2]], [[1, 2, 2, 3], [1]]]),
 ([3, 1, 1], [[[1, 1, 1, 2], [3]], [[1, 1, 1, 3], [2]], [[1, 1, 2, 3], [1]]]),
 ([1, 1, 1, 2], [[[1, 2, 3, 4], [4]], [[1, 2, 4, 4], [3]], [[1, 3, 4, 4], [2]], [[2, 3, 4, 4], [1]]]),
 ([1, 1, 2, 1], [[[1, 2, 3, 3], [4]], [[1, 2, 3, 4], [3]], [[1, 3, 3, 4], [2]], [[2, 3, 3, 4], [1]]]),
 ([1, 2, 1, 1], [[[1, 2, 2, 3], [4]], [[1, 2, 2, 4], [3]], [[1, 2, 3, 4], [2]], [[2, 2, 3, 4], [1]]]),
 ([2, 1, 1, 1], [[[1, 1, 2, 3], [4]], [[1, 1, 2, 4], [3]], [[1, 1, 3, 4], [2]], [[1, 2, 3, 4], [1]]])]
def cn_157 : List (List Nat × Nat) := [([5], 1), ([4, 1], 2), ([3, 2], 2), ([3, 1, 1], 3), ([2, 2, 1], 3), ([2, 1, 1, 1], 4)]
theorem f_157 : ∀ e ∈ in_157, EF [6, 1] [2] e := fc (fun n => by kernel_rfl) (fc (fun n => by kernel_rfl) (fc (fun n => by kernel_rfl) (fc (fun n => by kernel_rfl) (fc (fun n => by kernel_rfl) (fc (fun n => by kernel_rfl) (fc (fun n => by kernel_rfl) (fc (fun n => by kernel_rfl) (fc (fun n => by kernel_rfl) (fc (fun n => by kernel_rfl) (fc (fun n => by kernel_rfl) (fc (fun n => by kernel_rfl) (fc (fun n => by kernel_rfl) (fc (fun n => by kernel_rfl) (fc (fun n => by kernel_rfl) (List.forall_mem_nil _)))))))))))))))
theorem c_157 : ∀ e ∈ cn_157, EC [6, 1] [2] e := fc (by show runC _ _ _ = _; kernel_rfl) (fc (by show runC _ _ _ = _; kernel_rfl) (fc (by show runC _ _ _ = _; kernel_rfl) (fc (by show runC _ _ _ = _; kernel_rfl) (fc (by show runC _ _ _ = _; kernel_rfl) (fc (by show runC _ _ _ = _; kernel_rfl) (List.forall_mem_nil _))))))
theorem k_157 : okI 5 in_157 cn_157 = true := by decide +kernel
theorem g_157 : Gd [6, 1] [2] := ⟨in_157, cn_157, f_157, c_157, k_157⟩
def in_159 : List (List Nat × List (List (List Nat))) := [([5], [[[1, 1, 1, 1, 1], []]]),
 ([1, 4], [[[1, 2, 2, 2, 2], []]]),
 ([2, 3], [[[1, 1, 2, 2, 2], []]]),
 ([3, 2], [[[1, 1, 1, 2, 2], []]]),
 ([4, 1], [[[1, 1, 1, 1, 2], []]]),
 ([1, 1, 3], [[[1, 2, 3, 3, 3], []]]),
 ([1, 2, 2], [[[1, 2, 2, 3, 3], []]]),
 ([1, 3, 1], [[[1, 2, 2, 2, 3], []]]),
 ([2, 1, 2], [[[1, 1, 2, 3, 3], []]]),
 ([2, 2, 1], [[[1, 1, 2, 2, 3], []]]),
 ([3, 1, 1], [[[1, 1, 1, 2, 3], []]]),
 ([1, 1, 1, 2], [[[1, 2, 3, 4, 4], []]]),
 ([1, 1, 2, 1], [[[1, 2, 3, 3, 4], []]]),
 ([1, 2, 1, 1], [[[1, 2, 2, 3, 4], []]]),
 ([2, 1, 1, 1], [[[1, 1, 2, 3, 4], []]])]
def cn_159 : List (List Nat × Nat) := [([5], 1), ([4, 1], 1), ([3, 2], 1), ([3, 1, 1], 1), ([2, 2, 1], 1), ([2, 1, 1, 1], 1)]
theorem f_159 : ∀ e ∈ in_159, EF [6, 1] [1, 1] e := fc (fun n => by kernel_rfl) (fc (fun n => by kernel_rfl) (fc (fun n => by kernel_rfl) (fc (fun n => by kernel_rfl) (fc (fun n => by kernel_rfl) (fc (fun n => by kernel_rfl) (fc (fun n => by kernel_rfl) (fc (fun n => by kernel_rfl) (fc (fun n => by kernel_rfl) (fc (fun n => by kernel_rfl) (fc (fun n => by kernel_rfl) (fc (fun n => by kernel_rfl) (fc (fun n => by kernel_rfl) (fc (fun n => by kernel_rfl) (fc (fun n => by kernel_rfl) (List.forall_mem_nil _)))))))))))))))
theorem c_159 : ∀ e ∈ cn_159, EC [6, 1] [1, 1] e := fc (by show runC _ _ _ = _; kernel_rfl) (fc (by show runC _ _ _ = _; kernel_rfl) (fc (by show runC _ _ _ = _; kernel_rfl) (fc (by show runC _ _ _ = _; kernel_rfl) (fc (by show runC _ _ _ = _; kernel_rfl) (fc (by show runC _ _ _ = _; kernel_rfl) (List.forall_mem_nil _))))))
theorem k_159 : okI 5 in_159 cn_159 = true := by decide +kernel
theorem g_159 : Gd [6, 1] [1, 1] := ⟨in_159, cn_159, f_159, c_159, k_159⟩
def in_161 : List (List Nat × List (List (List Nat))) := [([7], []),
 ([1, 6], []),
 ([2, 5], [[[1, 1, 2, 2, 2], [2, 2]]]),
 ([3, 4], [[[1, 1, 1, 2, 2], [2, 2]]]),
 ([4, 3], [[[1, 1, 1, 1, 2], [2, 2]]]),
 ([5, 2], [[[1, 1, 1, 1, 1], [2, 2]]]),
 ([6, 1], []),
 ([1, 1, 5], [[[1, 2, 3, 3, 3], [3, 3]]]),
 ([1, 2, 4], [[[1, 2, 2, 3, 3], [3, 3]], [[1, 2, 3, 3, 3], [2, 3]]]),
 ([1, 3, 3], [[[1, 2, 2, 2, 3], [3, 3]], [[1, 2, 2, 3, 3], [2, 3]]]),
 ([1, 4, 2], [[[1, 2, 2, 2, 2], [3, 3]], [[1, 2, 2, 2, 3], [2, 3]]]),
 ([1, 5, 1], [[[1, 2, 2, 2, 2], [2, 3]]]),
 ([2, 1, 4], [[[1, 1, 2, 3, 3], [3, 3]], [[1, 1, 3, 3, 3], [2, 3]]]),
 ([2, 2, 3], [[[1, 1, 2, 2, 3], [3, 3]], [[1, 1, 2, 3, 3], [2, 3]], [[1, 1, 3, 3, 3], [2, 2]]]),
 ([2, 3, 2], [[[1, 1, 2, 2, 2], [3, 3]], [[1, 1, 2, 2, 3], [2, 3]], [[1, 1, 2, 3, 3], [2, 2]]]),
 ([2, 4, 1], [[[1, 1, 2, 2, 2], [2, 3]], [[1, 1, 2, 2, 3], [2, 2]]]),
 ([3, 1, 3], [[[1, 1, 1, 2, 3], [3, 3]], [[1, 1, 1, 3, 3], [2, 3]]]),
 ([3, 2, 2], [[[1, 1, 1, 2, 2], [3, 3]], [[1, 1, 1, 2, 3], [2, 3]], [[1, 1, 1, 3, 3], [2, 2]]]),
 ([3, 3, 1], [[[1, 1, 1, 2, 2], [2, 3]], [[1, 1, 1, 2, 3], [2, 2]]]),
 ([4, 1, 2], [[[1, 1, 1, 1, 2], [3, 3]], [[1, 1, 1, 1, 3], [2, 3]]]),
 ([4, 2, 1], [[[1, 1, 1, 1, 2], [2, 3]], [[1, 1, 1, 1, 3], [2, 2]]]),
 ([5, 1, 1], [[[1, 1, 1, 1, 1], [2, 3]]]),
 ([1, 1, 1, 4], [[[1, 2, 3, 4, 4], [4, 4]], [[1, 2, 4, 4, 4], [3, 4]], [[1, 3, 4, 4, 4], [2, 4]]]),
 ([1, 1, 2, 3], [[[1, 2, 3, 3, 4], [4, 4]], [[1, 2, 3, 4, 4], [3, 4]], [[1, 3, 3, 4, 4], [2, 4]], [[1, 2, 4, 4, 4], [3, 3]]]),
 ([1, 1, 3, 2], [[[1, 2, 3, 3, 3], [4, 4]], [[1, 2, 3, 3, 4], [3, 4]], [[1, 3, 3, 3, 4], [2, 4]], [[1, 2, 3, 4, 4], [3, 3]]]),
 ([1, 1, 4, 1], [[[1, 2, 3, 3, 3], [3, 4]], [[1, 3, 3, 3, 3], [2, 4]], [[1, 2, 3, 3, 4], [3, 3]]]),
 ([1, 2, 1, 3], [[[1, 2, 2, 3, 4], [4, 4]], [[1, 2, 2, 4, 4], [3, 4]], [[1, 2, 3, 4, 4], [2, 4]], [[1, 2, 4, 4, 4], [2, 3]]]),
 ([1, 2, 2, 2], [[[1, 2, 2, 3, 3], [4, 4]], [[1, 2, 2, 3, 4], [3, 4]], [[1, 2, 3, 3, 4], [2, 4]], [[1, 2, 2, 4, 4], [3, 3]], [[1, 2, 3, 4, 4], [2, 3]]]),
 ([1, 2, 3, 1], [[[1, 2, 2, 3, 3], [3, 4]], [[1, 2, 3, 3, 3], [2, 4]], [[1, 2, 2, 3, 4], [3, 3]], [[1, 2, 3, 3, 4], [2, 3]]]),
 ([1, 3, 1, 2], [[[1, 2, 2, 2, 3], [4, 4]], [[1, 2, 2, 2, 4], [3, 4]], [[1, 2, 2, 3, 4], [2, 4]], [[1, 2, 2, 4, 4], [2, 3]]]),
 ([1, 3, 2, 1], [[[1, 2, 2, 2, 3], [3, 4]], [[1, 2, 2, 3, 3], [2, 4]], [[1, 2, 2, 2, 4], [3, 3]], [[1, 2, 2, 3, 4], [2, 3]]]),
 ([1, 4, 1, 1], [[[1, 2, 2, 2, 2], [3, 4]], [[1, 2, 2, 2, 3], [2, 4]], [[1, 2, 2, 2, 4], [2, 3]]]),
 ([2, 1, 1, 3], [[[1, 1, 2, 3, 4], [4, 4]], [[1, 1, 2, 4, 4], [3, 4]], [[1, 1, 3, 4, 4], [2, 4]], [[1, 1, 4, 4, 4], [2, 3]]]),
 ([2, 1, 2, 2], [[[1, 1, 2, 3, 3], [4, 4]], [[1, 1, 2, 3, 4], [3, 4]], [[1, 1, 3, 3, 4], [2, 4]], [[1, 1, 2, 4, 4], [3, 3]], [[1, 1, 3, 4, 4], [2, 3]]]),
 ([2, 1, 3, 1], [[[1, 1, 2, 3, 3], [3, 4]], [[1, 1, 3, 3, 3], [2, 4]], [[1, 1, 2, 3, 4], [3, 3]], [[1, 1, 3, 3, 4], [2, 3]]]),
 ([2, 2, 1, 2], [[[1, 1, 2, 2, 3], [4, 4]], [[1, 1, 2, 2, 4], [3, 4]], [[1, 1, 2, 3, 4], [2, 4]], [[1, 1, 2, 4, 4], [2, 3]], [[1, 1, 3, 4, 4], [2, 2]]]),
 ([2, 2, 2, 1], [[[1, 1, 2, 2, 3], [3, 4]], [[1, 1, 2, 3, 3], [2, 4]], [[1, 1, 2, 2, 4], [3, 3]], [[1, 1, 2, 3, 4], [2, 3]], [[1, 1, 3, 3, 4], [2, 2]]]),
 ([2, 3, 1, 1], [[[1, 1, 2, 2, 2], [3, 4]], [[1, 1, 2, 2, 3], [2, 4]], [[1, 1, 2, 2, 4], [2, 3]], [[1, 1, 2, 3, 4], [2, 2]]]),
 ([3, 1, 1, 2], [[[1, 1, 1, 2, 3], [4, 4]], [[1, 1, 1, 2, 4], [3, 4]], [[1, 1, 1, 3, 4], [2, 4]], [[1, 1, 1, 4, 4], [2, 3]]]),
 ([3, 1, 2, 1], [[[1, 1, 1, 2, 3], [3, 4]], [[1, 1, 1, 3, 3], [2, 4]], [[1, 1, 1, 2, 4], [3, 3]], [[1, 1, 1, 3, 4], [2, 3]]]),
 ([3, 2, 1, 1], [[[1, 1, 1, 2, 2], [3, 4]], [[1, 1, 1, 2, 3], [2, 4]], [[1, 1, 1, 2, 4], [2, 3]], [[1, 1, 1, 3, 4], [2, 2]]]),
 ([4, 1, 1, 1], [[[1, 1, 1, 1, 2], [3, 4]], [[1, 1, 1, 1, 3], [2, 4]], [[1, 1, 1, 1, 4], [2, 3]]])]
def cn_161 : List (List Nat × Nat) := [([7], 0), ([6, 1], 0), ([5, 2], 1), ([5, 1, 1], 1), ([4, 3], 1), ([4, 2, 1], 2), ([4, 1, 1, 1], 3), ([3, 3, 1], 2), ([3, 2, 2], 3), ([3, 2, 1, 1], 4), ([2, 2, 2, 1], 5)]
theorem f_161 : ∀ e ∈ in_161, EF [5, 2] [] e := fc (fun n => by kernel_rfl) (fc (fun n => by kernel_rfl) (fc (fun n => by kernel_rfl) (fc (fun n => by kernel_rfl) (fc (fun n => by kernel_rfl) (fc (fun n => by kernel_rfl) (fc (fun n => by kernel_rfl) (fc (fun n => by kernel_rfl) (fc (fun n => by kernel_rfl) (fc (fun n => by kernel_rfl) (fc (fun n => by kernel_rfl) (fc (fun n => by kernel_rfl) (fc (fun n => by kernel_rfl) (fc (fun n => by kernel_rfl) (fc (fun n => by kernel_rfl) (fc (fun n => by kernel_rfl) (fc (fun n => by kernel_rfl) (fc (fun n => by kernel_rfl) (fc (fun n => by kernel_rfl) (fc (fun n => by kernel_rfl) (fc (fun n => by kernel_rfl) (fc (fun n => by kernel_rfl) (fc (fun n => by kernel_rfl) (fc (fun n => by kernel_rfl) (fc (fun n => by kernel_rfl) (fc (fun n => by kernel_rfl) (fc (fun n => by kernel_rfl) (fc (fun n => by kernel_rfl) (fc (fun n => by kernel_rfl) (fc (fun n => by kernel_rfl) (fc (fun n => by kernel_rfl) (fc (fun n => by kernel_rfl) (fc (fun n => by kernel_rfl) (fc (fun n => by kernel_rfl) (fc (fun n => by kernel_rfl) (fc (fun n => by kernel_rfl) (fc (fun n => by kernel_rfl) (fc (fun n => by kernel_rfl) (fc (fun n => by kernel_rfl) (fc (fun n => by kernel_rfl) (fc (fun n => by kernel_rfl) (fc (fun n => by kernel_rfl) (List.forall_mem_nil _))))))))))))))))))))))))))))))))))))))))))
theorem c_161 : ∀ e ∈ cn_161, EC [5, 2] [] e := fc (by show runC _ _ _ = _; kernel_rfl) (fc (by show runC _ _ _ = _; kernel_rfl) (fc (by show runC _ _ _ = _; kernel_rfl) (fc (by show runC _ _ _ = _; kernel_rfl) (fc (by show runC _ _ _ = _; kernel_rfl) (fc (by show runC _ _ _ = _; kernel_rfl) (fc (by show runC _ _ _ = _; kernel_rfl) (fc (by show runC _ _ _ = _; kernel_rfl) (fc (by show runC _ _ _ = _; kernel_rfl) (fc (by show runC _ _ _ = _; kernel_rfl) (fc (by show runC _ _ _ = _; kernel_rfl) (List.forall_mem_nil _)))))))))))
theorem k_161 : okI 7 in_161 cn_161 = true := by decide +kernel
theorem g_161 : Gd [5, 2] [] := ⟨in_161, cn_161, f_161, c_161, k_161⟩
def in_164 : List (List Nat × List (List (List Nat))) := [([4], [[[1, 1], [1, 1]]]),
 ([1, 3], [[[1, 2], [2, 2]], [[2, 2], [1, 2]]]),
 ([2, 2], [[[1, 1], [2, 2]], [[1, 2], [1, 2]], [[2, 2], [1, 1]]]),
 ([3, 1], [[[1, 1], [1, 2]], [[1, 2], [1, 1]]]),
 ([1, 1, 2], [[[1, 2], [3, 3]], [[1, 3], [2, 3]], [[2, 3], [1, 3]], [[3, 3], [1, 2]]]),
 ([1, 2, 1], [[[1, 2], [2, 3]], [[2, 2], [1, 3]], [[1, 3], [2, 2]], [[2, 3], [1, 2]]]),
 ([2, 1, 1], [[[1, 1], [2, 3]], [[1, 2], [1, 3]], [[1, 3], [1, 2]], [[2, 3], [1, 1]]]),
 ([1, 1, 1, 1], [[[1, 2], [3, 4]], [[1, 3], [2, 4]], [[2, 3], [1, 4]], [[1, 4], [2, 3]], [[2, 4], [1, 3]], [[3, 4], [1, 2]]])]
def cn_164 : List (List Nat × Nat) := [([4], 1), ([3, 1], 2), ([2, 2], 3), ([2, 1, 1], 4), ([1, 1, 1, 1], 6)]
theorem f_164 : ∀ e ∈ in_164, EF [5, 2] [3] e := fc (fun n => by kernel_rfl) (fc (fun n => by kernel_rfl) (fc (fun n => by kernel_rfl) (fc (fun n => by kernel_rfl) (fc (fun n => by kernel_rfl) (fc (fun n => by kernel_rfl) (fc (fun n => by kernel_rfl) (fc (fun n => by kernel_rfl) (List.forall_mem_nil _))))))))
theorem c_164 : ∀ e ∈ cn_164, EC [5, 2] [3] e := fc (by show runC _ _ _ = _; kernel_rfl) (fc (by show runC _ _ _ = _; kernel_rfl) (fc (by show runC _ _ _ = _; kernel_rfl) (fc (by show runC _ _ _ = _; kernel_rfl) (fc (by show runC _ _ _ = _; kernel_rfl) (List.forall_mem_nil _)))))
theorem k_164 : okI 4 in_164 cn_164 = true := by decide +kernel
theorem g_164 : Gd [5, 2] [3] := ⟨in_164, cn_164, f_164, c_164, k_164⟩
def in_166 : List (List Nat × List (List (List Nat))) := [([4], [[[1, 1, 1], [1]]]),
 ([1, 3], [[[1, 2, 2], [2]], [[2, 2, 2], [1]]]),
 ([2, 2], [[[1, 1, 2], [2]], [[1, 2, 2], [1]]]),
 ([3, 1], [[[1, 1, 1], [2]], [[1, 1, 2], [1]]]),
 ([1, 1, 2], [[[1, 2, 3], [3]], [[1, 3, 3], [2]], [[2, 3, 3], [1]]]),
 ([1, 2, 1], [[[1, 2, 2], [3]], [[1, 2, 3], [2]], [[2, 2, 3], [1]]]),
 ([2, 1, 1], [[[1, 1, 2], [3]], [[1, 1, 3], [2]], [[1, 2, 3], [1]]]),
 ([1, 1, 1, 1], [[[1, 2, 3], [4]], [[1, 2, 4], [3]], [[1, 3, 4], [2]], [[2, 3, 4], [1]]])]
def cn_166 : List (List Nat × Nat) := [([4], 1), ([3, 1], 2), ([2, 2], 2), ([2, 1, 1], 3), ([1, 1, 1, 1], 4)]
theorem f_166 : ∀ e ∈ in_166, EF [5, 2] [2, 1] e := fc (fun n => by kernel_rfl) (fc (fun n => by kernel_rfl) (fc (fun n => by kernel_rfl) (fc (fun n => by kernel_rfl) (fc (fun n => by kernel_rfl) (fc (fun n => by kernel_rfl) (fc (fun n => by kernel_rfl) (fc (fun n => by kernel_rfl) (List.forall_mem_nil _))))))))
theorem c_166 : ∀ e ∈ cn_166, EC [5, 2] [2, 1] e := fc (by show runC _ _ _ = _; kernel_rfl) (fc (by show runC _ _ _ = _; kernel_rfl) (fc (by show runC _ _ _ = _; kernel_rfl) (fc (by show runC _ _ _ = _; kernel_rfl) (fc (by show runC _ _ _ = _; kernel_rfl) (List.forall_mem_nil _)))))
theorem k_166 : okI 4 in_166 cn_166 = true := by decide +kernel
theorem g_166 : Gd [5, 2] [2, 1] := ⟨in_166, cn_166, f_166, c_166, k_166⟩
def in_182 : List (List Nat × List (List (List Nat))) := [([5], []),
 ([1, 4], [[[2, 2], [1, 2], [2]]]),
 ([2, 3], [[[1, 2], [1, 2], [2]], [[2, 2], [1, 1], [2]]]),
 ([3, 2], [[[1, 1], [1, 2], [2]], [[1, 2], [1, 1], [2]]]),
 ([4, 1], [[[1, 1], [1, 1], [2]]]),
 ([1, 1, 3], [[[1, 3], [2, 3], [3]], [[2, 3], [1, 3], [3]], [[3, 3], [1, 2], [3]], [[3, 3], [1, 3], [2]]]),
 ([1, 2, 2], [[[1, 2], [2, 3], [3]], [[2, 2], [1, 3], [3]], [[1, 3], [2, 2], [3]], [[2, 3], [1, 2], [3]], [[2, 3], [1, 3], [2]], [[3, 3], [1, 2], [2]]]),
 ([1, 3, 1], [[[1, 2], [2, 2], [3]], [[2, 2], [1, 2], [3]], [[2, 2], [1, 3], [2]], [[2, 3], [1, 2], [2]]]),
 ([2, 1, 2], [[[1, 1], [2, 3], [3]], [[1, 2], [1, 3], [3]], [[1, 3], [1, 2], [3]], [[2, 3], [1, 1], [3]], [[1, 3], [1, 3], [2]], [[3, 3], [1, 1], [2]]]),
 ([2, 2, 1], [[[1, 1], [2, 2], [3]], [[1, 2], [1, 2], [3]], [[2, 2], [1, 1], [3]], [[1, 2], [1, 3], [2]], [[1, 3], [1, 2], [2]], [[2, 3], [1, 1], [2]]]),
 ([3, 1, 1], [[[1, 1], [1, 2], [3]], [[1, 2], [1, 1], [3]], [[1, 1], [1, 3], [2]], [[1, 3], [1, 1], [2]]]),
 ([1, 1, 1, 2], [[[1, 2], [3, 4], [4]], [[1, 3], [2, 4], [4]], [[2, 3], [1, 4], [4]], [[1, 4], [2, 3], [4]], [[2, 4], [1, 3], [4]], [[3, 4], [1, 2], [4]], [[1, 4], [2, 4], [3]], [[2, 4], [1, 4], [3]], [[3, 4], [1, 4], [2]], [[4, 4], [1, 2], [3]], [[4, 4], [1, 3], [2]]]),
 ([1, 1, 2, 1], [[[1, 2], [3, 3], [4]], [[1, 3], [2, 3], [4]], [[2, 3], [1, 3], [4]], [[3, 3], [1, 2], [4]], [[1, 3], [2, 4], [3]], [[2, 3], [1, 4], [3]], [[3, 3], [1, 4], [2]], [[1, 4], [2, 3], [3]], [[2, 4], [1, 3], [3]], [[3, 4], [1, 2], [3]], [[3, 4], [1, 3], [2]]]),
 ([1, 2, 1, 1], [[[1, 2], [2, 3], [4]], [[2, 2], [1, 3], [4]], [[1, 3], [2, 2], [4]], [[2, 3], [1, 2], [4]], [[1, 2], [2, 4], [3]], [[2, 2], [1, 4], [3]], [[2, 3], [1, 4], [2]], [[1, 4], [2, 2], [3]], [[2, 4], [1, 2], [3]], [[2, 4], [1, 3], [2]], [[3, 4], [1, 2], [2]]]),
 ([2, 1, 1, 1], [[[1, 1], [2, 3], [4]], [[1, 2], [1, 3], [4]], [[1, 3], [1, 2], [4]], [[2, 3], [1, 1], [4]], [[1, 1], [2, 4], [3]], [[1, 2], [1, 4], [3]], [[1, 3], [1, 4], [2]], [[1, 4], [1, 2], [3]], [[2, 4], [1, 1], [3]], [[1, 4], [1, 3], [2]], [[3, 4], [1, 1], [2]]])]
def cn_182 : List (List Nat × Nat) := [([5], 0), ([4, 1], 1), ([3, 2], 2), ([3, 1, 1], 4), ([2, 2, 1], 6), ([2, 1, 1, 1], 11)]
theorem f_182 : ∀ e ∈ in_182, EF [4, 2, 1] [2] e := fc (fun n => by kernel_rfl) (fc (fun n => by kernel_rfl) (fc (fun n => by kernel_rfl) (fc (fun n => by kernel_rfl) (fc (fun n => by kernel_rfl) (fc (fun n => by kernel_rfl) (fc (fun n => by kernel_rfl) (fc (fun n => by kernel_rfl) (fc (fun n => by kernel_rfl) (fc (fun n => by kernel_rfl) (fc (fun n => by kernel_rfl) (fc (fun n => by kernel_rfl) (fc (fun n => by kernel_rfl) (fc (fun n => by kernel_rfl) (fc (fun n => by kernel_rfl) (List.forall_mem_nil _)))))))))))))))
theorem c_182 : ∀ e ∈ cn_182, EC [4, 2, 1] [2] e := fc (by show runC _ _ _ = _; kernel_rfl) (fc (by show runC _ _ _ = _; kernel_rfl) (fc (by show runC _ _ _ = _; kernel_rfl) (fc (by show runC _ _ _ = _; kernel_rfl) (fc (by show runC _ _ _ = _; kernel_rfl) (fc (by show runC _ _ _ = _; kernel_rfl) (List.forall_mem_nil _))))))
theorem k_182 : okI 5 in_182 cn_182 = true := by decide +kernel
theorem g_182 : Gd [4, 2, 1] [2] := ⟨in_182, cn_182, f_182, c_182, k_182⟩
def in_192 : List (List Nat × List (List (List Nat))) := [([4], []),
 ([1, 3], [[[2, 2], [], [1], [2]]]),
 ([2, 2], [[[1, 2], [], [1], [2]]]),
 ([3, 1], [[[1, 1], [], [1], [2]]]),
 ([1, 1, 2], [[[1, 3], [], [2], [3]], [[2, 3], [], [1], [3]], [[3, 3], [], [1], [2]]]),
 ([1, 2, 1], [[[1, 2], [], [2], [3]], [[2, 2], [], [1], [3]], [[2, 3], [], [1], [2]]]),
 ([2, 1, 1], [[[1, 1], [], [2], [3]], [[1, 2], [], [1], [3]], [[1, 3], [], [1], [2]]]),
 ([1, 1, 1, 1], [[[1, 2], [], [3], [4]], [[1, 3], [], [2], [4]], [[2, 3], [], [1], [4]], [[1, 4], [], [2], [3]], [[2, 4], [], [1], [3]], [[3, 4], [], [1], [2]]])]
def cn_192 : List (List Nat × Nat) := [([4], 0), ([3, 1], 1), ([2, 2], 1), ([2, 1, 1], 3), ([1, 1, 1, 1], 6)]
theorem f_192 : ∀ e ∈ in_192, EF [4, 1, 1, 1] [2, 1] e := fc (fun n => by kernel_rfl) (fc (fun n => by kernel_rfl) (fc (fun n => by kernel_rfl) (fc (fun n => by kernel_rfl) (fc (fun n => by kernel_rfl) (fc (fun n => by kernel_rfl) (fc (fun n => by kernel_rfl) (fc (fun n => by kernel_rfl) (List.forall_mem_nil _))))))))
theorem c_192 : ∀ e ∈ cn_192, EC [4, 1, 1, 1] [2, 1] e := fc (by show runC _ _ _ = _; kernel_rfl) (fc (by show runC _ _ _ = _; kernel_rfl) (fc (by show runC _ _ _ = _; kernel_rfl) (fc (by show runC _ _ _ = _; kernel_rfl) (fc (by show runC _ _ _ = _; kernel_rfl) (List.forall_mem_nil _)))))
theorem k_192 : okI 4 in_192 cn_192 = true := by decide +kernel
theorem g_192 : Gd [4, 1, 1, 1] [2, 1] := ⟨in_192, cn_192, f_192, c_192, k_192⟩
def in_199 : List (List Nat × List (List (List Nat))) := [([4], []),
 ([1, 3], [[[1], [2, 2], [2]]]),
 ([2, 2], [[[1], [1, 2], [2]], [[1], [2, 2], [1]]]),
 ([3, 1], [[[1], [1, 2], [1]]]),
 ([1, 1, 2], [[[1], [2, 3], [3]], [[2], [1, 3], [3]], [[1], [3, 3], [2]], [[2], [3, 3], [1]]]),
 ([1, 2, 1], [[[1], [2, 2], [3]], [[1], [2, 3], [2]], [[2], [1, 3], [2]], [[2], [2, 3], [1]]]),
 ([2, 1, 1], [[[1], [1, 2], [3]], [[1], [1, 3], [2]], [[1], [2, 3], [1]], [[2], [1, 3], [1]]]),
 ([1, 1, 1, 1], [[[1], [2, 3], [4]], [[2], [1, 3], [4]], [[1], [2, 4], [3]], [[2], [1, 4], [3]], [[1], [3, 4], [2]], [[2], [3, 4], [1]], [[3], [1, 4], [2]], [[3], [2, 4], [1]]])]
def cn_199 : List (List Nat × Nat) := [([4], 0), ([3, 1], 1), ([2, 2], 2), ([2, 1, 1], 4), ([1, 1, 1, 1], 8)]
theorem f_199 : ∀ e ∈ in_199, EF [3, 3, 1] [2, 1] e := fc (fun n => by kernel_rfl) (fc (fun n => by kernel_rfl) (fc (fun n => by kernel_rfl) (fc (fun n => by kernel_rfl) (fc (fun n => by kernel_rfl) (fc (fun n => by kernel_rfl) (fc (fun n => by kernel_rfl) (fc (fun n => by kernel_rfl) (List.forall_mem_nil _))))))))
theorem c_199 : ∀ e ∈ cn_199, EC [3, 3, 1] [2, 1] e := fc (by show runC _ _ _ = _; kernel_rfl) (fc (by show runC _ _ _ = _; kernel_rfl) (fc (by show runC _ _ _ = _; kernel_rfl) (fc (by show runC _ _ _ = _; kernel_rfl) (fc (by show runC _ _ _ = _; kernel_rfl) (List.forall_mem_nil _)))))
theorem k_199 : okI 4 in_199 cn_199 = true := by decide +kernel
theorem g_199 : Gd [3, 3, 1] [2, 1] := ⟨in_199, cn_199, f_199, c_199, k_199⟩
def in_201 : List (List Nat × List (List (List Nat))) := [([7], []),
 ([1, 6], []),
 ([2, 5], []),
 ([3, 4], []),
 ([4, 3], []),
 ([5, 2], []),
 ([6, 1], []),
 ([1, 1, 5], []),
 ([1, 2, 4], []),
 ([1, 3, 3], []),
 ([1, 4, 2], []),
 ([1, 5, 1], []),
 ([2, 1, 4], []),
 ([2, 2, 3], [[[1, 1, 3], [2, 2], [3, 3]]]),
 ([2, 3, 2], [[[1, 1, 2], [2, 2], [3, 3]]]),
 ([2, 4, 1], []),
 ([3, 1, 3], []),
 ([3, 2, 2], [[[1, 1, 1], [2, 2], [3, 3]]]),
 ([3, 3, 1], []),
 ([4, 1, 2], []),
 ([4, 2, 1], []),
 ([5, 1, 1], []),
 ([1, 1, 1, 4], []),
 ([1, 1, 2, 3], [[[1, 2, 4], [3, 3], [4, 4]]]),
 ([1, 1, 3, 2], [[[1, 2, 3], [3, 3], [4, 4]]]),
 ([1, 1, 4, 1], []),
 ([1, 2, 1, 3], [[[1, 2, 4], [2, 3], [4, 4]]]),
 ([1, 2, 2, 2], [[[1, 2, 2], [3, 3], [4, 4]], [[1, 2, 3], [2, 3], [4, 4]], [[1, 2, 4], [2, 3], [3, 4]]]),
 ([1, 2, 3, 1], [[[1, 2, 3], [2, 3], [3, 4]]]),
 ([1, 3, 1, 2], [[[1, 2, 2], [2, 3], [4, 4]]]),
 ([1, 3, 2, 1], [[[1, 2, 2], [2, 3], [3, 4]]]),
 ([1, 4, 1, 1], []),
 ([2, 1, 1, 3], [[[1, 1, 4], [2, 3], [4, 4]]]),
 ([2, 1, 2, 2], [[[1, 1, 2], [3, 3], [4, 4]], [[1, 1, 3], [2, 3], [4, 4]], [[1, 1, 4], [2, 3], [3, 4]]]),
 ([2, 1, 3, 1], [[[1, 1, 3], [2, 3], [3, 4]]]),
 ([2, 2, 1, 2], [[[1, 1, 2], [2, 3], [4, 4]], [[1, 1, 3], [2, 2], [4, 4]], [[1, 1, 4], [2, 2], [3, 4]]]),
 ([2, 2, 2, 1], [[[1, 1, 2], [2, 3], [3, 4]], [[1, 1, 3], [2, 2], [3, 4]], [[1, 1, 4], [2, 2], [3, 3]]]),
 ([2, 3, 1, 1], [[[1, 1, 2], [2, 2], [3, 4]]]),
 ([3, 1, 1, 2], [[[1, 1, 1], [2, 3], [4, 4]]]),
 ([3, 1, 2, 1], [[[1, 1, 1], [2, 3], [3, 4]]]),
 ([3, 2, 1, 1], [[[1, 1, 1], [2, 2], [3, 4]]]),
 ([4, 1, 1, 1], [])]
def cn_201 : List (List Nat × Nat) := [([7], 0), ([6, 1], 0), ([5, 2], 0), ([5, 1, 1], 0), ([4, 3], 0), ([4, 2, 1], 0), ([4, 1, 1, 1], 0), ([3, 3, 1], 0), ([3, 2, 2], 1), ([3, 2, 1, 1], 1), ([2, 2, 2, 1], 3)]
theorem f_201 : ∀ e ∈ in_201, EF [3, 2, 2] [] e := fc (fun n => by kernel_rfl) (fc (fun n => by kernel_rfl) (fc (fun n => by kernel_rfl) (fc (fun n => by kernel_rfl) (fc (fun n => by kernel_rfl) (fc (fun n => by kernel_rfl) (fc (fun n => by kernel_rfl) (fc (fun n => by kernel_rfl) (fc (fun n => by kernel_rfl) (fc (fun n => by kernel_rfl) (fc (fun n => by kernel_rfl) (fc (fun n => by kernel_rfl) (fc (fun n => by kernel_rfl) (fc (fun n => by kernel_rfl) (fc (fun n => by kernel_rfl) (fc (fun n => by kernel_rfl) (fc (fun n => by kernel_rfl) (fc (fun n => by kernel_rfl) (fc (fun n => by kernel_rfl) (fc (fun n => by kernel_rfl) (fc (fun n => by kernel_rfl) (fc (fun n => by kernel_rfl) (fc (fun n => by kernel_rfl) (fc (fun n => by kernel_rfl) (fc (fun n => by kernel_rfl) (fc (fun n => by kernel_rfl) (fc (fun n => by kernel_rfl) (fc (fun n => by kernel_rfl) (fc (fun n => by kernel_rfl) (fc (fun n => by kernel_rfl) (fc (fun n => by kernel_rfl) (fc (fun n => by kernel_rfl) (fc (fun n => by kernel_rfl) (fc (fun n => by kernel_rfl) (fc (fun n => by kernel_rfl) (fc (fun n => by kernel_rfl) (fc (fun n => by kernel_rfl) (fc (fun n => by kernel_rfl) (fc (fun n => by kernel_rfl) (fc (fun n => by kernel_rfl) (fc (fun n => by kernel_rfl) (fc (fun n => by kernel_rfl) (List.forall_mem_nil _))))))))))))))))))))))))))))))))))))))))))
theorem c_201 : ∀ e ∈ cn_201, EC [3, 2, 2] [] e := fc (by show runC _ _ _ = _; kernel_rfl) (fc (by show runC _ _ _ = _; kernel_rfl) (fc (by show runC _ _ _ = _; kernel_rfl) (fc (by show runC _ _ _ = _; kernel_rfl) (fc (by show runC _ _ _ = _; kernel_rfl) (fc (by show runC _ _ _ = _; kernel_rfl) (fc (by show runC _ _ _ = _; kernel_rfl) (fc (by show runC _ _ _ = _; kernel_rfl) (fc (by show runC _ _ _ = _; kernel_rfl) (fc (by show runC _ _ _ = _; kernel_rfl) (fc (by show runC _ _ _ = _; kernel_rfl) (List.forall_mem_nil _)))))))))))
theorem k_201 : okI 7 in_201 cn_201 = true := by decide +kernel
theorem g_201 : Gd [3, 2, 2] [] := ⟨in_201, cn_201, f_201, c_201, k_201⟩
def in_209 : List (List Nat × List (List (List Nat))) := [([6], []),
 ([1, 5], []),
 ([2, 4], []),
 ([3, 3], []),
 ([4, 2], []),
 ([5, 1], []),
 ([1, 1, 4], []),
 ([1, 2, 3], [[[2, 3], [1, 3], [2], [3]]]),
 ([1, 3, 2], [[[2, 2], [1, 3], [2], [3]]]),
 ([1, 4, 1], []),
 ([2, 1, 3], [[[1, 3], [1, 3], [2], [3]]]),
 ([2, 2, 2], [[[1, 2], [1, 3], [2], [3]], [[1, 3], [1, 2], [2], [3]]]),
 ([2, 3, 1], [[[1, 2], [1, 2], [2], [3]]]),
 ([3, 1, 2], [[[1, 1], [1, 3], [2], [3]]]),
 ([3, 2, 1], [[[1, 1], [1, 2], [2], [3]]]),
 ([4, 1, 1], []),
 ([1, 1, 1, 3], [[[1, 4], [2, 4], [3], [4]], [[2, 4], [1, 4], [3], [4]], [[3, 4], [1, 4], [2], [4]]]),
 ([1, 1, 2, 2], [[[1, 3], [2, 4], [3], [4]], [[2, 3], [1, 4], [3], [4]], [[3, 3], [1, 4], [2], [4]], [[1, 4], [2, 3], [3], [4]], [[2, 4], [1, 3], [3], [4]], [[3, 4], [1, 4], [2], [3]]]),
 ([1, 1, 3, 1], [[[1, 3], [2, 3], [3], [4]], [[2, 3], [1, 3], [3], [4]], [[3, 3], [1, 4], [2], [3]]]),
 ([1, 2, 1, 2], [[[1, 2], [2, 4], [3], [4]], [[2, 2], [1, 4], [3], [4]], [[2, 3], [1, 4], [2], [4]], [[1, 4], [2, 2], [3], [4]], [[2, 4], [1, 3], [2], [4]], [[2, 4], [1, 4], [2], [3]]]),
 ([1, 2, 2, 1], [[[1, 2], [2, 3], [3], [4]], [[2, 2], [1, 3], [3], [4]], [[1, 3], [2, 2], [3], [4]], [[2, 3], [1, 3], [2], [4]], [[2, 3], [1, 4], [2], [3]], [[2, 4], [1, 3], [2], [3]]]),
 ([1, 3, 1, 1], [[[1, 2], [2, 2], [3], [4]], [[2, 2], [1, 3], [2], [4]], [[2, 2], [1, 4], [2], [3]]]),
 ([2, 1, 1, 2], [[[1, 1], [2, 4], [3], [4]], [[1, 2], [1, 4], [3], [4]], [[1, 3], [1, 4], [2], [4]], [[1, 4], [1, 2], [3], [4]], [[1, 4], [1, 3], [2], [4]], [[1, 4], [1, 4], [2], [3]]]),
 ([2, 1, 2, 1], [[[1, 1], [2, 3], [3], [4]], [[1, 2], [1, 3], [3], [4]], [[1, 3], [1, 2], [3], [4]], [[1, 3], [1, 3], [2], [4]], [[1, 3], [1, 4], [2], [3]], [[1, 4], [1, 3], [2], [3]]]),
 ([2, 2, 1, 1], [[[1, 1], [2, 2], [3], [4]], [[1, 2], [1, 2], [3], [4]], [[1, 2], [1, 3], [2], [4]], [[1, 3], [1, 2], [2], [4]], [[1, 2], [1, 4], [2], [3]], [[1, 4], [1, 2], [2], [3]]]),
 ([3, 1, 1, 1], [[[1, 1], [1, 2], [3], [4]], [[1, 1], [1, 3], [2], [4]], [[1, 1], [1, 4], [2], [3]]])]
def cn_209 : List (List Nat × Nat) := [([6], 0), ([5, 1], 0), ([4, 2], 0), ([4, 1, 1], 0), ([3, 3], 0), ([3, 2, 1], 1), ([3, 1, 1, 1], 3), ([2, 2, 2], 2), ([2, 2, 1, 1], 6)]
theorem f_209 : ∀ e ∈ in_209, EF [3, 2, 1, 1] [1] e := fc (fun n => by kernel_rfl) (fc (fun n => by kernel_rfl) (fc (fun n => by kernel_rfl) (fc (fun n => by kernel_rfl) (fc (fun n => by kernel_rfl) (fc (fun n => by kernel_rfl) (fc (fun n => by kernel_rfl) (fc (fun n => by kernel_rfl) (fc (fun n => by kernel_rfl) (fc (fun n => by kernel_rfl) (fc (fun n => by kernel_rfl) (fc (fun n => by kernel_rfl) (fc (fun n => by kernel_rfl) (fc (fun n => by kernel_rfl) (fc (fun n => by kernel_rfl) (fc (fun n => by kernel_rfl) (fc (fun n => by kernel_rfl) (fc (fun n => by kernel_rfl) (fc (fun n => by kernel_rfl) (fc (fun n => by kernel_rfl) (fc (fun n => by kernel_rfl) (fc (fun n => by kernel_rfl) (fc (fun n => by kernel_rfl) (fc (fun n => by kernel_rfl) (fc (fun n => by kernel_rfl) (fc (fun n => by kernel_rfl) (List.forall_mem_nil _))))))))))))))))))))))))))
theorem c_209 : ∀ e ∈ cn_209, EC [3, 2, 1, 1] [1] e := fc (by show runC _ _ _ = _; kernel_rfl) (fc (by show runC _ _ _ = _; kernel_rfl) (fc (by show runC _ _ _ = _; kernel_rfl) (fc (by show runC _ _ _ = _; kernel_rfl) (fc (by show runC _ _ _ = _; kernel_rfl) (fc (by show runC _ _ _ = _; kernel_rfl) (fc (by show runC _ _ _ = _; kernel_rfl) (fc (by show runC _ _ _ = _; kernel_rfl) (fc (by show runC _ _ _ = _; kernel_rfl) (List.forall_mem_nil _)))))))))
theorem k_209 : okI 6 in_209 cn_209 = true := by decide +kernel
theorem g_209 : Gd [3, 2, 1, 1] [1] := ⟨in_209, cn_209, f_209, c_209, k_209⟩
def in_215 : List (List Nat × List (List (List Nat))) := [([7], []),
 ([1, 6], []),
 ([2, 5], []),
 ([3, 4], []),
 ([4, 3], []),
 ([5, 2], []),
 ([6, 1], []),
 ([1, 1, 5], []),
 ([1, 2, 4], []),
 ([1, 3, 3], []),
 ([1, 4, 2], []),
 ([1, 5, 1], []),
 ([2, 1, 4], []),
 ([2, 2, 3], []),
 ([2, 3, 2], []),
 ([2, 4, 1], []),
 ([3, 1, 3], []),
 ([3, 2, 2], []),
 ([3, 3, 1], []),
 ([4, 1, 2], []),
 ([4, 2, 1], []),
 ([5, 1, 1], []),
 ([1, 1, 1, 4], []),
 ([1, 1, 2, 3], []),
 ([1, 1, 3, 2], []),
 ([1, 1, 4, 1], []),
 ([1, 2, 1, 3], []),
 ([1, 2, 2, 2], []),
 ([1, 2, 3, 1], []),
 ([1, 3, 1, 2], []),
 ([1, 3, 2, 1], []),
 ([1, 4, 1, 1], []),
 ([2, 1, 1, 3], []),
 ([2, 1, 2, 2], []),
 ([2, 1, 3, 1], []),
 ([2, 2, 1, 2], []),
 ([2, 2, 2, 1], []),
 ([2, 3, 1, 1], []),
 ([3, 1, 1, 2], []),
 ([3, 1, 2, 1], []),
 ([3, 2, 1, 1], []),
 ([4, 1, 1, 1], [])]
def cn_215 : List (List Nat × Nat) := [([7], 0), ([6, 1], 0), ([5, 2], 0), ([5, 1, 1], 0), ([4, 3], 0), ([4, 2, 1], 0), ([4, 1, 1, 1], 0), ([3, 3, 1], 0), ([3, 2, 2], 0), ([3, 2, 1, 1], 0), ([2, 2, 2, 1], 0)]
theorem f_215 : ∀ e ∈ in_215, EF [3, 1, 1, 1, 1] [] e := fc (fun n => by kernel_rfl) (fc (fun n => by kernel_rfl) (fc (fun n => by kernel_rfl) (fc (fun n => by kernel_rfl) (fc (fun n => by kernel_rfl) (fc (fun n => by kernel_rfl) (fc (fun n => by kernel_rfl) (fc (fun n => by kernel_rfl) (fc (fun n => by kernel_rfl) (fc (fun n => by kernel_rfl) (fc (fun n => by kernel_rfl) (fc (fun n => by kernel_rfl) (fc (fun n => by kernel_rfl) (fc (fun n => by kernel_rfl) (fc (fun n => by kernel_rfl) (fc (fun n => by kernel_rfl) (fc (fun n => by kernel_rfl) (fc (fun n => by kernel_rfl) (fc (fun n => by kernel_rfl) (fc (fun n => by kernel_rfl) (fc (fun n => by kernel_rfl) (fc (fun n => by kernel_rfl) (fc (fun n => by kernel_rfl) (fc (fun n => by kernel_rfl) (fc (fun n => by kernel_rfl) (fc (fun n => by kernel_rfl) (fc (fun n => by kernel_rfl) (fc (fun n => by kernel_rfl) (fc (fun n => by kernel_rfl) (fc (fun n => by kernel_rfl) (fc (fun n => by kernel_rfl) (fc (fun n => by kernel_rfl) (fc (fun n => by kernel_rfl) (fc (fun n => by kernel_rfl) (fc (fun n => by kernel_rfl) (fc (fun n => by kernel_rfl) (fc (fun n => by kernel_rfl) (fc (fun n => by kernel_rfl) (fc (fun n => by kernel_rfl) (fc (fun n => by kernel_rfl) (fc (fun n => by kernel_rfl) (fc (fun n => by kernel_rfl) (List.forall_mem_nil _))))))))))))))))))))))))))))))))))))))))))
theorem c_215 : ∀ e ∈ cn_215, EC [3, 1, 1, 1, 1] [] e := fc (by show runC _ _ _ = _; kernel_rfl) (fc (by show runC _ _ _ = _; kernel_rfl) (fc (by show runC _ _ _ = _; kernel_rfl) (fc (by show runC _ _ _ = _; kernel_rfl) (fc (by show runC _ _ _ = _; kernel_rfl) (fc (by show runC _ _ _ = _; kernel_rfl) (fc (by show runC _ _ _ = _; kernel_rfl) (fc (by show runC _ _ _ = _; kernel_rfl) (fc (by show runC _ _ _ = _; kernel_rfl) (fc (by show runC _ _ _ = _; kernel_rfl) (fc (by show runC _ _ _ = _; kernel_rfl) (List.forall_mem_nil _)))))))))))
theorem k_215 : okI 7 in_215 cn_215 = true := by decide +kernel
theorem g_215 : Gd [3, 1, 1, 1, 1] [] := ⟨in_215, cn_215, f_215, c_215, k_215⟩
def in_228 : List (List Nat × List (List (List Nat))) := [([7], []),
 ([1, 6], []),
 ([2, 5], []),
 ([3, 4], []),
 ([4, 3], []),
 ([5, 2], []),
 ([6, 1], []),
 ([1, 1, 5], []),
 ([1, 2, 4], []),
 ([1, 3, 3], []),
 ([1, 4, 2], []),
 ([1, 5, 1], []),
 ([2, 1, 4], []),
 ([2, 2, 3], []),
 ([2, 3, 2], []),
 ([2, 4, 1], []),
 ([3, 1, 3], []),
 ([3, 2, 2], []),
 ([3, 3, 1], []),
 ([4, 1, 2], []),
 ([4, 2, 1], []),
 ([5, 1, 1], []),
 ([1, 1, 1, 4], []),
 ([1, 1, 2, 3], []),
 ([1, 1, 3, 2], []),
 ([1, 1, 4, 1], []),
 ([1, 2, 1, 3], []),
 ([1, 2, 2, 2], []),
 ([1, 2, 3, 1], []),
 ([1, 3, 1, 2], []),
 ([1, 3, 2, 1], []),
 ([1, 4, 1, 1], []),
 ([2, 1, 1, 3], []),
 ([2, 1, 2, 2], []),
 ([2, 1, 3, 1], []),
 ([2, 2, 1, 2], []),
 ([2, 2, 2, 1], []),
 ([2, 3, 1, 1], []),
 ([3, 1, 1, 2], []),
 ([3, 1, 2, 1], []),
 ([3, 2, 1, 1], []),
 ([4, 1, 1, 1], [])]
def cn_228 : List (List Nat × Nat) := [([7], 0), ([6, 1], 0), ([5, 2], 0), ([5, 1, 1], 0), ([4, 3], 0), ([4, 2, 1], 0), ([4, 1, 1, 1], 0), ([3, 3, 1], 0), ([3, 2, 2], 0), ([3, 2, 1, 1], 0), ([2, 2, 2, 1], 0)]
theorem f_228 : ∀ e ∈ in_228, EF [2, 2, 1, 1, 1] [] e := fc (fun n => by kernel_rfl) (fc (fun n => by kernel_rfl) (fc (fun n => by kernel_rfl) (fc (fun n => by kernel_rfl) (fc (fun n => by kernel_rfl) (fc (fun n => by kernel_rfl) (fc (fun n => by kernel_rfl) (fc (fun n => by kernel_rfl) (fc (fun n => by kernel_rfl) (fc (fun n => by kernel_rfl) (fc (fun n => by kernel_rfl) (fc (fun n => by kernel_rfl) (fc (fun n => by kernel_rfl) (fc (fun n => by kernel_rfl) (fc (fun n => by kernel_rfl) (fc (fun n => by kernel_rfl) (fc (fun n => by kernel_rfl) (fc (fun n => by kernel_rfl) (fc (fun n => by kernel_rfl) (fc (fun n => by kernel_rfl) (fc (fun n => by kernel_rfl) (fc (fun n => by kernel_rfl) (fc (fun n => by kernel_rfl) (fc (fun n => by kernel_rfl) (fc (fun n => by kernel_rfl) (fc (fun n => by kernel_rfl) (fc (fun n => by kernel_rfl) (fc (fun n => by kernel_rfl) (fc (fun n => by kernel_rfl) (fc (fun n => by kernel_rfl) (fc (fun n => by kernel_rfl) (fc (fun n => by kernel_rfl) (fc (fun n => by kernel_rfl) (fc (fun n => by kernel_rfl) (fc (fun n => by kernel_rfl) (fc (fun n => by kernel_rfl) (fc (fun n => by kernel_rfl) (fc (fun n => by kernel_rfl) (fc (fun n => by kernel_rfl) (fc (fun n => by kernel_rfl) (fc (fun n => by kernel_rfl) (fc (fun n => by kernel_rfl) (List.forall_mem_nil _))))))))))))))))))))))))))))))))))))))))))
theorem c_228 : ∀ e ∈ cn_228, EC [2, 2, 1, 1, 1] [] e := fc (by show runC _ _ _ = _; kernel_rfl) (fc (by show runC _ _ _ = _; kernel_rfl) (fc (by show runC _ _ _ = _; kernel_rfl) (fc (by show runC _ _ _ = _; kernel_rfl) (fc (by show runC _ _ _ = _; kernel_rfl) (fc (by show runC _ _ _ = _; kernel_rfl) (fc (by show runC _ _ _ = _; kernel_rfl) (fc (by show runC _ _ _ = _; kernel_rfl) (fc (by show runC _ _ _ = _; kernel_rfl) (fc (by show runC _ _ _ = _; kernel_rfl) (fc (by show runC _ _ _ = _; kernel_rfl) (List.forall_mem_nil _)))))))))))
theorem k_228 : okI 7 in_228 cn_228 = true := by decide +kernel
theorem g_228 : Gd [2, 2, 1, 1, 1] [] := ⟨in_228, cn_228, f_228, c_228, k_228⟩
def in_236 : List (List Nat × List (List (List Nat))) := [([5], []),
 ([1, 4], []),
 ([2, 3], []),
 ([3, 2], []),
 ([4, 1], []),
 ([1, 1, 3], []),
 ([1, 2, 2], []),
 ([1, 3, 1], []),
 ([2, 1, 2], []),
 ([2, 2, 1], []),
 ([3, 1, 1], []),
 ([1, 1, 1, 2], []),
 ([1, 1, 2, 1], []),
 ([1, 2, 1, 1], []),
 ([2, 1, 1, 1], [])]
def cn_236 : List (List Nat × Nat) := [([5], 0), ([4, 1], 0), ([3, 2], 0), ([3, 1, 1], 0), ([2, 2, 1], 0), ([2, 1, 1, 1], 0)]
theorem f_236 : ∀ e ∈ in_236, EF [2, 1, 1, 1, 1, 1] [2] e := fc (fun n => by kernel_rfl) (fc (fun n => by kernel_rfl) (fc (fun n => by kernel_rfl) (fc (fun n => by kernel_rfl) (fc (fun n => by kernel_rfl) (fc (fun n => by kernel_rfl) (fc (fun n => by kernel_rfl) (fc (fun n => by kernel_rfl) (fc (fun n => by kernel_rfl) (fc (fun n => by kernel_rfl) (fc (fun n => by kernel_rfl) (fc (fun n => by kernel_rfl) (fc (fun n => by kernel_rfl) (fc (fun n => by kernel_rfl) (fc (fun n => by kernel_rfl) (List.forall_mem_nil _)))))))))))))))
theorem c_236 : ∀ e ∈ cn_236, EC [2, 1, 1, 1, 1, 1] [2] e := fc (by show runC _ _ _ = _; kernel_rfl) (fc (by show runC _ _ _ = _; kernel_rfl) (fc (by show runC _ _ _ = _; kernel_rfl) (fc (by show runC _ _ _ = _; kernel_rfl) (fc (by show runC _ _ _ = _; kernel_rfl) (fc (by show runC _ _ _ = _; kernel_rfl) (List.forall_mem_nil _))))))
theorem k_236 : okI 5 in_236 cn_236 = true := by decide +kernel
theorem g_236 : Gd [2, 1, 1, 1, 1, 1] [2] := ⟨in_236, cn_236, f_236, c_236, k_236⟩
def in_243 : List (List Nat × List (List (List Nat))) := [([4], []),
 ([1, 3], []),
 ([2, 2], []),
 ([3, 1], []),
 ([1, 1, 2], []),
 ([1, 2, 1], []),
 ([2, 1, 1], []),
 ([1, 1, 1, 1], [[[], [], [], [1], [2], [3], [4]]])]
def cn_243 : List (List Nat × Nat) := [([4], 0), ([3, 1], 0), ([2, 2], 0), ([2, 1, 1], 0), ([1, 1, 1, 1], 1)]
theorem f_243 : ∀ e ∈ in_243, EF [1, 1, 1, 1, 1, 1, 1] [1, 1, 1] e := fc (fun n => by kernel_rfl) (fc (fun n => by kernel_rfl) (fc (fun n => by kernel_rfl) (fc (fun n => by kernel_rfl) (fc (fun n => by kernel_rfl) (fc (fun n => by kernel_rfl) (fc (fun n => by kernel_rfl) (fc (fun n => by kernel_rfl) (List.forall_mem_nil _))))))))
theorem c_243 : ∀ e ∈ cn_243, EC [1, 1, 1, 1, 1, 1, 1] [1, 1, 1] e := fc (by show runC _ _ _ = _; kernel_rfl) (fc (by show runC _ _ _ = _; kernel_rfl) (fc (by show runC _ _ _ = _; kernel_rfl) (fc (by show runC _ _ _ = _; kernel_rfl) (fc (by show runC _ _ _ = _; kernel_rfl) (List.forall_mem_nil _)))))
theorem k_243 : okI 4 in_243 cn_243 = true := by decide +kernel
theorem g_243 : Gd [1, 1, 1, 1, 1, 1, 1] [1, 1, 1] := ⟨in_243, cn_243, f_243, c_243, k_243⟩
end K14
set_option maxHeartbeats 0
noncomputable section
namespace K14
open PySem L2 Pd Gn PySem.Spec PyProof.Rows Zq Hx
def in_0 : List (List Nat × List (List (List Nat))) := [([], [[]])]
def cn_0 : List (List Nat × Nat) := [([], 1)]
theorem f_0 : ∀ e ∈ in_0, EF [] [] e := fc (fun n => by kernel_rfl) (List.forall_mem_nil _)
theorem c_0 : ∀ e ∈ cn_0, EC [] [] e := fc (by show runC _ _ _ = _; kernel_rfl) (List.forall_mem_nil _)
theorem k_0 : okI 0 in_0 cn_0 = true := by decide +kernel
theorem g_0 : Gd [] [] := ⟨in_0, cn_0, f_0, c_0, k_0⟩
def in_3 : List (List Nat × List (List (List Nat))) := [([2], [[[1, 1]]]),
 ([1, 1], [[[1, 2]]])]
def cn_3 : List (List Nat × Nat) := [([2], 1), ([1, 1], 1)]
theorem f_3 : ∀ e ∈ in_3, EF [2] [] e := fc (fun n => by kernel_rfl) (fc (fun n => by kernel_rfl) (List.forall_mem_nil _))
theorem c_3 : ∀ e ∈ cn_3, EC [2] [] e := fc (by show runC _ _ _ = _; kernel_rfl) (fc (by show runC _ _ _ = _; kernel_rfl) (List.forall_mem_nil _))
theorem k_3 : okI 2 in_3 cn_3 = true := by decide +kernel
theorem g_3 : Gd [2] [] := ⟨in_3, cn_3, f_3, c_3, k_3⟩
def in_9 : List (List Nat × List (List (List Nat))) := [([3], [[[1, 1, 1]]]),
 ([1, 2], [[[1, 2, 2]]]),
 ([2, 1], [[[1, 1, 2]]]),
 ([1, 1, 1], [[[1, 2, 3]]])]
def cn_9 : List (List Nat × Nat) := [([3], 1), ([2, 1], 1), ([1, 1, 1], 1)]
theorem f_9 : ∀ e ∈ in_9, EF [3] [] e := fc (fun n => by kernel_rfl) (fc (fun n => by kernel_rfl) (fc (fun n => by kernel_rfl) (fc (fun n => by kernel_rfl) (List.forall_mem_nil _))))
theorem c_9 : ∀ e ∈ cn_9, EC [3] [] e := fc (by show runC _ _ _ = _; kernel_rfl) (fc (by show runC _ _ _ = _; kernel_rfl) (fc (by show runC _ _ _ = _; kernel_rfl) (List.forall_mem_nil _)))
theorem k_9 : okI 3 in_9 cn_9 = true := by decide +kernel
theorem g_9 : Gd [3] [] := ⟨in_9, cn_9, f_9, c_9, k_9⟩
def in_13 : List (List Nat × List (List (List Nat))) := [([3], []),
 ([1, 2], [[[1, 2], [2]]]),
 ([2, 1], [[[1, 1], [2]]]),
 ([1, 1, 1], [[[1, 2], [3]], [[1, 3], [2]]])]
def cn_13 : List (List Nat × Nat) := [([3], 0), ([2, 1], 1), ([1, 1, 1], 2)]
theorem f_13 : ∀ e ∈ in_13, EF [2, 1] [] e := fc (fun n => by kernel_rfl) (fc (fun n => by kernel_rfl) (fc (fun n => by kernel_rfl) (fc (fun n => by kernel_rfl) (List.forall_mem_nil _))))
theorem c_13 : ∀ e ∈ cn_13, EC [2, 1] [] e := fc (by show runC _ _ _ = _; kernel_rfl) (fc (by show runC _ _ _ = _; kernel_rfl) (fc (by show runC _ _ _ = _; kernel_rfl) (List.forall_mem_nil _)))
theorem k_13 : okI 3 in_13 cn_13 = true := by decide +kernel
theorem g_13 : Gd [2, 1] [] := ⟨in_13, cn_13, f_13, c_13, k_13⟩
def in_17 : List (List Nat × List (List (List Nat))) := [([], [[[], []]])]
def cn_17 : List (List Nat × Nat) := [([], 1)]
theorem f_17 : ∀ e ∈ in_17, EF [2, 1] [2, 1] e := fc (fun n => by kernel_rfl) (List.forall_mem_nil _)
theorem c_17 : ∀ e ∈ cn_17, EC [2, 1] [2, 1] e := fc (by show runC _ _ _ = _; kernel_rfl) (List.forall_mem_nil _)
theorem k_17 : okI 0 in_17 cn_17 = true := by decide +kernel
theorem g_17 : Gd [2, 1] [2, 1] := ⟨in_17, cn_17, f_17, c_17, k_17⟩
def in_25 : List (List Nat × List (List (List Nat))) := [([1], [[[1]]])]
def cn_25 : List (List Nat × Nat) := [([1], 1)]
theorem f_25 : ∀ e ∈ in_25, EF [4] [3] e := fc (fun n => by kernel_rfl) (List.forall_mem_nil _)
theorem c_25 : ∀ e ∈ cn_25, EC [4] [3] e := fc (by show runC _ _ _ = _; kernel_rfl) (List.forall_mem_nil _)
theorem k_25 : okI 1 in_25 cn_25 = true := by decide +kernel
theorem g_25 : Gd [4] [3] := ⟨in_25, cn_25, f_25, c_25, k_25⟩
def in_40 : List (List Nat × List (List (List Nat))) := [([2], [[[1], [], [1]]]),
 ([1, 1], [[[1], [], [2]], [[2], [], [1]]])]
def cn_40 : List (List Nat × Nat) := [([2], 1), ([1, 1], 2)]
theorem f_40 : ∀ e ∈ in_40, EF [2, 1, 1] [1, 1] e := fc (fun n => by kernel_rfl) (fc (fun n => by kernel_rfl) (List.forall_mem_nil _))
theorem c_40 : ∀ e ∈ cn_40, EC [2, 1, 1] [1, 1] e := fc (by show runC _ _ _ = _; kernel_rfl) (fc (by show runC _ _ _ = _; kernel_rfl) (List.forall_mem_nil _))
theorem k_40 : okI 2 in_40 cn_40 = true := by decide +kernel
theorem g_40 : Gd [2, 1, 1] [1, 1] := ⟨in_40, cn_40, f_40, c_40, k_40⟩
def in_46 : List (List Nat × List (List (List Nat))) := [([1], [[[], [], [], [1]]])]
def cn_46 : List (List Nat × Nat) := [([1], 1)]
theorem f_46 : ∀ e ∈ in_46, EF [1, 1, 1, 1] [1, 1, 1] e := fc (fun n => by kernel_rfl) (List.forall_mem_nil _)
theorem c_46 : ∀ e ∈ cn_46, EC [1, 1, 1, 1] [1, 1, 1] e := fc (by show runC _ _ _ = _; kernel_rfl) (List.forall_mem_nil _)
theorem k_46 : okI 1 in_46 cn_46 = true := by decide +kernel
theorem g_46 : Gd [1, 1, 1, 1] [1, 1, 1] := ⟨in_46, cn_46, f_46, c_46, k_46⟩
def in_48 : List (List Nat × List (List (List Nat))) := [([4], [[[1, 1, 1, 1]]]),
 ([1, 3], [[[1, 2, 2, 2]]]),
 ([2, 2], [[[1, 1, 2, 2]]]),
 ([3, 1], [[[1, 1, 1, 2]]]),
 ([1, 1, 2], [[[1, 2, 3, 3]]]),
 ([1, 2, 1], [[[1, 2, 2, 3]]]),
 ([2, 1, 1], [[[1, 1, 2, 3]]]),
 ([1, 1, 1, 1], [[[1, 2, 3, 4]]])]
def cn_48 : List (List Nat × Nat) := [([4], 1), ([3, 1], 1), ([2, 2], 1), ([2, 1, 1], 1), ([1, 1, 1, 1], 1)]
theorem f_48 : ∀ e ∈ in_48, EF [5] [1] e := fc (fun n => by kernel_rfl) (fc (fun n => by kernel_rfl) (fc (fun n => by kernel_rfl) (fc (fun n => by kernel_rfl) (fc (fun n => by kernel_rfl) (fc (fun n => by kernel_rfl) (fc (fun n => by kernel_rfl) (fc (fun n => by kernel_rfl) (List.forall_mem_nil _))))))))
theorem c_48 : ∀ e ∈ cn_48, EC [5] [1] e := fc (by show runC _ _ _ = _; kernel_rfl) (fc (by show runC _ _ _ = _; kernel_rfl) (fc (by show runC _ _ _ = _; kernel_rfl) (fc (by show runC _ _ _ = _; kernel_rfl) (fc (by show runC _ _ _ = _; kernel_rfl) (List.forall_mem_nil _)))))
theorem k_48 : okI 4 in_48 cn_48 = true := by decide +kernel
theorem g_48 : Gd [5] [1] := ⟨in_48, cn_48, f_48, c_48, k_48⟩
def in_65 : List (List Nat × List (List (List Nat))) := [([3], []),
 ([1, 2], [[[2], [1], [2]]]),
 ([2, 1], [[[1], [1], [2]]]),
 ([1, 1, 1], [[[1], [2], [3]], [[2], [1], [3]], [[3], [1], [2]]])]
def cn_65 : List (List Nat × Nat) := [([3], 0), ([2, 1], 1), ([1, 1, 1], 3)]
theorem f_65 : ∀ e ∈ in_65, EF [3, 1, 1] [2] e := fc (fun n => by kernel_rfl) (fc (fun n => by kernel_rfl) (fc (fun n => by kernel_rfl) (fc (fun n => by kernel_rfl) (List.forall_mem_nil _))))
theorem c_65 : ∀ e ∈ cn_65, EC [3, 1, 1] [2] e := fc (by show runC _ _ _ = _; kernel_rfl) (fc (by show runC _ _ _ = _; kernel_rfl) (fc (by show runC _ _ _ = _; kernel_rfl) (List.forall_mem_nil _)))
theorem k_65 : okI 3 in_65 cn_65 = true := by decide +kernel
theorem g_65 : Gd [3, 1, 1] [2] := ⟨in_65, cn_65, f_65, c_65, k_65⟩
def in_69 : List (List Nat × List (List (List Nat))) := [([2], [[[1, 1], [], []]]),
 ([1, 1], [[[1, 2], [], []]])]
def cn_69 : List (List Nat × Nat) := [([2], 1), ([1, 1], 1)]
theorem f_69 : ∀ e ∈ in_69, EF [3, 1, 1] [1, 1, 1] e := fc (fun n => by kernel_rfl) (fc (fun n => by kernel_rfl) (List.forall_mem_nil _))
theorem c_69 : ∀ e ∈ cn_69, EC [3, 1, 1] [1, 1, 1] e := fc (by show runC _ _ _ = _; kernel_rfl) (fc (by show runC _ _ _ = _; kernel_rfl) (List.forall_mem_nil _))
theorem k_69 : okI 2 in_69 cn_69 = true := by decide +kernel
theorem g_69 : Gd [3, 1, 1] [1, 1, 1] := ⟨in_69, cn_69, f_69, c_69, k_69⟩
def in_72 : List (List Nat × List (List (List Nat))) := [([3], []),
 ([1, 2], [[[], [1, 2], [2]]]),
 ([2, 1], [[[], [1, 1], [2]]]),
 ([1, 1, 1], [[[], [1, 2], [3]], [[], [1, 3], [2]]])]
def cn_72 : List (List Nat × Nat) := [([3], 0), ([2, 1], 1), ([1, 1, 1], 2)]
theorem f_72 : ∀ e ∈ in_72, EF [2, 2, 1] [2] e := fc (fun n => by kernel_rfl) (fc (fun n => by kernel_rfl) (fc (fun n => by kernel_rfl) (fc (fun n => by kernel_rfl) (List.forall_mem_nil _))))
theorem c_72 : ∀ e ∈ cn_72, EC [2, 2, 1] [2] e := fc (by show runC _ _ _ = _; kernel_rfl) (fc (by show runC _ _ _ = _; kernel_rfl) (fc (by show runC _ _ _ = _; kernel_rfl) (List.forall_mem_nil _)))
theorem k_72 : okI 3 in_72 cn_72 = true := by decide +kernel
theorem g_72 : Gd [2, 2, 1] [2] := ⟨in_72, cn_72, f_72, c_72, k_72⟩
def in_76 : List (List Nat × List (List (List Nat))) := [([5], []),
 ([1, 4], []),
 ([2, 3], []),
 ([3, 2], []),
 ([4, 1], []),
 ([1, 1, 3], []),
 ([1, 2, 2], []),
 ([1, 3, 1], []),
 ([2, 1, 2], []),
 ([2, 2, 1], []),
 ([3, 1, 1], []),
 ([1, 1, 1, 2], [[[1, 4], [2], [3], [4]]]),
 ([1, 1, 2, 1], [[[1, 3], [2], [3], [4]]]),
 ([1, 2, 1, 1], [[[1, 2], [2], [3], [4]]]),
 ([2, 1, 1, 1], [[[1, 1], [2], [3], [4]]])]
def cn_76 : List (List Nat × Nat) := [([5], 0), ([4, 1], 0), ([3, 2], 0), ([3, 1, 1], 0), ([2, 2, 1], 0), ([2, 1, 1, 1], 1)]
theorem f_76 : ∀ e ∈ in_76, EF [2, 1, 1, 1] [] e := fc (fun n => by kernel_rfl) (fc (fun n => by kernel_rfl) (fc (fun n => by kernel_rfl) (fc (fun n => by kernel_rfl) (fc (fun n => by kernel_rfl) (fc (fun n => by kernel_rfl) (fc (fun n => by kernel_rfl) (fc (fun n => by kernel_rfl) (fc (fun n => by kernel_rfl) (fc (fun n => by kernel_rfl) (fc (fun n => by kernel_rfl) (fc (fun n => by kernel_rfl) (fc (fun n => by kernel_rfl) (fc (fun n => by kernel_rfl) (fc (fun n => by kernel_rfl) (List.forall_mem_nil _)))))))))))))))
theorem c_76 : ∀ e ∈ cn_76, EC [2, 1, 1, 1] [] e := fc (by show runC _ _ _ = _; kernel_rfl) (fc (by show runC _ _ _ = _; kernel_rfl) (fc (by show runC _ _ _ = _; kernel_rfl) (fc (by show runC _ _ _ = _; kernel_rfl) (fc (by show runC _ _ _ = _; kernel_rfl) (fc (by show runC _ _ _ = _; kernel_rfl) (List.forall_mem_nil _))))))
theorem k_76 : okI 5 in_76 cn_76 = true := by decide +kernel
theorem g_76 : Gd [2, 1, 1, 1] [] := ⟨in_76, cn_76, f_76, c_76, k_76⟩
def in_85 : List (List Nat × List (List (List Nat))) := [([2], []),
 ([1, 1], [[[], [], [], [1], [2]]])]
def cn_85 : List (List Nat × Nat) := [([2], 0), ([1, 1], 1)]
theorem f_85 : ∀ e ∈ in_85, EF [1, 1, 1, 1, 1] [1, 1, 1] e := fc (fun n => by kernel_rfl) (fc (fun n => by kernel_rfl) (List.forall_mem_nil _))
theorem c_85 : ∀ e ∈ cn_85, EC [1, 1, 1, 1, 1] [1, 1, 1] e := fc (by show runC _ _ _ = _; kernel_rfl) (fc (by show runC _ _ _ = _; kernel_rfl) (List.forall_mem_nil _))
theorem k_85 : okI 2 in_85 cn_85 = true := by decide +kernel
theorem g_85 : Gd [1, 1, 1, 1, 1] [1, 1, 1] := ⟨in_85, cn_85, f_85, c_85, k_85⟩
def in_96 : List (List Nat × List (List (List Nat))) := [([6], []),
 ([1, 5], []),
 ([2, 4], [[[1, 1, 2, 2], [2, 2]]]),
 ([3, 3], [[[1, 1, 1, 2], [2, 2]]]),
 ([4, 2], [[[1, 1, 1, 1], [2, 2]]]),
 ([5, 1], []),
 ([1, 1, 4], [[[1, 2, 3, 3], [3, 3]]]),
 ([1, 2, 3], [[[1, 2, 2, 3], [3, 3]], [[1, 2, 3, 3], [2, 3]]]),
 ([1, 3, 2], [[[1, 2, 2, 2], [3, 3]], [[1, 2, 2, 3], [2, 3]]]),
 ([1, 4, 1], [[[1, 2, 2, 2], [2, 3]]]),
 ([2, 1, 3], [[[1, 1, 2, 3], [3, 3]], [[1, 1, 3, 3], [2, 3]]]),
 ([2, 2, 2], [[[1, 1, 2, 2], [3, 3]], [[1, 1, 2, 3], [2, 3]], [[1, 1, 3, 3], [2, 2]]]),
 ([2, 3, 1], [[[1, 1, 2, 2], [2, 3]], [[1, 1, 2, 3], [2, 2]]]),
 ([3, 1, 2], [[[1, 1, 1, 2], [3, 3]], [[1, 1, 1, 3], [2, 3]]]),
 ([3, 2, 1], [[[1, 1, 1, 2], [2, 3]], [[1, 1, 1, 3], [2, 2]]]),
 ([4, 1, 1], [[[1, 1, 1, 1], [2, 3]]]),
 ([1, 1, 1, 3], [[[1, 2, 3, 4], [4, 4]], [[1, 2, 4, 4], [3, 4]], [[1, 3, 4, 4], [2, 4]]]),
 ([1, 1, 2, 2], [[[1, 2, 3, 3], [4, 4]], [[1, 2, 3, 4], [3, 4]], [[1, 3, 3, 4], [2, 4]], [[1, 2, 4, 4], [3, 3]]]),
 ([1, 1, 3, 1], [[[1, 2, 3, 3], [3, 4]], [[1, 3, 3, 3], [2, 4]], [[1, 2, 3, 4], [3, 3]]]),
 ([1, 2, 1, 2], [[[1, 2, 2, 3], [4, 4]], [[1, 2, 2, 4], [3, 4]], [[1, 2, 3, 4], [2, 4]], [[1, 2, 4, 4], [2, 3]]]),
 ([1, 2, 2, 1], [[[1, 2, 2, 3], [3, 4]], [[1, 2, 3, 3], [2, 4]], [[1, 2, 2, 4], [3, 3]], [[1, 2, 3, 4], [2, 3]]]),
 ([1, 3, 1, 1], [[[1, 2, 2, 2], [3, 4]], [[1, 2, 2, 3], [2, 4]], [[1, 2, 2, 4], [2, 3]]]),
 ([2, 1, 1, 2], [[[1, 1, 2, 3], [4, 4]], [[1, 1, 2, 4], [3, 4]], [[1, 1, 3, 4], [2, 4]], [[1, 1, 4, 4], [2, 3]]]),
 ([2, 1, 2, 1], [[[1, 1, 2, 3], [3, 4]], [[1, 1, 3, 3], [2, 4]], [[1, 1, 2, 4], [3, 3]], [[1, 1, 3, 4], [2, 3]]]),
 ([2, 2, 1, 1], [[[1, 1, 2, 2], [3, 4]], [[1, 1, 2, 3], [2, 4]], [[1, 1, 2, 4], [2, 3]], [[1, 1, 3, 4], [2, 2]]]),
 ([3, 1, 1, 1], [[[1, 1, 1, 2], [3, 4]], [[1, 1, 1, 3], [2, 4]], [[1, 1, 1, 4], [2, 3]]])]
def cn_96 : List (List Nat × Nat) := [([6], 0), ([5, 1], 0), ([4, 2], 1), ([4, 1, 1], 1), ([3, 3], 1), ([3, 2, 1], 2), ([3, 1, 1, 1], 3), ([2, 2, 2], 3), ([2, 2, 1, 1], 4)]
theorem f_96 : ∀ e ∈ in_96, EF [4, 2] [] e := fc (fun n => by kernel_rfl) (fc (fun n => by kernel_rfl) (fc (fun n => by kernel_rfl) (fc (fun n => by kernel_rfl) (fc (fun n => by kernel_rfl) (fc (fun n => by kernel_rfl) (fc (fun n => by kernel_rfl) (fc (fun n => by kernel_rfl) (fc (fun n => by kernel_rfl) (fc (fun n => by kernel_rfl) (fc (fun n => by kernel_rfl) (fc (fun n => by kernel_rfl) (fc (fun n => by kernel_rfl) (fc (fun n => by kernel_rfl) (fc (fun n => by kernel_rfl) (fc (fun n => by kernel_rfl) (fc (fun n => by kernel_rfl) (fc (fun n => by kernel_rfl) (fc (fun n => by kernel_rfl) (fc (fun n => by kernel_rfl) (fc (fun n => by kernel_rfl) (fc (fun n => by kernel_rfl) (fc (fun n => by kernel_rfl) (fc (fun n => by kernel_rfl) (fc (fun n => by kernel_rfl) (fc (fun n => by kernel_rfl) (List.forall_mem_nil _))))))))))))))))))))))))))
theorem c_96 : ∀ e ∈ cn_96, EC [4, 2] [] e := fc (by show runC _ _ _ = _; kernel_rfl) (fc (by show runC _ _ _ = _; kernel_rfl) (fc (by show runC _ _ _ = _; kernel_rfl) (fc (by show runC _ _ _ = _; kernel_rfl) (fc (by show runC _ _ _ = _; kernel_rfl) (fc (by show runC _ _ _ = _; kernel_rfl) (fc (by show runC _ _ _ = _; kernel_rfl) (fc (by show runC _ _ _ = _; kernel_rfl) (fc (by show runC _ _ _ = _; kernel_rfl) (List.forall_mem_nil _)))))))))
theorem k_96 : okI 6 in_96 cn_96 = true := by decide +kernel
theorem g_96 : Gd [4, 2] [] := ⟨in_96, cn_96, f_96, c_96, k_96⟩
def in_102 : List (List Nat × List (List (List Nat))) := [([6], []),
 ([1, 5], []),
 ([2, 4], []),
 ([3, 3], []),
 ([4, 2], []),
 ([5, 1], []),
 ([1, 1, 4], [[[1, 3, 3, 3], [2], [3]]]),
 ([1, 2, 3], [[[1, 2, 3, 3], [2], [3]]]),
 ([1, 3, 2], [[[1, 2, 2, 3], [2], [3]]]),
 ([1, 4, 1], [[[1, 2, 2, 2], [2], [3]]]),
 ([2, 1, 3], [[[1, 1, 3, 3], [2], [3]]]),
 ([2, 2, 2], [[[1, 1, 2, 3], [2], [3]]]),
 ([2, 3, 1], [[[1, 1, 2, 2], [2], [3]]]),
 ([3, 1, 2], [[[1, 1, 1, 3], [2], [3]]]),
 ([3, 2, 1], [[[1, 1, 1, 2], [2], [3]]]),
 ([4, 1, 1], [[[1, 1, 1, 1], [2], [3]]]),
 ([1, 1, 1, 3], [[[1, 2, 4, 4], [3], [4]], [[1, 3, 4, 4], [2], [4]], [[1, 4, 4, 4], [2], [3]]]),
 ([1, 1, 2, 2], [[[1, 2, 3, 4], [3], [4]], [[1, 3, 3, 4], [2], [4]], [[1, 3, 4, 4], [2], [3]]]),
 ([1, 1, 3, 1], [[[1, 2, 3, 3], [3], [4]], [[1, 3, 3, 3], [2], [4]], [[1, 3, 3, 4], [2], [3]]]),
 ([1, 2, 1, 2], [[[1, 2, 2, 4], [3], [4]], [[1, 2, 3, 4], [2], [4]], [[1, 2, 4, 4], [2], [3]]]),
 ([1, 2, 2, 1], [[[1, 2, 2, 3], [3], [4]], [[1, 2, 3, 3], [2], [4]], [[1, 2, 3, 4], [2], [3]]]),
 ([1, 3, 1, 1], [[[1, 2, 2, 2], [3], [4]], [[1, 2, 2, 3], [2], [4]], [[1, 2, 2, 4], [2], [3]]]),
 ([2, 1, 1, 2], [[[1, 1, 2, 4], [3], [4]], [[1, 1, 3, 4], [2], [4]], [[1, 1, 4, 4], [2], [3]]]),
 ([2, 1, 2, 1], [[[1, 1, 2, 3], [3], [4]], [[1, 1, 3, 3], [2], [4]], [[1, 1, 3, 4], [2], [3]]]),
 ([2, 2, 1, 1], [[[1, 1, 2, 2], [3], [4]], [[1, 1, 2, 3], [2], [4]], [[1, 1, 2, 4], [2], [3]]]),
 ([3, 1, 1, 1], [[[1, 1, 1, 2], [3], [4]], [[1, 1, 1, 3], [2], [4]], [[1, 1, 1, 4], [2], [3]]])]
def cn_102 : List (List Nat × Nat) := [([6], 0), ([5, 1], 0), ([4, 2], 0), ([4, 1, 1], 1), ([3, 3], 0), ([3, 2, 1], 1), ([3, 1, 1, 1], 3), ([2, 2, 2], 1), ([2, 2, 1, 1], 3)]
theorem f_102 : ∀ e ∈ in_102, EF [4, 1, 1] [] e := fc (fun n => by kernel_rfl) (fc (fun n => by kernel_rfl) (fc (fun n => by kernel_rfl) (fc (fun n => by kernel_rfl) (fc (fun n => by kernel_rfl) (fc (fun n => by kernel_rfl) (fc (fun n => by kernel_rfl) (fc (fun n => by kernel_rfl) (fc (fun n => by kernel_rfl) (fc (fun n => by kernel_rfl) (fc (fun n => by kernel_rfl) (fc (fun n => by kernel_rfl) (fc (fun n => by kernel_rfl) (fc (fun n => by kernel_rfl) (fc (fun n => by kernel_rfl) (fc (fun n => by kernel_rfl) (fc (fun n => by kernel_rfl) (fc (fun n => by kernel_rfl) (fc (fun n => by kernel_rfl) (fc (fun n => by kernel_rfl) (fc (fun n => by kernel_rfl) (fc (fun n => by kernel_rfl) (fc (fun n => by kernel_rfl) (fc (fun n => by kernel_rfl) (fc (fun n => by kernel_rfl) (fc (fun n => by kernel_rfl) (List.forall_mem_nil _))))))))))))))))))))))))))
theorem c_102 : ∀ e ∈ cn_102, EC [4, 1, 1] [] e := fc (by show runC _ _ _ = _; kernel_rfl) (fc (by show runC _ _ _ = _; kernel_rfl) (fc (by show runC _ _ _ = _; kernel_rfl) (fc (by show runC _ _ _ = _; kernel_rfl) (fc (by show runC _ _ _ = _; kernel_rfl) (fc (by show runC _ _ _ = _; kernel_rfl) (fc (by show runC _ _ _ = _; kernel_rfl) (fc (by show runC _ _ _ = _; kernel_rfl) (fc (by show runC _ _ _ = _; kernel_rfl) (List.forall_mem_nil _)))))))))
theorem k_102 : okI 6 in_102 cn_102 = true := by decide +kernel
theorem g_102 : Gd [4, 1, 1] [] := ⟨in_102, cn_102, f_102, c_102, k_102⟩
def in_104 : List (List Nat × List (List (List Nat))) := [([4], []),
 ([1, 3], [[[2, 2], [1], [2]]]),
 ([2, 2], [[[1, 2], [1], [2]]]),
 ([3, 1], [[[1, 1], [1], [2]]]),
 ([1, 1, 2], [[[1, 3], [2], [3]], [[2, 3], [1], [3]], [[3, 3], [1], [2]]]),
 ([1, 2, 1], [[[1, 2], [2], [3]], [[2, 2], [1], [3]], [[2, 3], [1], [2]]]),
 ([2, 1, 1], [[[1, 1], [2], [3]], [[1, 2], [1], [3]], [[1, 3], [1], [2]]]),
 ([1, 1, 1, 1], [[[1, 2], [3], [4]], [[1, 3], [2], [4]], [[2, 3], [1], [4]], [[1, 4], [2], [3]], [[2, 4], [1], [3]], [[3, 4], [1], [2]]])]
def cn_104 : List (List Nat × Nat) := [([4], 0), ([3, 1], 1), ([2, 2], 1), ([2, 1, 1], 3), ([1, 1, 1, 1], 6)]
theorem f_104 : ∀ e ∈ in_104, EF [4, 1, 1] [2] e := fc (fun n => by kernel_rfl) (fc (fun n => by kernel_rfl) (fc (fun n => by kernel_rfl) (fc (fun n => by kernel_rfl) (fc (fun n => by kernel_rfl) (fc (fun n => by kernel_rfl) (fc (fun n => by kernel_rfl) (fc (fun n => by kernel_rfl) (List.forall_mem_nil _))))))))
theorem c_104 : ∀ e ∈ cn_104, EC [4, 1, 1] [2] e := fc (by show runC _ _ _ = _; kernel_rfl) (fc (by show runC _ _ _ = _; kernel_rfl) (fc (by show runC _ _ _ = _; kernel_rfl) (fc (by show runC _ _ _ = _; kernel_rfl) (fc (by show runC _ _ _ = _; kernel_rfl) (List.forall_mem_nil _)))))
theorem k_104 : okI 4 in_104 cn_104 = true := by decide +kernel
theorem g_104 : Gd [4, 1, 1] [2] := ⟨in_104, cn_104, f_104, c_104, k_104⟩
def in_105 : List (List Nat × List (List (List Nat))) := [([3], []),
 ([1, 2], [[[2], [1], [2]]]),
 ([2, 1], [[[1], [1], [2]]]),
 ([1, 1, 1], [[[1], [2], [3]], [[2], [1], [3]], [[3], [1], [2]]])]
def cn_105 : List (List Nat × Nat) := [([3], 0), ([2, 1], 1), ([1, 1, 1], 3)]
theorem f_105 : ∀ e ∈ in_105, EF [4, 1, 1] [3] e := fc (fun n => by kernel_rfl) (fc (fun n => by kernel_rfl) (fc (fun n => by kernel_rfl) (fc (fun n => by kernel_rfl) (List.forall_mem_nil _))))
theorem c_105 : ∀ e ∈ cn_105, EC [4, 1, 1] [3] e := fc (by show runC _ _ _ = _; kernel_rfl) (fc (by show runC _ _ _ = _; kernel_rfl) (fc (by show runC _ _ _ = _; kernel_rfl) (List.forall_mem_nil _)))
theorem k_105 : okI 3 in_105 cn_105 = true := by decide +kernel
theorem g_105 : Gd [4, 1, 1] [3] := ⟨in_105, cn_105, f_105, c_105, k_105⟩
def in_108 : List (List Nat × List (List (List Nat))) := [([3], [[[1, 1, 1], [], []]]),
 ([1, 2], [[[1, 2, 2], [], []]]),
 ([2, 1], [[[1, 1, 2], [], []]]),
 ([1, 1, 1], [[[1, 2, 3], [], []]])]
def cn_108 : List (List Nat × Nat) := [([3], 1), ([2, 1], 1), ([1, 1, 1], 1)]
theorem f_108 : ∀ e ∈ in_108, EF [4, 1, 1] [1, 1, 1] e := fc (fun n => by kernel_rfl) (fc (fun n => by kernel_rfl) (fc (fun n => by kernel_rfl) (fc (fun n => by kernel_rfl) (List.forall_mem_nil _))))
theorem c_108 : ∀ e ∈ cn_108, EC [4, 1, 1] [1, 1, 1] e := fc (by show runC _ _ _ = _; kernel_rfl) (fc (by show runC _ _ _ = _; kernel_rfl) (fc (by show runC _ _ _ = _; kernel_rfl) (List.forall_mem_nil _)))
theorem k_108 : okI 3 in_108 cn_108 = true := by decide +kernel
theorem g_108 : Gd [4, 1, 1] [1, 1, 1] := ⟨in_108, cn_108, f_108, c_108, k_108⟩
def in_110 : List (List Nat × List (List (List Nat))) := [([5], []),
 ([1, 4], []),
 ([2, 3], [[[1, 1], [2, 2, 2]]]),
 ([3, 2], [[[1, 1], [1, 2, 2]]]),
 ([4, 1], []),
 ([1, 1, 3], [[[1, 2], [3, 3, 3]]]),
 ([1, 2, 2], [[[1, 2], [2, 3, 3]], [[2, 2], [1, 3, 3]]]),
 ([1, 3, 1], [[[1, 2], [2, 2, 3]]]),
 ([2, 1, 2], [[[1, 1], [2, 3, 3]], [[1, 2], [1, 3, 3]]]),
 ([2, 2, 1], [[[1, 1], [2, 2, 3]], [[1, 2], [1, 2, 3]]]),
 ([3, 1, 1], [[[1, 1], [1, 2, 3]]]),
 ([1, 1, 1, 2], [[[1, 2], [3, 4, 4]], [[1, 3], [2, 4, 4]], [[2, 3], [1, 4, 4]]]),
 ([1, 1, 2, 1], [[[1, 2], [3, 3, 4]], [[1, 3], [2, 3, 4]], [[2, 3], [1, 3, 4]]]),
 ([1, 2, 1, 1], [[[1, 2], [2, 3, 4]], [[2, 2], [1, 3, 4]], [[1, 3], [2, 2, 4]]]),
 ([2, 1, 1, 1], [[[1, 1], [2, 3, 4]], [[1, 2], [1, 3, 4]], [[1, 3], [1, 2, 4]]])]
def cn_110 : List (List Nat × Nat) := [([5], 0), ([4, 1], 0), ([3, 2], 1), ([3, 1, 1], 1), ([2, 2, 1], 2), ([2, 1, 1, 1], 3)]
theorem f_110 : ∀ e ∈ in_110, EF [3, 3] [1] e := fc (fun n => by kernel_rfl) (fc (fun n => by kernel_rfl) (fc (fun n => by kernel_rfl) (fc (fun n => by kernel_rfl) (fc (fun n => by kernel_rfl) (fc (fun n => by kernel_rfl) (fc (fun n => by kernel_rfl) (fc (fun n => by kernel_rfl) (fc (fun n => by kernel_rfl) (fc (fun n => by kernel_rfl) (fc (fun n => by kernel_rfl) (fc (fun n => by kernel_rfl) (fc (fun n => by kernel_rfl) (fc (fun n => by kernel_rfl) (fc (fun n => by kernel_rfl) (List.forall_mem_nil _)))))))))))))))
theorem c_110 : ∀ e ∈ cn_110, EC [3, 3] [1] e := fc (by show runC _ _ _ = _; kernel_rfl) (fc (by show runC _ _ _ = _; kernel_rfl) (fc (by show runC _ _ _ = _; kernel_rfl) (fc (by show runC _ _ _ = _; kernel_rfl) (fc (by show runC _ _ _ = _; kernel_rfl) (fc (by show runC _ _ _ = _; kernel_rfl) (List.forall_mem_nil _))))))
theorem k_110 : okI 5 in_110 cn_110 = true := by decide +kernel
theorem g_110 : Gd [3, 3] [1] := ⟨in_110, cn_110, f_110, c_110, k_110⟩
def in_116 : List (List Nat × List (List (List Nat))) := [([5], []),
 ([1, 4], []),
 ([2, 3], [[[1, 2], [1, 2], [2]]]),
 ([3, 2], [[[1, 1], [1, 2], [2]]]),
 ([4, 1], []),
 ([1, 1, 3], [[[1, 3], [2, 3], [3]], [[2, 3], [1, 3], [3]]]),
 ([1, 2, 2], [[[1, 2], [2, 3], [3]], [[2, 2], [1, 3], [3]], [[1, 3], [2, 2], [3]], [[2, 3], [1, 3], [2]]]),
 ([1, 3, 1], [[[1, 2], [2, 2], [3]], [[2, 2], [1, 3], [2]]]),
 ([2, 1, 2], [[[1, 1], [2, 3], [3]], [[1, 2], [1, 3], [3]], [[1, 3], [1, 2], [3]], [[1, 3], [1, 3], [2]]]),
 ([2, 2, 1], [[[1, 1], [2, 2], [3]], [[1, 2], [1, 2], [3]], [[1, 2], [1, 3], [2]], [[1, 3], [1, 2], [2]]]),
 ([3, 1, 1], [[[1, 1], [1, 2], [3]], [[1, 1], [1, 3], [2]]]),
 ([1, 1, 1, 2], [[[1, 2], [3, 4], [4]], [[1, 3], [2, 4], [4]], [[2, 3], [1, 4], [4]], [[1, 4], [2, 3], [4]], [[2, 4], [1, 3], [4]], [[1, 4], [2, 4], [3]], [[2, 4], [1, 4], [3]], [[3, 4], [1, 4], [2]]]),
 ([1, 1, 2, 1], [[[1, 2], [3, 3], [4]], [[1, 3], [2, 3], [4]], [[2, 3], [1, 3], [4]], [[1, 3], [2, 4], [3]], [[2, 3], [1, 4], [3]], [[3, 3], [1, 4], [2]], [[1, 4], [2, 3], [3]], [[2, 4], [1, 3], [3]]]),
 ([1, 2, 1, 1], [[[1, 2], [2, 3], [4]], [[2, 2], [1, 3], [4]], [[1, 3], [2, 2], [4]], [[1, 2], [2, 4], [3]], [[2, 2], [1, 4], [3]], [[2, 3], [1, 4], [2]], [[1, 4], [2, 2], [3]], [[2, 4], [1, 3], [2]]]),
 ([2, 1, 1, 1], [[[1, 1], [2, 3], [4]], [[1, 2], [1, 3], [4]], [[1, 3], [1, 2], [4]], [[1, 1], [2, 4], [3]], [[1, 2], [1, 4], [3]], [[1, 3], [1, 4], [2]], [[1, 4], [1, 2], [3]], [[1, 4], [1, 3], [2]]])]
def cn_116 : List (List Nat × Nat) := [([5], 0), ([4, 1], 0), ([3, 2], 1), ([3, 1, 1], 2), ([2, 2, 1], 4), ([2, 1, 1, 1], 8)]
theorem f_116 : ∀ e ∈ in_116, EF [3, 2, 1] [1] e := fc (fun n => by kernel_rfl) (fc (fun n => by kernel_rfl) (fc (fun n => by kernel_rfl) (fc (fun n => by kernel_rfl) (fc (fun n => by kernel_rfl) (fc (fun n => by kernel_rfl) (fc (fun n => by kernel_rfl) (fc (fun n => by kernel_rfl) (fc (fun n => by kernel_rfl) (fc (fun n => by kernel_rfl) (fc (fun n => by kernel_rfl) (fc (fun n => by kernel_rfl) (fc (fun n => by kernel_rfl) (fc (fun n => by kernel_rfl) (fc (fun n => by kernel_rfl) (List.forall_mem_nil _)))))))))))))))
theorem c_116 : ∀ e ∈ cn_116, EC [3, 2, 1] [1] e := fc (by show runC _ _ _ = _; kernel_rfl) (fc (by show runC _ _ _ = _; kernel_rfl) (fc (by show runC _ _ _ = _; kernel_rfl) (fc (by show runC _ _ _ = _; kernel_rfl) (fc (by show runC _ _ _ = _; kernel_rfl) (fc (by show runC _ _ _ = _; kernel_rfl) (List.forall_mem_nil _))))))
theorem k_116 : okI 5 in_116 cn_116 = true := by decide +kernel
theorem g_116 : Gd [3, 2, 1] [1] := ⟨in_116, cn_116, f_116, c_116, k_116⟩
def in_128 : List (List Nat × List (List (List Nat))) := [([3], [[[1, 1], [], [], [1]]]),
 ([1, 2], [[[1, 2], [], [], [2]], [[2, 2], [], [], [1]]]),
 ([2, 1], [[[1, 1], [], [], [2]], [[1, 2], [], [], [1]]]),
 ([1, 1, 1], [[[1, 2], [], [], [3]], [[1, 3], [], [], [2]], [[2, 3], [], [], [1]]])]
def cn_128 : List (List Nat × Nat) := [([3], 1), ([2, 1], 2), ([1, 1, 1], 3)]
theorem f_128 : ∀ e ∈ in_128, EF [3, 1, 1, 1] [1, 1, 1] e := fc (fun n => by kernel_rfl) (fc (fun n => by kernel_rfl) (fc (fun n => by kernel_rfl) (fc (fun n => by kernel_rfl) (List.forall_mem_nil _))))
theorem c_128 : ∀ e ∈ cn_128, EC [3, 1, 1, 1] [1, 1, 1] e := fc (by show runC _ _ _ = _; kernel_rfl) (fc (by show runC _ _ _ = _; kernel_rfl) (fc (by show runC _ _ _ = _; kernel_rfl) (List.forall_mem_nil _)))
theorem k_128 : okI 3 in_128 cn_128 = true := by decide +kernel
theorem g_128 : Gd [3, 1, 1, 1] [1, 1, 1] := ⟨in_128, cn_128, f_128, c_128, k_128⟩
def in_129 : List (List Nat × List (List (List Nat))) := [([6], []),
 ([1, 5], []),
 ([2, 4], []),
 ([3, 3], []),
 ([4, 2], []),
 ([5, 1], []),
 ([1, 1, 4], []),
 ([1, 2, 3], []),
 ([1, 3, 2], []),
 ([1, 4, 1], []),
 ([2, 1, 3], []),
 ([2, 2, 2], [[[1, 1], [2, 2], [3, 3]]]),
 ([2, 3, 1], []),
 ([3, 1, 2], []),
 ([3, 2, 1], []),
 ([4, 1, 1], []),
 ([1, 1, 1, 3], []),
 ([1, 1, 2, 2], [[[1, 2], [3, 3], [4, 4]]]),
 ([1, 1, 3, 1], []),
 ([1, 2, 1, 2], [[[1, 2], [2, 3], [4, 4]]]),
 ([1, 2, 2, 1], [[[1, 2], [2, 3], [3, 4]]]),
 ([1, 3, 1, 1], []),
 ([2, 1, 1, 2], [[[1, 1], [2, 3], [4, 4]]]),
 ([2, 1, 2, 1], [[[1, 1], [2, 3], [3, 4]]]),
 ([2, 2, 1, 1], [[[1, 1], [2, 2], [3, 4]]]),
 ([3, 1, 1, 1], [])]
def cn_129 : List (List Nat × Nat) := [([6], 0), ([5, 1], 0), ([4, 2], 0), ([4, 1, 1], 0), ([3, 3], 0), ([3, 2, 1], 0), ([3, 1, 1, 1], 0), ([2, 2, 2], 1), ([2, 2, 1, 1], 1)]
theorem f_129 : ∀ e ∈ in_129, EF [2, 2, 2] [] e := fc (fun n => by kernel_rfl) (fc (fun n => by kernel_rfl) (fc (fun n => by kernel_rfl) (fc (fun n => by kernel_rfl) (fc (fun n => by kernel_rfl) (fc (fun n => by kernel_rfl) (fc (fun n => by kernel_rfl) (fc (fun n => by kernel_rfl) (fc (fun n => by kernel_rfl) (fc (fun n => by kernel_rfl) (fc (fun n => by kernel_rfl) (fc (fun n => by kernel_rfl) (fc (fun n => by kernel_rfl) (fc (fun n => by kernel_rfl) (fc (fun n => by kernel_rfl) (fc (fun n => by kernel_rfl) (fc (fun n => by kernel_rfl) (fc (fun n => by kernel_rfl) (fc (fun n => by kernel_rfl) (fc (fun n => by kernel_rfl) (fc (fun n => by kernel_rfl) (fc (fun n => by kernel_rfl) (fc (fun n => by kernel_rfl) (fc (fun n => by kernel_rfl) (fc (fun n => by kernel_rfl) (fc (fun n => by kernel_rfl) (List.forall_mem_nil _))))))))))))))))))))))))))
theorem c_129 : ∀ e ∈ cn_129, EC [2, 2, 2] [] e := fc (by show runC _ _ _ = _; kernel_rfl) (fc (by show runC _ _ _ = _; kernel_rfl) (fc (by show runC _ _ _ = _; kernel_rfl) (fc (by show runC _ _ _ = _; kernel_rfl) (fc (by show runC _ _ _ = _; kernel_rfl) (fc (by show runC _ _ _ = _; kernel_rfl) (fc (by show runC _ _ _ = _; kernel_rfl) (fc (by show runC _ _ _ = _; kernel_rfl) (fc (by show runC _ _ _ = _; kernel_rfl) (List.forall_mem_nil _)))))))))
theorem k_129 : okI 6 in_129 cn_129 = true := by decide +kernel
theorem g_129 : Gd [2, 2, 2] [] := ⟨in_129, cn_129, f_129, c_129, k_129⟩
def in_130 : List (List Nat × List (List (List Nat))) := [([5], []),
 ([1, 4], []),
 ([2, 3], []),
 ([3, 2], []),
 ([4, 1], []),
 ([1, 1, 3], []),
 ([1, 2, 2], [[[1], [2, 2], [3, 3]]]),
 ([1, 3, 1], []),
 ([2, 1, 2], [[[1], [1, 2], [3, 3]]]),
 ([2, 2, 1], [[[1], [1, 2], [2, 3]]]),
 ([3, 1, 1], []),
 ([1, 1, 1, 2], [[[1], [2, 3], [4, 4]], [[2], [1, 3], [4, 4]]]),
 ([1, 1, 2, 1], [[[1], [2, 3], [3, 4]], [[2], [1, 3], [3, 4]]]),
 ([1, 2, 1, 1], [[[1], [2, 2], [3, 4]], [[2], [1, 3], [2, 4]]]),
 ([2, 1, 1, 1], [[[1], [1, 2], [3, 4]], [[1], [1, 3], [2, 4]]])]
def cn_130 : List (List Nat × Nat) := [([5], 0), ([4, 1], 0), ([3, 2], 0), ([3, 1, 1], 0), ([2, 2, 1], 1), ([2, 1, 1, 1], 2)]
theorem f_130 : ∀ e ∈ in_130, EF [2, 2, 2] [1] e := fc (fun n => by kernel_rfl) (fc (fun n => by kernel_rfl) (fc (fun n => by kernel_rfl) (fc (fun n => by kernel_rfl) (fc (fun n => by kernel_rfl) (fc (fun n => by kernel_rfl) (fc (fun n => by kernel_rfl) (fc (fun n => by kernel_rfl) (fc (fun n => by kernel_rfl) (fc (fun n => by kernel_rfl) (fc (fun n => by kernel_rfl) (fc (fun n => by kernel_rfl) (fc (fun n => by kernel_rfl) (fc (fun n => by kernel_rfl) (fc (fun n => by kernel_rfl) (List.forall_mem_nil _)))))))))))))))
theorem c_130 : ∀ e ∈ cn_130, EC [2, 2, 2] [1] e := fc (by show runC _ _ _ = _; kernel_rfl) (fc (by show runC _ _ _ = _; kernel_rfl) (fc (by show runC _ _ _ = _; kernel_rfl) (fc (by show runC _ _ _ = _; kernel_rfl) (fc (by show runC _ _ _ = _; kernel_rfl) (fc (by show runC _ _ _ = _; kernel_rfl) (List.forall_mem_nil _))))))
theorem k_130 : okI 5 in_130 cn_130 = true := by decide +kernel
theorem g_130 : Gd [2, 2, 2] [1] := ⟨in_130, cn_130, f_130, c_130, k_130⟩
def in_140 : List (List Nat × List (List (List Nat))) := [([3], []),
 ([1, 2], [[[1], [2], [], [2]]]),
 ([2, 1], [[[1], [2], [], [1]]]),
 ([1, 1, 1], [[[1], [2], [], [3]], [[1], [3], [], [2]], [[2], [3], [], [1]]])]
def cn_140 : List (List Nat × Nat) := [([3], 0), ([2, 1], 1), ([1, 1, 1], 3)]
theorem f_140 : ∀ e ∈ in_140, EF [2, 2, 1, 1] [1, 1, 1] e := fc (fun n => by kernel_rfl) (fc (fun n => by kernel_rfl) (fc (fun n => by kernel_rfl) (fc (fun n => by kernel_rfl) (List.forall_mem_nil _))))
theorem c_140 : ∀ e ∈ cn_140, EC [2, 2, 1, 1] [1, 1, 1] e := fc (by show runC _ _ _ = _; kernel_rfl) (fc (by show runC _ _ _ = _; kernel_rfl) (fc (by show runC _ _ _ = _; kernel_rfl) (List.forall_mem_nil _)))
theorem k_140 : okI 3 in_140 cn_140 = true := by decide +kernel
theorem g_140 : Gd [2, 2, 1, 1] [1, 1, 1] := ⟨in_140, cn_140, f_140, c_140, k_140⟩
def in_153 : List (List Nat × List (List (List Nat))) := [([5], [[[1, 1, 1, 1, 1]]]),
 ([1, 4], [[[1, 2, 2, 2, 2]]]),
 ([2, 3], [[[1, 1, 2, 2, 2]]]),
 ([3, 2], [[[1, 1, 1, 2, 2]]]),
 ([4, 1], [[[1, 1, 1, 1, 2]]]),
 ([1, 1, 3], [[[1, 2, 3, 3, 3]]]),
 ([1, 2, 2], [[[1, 2, 2, 3, 3]]]),
 ([1, 3, 1], [[[1, 2, 2, 2, 3]]]),
 ([2, 1, 2], [[[1, 1, 2, 3, 3]]]),
 ([2, 2, 1], [[[1, 1, 2, 2, 3]]]),
 ([3, 1, 1], [[[1, 1, 1, 2, 3]]]),
 ([1, 1, 1, 2], [[[1, 2, 3, 4, 4]]]),
 ([1, 1, 2, 1], [[[1, 2, 3, 3, 4]]]),
 ([1, 2, 1, 1], [[[1, 2, 2, 3, 4]]]),
 ([2, 1, 1, 1], [[[1, 1, 2, 3, 4]]])]
def cn_153 : List (List Nat × Nat) := [([5], 1), ([4, 1], 1), ([3, 2], 1), ([3, 1, 1], 1), ([2, 2, 1], 1), ([2, 1, 1, 1], 1)]
theorem f_153 : ∀ e ∈ in_153, EF [7] [2] e := fc (fun n => by kernel_rfl) (fc (fun n => by kernel_rfl) (fc (fun n => by kernel_rfl) (fc (fun n => by kernel_rfl) (fc (fun n => by kernel_rfl) (fc (fun n => by kernel_rfl) (fc (fun n => by kernel_rfl) (fc (fun n => by kernel_rfl) (fc (fun n => by kernel_rfl) (fc (fun n => by kernel_rfl) (fc (fun n => by kernel_rfl) (fc (fun n => by kernel_rfl) (fc (fun n => by kernel_rfl) (fc (fun n => by kernel_rfl) (fc (fun n => by kernel_rfl) (List.forall_mem_nil _)))))))))))))))
theorem c_153 : ∀ e ∈ cn_153, EC [7] [2] e := fc (by show runC _ _ _ = _; kernel_rfl) (fc (by show runC _ _ _ = _; kernel_rfl) (fc (by show runC _ _ _ = _; kernel_rfl) (fc (by show runC _ _ _ = _; kernel_rfl) (fc (by show runC _ _ _ = _; kernel_rfl) (fc (by show runC _ _ _ = _; kernel_rfl) (List.forall_mem_nil _))))))
theorem k_153 : okI 5 in_153 cn_153 = true := by decide +kernel
theorem g_153 : Gd [7] [2] := ⟨in_153, cn_153, f_153, c_153, k_153⟩
def in_155 : List (List Nat × List (List (List Nat))) := [([7], []),
 ([1, 6], [[[1, 2, 2, 2, 2, 2], [2]]]),
 ([2, 5], [[[1, 1, 2, 2, 2, 2], [2]]]),
 ([3, 4], [[[1, 1, 1, 2, 2, 2], [2]]]),
 ([4, 3], [[[1, 1, 1, 1, 2, 2], [2]]]),
 ([5, 2], [[[1, 1, 1, 1, 1, 2], [2]]]),
 ([6, 1], [[[1, 1, 1, 1, 1, 1], [2]]]),
 ([1, 1, 5], [[[1, 2, 3, 3, 3, 3], [3]], [[1, 3, 3, 3, 3, 3], [2]]]),
 ([1, 2, 4], [[[1, 2, 2, 3, 3, 3], [3]], [[1, 2, 3, 3, 3, 3], [2]]]),
 ([1, 3, 3], [[[1, 2, 2, 2, 3, 3], [3]], [[1, 2, 2, 3, 3, 3], [2]]]),
 ([1, 4, 2], [[[1, 2, 2, 2, 2, 3], [3]], [[1, 2, 2, 2, 3, 3], [2]]]),
 ([1, 5, 1], [[[1, 2, 2, 2, 2, 2], [3]], [[1, 2, 2, 2, 2, 3], [2]]]),
 ([2, 1, 4], [[[1, 1, 2, 3, 3, 3], [3]], [[1, 1, 3, 3, 3, 3], [2]]]),
 ([2, 2, 3], [[[1, 1, 2, 2, 3, 3], [3]], [[1, 1, 2, 3, 3, 3], [2]]]),
 ([2, 3, 2], [[[1, 1, 2, 2, 2, 3], [3]], [[1, 1, 2, 2, 3, 3], [2]]]),
 ([2, 4, 1], [[[1, 1, 2, 2, 2, 2], [3]], [[1, 1, 2, 2, 2, 3], [2]]]),
 ([3, 1, 3], [[[1, 1, 1, 2, 3, 3], [3]], [[1, 1, 1, 3, 3, 3], [2]]]),
 ([3, 2, 2], [[[1, 1, 1, 2, 2, 3], [3]], [[1, 1, 1, 2, 3, 3], [2]]]),
 ([3, 3, 1], [[[1, 1, 1, 2, 2, 2], [3]], [[1, 1, 1, 2, 2, 3], [2]]]),
 ([4, 1, 2], [[[1, 1, 1, 1, 2, 3], [3]], [[1, 1, 1, 1, 3, 3], [2]]]),
 ([4, 2, 1], [[[1, 1, 1, 1, 2, 2], [3]], [[1, 1, 1, 1, 2, 3], [2]]]),
 ([5, 1, 1], [[[1, 1, 1, 1, 1, 2], [3]], [[1, 1, 1, 1, 1, 3], [2]]]),
 ([1, 1, 1, 4], [[[1, 2, 3, 4, 4, 4], [4]], [[1, 2, 4, 4, 4, 4], [3]], [[1, 3, 4, 4, 4, 4], [2]]]),
 ([1, 1, 2, 3], [[[1, 2, 3, 3, 4, 4], [4]], [[1, 2, 3, 4, 4, 4], [3]], [[1, 3, 3, 4, 4, 4], [2]]]),
 ([1, 1, 3, 2], [[[1, 2, 3, 3, 3, 4], [4]], [[1, 2, 3, 3, 4, 4], [3]], [[1, 3, 3, 3, 4, 4], [2]]]),
 ([1, 1, 4, 1], [[[1, 2, 3, 3, 3, 3], [4]], [[1, 2, 3, 3, 3, 4], [3]], [[1, 3, 3, 3, 3, 4], [2]]]),
 ([1, 2, 1, 3], [[[1, 2, 2, 3, 4, 4], [4]], [[1, 2, 2, 4, 4, 4], [3]], [[1, 2, 3, 4, 4, 4], [2]]]),
 ([1, 2, 2, 2], [[[1, 2, 2, 3, 3, 4], [4]], [[1, 2, 2, 3, 4, 4], [3]], [[1, 2, 3, 3, 4, 4], [2]]]),
 ([1, 2, 3, 1], [[[1, 2, 2, 3, 3, 3], [4]], [[1, 2, 2, 3, 3, 4], [3]], [[1, 2, 3, 3, 3, 4], [2]]]),
 ([1, 3, 1, 2], [[[1, 2, 2, 2, 3, 4], [4]], [[1, 2, 2, 2, 4, 4], [3]], [[1, 2, 2, 3, 4, 4], [2]]]),
 ([1, 3, 2, 1], [[[1, 2, 2, 2, 3, 3], [4]], [[1, 2, 2, 2, 3, 4], [3]], [[1, 2, 2, 3, 3, 4], [2]]]),
 ([1, 4, 1, 1], [[[1, 2, 2, 2, 2, 3], [4]], [[1, 2, 2, 2, 2, 4], [3]], [[1, 2, 2, 2, 3, 4], [2]]]),
 ([2, 1, 1, 3], [[[1, 1, 2, 3, 4, 4], [4]], [[1, 1, 2, 4, 4, 4], [3]], [[1, 1, 3, 4, 4, 4], [2]]]),
 ([2, 1, 2, 2], [[[1, 1, 2, 3, 3, 4], [4]], [[1, 1, 2, 3, 4, 4], [3]], [[1, 1, 3, 3, 4, 4], [2]]]),
 ([2, 1, 3, 1], [[[1, 1, 2, 3, 3, 3], [4]], [[1, 1, 2, 3, 3, 4], [3]], [[1, 1, 3, 3, 3, 4], [2]]]),
 ([2, 2, 1, 2], [[[1, 1, 2, 2, 3, 4], [4]], [[1, 1, 2, 2, 4, 4], [3]], [[1, 1, 2, 3, 4, 4], [2]]]),
 ([2, 2, 2, 1], [[[1, 1, 2, 2, 3, 3], [4]], [[1, 1, 2, 2, 3, 4], [3]], [[1, 1, 2, 3, 3, 4], [2]]]),
 ([2, 3, 1, 1], [[[1, 1, 2, 2, 2, 3], [4]], [[1, 1, 2, 2, 2, 4], [3]], [[1, 1, 2, 2, 3, 4], [2]]]),
 ([3, 1, 1, 2], [[[1, 1, 1, 2, 3, 4], [4]], [[1, 1, 1, 2, 4, 4], [3]], [[1, 1, 1, 3, 4, 4], [2]]]),
 ([3, 1, 2, 1], [[[1, 1, 1, 2, 3, 3], [4]], [[1, 1, 1, 2, 3, 4], [3]], [[1, 1, 1, 3, 3, 4], [2]]]),
 ([3, 2, 1, 1], [[[1, 1, 1, 2, 2, 3], [4]], [[1, 1, 1, 2, 2, 4], [3]], [[1, 1, 1, 2, 3, 4], [2]]]),
 ([4, 1, 1, 1], [[[1, 1, 1, 1, 2, 3], [4]], [[1, 1, 1, 1, 2, 4], [3]], [[1, 1, 1, 1, 3, 4], [2]]])]
def cn_155 : List (List Nat × Nat) := [([7], 0), ([6, 1], 1), ([5, 2], 1), ([5, 1, 1], 2), ([4, 3], 1), ([4, 2, 1], 2), ([4, 1, 1, 1], 3), ([3, 3, 1], 2), ([3, 2, 2], 2), ([3, 2, 1, 1], 3), ([2, 2, 2, 1], 3)]
theorem f_155 : ∀ e ∈ in_155, EF [6, 1] [] e := fc (fun n => by kernel_rfl) (fc (fun n => by kernel_rfl) (fc (fun n => by kernel_rfl) (fc (fun n => by kernel_rfl) (fc (fun n => by kernel_rfl) (fc (fun n => by kernel_rfl) (fc (fun n => by kernel_rfl) (fc (fun n => by kernel_rfl) (fc (fun n => by kernel_rfl) (fc (fun n => by kernel_rfl) (fc (fun n => by kernel_rfl) (fc (fun n => by kernel_rfl) (fc (fun n => by kernel_rfl) (fc (fun n => by kernel_rfl) (fc (fun n => by kernel_rfl) (fc (fun n => by kernel_rfl) (fc (fun n => by kernel_rfl) (fc (fun n => by kernel_rfl) (fc (fun n => by kernel_rfl) (fc (fun n => by kernel_rfl) (fc (fun n => by kernel_rfl) (fc (fun n => by kernel_rfl) (fc (fun n => by kernel_rfl) (fc (fun n => by kernel_rfl) (fc (fun n => by kernel_rfl) (fc (fun n => by kernel_rfl) (fc (fun n => by kernel_rfl) (fc (fun n => by kernel_rfl) (fc (fun n => by kernel_rfl) (fc (fun n => by kernel_rfl) (fc (fun n => by kernel_rfl) (fc (fun n => by kernel_rfl) (fc (fun n => by kernel_rfl) (fc (fun n => by kernel_rfl) (fc (fun n => by kernel_rfl) (fc (fun n => by kernel_rfl) (fc (fun n => by kernel_rfl) (fc (fun n => by kernel_rfl) (fc (fun n => by kernel_rfl) (fc (fun n => by kernel_rfl) (fc (fun n => by kernel_rfl) (fc (fun n => by kernel_rfl) (List.forall_mem_nil _))))))))))))))))))))))))))))))))))))))))))
theorem c_155 : ∀ e ∈ cn_155, EC [6, 1] [] e := fc (by show runC _ _ _ = _; kernel_rfl) (fc (by show runC _ _ _ = _; kernel_rfl) (fc (by show runC _ _ _ = _; kernel_rfl) (fc (by show runC _ _ _ = _; kernel_rfl) (fc (by show runC _ _ _ = _; kernel_rfl) (fc (by show runC _ _ _ = _; kernel_rfl) (fc (by show runC _ _ _ = _; kernel_rfl) (fc (by show runC _ _ _ = _; kernel_rfl) (fc (by show runC _ _ _ = _; kernel_rfl) (fc (by show runC _ _ _ = _; kernel_rfl) (fc (by show runC _ _ _ = _; kernel_rfl) (List.forall_mem_nil _)))))))))))
theorem k_155 : okI 7 in_155 cn_155 = true := by decide +kernel
theorem g_155 : Gd [6, 1] [] := ⟨in_155, cn_155, f_155, c_155, k_155⟩
def in_156 : List (List Nat × List (List (List Nat))) := [([6], [[[1, 1, 1, 1, 1], [1]]]),
 ([1, 5], [[[1, 2, 2, 2, 2], [2]], [[2, 2, 2, 2, 2], [1]]]),
 ([2, 4], [[[1, 1, 2, 2, 2], [2]], [[1, 2, 2, 2, 2], [1]]]),
 ([3, 3], [[[1, 1, 1, 2, 2], [2]], [[1, 1, 2, 2, 2], [1]]]),
 ([4, 2], [[[1, 1, 1, 1, 2], [2]], [[1, 1, 1, 2, 2], [1]]]),
 ([5, 1], [[[1, 1, 1, 1, 1], [2]], [[1, 1, 1, 1, 2], [1]]]),
 ([1, 1, 4], [[[1, 2, 3, 3, 3], [3]], [[1, 3, 3, 3, 3], [2]], [[2, 3, 3, 3, 3], [1]]]),
 ([1, 2, 3], [[[1, 2, 2, 3, 3], [3]], [[1, 2, 3, 3, 3], [2]], [[2, 2, 3, 3, 3], [1]]]),
 ([1, 3, 2], [[[1, 2, 2, 2, 3], [3]], [[1, 2, 2, 3, 3], [2]], [[2, 2, 2, 3, 3], [1]]]),
 ([1, 4, 1], [[[1, 2, 2, 2, 2], [3]], [[1, 2, 2, 2, 3], [2]], [[2, 2, 2, 2, 3], [1]]]),
 ([2, 1, 3], [[[1, 1, 2, 3, 3], [3]], [[1, 1, 3, 3, 3], [2]], [[1, 2, 3, 3, 3], [1]]]),
 ([2, 2, 2], [[[1, 1, 2, 2, 3], [3]], [[1, 1, 2, 3, 3], [2]], [[1, 2, 2, 3, 3], [1]]]),
 ([2, 3, 1], [[[1, 1, 2, 2, 2], [3]], [[1, 1, 2, 2, 3], [2]], [[1, 2, 2, 2, 3], [1]]]),
 ([3, 1, 2], [[[1, 1, 1, 2, 3], [3]], [[1, 1, 1, 3, 3], [2]], [[1, 1, 2, 3, 3], [1]]]),
 ([3, 2, 1], [[[1, 1, 1, 2, 2], [3]], [[1, 1, 1, 2, 3], [2]], [[1, 1, 2, 2, 3], [1]]]),
 ([4, 1, 1], [[[1, 1, 1, 1, 2], [3]], [[1, 1, 1, 1, 3], [2]], [[1, 1, 1, 2, 3], [1]]]),
 ([1, 1, 1, 3], [[[1, 2, 3, 4, 4], [4]], [[1, 2, 4, 4, 4], [3]], [[1, 3, 4, 4, 4], [2]], [[2, 3, 4, 4, 4], [1]]]),
 ([1, 1, 2, 2], [[[1, 2, 3, 3, 4], [4]], [[1, 2, 3, 4, 4], [3]], [[1, 3, 3, 4, 4], [2]], [[2, 3, 3, 4, 4], [1]]]),
 ([1, 1, 3, 1], [[[1, 2, 3, 3, 3], [4]], [[1, 2, 3, 3, 4], [3]], [[1, 3, 3, 3, 4], [2]], [[2, 3, 3, 3, 4], [1]]]),
 ([1, 2, 1, 2], [[[1, 2, 2, 3, 4], [4]], [[1, 2, 2, 4, 4], [3]], [[1, 2, 3, 4, 4], [2]], [[2, 2, 3, 4, 4], [1]]]),
 ([1, 2, 2, 1], [[[1, 2, 2, 3, 3], [4]], [[1, 2, 2, 3, 4], [3]], [[1, 2, 3, 3, 4], [2]], [[2, 2, 3, 3, 4], [1]]]),
 ([1, 3, 1, 1], [[[1, 2, 2, 2, 3], [4]], [[1, 2, 2, 2, 4], [3]], [[1, 2, 2, 3, 4], [2]], [[2, 2, 2, 3, 4], [1]]]),
 ([2, 1, 1, 2], [[[1, 1, 2, 3, 4], [4]], [[1, 1, 2, 4, 4], [3]], [[1, 1, 3, 4, 4], [2]], [[1, 2, 3, 4, 4], [1]]]),
 ([2, 1, 2, 1], [[[1, 1, 2, 3, 3], [4]], [[1, 1, 2, 3, 4], [3]], [[1, 1, 3, 3, 4], [2]], [[1, 2, 3, 3, 4], [1]]]),
 ([2, 2, 1, 1], [[[1, 1, 2, 2, 3], [4]], [[1, 1, 2, 2, 4], [3]], [[1, 1, 2, 3, 4], [2]], [[1, 2, 2, 3, 4], [1]]]),
 ([3, 1, 1, 1], [[[1, 1, 1, 2, 3], [4]], [[1, 1, 1, 2, 4], [3]], [[1, 1, 1, 3, 4], [2]], [[1, 1, 2, 3, 4], [1]]])]
def cn_156 : List (List Nat × Nat) := [([6], 1), ([5, 1], 2), ([4, 2], 2), ([4, 1, 1], 3), ([3, 3], 2), ([3, 2, 1], 3), ([3, 1, 1, 1], 4), ([2, 2, 2], 3), ([2, 2, 1, 1], 4)]
theorem f_156 : ∀ e ∈ in_156, EF [6, 1] [1] e := fc (fun n => by kernel_rfl) (fc (fun n => by kernel_rfl) (fc (fun n => by kernel_rfl) (fc (fun n => by kernel_rfl) (fc (fun n => by kernel_rfl) (fc (fun n => by kernel_rfl) (fc (fun n => by kernel_rfl) (fc (fun n => by kernel_rfl) (fc (fun n => by kernel_rfl) (fc (fun n => by kernel_rfl) (fc (fun n => by kernel_rfl) (fc (fun n => by kernel_rfl) (fc (fun n => by kernel_rfl) (fc (fun n => by kernel_rfl) (fc (fun n => by kernel_rfl) (fc (fun n => by kernel_rfl) (fc (fun n => by kernel_rfl) (fc (fun n => by kernel_rfl) (fc (fun n => by kernel_rfl) (fc (fun n => by kernel_rfl) (fc (fun n => by kernel_rfl) (fc (fun n => by kernel_rfl) (fc (fun n => by kernel_rfl) (fc (fun n => by kernel_rfl) (fc (fun n => by kernel_rfl) (fc (fun n => by kernel_rfl) (List.forall_mem_nil _))))))))))))))))))))))))))
theorem c_156 : ∀ e ∈ cn_156, EC [6, 1] [1] e := fc (by show runC _ _ _ = _; kernel_rfl) (fc (by show runC _ _ _ = _; kernel_rfl) (fc (by show runC _ _ _ = _; kernel_rfl) (fc (by show runC _ _ _ = _; kernel_rfl) (fc (by show runC _ _ _ = _; kernel_rfl) (fc (by show runC _ _ _ = _; kernel_rfl) (fc (by show runC _ _ _ = _; kernel_rfl) (fc (by show runC _ _ _ = _; kernel_rfl) (fc (by show runC _ _ _ = _; kernel_rfl) (List.forall_mem_nil _)))))))))
theorem k_156 : okI 6 in_156 cn_156 = true := by decide +kernel
theorem g_156 : Gd [6, 1] [1] := ⟨in_156, cn_156, f_156, c_156, k_156⟩
def in_177 : List (List Nat × List (List (List Nat))) := [([4], [[[1], [1, 1, 1]]]),
 ([1, 3], [[[1], [2, 2, 2]], [[2], [1, 2, 2]]]),
 ([2, 2], [[[1], [1, 2, 2]], [[2], [1, 1, 2]]]),
 ([3, 1], [[[1], [1, 1, 2]], [[2], [1, 1, 1]]]),
 ([1, 1, 2], [[[1], [2, 3, 3]], [[2], [1, 3, 3]], [[3], [1, 2, 3]]]),
 ([1, 2, 1], [[[1], [2, 2, 3]], [[2], [1, 2, 3]], [[3], [1, 2, 2]]]),
 ([2, 1, 1], [[[1], [1, 2, 3]], [[2], [1, 1, 3]], [[3], [1, 1, 2]]]),
 ([1, 1, 1, 1], [[[1], [2, 3, 4]], [[2], [1, 3, 4]], [[3], [1, 2, 4]], [[4], [1, 2, 3]]])]
def cn_177 : List (List Nat × Nat) := [([4], 1), ([3, 1], 2), ([2, 2], 2), ([2, 1, 1], 3), ([1, 1, 1, 1], 4)]
theorem f_177 : ∀ e ∈ in_177, EF [4, 3] [3] e := fc (fun n => by kernel_rfl) (fc (fun n => by kernel_rfl) (fc (fun n => by kernel_rfl) (fc (fun n => by kernel_rfl) (fc (fun n => by kernel_rfl) (fc (fun n => by kernel_rfl) (fc (fun n => by kernel_rfl) (fc (fun n => by kernel_rfl) (List.forall_mem_nil _))))))))
theorem c_177 : ∀ e ∈ cn_177, EC [4, 3] [3] e := fc (by show runC _ _ _ = _; kernel_rfl) (fc (by show runC _ _ _ = _; kernel_rfl) (fc (by show runC _ _ _ = _; kernel_rfl) (fc (by show runC _ _ _ = _; kernel_rfl) (fc (by show runC _ _ _ = _; kernel_rfl) (List.forall_mem_nil _)))))
theorem k_177 : okI 4 in_177 cn_177 = true := by decide +kernel
theorem g_177 : Gd [4, 3] [3] := ⟨in_177, cn_177, f_177, c_177, k_177⟩
def in_183 : List (List Nat × List (List (List Nat))) := [([4], []),
 ([1, 3], [[[2], [1, 2], [2]]]),
 ([2, 2], [[[1], [1, 2], [2]], [[2], [1, 1], [2]]]),
 ([3, 1], [[[1], [1, 1], [2]]]),
 ([1, 1, 2], [[[1], [2, 3], [3]], [[2], [1, 3], [3]], [[3], [1, 2], [3]], [[3], [1, 3], [2]]]),
 ([1, 2, 1], [[[1], [2, 2], [3]], [[2], [1, 2], [3]], [[2], [1, 3], [2]], [[3], [1, 2], [2]]]),
 ([2, 1, 1], [[[1], [1, 2], [3]], [[2], [1, 1], [3]], [[1], [1, 3], [2]], [[3], [1, 1], [2]]]),
 ([1, 1, 1, 1], [[[1], [2, 3], [4]], [[2], [1, 3], [4]], [[3], [1, 2], [4]], [[1], [2, 4], [3]], [[2], [1, 4], [3]], [[3], [1, 4], [2]], [[4], [1, 2], [3]], [[4], [1, 3], [2]]])]
def cn_183 : List (List Nat × Nat) := [([4], 0), ([3, 1], 1), ([2, 2], 2), ([2, 1, 1], 4), ([1, 1, 1, 1], 8)]
theorem f_183 : ∀ e ∈ in_183, EF [4, 2, 1] [3] e := fc (fun n => by kernel_rfl) (fc (fun n => by kernel_rfl) (fc (fun n => by kernel_rfl) (fc (fun n => by kernel_rfl) (fc (fun n => by kernel_rfl) (fc (fun n => by kernel_rfl) (fc (fun n => by kernel_rfl) (fc (fun n => by kernel_rfl) (List.forall_mem_nil _))))))))
theorem c_183 : ∀ e ∈ cn_183, EC [4, 2, 1] [3] e := fc (by show runC _ _ _ = _; kernel_rfl) (fc (by show runC _ _ _ = _; kernel_rfl) (fc (by show runC _ _ _ = _; kernel_rfl) (fc (by show runC _ _ _ = _; kernel_rfl) (fc (by show runC _ _ _ = _; kernel_rfl) (List.forall_mem_nil _)))))
theorem k_183 : okI 4 in_183 cn_183 = true := by decide +kernel
theorem g_183 : Gd [4, 2, 1] [3] := ⟨in_183, cn_183, f_183, c_183, k_183⟩
def in_184 : List (List Nat × List (List (List Nat))) := [([5], []),
 ([1, 4], [[[1, 2, 2], [2], [2]]]),
 ([2, 3], [[[1, 1, 2], [2], [2]], [[1, 2, 2], [2], [1]]]),
 ([3, 2], [[[1, 1, 1], [2], [2]], [[1, 1, 2], [2], [1]]]),
 ([4, 1], [[[1, 1, 1], [2], [1]]]),
 ([1, 1, 3], [[[1, 2, 3], [3], [3]], [[1, 3, 3], [2], [3]], [[1, 3, 3], [3], [2]], [[2, 3, 3], [3], [1]]]),
 ([1, 2, 2], [[[1, 2, 2], [3], [3]], [[1, 2, 3], [2], [3]], [[1, 2, 3], [3], [2]], [[2, 2, 3], [3], [1]], [[1, 3, 3], [2], [2]]]),
 ([1, 3, 1], [[[1, 2, 2], [2], [3]], [[1, 2, 2], [3], [2]], [[2, 2, 2], [3], [1]], [[1, 2, 3], [2], [2]]]),
 ([2, 1, 2], [[[1, 1, 2], [3], [3]], [[1, 1, 3], [2], [3]], [[1, 1, 3], [3], [2]], [[1, 2, 3], [3], [1]], [[1, 3, 3], [2], [1]]]),
 ([2, 2, 1], [[[1, 1, 2], [2], [3]], [[1, 1, 2], [3], [2]], [[1, 2, 2], [3], [1]], [[1, 1, 3], [2], [2]], [[1, 2, 3], [2], [1]]]),
 ([3, 1, 1], [[[1, 1, 1], [2], [3]], [[1, 1, 1], [3], [2]], [[1, 1, 2], [3], [1]], [[1, 1, 3], [2], [1]]]),
 ([1, 1, 1, 2], [[[1, 2, 3], [4], [4]], [[1, 2, 4], [3], [4]], [[1, 3, 4], [2], [4]], [[1, 2, 4], [4], [3]], [[1, 3, 4], [4], [2]], [[2, 3, 4], [4], [1]], [[1, 4, 4], [2], [3]], [[1, 4, 4], [3], [2]], [[2, 4, 4], [3], [1]]]),
 ([1, 1, 2, 1], [[[1, 2, 3], [3], [4]], [[1, 3, 3], [2], [4]], [[1, 2, 3], [4], [3]], [[1, 3, 3], [4], [2]], [[2, 3, 3], [4], [1]], [[1, 2, 4], [3], [3]], [[1, 3, 4], [2], [3]], [[1, 3, 4], [3], [2]], [[2, 3, 4], [3], [1]]]),
 ([1, 2, 1, 1], [[[1, 2, 2], [3], [4]], [[1, 2, 3], [2], [4]], [[1, 2, 2], [4], [3]], [[1, 2, 3], [4], [2]], [[2, 2, 3], [4], [1]], [[1, 2, 4], [2], [3]], [[1, 2, 4], [3], [2]], [[2, 2, 4], [3], [1]], [[1, 3, 4], [2], [2]]]),
 ([2, 1, 1, 1], [[[1, 1, 2], [3], [4]], [[1, 1, 3], [2], [4]], [[1, 1, 2], [4], [3]], [[1, 1, 3], [4], [2]], [[1, 2, 3], [4], [1]], [[1, 1, 4], [2], [3]], [[1, 1, 4], [3], [2]], [[1, 2, 4], [3], [1]], [[1, 3, 4], [2], [1]]])]
def cn_184 : List (List Nat × Nat) := [([5], 0), ([4, 1], 1), ([3, 2], 2), ([3, 1, 1], 4), ([2, 2, 1], 5), ([2, 1, 1, 1], 9)]
theorem f_184 : ∀ e ∈ in_184, EF [4, 2, 1] [1, 1] e := fc (fun n => by kernel_rfl) (fc (fun n => by kernel_rfl) (fc (fun n => by kernel_rfl) (fc (fun n => by kernel_rfl) (fc (fun n => by kernel_rfl) (fc (fun n => by kernel_rfl) (fc (fun n => by kernel_rfl) (fc (fun n => by kernel_rfl) (fc (fun n => by kernel_rfl) (fc (fun n => by kernel_rfl) (fc (fun n => by kernel_rfl) (fc (fun n => by kernel_rfl) (fc (fun n => by kernel_rfl) (fc (fun n => by kernel_rfl) (fc (fun n => by kernel_rfl) (List.forall_mem_nil _)))))))))))))))
theorem c_184 : ∀ e ∈ cn_184, EC [4, 2, 1] [1, 1] e := fc (by show runC _ _ _ = _; kernel_rfl) (fc (by show runC _ _ _ = _; kernel_rfl) (fc (by show runC _ _ _ = _; kernel_rfl) (fc (by show runC _ _ _ = _; kernel_rfl) (fc (by show runC _ _ _ = _; kernel_rfl) (fc (by show runC _ _ _ = _; kernel_rfl) (List.forall_mem_nil _))))))
theorem k_184 : okI 5 in_184 cn_184 = true := by decide +kernel
theorem g_184 : Gd [4, 2, 1] [1, 1] := ⟨in_184, cn_184, f_184, c_184, k_184⟩
def in_190 : List (List Nat × List (List (List Nat))) := [([4], []),
 ([1, 3], []),
 ([2, 2], []),
 ([3, 1], []),
 ([1, 1, 2], [[[3], [1], [2], [3]]]),
 ([1, 2, 1], [[[2], [1], [2], [3]]]),
 ([2, 1, 1], [[[1], [1], [2], [3]]]),
 ([1, 1, 1, 1], [[[1], [2], [3], [4]], [[2], [1], [3], [4]], [[3], [1], [2], [4]], [[4], [1], [2], [3]]])]
def cn_190 : List (List Nat × Nat) := [([4], 0), ([3, 1], 0), ([2, 2], 0), ([2, 1, 1], 1), ([1, 1, 1, 1], 4)]
theorem f_190 : ∀ e ∈ in_190, EF [4, 1, 1, 1] [3] e := fc (fun n => by kernel_rfl) (fc (fun n => by kernel_rfl) (fc (fun n => by kernel_rfl) (fc (fun n => by kernel_rfl) (fc (fun n => by kernel_rfl) (fc (fun n => by kernel_rfl) (fc (fun n => by kernel_rfl) (fc (fun n => by kernel_rfl) (List.forall_mem_nil _))))))))
theorem c_190 : ∀ e ∈ cn_190, EC [4, 1, 1, 1] [3] e := fc (by show runC _ _ _ = _; kernel_rfl) (fc (by show runC _ _ _ = _; kernel_rfl) (fc (by show runC _ _ _ = _; kernel_rfl) (fc (by show runC _ _ _ = _; kernel_rfl) (fc (by show runC _ _ _ = _; kernel_rfl) (List.forall_mem_nil _)))))
theorem k_190 : okI 4 in_190 cn_190 = true := by decide +kernel
theorem g_190 : Gd [4, 1, 1, 1] [3] := ⟨in_190, cn_190, f_190, c_190, k_190⟩
def in_197 : List (List Nat × List (List (List Nat))) := [([4], []),
 ([1, 3], [[[], [1, 2, 2], [2]]]),
 ([2, 2], [[[], [1, 1, 2], [2]]]),
 ([3, 1], [[[], [1, 1, 1], [2]]]),
 ([1, 1, 2], [[[], [1, 2, 3], [3]], [[], [1, 3, 3], [2]]]),
 ([1, 2, 1], [[[], [1, 2, 2], [3]], [[], [1, 2, 3], [2]]]),
 ([2, 1, 1], [[[], [1, 1, 2], [3]], [[], [1, 1, 3], [2]]]),
 ([1, 1, 1, 1], [[[], [1, 2, 3], [4]], [[], [1, 2, 4], [3]], [[], [1, 3, 4], [2]]])]
def cn_197 : List (List Nat × Nat) := [([4], 0), ([3, 1], 1), ([2, 2], 1), ([2, 1, 1], 2), ([1, 1, 1, 1], 3)]
theorem f_197 : ∀ e ∈ in_197, EF [3, 3, 1] [3] e := fc (fun n => by kernel_rfl) (fc (fun n => by kernel_rfl) (fc (fun n => by kernel_rfl) (fc (fun n => by kernel_rfl) (fc (fun n => by kernel_rfl) (fc (fun n => by kernel_rfl) (fc (fun n => by kernel_rfl) (fc (fun n => by kernel_rfl) (List.forall_mem_nil _))))))))
theorem c_197 : ∀ e ∈ cn_197, EC [3, 3, 1] [3] e := fc (by show runC _ _ _ = _; kernel_rfl) (fc (by show runC _ _ _ = _; kernel_rfl) (fc (by show runC _ _ _ = _; kernel_rfl) (fc (by show runC _ _ _ = _; kernel_rfl) (fc (by show runC _ _ _ = _; kernel_rfl) (List.forall_mem_nil _)))))
theorem k_197 : okI 4 in_197 cn_197 = true := by decide +kernel
theorem g_197 : Gd [3, 3, 1] [3] := ⟨in_197, cn_197, f_197, c_197, k_197⟩
def in_203 : List (List Nat × List (List (List Nat))) := [([5], []),
 ([1, 4], []),
 ([2, 3], [[[2], [1, 1], [2, 2]]]),
 ([3, 2], [[[1], [1, 1], [2, 2]]]),
 ([4, 1], []),
 ([1, 1, 3], [[[3], [1, 2], [3, 3]]]),
 ([1, 2, 2], [[[1], [2, 2], [3, 3]], [[2], [1, 2], [3, 3]], [[3], [1, 2], [2, 3]]]),
 ([1, 3, 1], [[[2], [1, 2], [2, 3]]]),
 ([2, 1, 2], [[[1], [1, 2], [3, 3]], [[2], [1, 1], [3, 3]], [[3], [1, 1], [2, 3]]]),
 ([2, 2, 1], [[[1], [1, 2], [2, 3]], [[2], [1, 1], [2, 3]], [[3], [1, 1], [2, 2]]]),
 ([3, 1, 1], [[[1], [1, 1], [2, 3]]]),
 ([1, 1, 1, 2], [[[1], [2, 3], [4, 4]], [[2], [1, 3], [4, 4]], [[3], [1, 2], [4, 4]], [[4], [1, 2], [3, 4]], [[4], [1, 3], [2, 4]]]),
 ([1, 1, 2, 1], [[[1], [2, 3], [3, 4]], [[2], [1, 3], [3, 4]], [[3], [1, 2], [3, 4]], [[3], [1, 3], [2, 4]], [[4], [1, 2], [3, 3]]]),
 ([1, 2, 1, 1], [[[1], [2, 2], [3, 4]], [[2], [1, 2], [3, 4]], [[2], [1, 3], [2, 4]], [[3], [1, 2], [2, 4]], [[4], [1, 2], [2, 3]]]),
 ([2, 1, 1, 1], [[[1], [1, 2], [3, 4]], [[2], [1, 1], [3, 4]], [[1], [1, 3], [2, 4]], [[3], [1, 1], [2, 4]], [[4], [1, 1], [2, 3]]])]
def cn_203 : List (List Nat × Nat) := [([5], 0), ([4, 1], 0), ([3, 2], 1), ([3, 1, 1], 1), ([2, 2, 1], 3), ([2, 1, 1, 1], 5)]
theorem f_203 : ∀ e ∈ in_203, EF [3, 2, 2] [2] e := fc (fun n => by kernel_rfl) (fc (fun n => by kernel_rfl) (fc (fun n => by kernel_rfl) (fc (fun n => by kernel_rfl) (fc (fun n => by kernel_rfl) (fc (fun n => by kernel_rfl) (fc (fun n => by kernel_rfl) (fc (fun n => by kernel_rfl) (fc (fun n => by kernel_rfl) (fc (fun n => by kernel_rfl) (fc (fun n => by kernel_rfl) (fc (fun n => by kernel_rfl) (fc (fun n => by kernel_rfl) (fc (fun n => by kernel_rfl) (fc (fun n => by kernel_rfl) (List.forall_mem_nil _)))))))))))))))
theorem c_203 : ∀ e ∈ cn_203, EC [3, 2, 2] [2] e := fc (by show runC _ _ _ = _; kernel_rfl) (fc (by show runC _ _ _ = _; kernel_rfl) (fc (by show runC _ _ _ = _; kernel_rfl) (fc (by show runC _ _ _ = _; kernel_rfl) (fc (by show runC _ _ _ = _; kernel_rfl) (fc (by show runC _ _ _ = _; kernel_rfl) (List.forall_mem_nil _))))))
theorem k_203 : okI 5 in_203 cn_203 = true := by decide +kernel
theorem g_203 : Gd [3, 2, 2] [2] := ⟨in_203, cn_203, f_203, c_203, k_203⟩
def in_205 : List (List Nat × List (List (List Nat))) := [([5], []),
 ([1, 4], []),
 ([2, 3], []),
 ([3, 2], []),
 ([4, 1], []),
 ([1, 1, 3], [[[1, 3], [2], [3, 3]]]),
 ([1, 2, 2], [[[1, 2], [2], [3, 3]], [[1, 3], [2], [2, 3]]]),
 ([1, 3, 1], [[[1, 2], [2], [2, 3]]]),
 ([2, 1, 2], [[[1, 1], [2], [3, 3]], [[1, 3], [2], [1, 3]]]),
 ([2, 2, 1], [[[1, 1], [2], [2, 3]], [[1, 2], [2], [1, 3]]]),
 ([3, 1, 1], [[[1, 1], [2], [1, 3]]]),
 ([1, 1, 1, 2], [[[1, 2], [3], [4, 4]], [[1, 3], [2], [4, 4]], [[1, 4], [2], [3, 4]], [[1, 4], [3], [2, 4]], [[2, 4], [3], [1, 4]]]),
 ([1, 1, 2, 1], [[[1, 2], [3], [3, 4]], [[1, 3], [2], [3, 4]], [[1, 3], [3], [2, 4]], [[2, 3], [3], [1, 4]], [[1, 4], [2], [3, 3]]]),
 ([1, 2, 1, 1], [[[1, 2], [2], [3, 4]], [[1, 2], [3], [2, 4]], [[2, 2], [3], [1, 4]], [[1, 3], [2], [2, 4]], [[1, 4], [2], [2, 3]]]),
 ([2, 1, 1, 1], [[[1, 1], [2], [3, 4]], [[1, 1], [3], [2, 4]], [[1, 2], [3], [1, 4]], [[1, 3], [2], [1, 4]], [[1, 4], [2], [1, 3]]])]
def cn_205 : List (List Nat × Nat) := [([5], 0), ([4, 1], 0), ([3, 2], 0), ([3, 1, 1], 1), ([2, 2, 1], 2), ([2, 1, 1, 1], 5)]
theorem f_205 : ∀ e ∈ in_205, EF [3, 2, 2] [1, 1] e := fc (fun n => by kernel_rfl) (fc (fun n => by kernel_rfl) (fc (fun n => by kernel_rfl) (fc (fun n => by kernel_rfl) (fc (fun n => by kernel_rfl) (fc (fun n => by kernel_rfl) (fc (fun n => by kernel_rfl) (fc (fun n => by kernel_rfl) (fc (fun n => by kernel_rfl) (fc (fun n => by kernel_rfl) (fc (fun n => by kernel_rfl) (fc (fun n => by kernel_rfl) (fc (fun n => by kernel_rfl) (fc (fun n => by kernel_rfl) (fc (fun n => by kernel_rfl) (List.forall_mem_nil _)))))))))))))))
theorem c_205 : ∀ e ∈ cn_205, EC [3, 2, 2] [1, 1] e := fc (by show runC _ _ _ = _; kernel_rfl) (fc (by show runC _ _ _ = _; kernel_rfl) (fc (by show runC _ _ _ = _; kernel_rfl) (fc (by show runC _ _ _ = _; kernel_rfl) (fc (by show runC _ _ _ = _; kernel_rfl) (fc (by show runC _ _ _ = _; kernel_rfl) (List.forall_mem_nil _))))))
theorem k_205 : okI 5 in_205 cn_205 = true := by decide +kernel
theorem g_205 : Gd [3, 2, 2] [1, 1] := ⟨in_205, cn_205, f_205, c_205, k_205⟩
def in_207 : List (List Nat × List (List (List Nat))) := [([4], []),
 ([1, 3], []),
 ([2, 2], []),
 ([3, 1], []),
 ([1, 1, 2], [[[1, 3], [2], [3]]]),
 ([1, 2, 1], [[[1, 2], [2], [3]]]),
 ([2, 1, 1], [[[1, 1], [2], [3]]]),
 ([1, 1, 1, 1], [[[1, 2], [3], [4]], [[1, 3], [2], [4]], [[1, 4], [2], [3]]])]
def cn_207 : List (List Nat × Nat) := [([4], 0), ([3, 1], 0), ([2, 2], 0), ([2, 1, 1], 1), ([1, 1, 1, 1], 3)]
theorem f_207 : ∀ e ∈ in_207, EF [3, 2, 2] [1, 1, 1] e := fc (fun n => by kernel_rfl) (fc (fun n => by kernel_rfl) (fc (fun n => by kernel_rfl) (fc (fun n => by kernel_rfl) (fc (fun n => by kernel_rfl) (fc (fun n => by kernel_rfl) (fc (fun n => by kernel_rfl) (fc (fun n => by kernel_rfl) (List.forall_mem_nil _))))))))
theorem c_207 : ∀ e ∈ cn_207, EC [3, 2, 2] [1, 1, 1] e := fc (by show runC _ _ _ = _; kernel_rfl) (fc (by show runC _ _ _ = _; kernel_rfl) (fc (by show runC _ _ _ = _; kernel_rfl) (fc (by show runC _ _ _ = _; kernel_rfl) (fc (by show runC _ _ _ = _; kernel_rfl) (List.forall_mem_nil _)))))
theorem k_207 : okI 4 in_207 cn_207 = true := by decide +kernel
theorem g_207 : Gd [3, 2, 2] [1, 1, 1] := ⟨in_207, cn_207, f_207, c_207, k_207⟩
def in_218 : List (List Nat × List (List (List Nat))) := [([4], []),
 ([1, 3], []),
 ([2, 2], []),
 ([3, 1], []),
 ([1, 1, 2], []),
 ([1, 2, 1], []),
 ([2, 1, 1], []),
 ([1, 1, 1, 1], [[[], [1], [2], [3], [4]]])]
def cn_218 : List (List Nat × Nat) := [([4], 0), ([3, 1], 0), ([2, 2], 0), ([2, 1, 1], 0), ([1, 1, 1, 1], 1)]
theorem f_218 : ∀ e ∈ in_218, EF [3, 1, 1, 1, 1] [3] e := fc (fun n => by kernel_rfl) (fc (fun n => by kernel_rfl) (fc (fun n => by kernel_rfl) (fc (fun n => by kernel_rfl) (fc (fun n => by kernel_rfl) (fc (fun n => by kernel_rfl) (fc (fun n => by kernel_rfl) (fc (fun n => by kernel_rfl) (List.forall_mem_nil _))))))))
theorem c_218 : ∀ e ∈ cn_218, EC [3, 1, 1, 1, 1] [3] e := fc (by show runC _ _ _ = _; kernel_rfl) (fc (by show runC _ _ _ = _; kernel_rfl) (fc (by show runC _ _ _ = _; kernel_rfl) (fc (by show runC _ _ _ = _; kernel_rfl) (fc (by show runC _ _ _ = _; kernel_rfl) (List.forall_mem_nil _)))))
theorem k_218 : okI 4 in_218 cn_218 = true := by decide +kernel
theorem g_218 : Gd [3, 1, 1, 1, 1] [3] := ⟨in_218, cn_218, f_218, c_218, k_218⟩
def in_224 : List (List Nat × List (List (List Nat))) := [([5], []),
 ([1, 4], []),
 ([2, 3], []),
 ([3, 2], []),
 ([4, 1], []),
 ([1, 1, 3], []),
 ([1, 2, 2], [[[], [1, 2], [2, 3], [3]]]),
 ([1, 3, 1], []),
 ([2, 1, 2], [[[], [1, 1], [2, 3], [3]]]),
 ([2, 2, 1], [[[], [1, 1], [2, 2], [3]]]),
 ([3, 1, 1], []),
 ([1, 1, 1, 2], [[[], [1, 2], [3, 4], [4]], [[], [1, 3], [2, 4], [4]]]),
 ([1, 1, 2, 1], [[[], [1, 2], [3, 3], [4]], [[], [1, 3], [2, 4], [3]]]),
 ([1, 2, 1, 1], [[[], [1, 2], [2, 3], [4]], [[], [1, 2], [2, 4], [3]]]),
 ([2, 1, 1, 1], [[[], [1, 1], [2, 3], [4]], [[], [1, 1], [2, 4], [3]]])]
def cn_224 : List (List Nat × Nat) := [([5], 0), ([4, 1], 0), ([3, 2], 0), ([3, 1, 1], 0), ([2, 2, 1], 1), ([2, 1, 1, 1], 2)]
theorem f_224 : ∀ e ∈ in_224, EF [2, 2, 2, 1] [2] e := fc (fun n => by kernel_rfl) (fc (fun n => by kernel_rfl) (fc (fun n => by kernel_rfl) (fc (fun n => by kernel_rfl) (fc (fun n => by kernel_rfl) (fc (fun n => by kernel_rfl) (fc (fun n => by kernel_rfl) (fc (fun n => by kernel_rfl) (fc (fun n => by kernel_rfl) (fc (fun n => by kernel_rfl) (fc (fun n => by kernel_rfl) (fc (fun n => by kernel_rfl) (fc (fun n => by kernel_rfl) (fc (fun n => by kernel_rfl) (fc (fun n => by kernel_rfl) (List.forall_mem_nil _)))))))))))))))
theorem c_224 : ∀ e ∈ cn_224, EC [2, 2, 2, 1] [2] e := fc (by show runC _ _ _ = _; kernel_rfl) (fc (by show runC _ _ _ = _; kernel_rfl) (fc (by show runC _ _ _ = _; kernel_rfl) (fc (by show runC _ _ _ = _; kernel_rfl) (fc (by show runC _ _ _ = _; kernel_rfl) (fc (by show runC _ _ _ = _; kernel_rfl) (List.forall_mem_nil _))))))
theorem k_224 : okI 5 in_224 cn_224 = true := by decide +kernel
theorem g_224 : Gd [2, 2, 2, 1] [2] := ⟨in_224, cn_224, f_224, c_224, k_224⟩
def in_227 : List (List Nat × List (List (List Nat))) := [([4], []),
 ([1, 3], []),
 ([2, 2], []),
 ([3, 1], []),
 ([1, 1, 2], [[[1], [2], [3], [3]]]),
 ([1, 2, 1], [[[1], [2], [3], [2]]]),
 ([2, 1, 1], [[[1], [2], [3], [1]]]),
 ([1, 1, 1, 1], [[[1], [2], [3], [4]], [[1], [2], [4], [3]], [[1], [3], [4], [2]], [[2], [3], [4], [1]]])]
def cn_227 : List (List Nat × Nat) := [([4], 0), ([3, 1], 0), ([2, 2], 0), ([2, 1, 1], 1), ([1, 1, 1, 1], 4)]
theorem f_227 : ∀ e ∈ in_227, EF [2, 2, 2, 1] [1, 1, 1] e := fc (fun n => by kernel_rfl) (fc (fun n => by kernel_rfl) (fc (fun n => by kernel_rfl) (fc (fun n => by kernel_rfl) (fc (fun n => by kernel_rfl) (fc (fun n => by kernel_rfl) (fc (fun n => by kernel_rfl) (fc (fun n => by kernel_rfl) (List.forall_mem_nil _))))))))
theorem c_227 : ∀ e ∈ cn_227, EC [2, 2, 2, 1] [1, 1, 1] e := fc (by show runC _ _ _ = _; kernel_rfl) (fc (by show runC _ _ _ = _; kernel_rfl) (fc (by show runC _ _ _ = _; kernel_rfl) (fc (by show runC _ _ _ = _; kernel_rfl) (fc (by show runC _ _ _ = _; kernel_rfl) (List.forall_mem_nil _)))))
theorem k_227 : okI 4 in_227 cn_227 = true := by decide +kernel
theorem g_227 : Gd [2, 2, 2, 1] [1, 1, 1] := ⟨in_227, cn_227, f_227, c_227, k_227⟩
def in_234 : List (List Nat × List (List (List Nat))) := [([7], []),
 ([1, 6], []),
 ([2, 5], []),
 ([3, 4], []),
 ([4, 3], []),
 ([5, 2], []),
 ([6, 1], []),
 ([1, 1, 5], []),
 ([1, 2, 4], []),
 ([1, 3, 3], []),
 ([1, 4, 2], []),
 ([1, 5, 1], []),
 ([2, 1, 4], []),
 ([2, 2, 3], []),
 ([2, 3, 2], []),
 ([2, 4, 1], []),
 ([3, 1, 3], []),
 ([3, 2, 2], []),
 ([3, 3, 1], []),
 ([4, 1, 2], []),
 ([4, 2, 1], []),
 ([5, 1, 1], []),
 ([1, 1, 1, 4], []),
 ([1, 1, 2, 3], []),
 ([1, 1, 3, 2], []),
 ([1, 1, 4, 1], []),
 ([1, 2, 1, 3], []),
 ([1, 2, 2, 2], []),
 ([1, 2, 3, 1], []),
 ([1, 3, 1, 2], []),
 ([1, 3, 2, 1], []),
 ([1, 4, 1, 1], []),
 ([2, 1, 1, 3], []),
 ([2, 1, 2, 2], []),
 ([2, 1, 3, 1], []),
 ([2, 2, 1, 2], []),
 ([2, 2, 2, 1], []),
 ([2, 3, 1, 1], []),
 ([3, 1, 1, 2], []),
 ([3, 1, 2, 1], []),
 ([3, 2, 1, 1], []),
 ([4, 1, 1, 1], [])]
def cn_234 : List (List Nat × Nat) := [([7], 0), ([6, 1], 0), ([5, 2], 0), ([5, 1, 1], 0), ([4, 3], 0), ([4, 2, 1], 0), ([4, 1, 1, 1], 0), ([3, 3, 1], 0), ([3, 2, 2], 0), ([3, 2, 1, 1], 0), ([2, 2, 2, 1], 0)]
theorem f_234 : ∀ e ∈ in_234, EF [2, 1, 1, 1, 1, 1] [] e := fc (fun n => by kernel_rfl) (fc (fun n => by kernel_rfl) (fc (fun n => by kernel_rfl) (fc (fun n => by kernel_rfl) (fc (fun n => by kernel_rfl) (fc (fun n => by kernel_rfl) (fc (fun n => by kernel_rfl) (fc (fun n => by kernel_rfl) (fc (fun n => by kernel_rfl) (fc (fun n => by kernel_rfl) (fc (fun n => by kernel_rfl) (fc (fun n => by kernel_rfl) (fc (fun n => by kernel_rfl) (fc (fun n => by kernel_rfl) (fc (fun n => by kernel_rfl) (fc (fun n => by kernel_rfl) (fc (fun n => by kernel_rfl) (fc (fun n => by kernel_rfl) (fc (fun n => by kernel_rfl) (fc (fun n => by kernel_rfl) (fc (fun n => by kernel_rfl) (fc (fun n => by kernel_rfl) (fc (fun n => by kernel_rfl) (fc (fun n => by kernel_rfl) (fc (fun n => by kernel_rfl) (fc (fun n => by kernel_rfl) (fc (fun n => by kernel_rfl) (fc (fun n => by kernel_rfl) (fc (fun n => by kernel_rfl) (fc (fun n => by kernel_rfl) (fc (fun n => by kernel_rfl) (fc (fun n => by kernel_rfl) (fc (fun n => by kernel_rfl) (fc (fun n => by kernel_rfl) (fc (fun n => by kernel_rfl) (fc (fun n => by kernel_rfl) (fc (fun n => by kernel_rfl) (fc (fun n => by kernel_rfl) (fc (fun n => by kernel_rfl) (fc (fun n => by kernel_rfl) (fc (fun n => by kernel_rfl) (fc (fun n => by kernel_rfl) (List.forall_mem_nil _))))))))))))))))))))))))))))))))))))))))))
theorem c_234 : ∀ e ∈ cn_234, EC [2, 1, 1, 1, 1, 1] [] e := fc (by show runC _ _ _ = _; kernel_rfl) (fc (by show runC _ _ _ = _; kernel_rfl) (fc (by show runC _ _ _ = _; kernel_rfl) (fc (by show runC _ _ _ = _; kernel_rfl) (fc (by show runC _ _ _ = _; kernel_rfl) (fc (by show runC _ _ _ = _; kernel_rfl) (fc (by show runC _ _ _ = _; kernel_rfl) (fc (by show runC _ _ _ = _; kernel_rfl) (fc (by show runC _ _ _ = _; kernel_rfl) (fc (by show runC _ _ _ = _; kernel_rfl) (fc (by show runC _ _ _ = _; kernel_rfl) (List.forall_mem_nil _)))))))))))
theorem k_234 : okI 7 in_234 cn_234 = true := by decide +kernel
theorem g_234 : Gd [2, 1, 1, 1, 1, 1] [] := ⟨in_234, cn_234, f_234, c_234, k_234⟩
def in_237 : List (List Nat × List (List (List Nat))) := [([5], []),
 ([1, 4], []),
 ([2, 3], []),
 ([3, 2], []),
 ([4, 1], []),
 ([1, 1, 3], []),
 ([1, 2, 2], []),
 ([1, 3, 1], []),
 ([2, 1, 2], []),
 ([2, 2, 1], []),
 ([3, 1, 1], []),
 ([1, 1, 1, 2], [[[4], [], [1], [2], [3], [4]]]),
 ([1, 1, 2, 1], [[[3], [], [1], [2], [3], [4]]]),
 ([1, 2, 1, 1], [[[2], [], [1], [2], [3], [4]]]),
 ([2, 1, 1, 1], [[[1], [], [1], [2], [3], [4]]])]
def cn_237 : List (List Nat × Nat) := [([5], 0), ([4, 1], 0), ([3, 2], 0), ([3, 1, 1], 0), ([2, 2, 1], 0), ([2, 1, 1, 1], 1)]
theorem f_237 : ∀ e ∈ in_237, EF [2, 1, 1, 1, 1, 1] [1, 1] e := fc (fun n => by kernel_rfl) (fc (fun n => by kernel_rfl) (fc (fun n => by kernel_rfl) (fc (fun n => by kernel_rfl) (fc (fun n => by kernel_rfl) (fc (fun n => by kernel_rfl) (fc (fun n => by kernel_rfl) (fc (fun n => by kernel_rfl) (fc (fun n => by kernel_rfl) (fc (fun n => by kernel_rfl) (fc (fun n => by kernel_rfl) (fc (fun n => by kernel_rfl) (fc (fun n => by kernel_rfl) (fc (fun n => by kernel_rfl) (fc (fun n => by kernel_rfl) (List.forall_mem_nil _)))))))))))))))
theorem c_237 : ∀ e ∈ cn_237, EC [2, 1, 1, 1, 1, 1] [1, 1] e := fc (by show runC _ _ _ = _; kernel_rfl) (fc (by show runC _ _ _ = _; kernel_rfl) (fc (by show runC _ _ _ = _; kernel_rfl) (fc (by show runC _ _ _ = _; kernel_rfl) (fc (by show runC _ _ _ = _; kernel_rfl) (fc (by show runC _ _ _ = _; kernel_rfl) (List.forall_mem_nil _))))))
theorem k_237 : okI 5 in_237 cn_237 = true := by decide +kernel
theorem g_237 : Gd [2, 1, 1, 1, 1, 1] [1, 1] := ⟨in_237, cn_237, f_237, c_237, k_237⟩
end K14
set_option maxHeartbeats 0
noncomputable section
namespace K14
open PySem L2 Pd Gn PySem.Spec PyProof.Rows Zq Hx
def in_6 : List (List Nat × List (List (List Nat))) := [([2], []),
 ([1, 1], [[[1], [2]]])]
def cn_6 : List (List Nat × Nat) := [([2], 0), ([1, 1], 1)]
theorem f_6 : ∀ e ∈ in_6, EF [1, 1] [] e := fc (fun n => by kernel_rfl) (fc (fun n => by kernel_rfl) (List.forall_mem_nil _))
theorem c_6 : ∀ e ∈ cn_6, EC [1, 1] [] e := fc (by show runC _ _ _ = _; kernel_rfl) (fc (by show runC _ _ _ = _; kernel_rfl) (List.forall_mem_nil _))
theorem k_6 : okI 2 in_6 cn_6 = true := by decide +kernel
theorem g_6 : Gd [1, 1] [] := ⟨in_6, cn_6, f_6, c_6, k_6⟩
def in_18 : List (List Nat × List (List (List Nat))) := [([3], []),
 ([1, 2], []),
 ([2, 1], []),
 ([1, 1, 1], [[[1], [2], [3]]])]
def cn_18 : List (List Nat × Nat) := [([3], 0), ([2, 1], 0), ([1, 1, 1], 1)]
theorem f_18 : ∀ e ∈ in_18, EF [1, 1, 1] [] e := fc (fun n => by kernel_rfl) (fc (fun n => by kernel_rfl) (fc (fun n => by kernel_rfl) (fc (fun n => by kernel_rfl) (List.forall_mem_nil _))))
theorem c_18 : ∀ e ∈ cn_18, EC [1, 1, 1] [] e := fc (by show runC _ _ _ = _; kernel_rfl) (fc (by show runC _ _ _ = _; kernel_rfl) (fc (by show runC _ _ _ = _; kernel_rfl) (List.forall_mem_nil _)))
theorem k_18 : okI 3 in_18 cn_18 = true := by decide +kernel
theorem g_18 : Gd [1, 1, 1] [] := ⟨in_18, cn_18, f_18, c_18, k_18⟩
def in_19 : List (List Nat × List (List (List Nat))) := [([2], []),
 ([1, 1], [[[], [1], [2]]])]
def cn_19 : List (List Nat × Nat) := [([2], 0), ([1, 1], 1)]
theorem f_19 : ∀ e ∈ in_19, EF [1, 1, 1] [1] e := fc (fun n => by kernel_rfl) (fc (fun n => by kernel_rfl) (List.forall_mem_nil _))
theorem c_19 : ∀ e ∈ cn_19, EC [1, 1, 1] [1] e := fc (by show runC _ _ _ = _; kernel_rfl) (fc (by show runC _ _ _ = _; kernel_rfl) (List.forall_mem_nil _))
theorem k_19 : okI 2 in_19 cn_19 = true := by decide +kernel
theorem g_19 : Gd [1, 1, 1] [1] := ⟨in_19, cn_19, f_19, c_19, k_19⟩
def in_20 : List (List Nat × List (List (List Nat))) := [([1], [[[], [], [1]]])]
def cn_20 : List (List Nat × Nat) := [([1], 1)]
theorem f_20 : ∀ e ∈ in_20, EF [1, 1, 1] [1, 1] e := fc (fun n => by kernel_rfl) (List.forall_mem_nil _)
theorem c_20 : ∀ e ∈ cn_20, EC [1, 1, 1] [1, 1] e := fc (by show runC _ _ _ = _; kernel_rfl) (List.forall_mem_nil _)
theorem k_20 : okI 1 in_20 cn_20 = true := by decide +kernel
theorem g_20 : Gd [1, 1, 1] [1, 1] := ⟨in_20, cn_20, f_20, c_20, k_20⟩
def in_29 : List (List Nat × List (List (List Nat))) := [([1], [[[], [1]]])]
def cn_29 : List (List Nat × Nat) := [([1], 1)]
theorem f_29 : ∀ e ∈ in_29, EF [3, 1] [3] e := fc (fun n => by kernel_rfl) (List.forall_mem_nil _)
theorem c_29 : ∀ e ∈ cn_29, EC [3, 1] [3] e := fc (by show runC _ _ _ = _; kernel_rfl) (List.forall_mem_nil _)
theorem k_29 : okI 1 in_29 cn_29 = true := by decide +kernel
theorem g_29 : Gd [3, 1] [3] := ⟨in_29, cn_29, f_29, c_29, k_29⟩
def in_34 : List (List Nat × List (List (List Nat))) := [([2], [[[], [1, 1]]]),
 ([1, 1], [[[], [1, 2]]])]
def cn_34 : List (List Nat × Nat) := [([2], 1), ([1, 1], 1)]
theorem f_34 : ∀ e ∈ in_34, EF [2, 2] [2] e := fc (fun n => by kernel_rfl) (fc (fun n => by kernel_rfl) (List.forall_mem_nil _))
theorem c_34 : ∀ e ∈ cn_34, EC [2, 2] [2] e := fc (by show runC _ _ _ = _; kernel_rfl) (fc (by show runC _ _ _ = _; kernel_rfl) (List.forall_mem_nil _))
theorem k_34 : okI 2 in_34 cn_34 = true := by decide +kernel
theorem g_34 : Gd [2, 2] [2] := ⟨in_34, cn_34, f_34, c_34, k_34⟩
def in_38 : List (List Nat × List (List (List Nat))) := [([3], []),
 ([1, 2], [[[2], [1], [2]]]),
 ([2, 1], [[[1], [1], [2]]]),
 ([1, 1, 1], [[[1], [2], [3]], [[2], [1], [3]], [[3], [1], [2]]])]
def cn_38 : List (List Nat × Nat) := [([3], 0), ([2, 1], 1), ([1, 1, 1], 3)]
theorem f_38 : ∀ e ∈ in_38, EF [2, 1, 1] [1] e := fc (fun n => by kernel_rfl) (fc (fun n => by kernel_rfl) (fc (fun n => by kernel_rfl) (fc (fun n => by kernel_rfl) (List.forall_mem_nil _))))
theorem c_38 : ∀ e ∈ cn_38, EC [2, 1, 1] [1] e := fc (by show runC _ _ _ = _; kernel_rfl) (fc (by show runC _ _ _ = _; kernel_rfl) (fc (by show runC _ _ _ = _; kernel_rfl) (List.forall_mem_nil _)))
theorem k_38 : okI 3 in_38 cn_38 = true := by decide +kernel
theorem g_38 : Gd [2, 1, 1] [1] := ⟨in_38, cn_38, f_38, c_38, k_38⟩
def in_54 : List (List Nat × List (List (List Nat))) := [([2], [[[1], [1]]]),
 ([1, 1], [[[1], [2]], [[2], [1]]])]
def cn_54 : List (List Nat × Nat) := [([2], 1), ([1, 1], 2)]
theorem f_54 : ∀ e ∈ in_54, EF [4, 1] [3] e := fc (fun n => by kernel_rfl) (fc (fun n => by kernel_rfl) (List.forall_mem_nil _))
theorem c_54 : ∀ e ∈ cn_54, EC [4, 1] [3] e := fc (by show runC _ _ _ = _; kernel_rfl) (fc (by show runC _ _ _ = _; kernel_rfl) (List.forall_mem_nil _))
theorem k_54 : okI 2 in_54 cn_54 = true := by decide +kernel
theorem g_54 : Gd [4, 1] [3] := ⟨in_54, cn_54, f_54, c_54, k_54⟩
def in_63 : List (List Nat × List (List (List Nat))) := [([5], []),
 ([1, 4], []),
 ([2, 3], []),
 ([3, 2], []),
 ([4, 1], []),
 ([1, 1, 3], [[[1, 3, 3], [2], [3]]]),
 ([1, 2, 2], [[[1, 2, 3], [2], [3]]]),
 ([1, 3, 1], [[[1, 2, 2], [2], [3]]]),
 ([2, 1, 2], [[[1, 1, 3], [2], [3]]]),
 ([2, 2, 1], [[[1, 1, 2], [2], [3]]]),
 ([3, 1, 1], [[[1, 1, 1], [2], [3]]]),
 ([1, 1, 1, 2], [[[1, 2, 4], [3], [4]], [[1, 3, 4], [2], [4]], [[1, 4, 4], [2], [3]]]),
 ([1, 1, 2, 1], [[[1, 2, 3], [3], [4]], [[1, 3, 3], [2], [4]], [[1, 3, 4], [2], [3]]]),
 ([1, 2, 1, 1], [[[1, 2, 2], [3], [4]], [[1, 2, 3], [2], [4]], [[1, 2, 4], [2], [3]]]),
 ([2, 1, 1, 1], [[[1, 1, 2], [3], [4]], [[1, 1, 3], [2], [4]], [[1, 1, 4], [2], [3]]])]
def cn_63 : List (List Nat × Nat) := [([5], 0), ([4, 1], 0), ([3, 2], 0), ([3, 1, 1], 1), ([2, 2, 1], 1), ([2, 1, 1, 1], 3)]
theorem f_63 : ∀ e ∈ in_63, EF [3, 1, 1] [] e := fc (fun n => by kernel_rfl) (fc (fun n => by kernel_rfl) (fc (fun n => by kernel_rfl) (fc (fun n => by kernel_rfl) (fc (fun n => by kernel_rfl) (fc (fun n => by kernel_rfl) (fc (fun n => by kernel_rfl) (fc (fun n => by kernel_rfl) (fc (fun n => by kernel_rfl) (fc (fun n => by kernel_rfl) (fc (fun n => by kernel_rfl) (fc (fun n => by kernel_rfl) (fc (fun n => by kernel_rfl) (fc (fun n => by kernel_rfl) (fc (fun n => by kernel_rfl) (List.forall_mem_nil _)))))))))))))))
theorem c_63 : ∀ e ∈ cn_63, EC [3, 1, 1] [] e := fc (by show runC _ _ _ = _; kernel_rfl) (fc (by show runC _ _ _ = _; kernel_rfl) (fc (by show runC _ _ _ = _; kernel_rfl) (fc (by show runC _ _ _ = _; kernel_rfl) (fc (by show runC _ _ _ = _; kernel_rfl) (fc (by show runC _ _ _ = _; kernel_rfl) (List.forall_mem_nil _))))))
theorem k_63 : okI 5 in_63 cn_63 = true := by decide +kernel
theorem g_63 : Gd [3, 1, 1] [] := ⟨in_63, cn_63, f_63, c_63, k_63⟩
def in_64 : List (List Nat × List (List (List Nat))) := [([4], []),
 ([1, 3], [[[2, 2], [1], [2]]]),
 ([2, 2], [[[1, 2], [1], [2]]]),
 ([3, 1], [[[1, 1], [1], [2]]]),
 ([1, 1, 2], [[[1, 3], [2], [3]], [[2, 3], [1], [3]], [[3, 3], [1], [2]]]),
 ([1, 2, 1], [[[1, 2], [2], [3]], [[2, 2], [1], [3]], [[2, 3], [1], [2]]]),
 ([2, 1, 1], [[[1, 1], [2], [3]], [[1, 2], [1], [3]], [[1, 3], [1], [2]]]),
 ([1, 1, 1, 1], [[[1, 2], [3], [4]], [[1, 3], [2], [4]], [[2, 3], [1], [4]], [[1, 4], [2], [3]], [[2, 4], [1], [3]], [[3, 4], [1], [2]]])]
def cn_64 : List (List Nat × Nat) := [([4], 0), ([3, 1], 1), ([2, 2], 1), ([2, 1, 1], 3), ([1, 1, 1, 1], 6)]
theorem f_64 : ∀ e ∈ in_64, EF [3, 1, 1] [1] e := fc (fun n => by kernel_rfl) (fc (fun n => by kernel_rfl) (fc (fun n => by kernel_rfl) (fc (fun n => by kernel_rfl) (fc (fun n => by kernel_rfl) (fc (fun n => by kernel_rfl) (fc (fun n => by kernel_rfl) (fc (fun n => by kernel_rfl) (List.forall_mem_nil _))))))))
theorem c_64 : ∀ e ∈ cn_64, EC [3, 1, 1] [1] e := fc (by show runC _ _ _ = _; kernel_rfl) (fc (by show runC _ _ _ = _; kernel_rfl) (fc (by show runC _ _ _ = _; kernel_rfl) (fc (by show runC _ _ _ = _; kernel_rfl) (fc (by show runC _ _ _ = _; kernel_rfl) (List.forall_mem_nil _)))))
theorem k_64 : okI 4 in_64 cn_64 = true := by decide +kernel
theorem g_64 : Gd [3, 1, 1] [1] := ⟨in_64, cn_64, f_64, c_64, k_64⟩
def in_73 : List (List Nat × List (List (List Nat))) := [([3], []),
 ([1, 2], [[[1], [2], [2]]]),
 ([2, 1], [[[1], [2], [1]]]),
 ([1, 1, 1], [[[1], [2], [3]], [[1], [3], [2]], [[2], [3], [1]]])]
def cn_73 : List (List Nat × Nat) := [([3], 0), ([2, 1], 1), ([1, 1, 1], 3)]
theorem f_73 : ∀ e ∈ in_73, EF [2, 2, 1] [1, 1] e := fc (fun n => by kernel_rfl) (fc (fun n => by kernel_rfl) (fc (fun n => by kernel_rfl) (fc (fun n => by kernel_rfl) (List.forall_mem_nil _))))
theorem c_73 : ∀ e ∈ cn_73, EC [2, 2, 1] [1, 1] e := fc (by show runC _ _ _ = _; kernel_rfl) (fc (by show runC _ _ _ = _; kernel_rfl) (fc (by show runC _ _ _ = _; kernel_rfl) (List.forall_mem_nil _)))
theorem k_73 : okI 3 in_73 cn_73 = true := by decide +kernel
theorem g_73 : Gd [2, 2, 1] [1, 1] := ⟨in_73, cn_73, f_73, c_73, k_73⟩
def in_77 : List (List Nat × List (List (List Nat))) := [([4], []),
 ([1, 3], []),
 ([2, 2], []),
 ([3, 1], []),
 ([1, 1, 2], [[[3], [1], [2], [3]]]),
 ([1, 2, 1], [[[2], [1], [2], [3]]]),
 ([2, 1, 1], [[[1], [1], [2], [3]]]),
 ([1, 1, 1, 1], [[[1], [2], [3], [4]], [[2], [1], [3], [4]], [[3], [1], [2], [4]], [[4], [1], [2], [3]]])]
def cn_77 : List (List Nat × Nat) := [([4], 0), ([3, 1], 0), ([2, 2], 0), ([2, 1, 1], 1), ([1, 1, 1, 1], 4)]
theorem f_77 : ∀ e ∈ in_77, EF [2, 1, 1, 1] [1] e := fc (fun n => by kernel_rfl) (fc (fun n => by kernel_rfl) (fc (fun n => by kernel_rfl) (fc (fun n => by kernel_rfl) (fc (fun n => by kernel_rfl) (fc (fun n => by kernel_rfl) (fc (fun n => by kernel_rfl) (fc (fun n => by kernel_rfl) (List.forall_mem_nil _))))))))
theorem c_77 : ∀ e ∈ cn_77, EC [2, 1, 1, 1] [1] e := fc (by show runC _ _ _ = _; kernel_rfl) (fc (by show runC _ _ _ = _; kernel_rfl) (fc (by show runC _ _ _ = _; kernel_rfl) (fc (by show runC _ _ _ = _; kernel_rfl) (fc (by show runC _ _ _ = _; kernel_rfl) (List.forall_mem_nil _)))))
theorem k_77 : okI 4 in_77 cn_77 = true := by decide +kernel
theorem g_77 : Gd [2, 1, 1, 1] [1] := ⟨in_77, cn_77, f_77, c_77, k_77⟩
def in_81 : List (List Nat × List (List (List Nat))) := [([2], [[[1], [], [], [1]]]),
 ([1, 1], [[[1], [], [], [2]], [[2], [], [], [1]]])]
def cn_81 : List (List Nat × Nat) := [([2], 1), ([1, 1], 2)]
theorem f_81 : ∀ e ∈ in_81, EF [2, 1, 1, 1] [1, 1, 1] e := fc (fun n => by kernel_rfl) (fc (fun n => by kernel_rfl) (List.forall_mem_nil _))
theorem c_81 : ∀ e ∈ cn_81, EC [2, 1, 1, 1] [1, 1, 1] e := fc (by show runC _ _ _ = _; kernel_rfl) (fc (by show runC _ _ _ = _; kernel_rfl) (List.forall_mem_nil _))
theorem k_81 : okI 2 in_81 cn_81 = true := by decide +kernel
theorem g_81 : Gd [2, 1, 1, 1] [1, 1, 1] := ⟨in_81, cn_81, f_81, c_81, k_81⟩
def in_82 : List (List Nat × List (List (List Nat))) := [([5], []),
 ([1, 4], []),
 ([2, 3], []),
 ([3, 2], []),
 ([4, 1], []),
 ([1, 1, 3], []),
 ([1, 2, 2], []),
 ([1, 3, 1], []),
 ([2, 1, 2], []),
 ([2, 2, 1], []),
 ([3, 1, 1], []),
 ([1, 1, 1, 2], []),
 ([1, 1, 2, 1], []),
 ([1, 2, 1, 1], []),
 ([2, 1, 1, 1], [])]
def cn_82 : List (List Nat × Nat) := [([5], 0), ([4, 1], 0), ([3, 2], 0), ([3, 1, 1], 0), ([2, 2, 1], 0), ([2, 1, 1, 1], 0)]
theorem f_82 : ∀ e ∈ in_82, EF [1, 1, 1, 1, 1] [] e := fc (fun n => by kernel_rfl) (fc (fun n => by kernel_rfl) (fc (fun n => by kernel_rfl) (fc (fun n => by kernel_rfl) (fc (fun n => by kernel_rfl) (fc (fun n => by kernel_rfl) (fc (fun n => by kernel_rfl) (fc (fun n => by kernel_rfl) (fc (fun n => by kernel_rfl) (fc (fun n => by kernel_rfl) (fc (fun n => by kernel_rfl) (fc (fun n => by kernel_rfl) (fc (fun n => by kernel_rfl) (fc (fun n => by kernel_rfl) (fc (fun n => by kernel_rfl) (List.forall_mem_nil _)))))))))))))))
theorem c_82 : ∀ e ∈ cn_82, EC [1, 1, 1, 1, 1] [] e := fc (by show runC _ _ _ = _; kernel_rfl) (fc (by show runC _ _ _ = _; kernel_rfl) (fc (by show runC _ _ _ = _; kernel_rfl) (fc (by show runC _ _ _ = _; kernel_rfl) (fc (by show runC _ _ _ = _; kernel_rfl) (fc (by show runC _ _ _ = _; kernel_rfl) (List.forall_mem_nil _))))))
theorem k_82 : okI 5 in_82 cn_82 = true := by decide +kernel
theorem g_82 : Gd [1, 1, 1, 1, 1] [] := ⟨in_82, cn_82, f_82, c_82, k_82⟩
def in_88 : List (List Nat × List (List (List Nat))) := [([4], [[[1, 1, 1, 1]]]),
 ([1, 3], [[[1, 2, 2, 2]]]),
 ([2, 2], [[[1, 1, 2, 2]]]),
 ([3, 1], [[[1, 1, 1, 2]]]),
 ([1, 1, 2], [[[1, 2, 3, 3]]]),
 ([1, 2, 1], [[[1, 2, 2, 3]]]),
 ([2, 1, 1], [[[1, 1, 2, 3]]]),
 ([1, 1, 1, 1], [[[1, 2, 3, 4]]])]
def cn_88 : List (List Nat × Nat) := [([4], 1), ([3, 1], 1), ([2, 2], 1), ([2, 1, 1], 1), ([1, 1, 1, 1], 1)]
theorem f_88 : ∀ e ∈ in_88, EF [6] [2] e := fc (fun n => by kernel_rfl) (fc (fun n => by kernel_rfl) (fc (fun n => by kernel_rfl) (fc (fun n => by kernel_rfl) (fc (fun n => by kernel_rfl) (fc (fun n => by kernel_rfl) (fc (fun n => by kernel_rfl) (fc (fun n => by kernel_rfl) (List.forall_mem_nil _))))))))
theorem c_88 : ∀ e ∈ cn_88, EC [6] [2] e := fc (by show runC _ _ _ = _; kernel_rfl) (fc (by show runC _ _ _ = _; kernel_rfl) (fc (by show runC _ _ _ = _; kernel_rfl) (fc (by show runC _ _ _ = _; kernel_rfl) (fc (by show runC _ _ _ = _; kernel_rfl) (List.forall_mem_nil _)))))
theorem k_88 : okI 4 in_88 cn_88 = true := by decide +kernel
theorem g_88 : Gd [6] [2] := ⟨in_88, cn_88, f_88, c_88, k_88⟩
def in_98 : List (List Nat × List (List (List Nat))) := [([4], [[[1, 1], [1, 1]]]),
 ([1, 3], [[[1, 2], [2, 2]], [[2, 2], [1, 2]]]),
 ([2, 2], [[[1, 1], [2, 2]], [[1, 2], [1, 2]], [[2, 2], [1, 1]]]),
 ([3, 1], [[[1, 1], [1, 2]], [[1, 2], [1, 1]]]),
 ([1, 1, 2], [[[1, 2], [3, 3]], [[1, 3], [2, 3]], [[2, 3], [1, 3]], [[3, 3], [1, 2]]]),
 ([1, 2, 1], [[[1, 2], [2, 3]], [[2, 2], [1, 3]], [[1, 3], [2, 2]], [[2, 3], [1, 2]]]),
 ([2, 1, 1], [[[1, 1], [2, 3]], [[1, 2], [1, 3]], [[1, 3], [1, 2]], [[2, 3], [1, 1]]]),
 ([1, 1, 1, 1], [[[1, 2], [3, 4]], [[1, 3], [2, 4]], [[2, 3], [1, 4]], [[1, 4], [2, 3]], [[2, 4], [1, 3]], [[3, 4], [1, 2]]])]
def cn_98 : List (List Nat × Nat) := [([4], 1), ([3, 1], 2), ([2, 2], 3), ([2, 1, 1], 4), ([1, 1, 1, 1], 6)]
theorem f_98 : ∀ e ∈ in_98, EF [4, 2] [2] e := fc (fun n => by kernel_rfl) (fc (fun n => by kernel_rfl) (fc (fun n => by kernel_rfl) (fc (fun n => by kernel_rfl) (fc (fun n => by kernel_rfl) (fc (fun n => by kernel_rfl) (fc (fun n => by kernel_rfl) (fc (fun n => by kernel_rfl) (List.forall_mem_nil _))))))))
theorem c_98 : ∀ e ∈ cn_98, EC [4, 2] [2] e := fc (by show runC _ _ _ = _; kernel_rfl) (fc (by show runC _ _ _ = _; kernel_rfl) (fc (by show runC _ _ _ = _; kernel_rfl) (fc (by show runC _ _ _ = _; kernel_rfl) (fc (by show runC _ _ _ = _; kernel_rfl) (List.forall_mem_nil _)))))
theorem k_98 : okI 4 in_98 cn_98 = true := by decide +kernel
theorem g_98 : Gd [4, 2] [2] := ⟨in_98, cn_98, f_98, c_98, k_98⟩
def in_100 : List (List Nat × List (List (List Nat))) := [([4], []),
 ([1, 3], [[[1, 2, 2], [2]]]),
 ([2, 2], [[[1, 1, 2], [2]]]),
 ([3, 1], [[[1, 1, 1], [2]]]),
 ([1, 1, 2], [[[1, 2, 3], [3]], [[1, 3, 3], [2]]]),
 ([1, 2, 1], [[[1, 2, 2], [3]], [[1, 2, 3], [2]]]),
 ([2, 1, 1], [[[1, 1, 2], [3]], [[1, 1, 3], [2]]]),
 ([1, 1, 1, 1], [[[1, 2, 3], [4]], [[1, 2, 4], [3]], [[1, 3, 4], [2]]])]
def cn_100 : List (List Nat × Nat) := [([4], 0), ([3, 1], 1), ([2, 2], 1), ([2, 1, 1], 2), ([1, 1, 1, 1], 3)]
theorem f_100 : ∀ e ∈ in_100, EF [4, 2] [1, 1] e := fc (fun n => by kernel_rfl) (fc (fun n => by kernel_rfl) (fc (fun n => by kernel_rfl) (fc (fun n => by kernel_rfl) (fc (fun n => by kernel_rfl) (fc (fun n => by kernel_rfl) (fc (fun n => by kernel_rfl) (fc (fun n => by kernel_rfl) (List.forall_mem_nil _))))))))
theorem c_100 : ∀ e ∈ cn_100, EC [4, 2] [1, 1] e := fc (by show runC _ _ _ = _; kernel_rfl) (fc (by show runC _ _ _ = _; kernel_rfl) (fc (by show runC _ _ _ = _; kernel_rfl) (fc (by show runC _ _ _ = _; kernel_rfl) (fc (by show runC _ _ _ = _; kernel_rfl) (List.forall_mem_nil _)))))
theorem k_100 : okI 4 in_100 cn_100 = true := by decide +kernel
theorem g_100 : Gd [4, 2] [1, 1] := ⟨in_100, cn_100, f_100, c_100, k_100⟩
def in_112 : List (List Nat × List (List (List Nat))) := [([3], [[[], [1, 1, 1]]]),
 ([1, 2], [[[], [1, 2, 2]]]),
 ([2, 1], [[[], [1, 1, 2]]]),
 ([1, 1, 1], [[[], [1, 2, 3]]])]
def cn_112 : List (List Nat × Nat) := [([3], 1), ([2, 1], 1), ([1, 1, 1], 1)]
theorem f_112 : ∀ e ∈ in_112, EF [3, 3] [3] e := fc (fun n => by kernel_rfl) (fc (fun n => by kernel_rfl) (fc (fun n => by kernel_rfl) (fc (fun n => by kernel_rfl) (List.forall_mem_nil _))))
theorem c_112 : ∀ e ∈ cn_112, EC [3, 3] [3] e := fc (by show runC _ _ _ = _; kernel_rfl) (fc (by show runC _ _ _ = _; kernel_rfl) (fc (by show runC _ _ _ = _; kernel_rfl) (List.forall_mem_nil _)))
theorem k_112 : okI 3 in_112 cn_112 = true := by decide +kernel
theorem g_112 : Gd [3, 3] [3] := ⟨in_112, cn_112, f_112, c_112, k_112⟩
def in_115 : List (List Nat × List (List (List Nat))) := [([6], []),
 ([1, 5], []),
 ([2, 4], []),
 ([3, 3], []),
 ([4, 2], []),
 ([5, 1], []),
 ([1, 1, 4], []),
 ([1, 2, 3], [[[1, 2, 3], [2, 3], [3]]]),
 ([1, 3, 2], [[[1, 2, 2], [2, 3], [3]]]),
 ([1, 4, 1], []),
 ([2, 1, 3], [[[1, 1, 3], [2, 3], [3]]]),
 ([2, 2, 2], [[[1, 1, 2], [2, 3], [3]], [[1, 1, 3], [2, 2], [3]]]),
 ([2, 3, 1], [[[1, 1, 2], [2, 2], [3]]]),
 ([3, 1, 2], [[[1, 1, 1], [2, 3], [3]]]),
 ([3, 2, 1], [[[1, 1, 1], [2, 2], [3]]]),
 ([4, 1, 1], []),
 ([1, 1, 1, 3], [[[1, 2, 4], [3, 4], [4]], [[1, 3, 4], [2, 4], [4]]]),
 ([1, 1, 2, 2], [[[1, 2, 3], [3, 4], [4]], [[1, 3, 3], [2, 4], [4]], [[1, 2, 4], [3, 3], [4]], [[1, 3, 4], [2, 4], [3]]]),
 ([1, 1, 3, 1], [[[1, 2, 3], [3, 3], [4]], [[1, 3, 3], [2, 4], [3]]]),
 ([1, 2, 1, 2], [[[1, 2, 2], [3, 4], [4]], [[1, 2, 3], [2, 4], [4]], [[1, 2, 4], [2, 3], [4]], [[1, 2, 4], [2, 4], [3]]]),
 ([1, 2, 2, 1], [[[1, 2, 2], [3, 3], [4]], [[1, 2, 3], [2, 3], [4]], [[1, 2, 3], [2, 4], [3]], [[1, 2, 4], [2, 3], [3]]]),
 ([1, 3, 1, 1], [[[1, 2, 2], [2, 3], [4]], [[1, 2, 2], [2, 4], [3]]]),
 ([2, 1, 1, 2], [[[1, 1, 2], [3, 4], [4]], [[1, 1, 3], [2, 4], [4]], [[1, 1, 4], [2, 3], [4]], [[1, 1, 4], [2, 4], [3]]]),
 ([2, 1, 2, 1], [[[1, 1, 2], [3, 3], [4]], [[1, 1, 3], [2, 3], [4]], [[1, 1, 3], [2, 4], [3]], [[1, 1, 4], [2, 3], [3]]]),
 ([2, 2, 1, 1], [[[1, 1, 2], [2, 3], [4]], [[1, 1, 3], [2, 2], [4]], [[1, 1, 2], [2, 4], [3]], [[1, 1, 4], [2, 2], [3]]]),
 ([3, 1, 1, 1], [[[1, 1, 1], [2, 3], [4]], [[1, 1, 1], [2, 4], [3]]])]
def cn_115 : List (List Nat × Nat) := [([6], 0), ([5, 1], 0), ([4, 2], 0), ([4, 1, 1], 0), ([3, 3], 0), ([3, 2, 1], 1), ([3, 1, 1, 1], 2), ([2, 2, 2], 2), ([2, 2, 1, 1], 4)]
theorem f_115 : ∀ e ∈ in_115, EF [3, 2, 1] [] e := fc (fun n => by kernel_rfl) (fc (fun n => by kernel_rfl) (fc (fun n => by kernel_rfl) (fc (fun n => by kernel_rfl) (fc (fun n => by kernel_rfl) (fc (fun n => by kernel_rfl) (fc (fun n => by kernel_rfl) (fc (fun n => by kernel_rfl) (fc (fun n => by kernel_rfl) (fc (fun n => by kernel_rfl) (fc (fun n => by kernel_rfl) (fc (fun n => by kernel_rfl) (fc (fun n => by kernel_rfl) (fc (fun n => by kernel_rfl) (fc (fun n => by kernel_rfl) (fc (fun n => by kernel_rfl) (fc (fun n => by kernel_rfl) (fc (fun n => by kernel_rfl) (fc (fun n => by kernel_rfl) (fc (fun n => by kernel_rfl) (fc (fun n => by kernel_rfl) (fc (fun n => by kernel_rfl) (fc (fun n => by kernel_rfl) (fc (fun n => by kernel_rfl) (fc (fun n => by kernel_rfl) (fc (fun n => by kernel_rfl) (List.forall_mem_nil _))))))))))))))))))))))))))
theorem c_115 : ∀ e ∈ cn_115, EC [3, 2, 1] [] e := fc (by show runC _ _ _ = _; kernel_rfl) (fc (by show runC _ _ _ = _; kernel_rfl) (fc (by show runC _ _ _ = _; kernel_rfl) (fc (by show runC _ _ _ = _; kernel_rfl) (fc (by show runC _ _ _ = _; kernel_rfl) (fc (by show runC _ _ _ = _; kernel_rfl) (fc (by show runC _ _ _ = _; kernel_rfl) (fc (by show runC _ _ _ = _; kernel_rfl) (fc (by show runC _ _ _ = _; kernel_rfl) (List.forall_mem_nil _)))))))))
theorem k_115 : okI 6 in_115 cn_115 = true := by decide +kernel
theorem g_115 : Gd [3, 2, 1] [] := ⟨in_115, cn_115, f_115, c_115, k_115⟩
def in_125 : List (List Nat × List (List (List Nat))) := [([3], []),
 ([1, 2], []),
 ([2, 1], []),
 ([1, 1, 1], [[[], [1], [2], [3]]])]
def cn_125 : List (List Nat × Nat) := [([3], 0), ([2, 1], 0), ([1, 1, 1], 1)]
theorem f_125 : ∀ e ∈ in_125, EF [3, 1, 1, 1] [3] e := fc (fun n => by kernel_rfl) (fc (fun n => by kernel_rfl) (fc (fun n => by kernel_rfl) (fc (fun n => by kernel_rfl) (List.forall_mem_nil _))))
theorem c_125 : ∀ e ∈ cn_125, EC [3, 1, 1, 1] [3] e := fc (by show runC _ _ _ = _; kernel_rfl) (fc (by show runC _ _ _ = _; kernel_rfl) (fc (by show runC _ _ _ = _; kernel_rfl) (List.forall_mem_nil _)))
theorem k_125 : okI 3 in_125 cn_125 = true := by decide +kernel
theorem g_125 : Gd [3, 1, 1, 1] [3] := ⟨in_125, cn_125, f_125, c_125, k_125⟩
def in_127 : List (List Nat × List (List (List Nat))) := [([3], []),
 ([1, 2], [[[2], [], [1], [2]]]),
 ([2, 1], [[[1], [], [1], [2]]]),
 ([1, 1, 1], [[[1], [], [2], [3]], [[2], [], [1], [3]], [[3], [], [1], [2]]])]
def cn_127 : List (List Nat × Nat) := [([3], 0), ([2, 1], 1), ([1, 1, 1], 3)]
theorem f_127 : ∀ e ∈ in_127, EF [3, 1, 1, 1] [2, 1] e := fc (fun n => by kernel_rfl) (fc (fun n => by kernel_rfl) (fc (fun n => by kernel_rfl) (fc (fun n => by kernel_rfl) (List.forall_mem_nil _))))
theorem c_127 : ∀ e ∈ cn_127, EC [3, 1, 1, 1] [2, 1] e := fc (by show runC _ _ _ = _; kernel_rfl) (fc (by show runC _ _ _ = _; kernel_rfl) (fc (by show runC _ _ _ = _; kernel_rfl) (List.forall_mem_nil _)))
theorem k_127 : okI 3 in_127 cn_127 = true := by decide +kernel
theorem g_127 : Gd [3, 1, 1, 1] [2, 1] := ⟨in_127, cn_127, f_127, c_127, k_127⟩
def in_136 : List (List Nat × List (List (List Nat))) := [([5], []),
 ([1, 4], []),
 ([2, 3], []),
 ([3, 2], []),
 ([4, 1], []),
 ([1, 1, 3], []),
 ([1, 2, 2], [[[2], [1, 3], [2], [3]]]),
 ([1, 3, 1], []),
 ([2, 1, 2], [[[1], [1, 3], [2], [3]]]),
 ([2, 2, 1], [[[1], [1, 2], [2], [3]]]),
 ([3, 1, 1], []),
 ([1, 1, 1, 2], [[[1], [2, 4], [3], [4]], [[2], [1, 4], [3], [4]], [[3], [1, 4], [2], [4]]]),
 ([1, 1, 2, 1], [[[1], [2, 3], [3], [4]], [[2], [1, 3], [3], [4]], [[3], [1, 4], [2], [3]]]),
 ([1, 2, 1, 1], [[[1], [2, 2], [3], [4]], [[2], [1, 3], [2], [4]], [[2], [1, 4], [2], [3]]]),
 ([2, 1, 1, 1], [[[1], [1, 2], [3], [4]], [[1], [1, 3], [2], [4]], [[1], [1, 4], [2], [3]]])]
def cn_136 : List (List Nat × Nat) := [([5], 0), ([4, 1], 0), ([3, 2], 0), ([3, 1, 1], 0), ([2, 2, 1], 1), ([2, 1, 1, 1], 3)]
theorem f_136 : ∀ e ∈ in_136, EF [2, 2, 1, 1] [1] e := fc (fun n => by kernel_rfl) (fc (fun n => by kernel_rfl) (fc (fun n => by kernel_rfl) (fc (fun n => by kernel_rfl) (fc (fun n => by kernel_rfl) (fc (fun n => by kernel_rfl) (fc (fun n => by kernel_rfl) (fc (fun n => by kernel_rfl) (fc (fun n => by kernel_rfl) (fc (fun n => by kernel_rfl) (fc (fun n => by kernel_rfl) (fc (fun n => by kernel_rfl) (fc (fun n => by kernel_rfl) (fc (fun n => by kernel_rfl) (fc (fun n => by kernel_rfl) (List.forall_mem_nil _)))))))))))))))
theorem c_136 : ∀ e ∈ cn_136, EC [2, 2, 1, 1] [1] e := fc (by show runC _ _ _ = _; kernel_rfl) (fc (by show runC _ _ _ = _; kernel_rfl) (fc (by show runC _ _ _ = _; kernel_rfl) (fc (by show runC _ _ _ = _; kernel_rfl) (fc (by show runC _ _ _ = _; kernel_rfl) (fc (by show runC _ _ _ = _; kernel_rfl) (List.forall_mem_nil _))))))
theorem k_136 : okI 5 in_136 cn_136 = true := by decide +kernel
theorem g_136 : Gd [2, 2, 1, 1] [1] := ⟨in_136, cn_136, f_136, c_136, k_136⟩
def in_142 : List (List Nat × List (List (List Nat))) := [([5], []),
 ([1, 4], []),
 ([2, 3], []),
 ([3, 2], []),
 ([4, 1], []),
 ([1, 1, 3], []),
 ([1, 2, 2], []),
 ([1, 3, 1], []),
 ([2, 1, 2], []),
 ([2, 2, 1], []),
 ([3, 1, 1], []),
 ([1, 1, 1, 2], [[[4], [1], [2], [3], [4]]]),
 ([1, 1, 2, 1], [[[3], [1], [2], [3], [4]]]),
 ([1, 2, 1, 1], [[[2], [1], [2], [3], [4]]]),
 ([2, 1, 1, 1], [[[1], [1], [2], [3], [4]]])]
def cn_142 : List (List Nat × Nat) := [([5], 0), ([4, 1], 0), ([3, 2], 0), ([3, 1, 1], 0), ([2, 2, 1], 0), ([2, 1, 1, 1], 1)]
theorem f_142 : ∀ e ∈ in_142, EF [2, 1, 1, 1, 1] [1] e := fc (fun n => by kernel_rfl) (fc (fun n => by kernel_rfl) (fc (fun n => by kernel_rfl) (fc (fun n => by kernel_rfl) (fc (fun n => by kernel_rfl) (fc (fun n => by kernel_rfl) (fc (fun n => by kernel_rfl) (fc (fun n => by kernel_rfl) (fc (fun n => by kernel_rfl) (fc (fun n => by kernel_rfl) (fc (fun n => by kernel_rfl) (fc (fun n => by kernel_rfl) (fc (fun n => by kernel_rfl) (fc (fun n => by kernel_rfl) (fc (fun n => by kernel_rfl) (List.forall_mem_nil _)))))))))))))))
theorem c_142 : ∀ e ∈ cn_142, EC [2, 1, 1, 1, 1] [1] e := fc (by show runC _ _ _ = _; kernel_rfl) (fc (by show runC _ _ _ = _; kernel_rfl) (fc (by show runC _ _ _ = _; kernel_rfl) (fc (by show runC _ _ _ = _; kernel_rfl) (fc (by show runC _ _ _ = _; kernel_rfl) (fc (by show runC _ _ _ = _; kernel_rfl) (List.forall_mem_nil _))))))
theorem k_142 : okI 5 in_142 cn_142 = true := by decide +kernel
theorem g_142 : Gd [2, 1, 1, 1, 1] [1] := ⟨in_142, cn_142, f_142, c_142, k_142⟩
def in_143 : List (List Nat × List (List (List Nat))) := [([4], []),
 ([1, 3], []),
 ([2, 2], []),
 ([3, 1], []),
 ([1, 1, 2], []),
 ([1, 2, 1], []),
 ([2, 1, 1], []),
 ([1, 1, 1, 1], [[[], [1], [2], [3], [4]]])]
def cn_143 : List (List Nat × Nat) := [([4], 0), ([3, 1], 0), ([2, 2], 0), ([2, 1, 1], 0), ([1, 1, 1, 1], 1)]
theorem f_143 : ∀ e ∈ in_143, EF [2, 1, 1, 1, 1] [2] e := fc (fun n => by kernel_rfl) (fc (fun n => by kernel_rfl) (fc (fun n => by kernel_rfl) (fc (fun n => by kernel_rfl) (fc (fun n => by kernel_rfl) (fc (fun n => by kernel_rfl) (fc (fun n => by kernel_rfl) (fc (fun n => by kernel_rfl) (List.forall_mem_nil _))))))))
theorem c_143 : ∀ e ∈ cn_143, EC [2, 1, 1, 1, 1] [2] e := fc (by show runC _ _ _ = _; kernel_rfl) (fc (by show runC _ _ _ = _; kernel_rfl) (fc (by show runC _ _ _ = _; kernel_rfl) (fc (by show runC _ _ _ = _; kernel_rfl) (fc (by show runC _ _ _ = _; kernel_rfl) (List.forall_mem_nil _)))))
theorem k_143 : okI 4 in_143 cn_143 = true := by decide +kernel
theorem g_143 : Gd [2, 1, 1, 1, 1] [2] := ⟨in_143, cn_143, f_143, c_143, k_143⟩
def in_147 : List (List Nat × List (List (List Nat))) := [([6], []),
 ([1, 5], []),
 ([2, 4], []),
 ([3, 3], []),
 ([4, 2], []),
 ([5, 1], []),
 ([1, 1, 4], []),
 ([1, 2, 3], []),
 ([1, 3, 2], []),
 ([1, 4, 1], []),
 ([2, 1, 3], []),
 ([2, 2, 2], []),
 ([2, 3, 1], []),
 ([3, 1, 2], []),
 ([3, 2, 1], []),
 ([4, 1, 1], []),
 ([1, 1, 1, 3], []),
 ([1, 1, 2, 2], []),
 ([1, 1, 3, 1], []),
 ([1, 2, 1, 2], []),
 ([1, 2, 2, 1], []),
 ([1, 3, 1, 1], []),
 ([2, 1, 1, 2], []),
 ([2, 1, 2, 1], []),
 ([2, 2, 1, 1], []),
 ([3, 1, 1, 1], [])]
def cn_147 : List (List Nat × Nat) := [([6], 0), ([5, 1], 0), ([4, 2], 0), ([4, 1, 1], 0), ([3, 3], 0), ([3, 2, 1], 0), ([3, 1, 1, 1], 0), ([2, 2, 2], 0), ([2, 2, 1, 1], 0)]
theorem f_147 : ∀ e ∈ in_147, EF [1, 1, 1, 1, 1, 1] [] e := fc (fun n => by kernel_rfl) (fc (fun n => by kernel_rfl) (fc (fun n => by kernel_rfl) (fc (fun n => by kernel_rfl) (fc (fun n => by kernel_rfl) (fc (fun n => by kernel_rfl) (fc (fun n => by kernel_rfl) (fc (fun n => by kernel_rfl) (fc (fun n => by kernel_rfl) (fc (fun n => by kernel_rfl) (fc (fun n => by kernel_rfl) (fc (fun n => by kernel_rfl) (fc (fun n => by kernel_rfl) (fc (fun n => by kernel_rfl) (fc (fun n => by kernel_rfl) (fc (fun n => by kernel_rfl) (fc (fun n => by kernel_rfl) (fc (fun n => by kernel_rfl) (fc (fun n => by kernel_rfl) (fc (fun n => by kernel_rfl) (fc (fun n => by kernel_rfl) (fc (fun n => by kernel_rfl) (fc (fun n => by kernel_rfl) (fc (fun n => by kernel_rfl) (fc (fun n => by kernel_rfl) (fc (fun n => by kernel_rfl) (List.forall_mem_nil _))))))))))))))))))))))))))
theorem c_147 : ∀ e ∈ cn_147, EC [1, 1, 1, 1, 1, 1] [] e := fc (by show runC _ _ _ = _; kernel_rfl) (fc (by show runC _ _ _ = _; kernel_rfl) (fc (by show runC _ _ _ = _; kernel_rfl) (fc (by show runC _ _ _ = _; kernel_rfl) (fc (by show runC _ _ _ = _; kernel_rfl) (fc (by show runC _ _ _ = _; kernel_rfl) (fc (by show runC _ _ _ = _; kernel_rfl) (fc (by show runC _ _ _ = _; kernel_rfl) (fc (by show runC _ _ _ = _; kernel_rfl) (List.forall_mem_nil _)))))))))
theorem k_147 : okI 6 in_147 cn_147 = true := by decide +kernel
theorem g_147 : Gd [1, 1, 1, 1, 1, 1] [] := ⟨in_147, cn_147, f_147, c_147, k_147⟩
def in_158 : List (List Nat × List (List (List Nat))) := [([4], [[[1, 1, 1], [1]]]),
 ([1, 3], [[[1, 2, 2], [2]], [[2, 2, 2], [1]]]),
 ([2, 2], [[[1, 1, 2], [2]], [[1, 2, 2], [1]]]),
 ([3, 1], [[[1, 1, 1], [2]], [[1, 1, 2], [1]]]),
 ([1, 1, 2], [[[1, 2, 3], [3]], [[1, 3, 3], [2]], [[2, 3, 3], [1]]]),
 ([1, 2, 1], [[[1, 2, 2], [3]], [[1, 2, 3], [2]], [[2, 2, 3], [1]]]),
 ([2, 1, 1], [[[1, 1, 2], [3]], [[1, 1, 3], [2]], [[1, 2, 3], [1]]]),
 ([1, 1, 1, 1], [[[1, 2, 3], [4]], [[1, 2, 4], [3]], [[1, 3, 4], [2]], [[2, 3, 4], [1]]])]
def cn_158 : List (List Nat × Nat) := [([4], 1), ([3, 1], 2), ([2, 2], 2), ([2, 1, 1], 3), ([1, 1, 1, 1], 4)]
theorem f_158 : ∀ e ∈ in_158, EF [6, 1] [3] e := fc (fun n => by kernel_rfl) (fc (fun n => by kernel_rfl) (fc (fun n => by kernel_rfl) (fc (fun n => by kernel_rfl) (fc (fun n => by kernel_rfl) (fc (fun n => by kernel_rfl) (fc (fun n => by kernel_rfl) (fc (fun n => by kernel_rfl) (List.forall_mem_nil _))))))))
theorem c_158 : ∀ e ∈ cn_158, EC [6, 1] [3] e := fc (by show runC _ _ _ = _; kernel_rfl) (fc (by show runC _ _ _ = _; kernel_rfl) (fc (by show runC _ _ _ = _; kernel_rfl) (fc (by show runC _ _ _ = _; kernel_rfl) (fc (by show runC _ _ _ = _; kernel_rfl) (List.forall_mem_nil _)))))
theorem k_158 : okI 4 in_158 cn_158 = true := by decide +kernel
theorem g_158 : Gd [6, 1] [3] := ⟨in_158, cn_158, f_158, c_158, k_158⟩
def in_162 : List (List Nat × List (List (List Nat))) := [([6], []),
 ([1, 5], [[[1, 2, 2, 2], [2, 2]]]),
 ([2, 4], [[[1, 1, 2, 2], [2, 2]], [[1, 2, 2, 2], [1, 2]]]),
 ([3, 3], [[[1, 1, 1, 2], [2, 2]], [[1, 1, 2, 2], [1, 2]]]),
 ([4, 2], [[[1, 1, 1, 1], [2, 2]], [[1, 1, 1, 2], [1, 2]]]),
 ([5, 1], [[[1, 1, 1, 1], [1, 2]]]),
 ([1, 1, 4], [[[1, 2, 3, 3], [3, 3]], [[1, 3, 3, 3], [2, 3]], [[2, 3, 3, 3], [1, 3]]]),
 ([1, 2, 3], [[[1, 2, 2, 3], [3, 3]], [[1, 2, 3, 3], [2, 3]], [[2, 2, 3, 3], [1, 3]], [[1, 3, 3, 3], [2, 2]]]),
 ([1, 3, 2], [[[1, 2, 2, 2], [3, 3]], [[1, 2, 2, 3], [2, 3]], [[2, 2, 2, 3], [1, 3]], [[1, 2, 3, 3], [2, 2]]]),
 ([1, 4, 1], [[[1, 2, 2, 2], [2, 3]], [[2, 2, 2, 2], [1, 3]], [[1, 2, 2, 3], [2, 2]]]),
 ([2, 1, 3], [[[1, 1, 2, 3], [3, 3]], [[1, 1, 3, 3], [2, 3]], [[1, 2, 3, 3], [1, 3]], [[1, 3, 3, 3], [1, 2]]]),
 ([2, 2, 2], [[[1, 1, 2, 2], [3, 3]], [[1, 1, 2, 3], [2, 3]], [[1, 2, 2, 3], [1, 3]], [[1, 1, 3, 3], [2, 2]], [[1, 2, 3, 3], [1, 2]]]),
 ([2, 3, 1], [[[1, 1, 2, 2], [2, 3]], [[1, 2, 2, 2], [1, 3]], [[1, 1, 2, 3], [2, 2]], [[1, 2, 2, 3], [1, 2]]]),
 ([3, 1, 2], [[[1, 1, 1, 2], [3, 3]], [[1, 1, 1, 3], [2, 3]], [[1, 1, 2, 3], [1, 3]], [[1, 1, 3, 3], [1, 2]]]),
 ([3, 2, 1], [[[1, 1, 1, 2], [2, 3]], [[1, 1, 2, 2], [1, 3]], [[1, 1, 1, 3], [2, 2]], [[1, 1, 2, 3], [1, 2]]]),
 ([4, 1, 1], [[[1, 1, 1, 1], [2, 3]], [[1, 1, 1, 2], [1, 3]], [[1, 1, 1, 3], [1, 2]]]),
 ([1, 1, 1, 3], [[[1, 2, 3, 4], [4, 4]], [[1, 2, 4, 4], [3, 4]], [[1, 3, 4, 4], [2, 4]], [[2, 3, 4, 4], [1, 4]], [[1, 4, 4, 4], [2, 3]], [[2, 4, 4, 4], [1, 3]]]),
 ([1, 1, 2, 2], [[[1, 2, 3, 3], [4, 4]], [[1, 2, 3, 4], [3, 4]], [[1, 3, 3, 4], [2, 4]], [[2, 3, 3, 4], [1, 4]], [[1, 2, 4, 4], [3, 3]], [[1, 3, 4, 4], [2, 3]], [[2, 3, 4, 4], [1, 3]]]),
 ([1, 1, 3, 1], [[[1, 2, 3, 3], [3, 4]], [[1, 3, 3, 3], [2, 4]], [[2, 3, 3, 3], [1, 4]], [[1, 2, 3, 4], [3, 3]], [[1, 3, 3, 4], [2, 3]], [[2, 3, 3, 4], [1, 3]]]),
 ([1, 2, 1, 2], [[[1, 2, 2, 3], [4, 4]], [[1, 2, 2, 4], [3, 4]], [[1, 2, 3, 4], [2, 4]], [[2, 2, 3, 4], [1, 4]], [[1, 2, 4, 4], [2, 3]], [[2, 2, 4, 4], [1, 3]], [[1, 3, 4, 4], [2, 2]]]),
 ([1, 2, 2, 1], [[[1, 2, 2, 3], [3, 4]], [[1, 2, 3, 3], [2, 4]], [[2, 2, 3, 3], [1, 4]], [[1, 2, 2, 4], [3, 3]], [[1, 2, 3, 4], [2, 3]], [[2, 2, 3, 4], [1, 3]], [[1, 3, 3, 4], [2, 2]]]),
 ([1, 3, 1, 1], [[[1, 2, 2, 2], [3, 4]], [[1, 2, 2, 3], [2, 4]], [[2, 2, 2, 3], [1, 4]], [[1, 2, 2, 4], [2, 3]], [[2, 2, 2, 4], [1, 3]], [[1, 2, 3, 4], [2, 2]]]),
 ([2, 1, 1, 2], [[[1, 1, 2, 3], [4, 4]], [[1, 1, 2, 4], [3, 4]], [[1, 1, 3, 4], [2, 4]], [[1, 2, 3, 4], [1, 4]], [[1, 1, 4, 4], [2, 3]], [[1, 2, 4, 4], [1, 3]], [[1, 3, 4, 4], [1, 2]]]),
 ([2, 1, 2, 1], [[[1, 1, 2, 3], [3, 4]], [[1, 1, 3, 3], [2, 4]], [[1, 2, 3, 3], [1, 4]], [[1, 1, 2, 4], [3, 3]], [[1, 1, 3, 4], [2, 3]], [[1, 2, 3, 4], [1, 3]], [[1, 3, 3, 4], [1, 2]]]),
 ([2, 2, 1, 1], [[[1, 1, 2, 2], [3, 4]], [[1, 1, 2, 3], [2, 4]], [[1, 2, 2, 3], [1, 4]], [[1, 1, 2, 4], [2, 3]], [[1, 2, 2, 4], [1, 3]], [[1, 1, 3, 4], [2, 2]], [[1, 2, 3, 4], [1, 2]]]),
 ([3, 1, 1, 1], [[[1, 1, 1, 2], [3, 4]], [[1, 1, 1, 3], [2, 4]], [[1, 1, 2, 3], [1, 4]], [[1, 1, 1, 4], [2, 3]], [[1, 1, 2, 4], [1, 3]], [[1, 1, 3, 4], [1, 2]]])]
def cn_162 : List (List Nat × Nat) := [([6], 0), ([5, 1], 1), ([4, 2], 2), ([4, 1, 1], 3), ([3, 3], 2), ([3, 2, 1], 4), ([3, 1, 1, 1], 6), ([2, 2, 2], 5), ([2, 2, 1, 1], 7)]
theorem f_162 : ∀ e ∈ in_162, EF [5, 2] [1] e := fc (fun n => by kernel_rfl) (fc (fun n => by kernel_rfl) (fc (fun n => by kernel_rfl) (fc (fun n => by kernel_rfl) (fc (fun n => by kernel_rfl) (fc (fun n => by kernel_rfl) (fc (fun n => by kernel_rfl) (fc (fun n => by kernel_rfl) (fc (fun n => by kernel_rfl) (fc (fun n => by kernel_rfl) (fc (fun n => by kernel_rfl) (fc (fun n => by kernel_rfl) (fc (fun n => by kernel_rfl) (fc (fun n => by kernel_rfl) (fc (fun n => by kernel_rfl) (fc (fun n => by kernel_rfl) (fc (fun n => by kernel_rfl) (fc (fun n => by kernel_rfl) (fc (fun n => by kernel_rfl) (fc (fun n => by kernel_rfl) (fc (fun n => by kernel_rfl) (fc (fun n => by kernel_rfl) (fc (fun n => by kernel_rfl) (fc (fun n => by kernel_rfl) (fc (fun n => by kernel_rfl) (fc (fun n => by kernel_rfl) (List.forall_mem_nil _))))))))))))))))))))))))))
theorem c_162 : ∀ e ∈ cn_162, EC [5, 2] [1] e := fc (by show runC _ _ _ = _; kernel_rfl) (fc (by show runC _ _ _ = _; kernel_rfl) (fc (by show runC _ _ _ = _; kernel_rfl) (fc (by show runC _ _ _ = _; kernel_rfl) (fc (by show runC _ _ _ = _; kernel_rfl) (fc (by show runC _ _ _ = _; kernel_rfl) (fc (by show runC _ _ _ = _; kernel_rfl) (fc (by show runC _ _ _ = _; kernel_rfl) (fc (by show runC _ _ _ = _; kernel_rfl) (List.forall_mem_nil _)))))))))
theorem k_162 : okI 6 in_162 cn_162 = true := by decide +kernel
theorem g_162 : Gd [5, 2] [1] := ⟨in_162, cn_162, f_162, c_162, k_162⟩
def in_169 : List (List Nat × List (List (List Nat))) := [([5], []),
 ([1, 4], [[[2, 2, 2], [1], [2]]]),
 ([2, 3], [[[1, 2, 2], [1], [2]]]),
 ([3, 2], [[[1, 1, 2], [1], [2]]]),
 ([4, 1], [[[1, 1, 1], [1], [2]]]),
 ([1, 1, 3], [[[1, 3, 3], [2], [3]], [[2, 3, 3], [1], [3]], [[3, 3, 3], [1], [2]]]),
 ([1, 2, 2], [[[1, 2, 3], [2], [3]], [[2, 2, 3], [1], [3]], [[2, 3, 3], [1], [2]]]),
 ([1, 3, 1], [[[1, 2, 2], [2], [3]], [[2, 2, 2], [1], [3]], [[2, 2, 3], [1], [2]]]),
 ([2, 1, 2], [[[1, 1, 3], [2], [3]], [[1, 2, 3], [1], [3]], [[1, 3, 3], [1], [2]]]),
 ([2, 2, 1], [[[1, 1, 2], [2], [3]], [[1, 2, 2], [1], [3]], [[1, 2, 3], [1], [2]]]),
 ([3, 1, 1], [[[1, 1, 1], [2], [3]], [[1, 1, 2], [1], [3]], [[1, 1, 3], [1], [2]]]),
 ([1, 1, 1, 2], [[[1, 2, 4], [3], [4]], [[1, 3, 4], [2], [4]], [[2, 3, 4], [1], [4]], [[1, 4, 4], [2], [3]], [[2, 4, 4], [1], [3]], [[3, 4, 4], [1], [2]]]),
 ([1, 1, 2, 1], [[[1, 2, 3], [3], [4]], [[1, 3, 3], [2], [4]], [[2, 3, 3], [1], [4]], [[1, 3, 4], [2], [3]], [[2, 3, 4], [1], [3]], [[3, 3, 4], [1], [2]]]),
 ([1, 2, 1, 1], [[[1, 2, 2], [3], [4]], [[1, 2, 3], [2], [4]], [[2, 2, 3], [1], [4]], [[1, 2, 4], [2], [3]], [[2, 2, 4], [1], [3]], [[2, 3, 4], [1], [2]]]),
 ([2, 1, 1, 1], [[[1, 1, 2], [3], [4]], [[1, 1, 3], [2], [4]], [[1, 2, 3], [1], [4]], [[1, 1, 4], [2], [3]], [[1, 2, 4], [1], [3]], [[1, 3, 4], [1], [2]]])]
def cn_169 : List (List Nat × Nat) := [([5], 0), ([4, 1], 1), ([3, 2], 1), ([3, 1, 1], 3), ([2, 2, 1], 3), ([2, 1, 1, 1], 6)]
theorem f_169 : ∀ e ∈ in_169, EF [5, 1, 1] [2] e := fc (fun n => by kernel_rfl) (fc (fun n => by kernel_rfl) (fc (fun n => by kernel_rfl) (fc (fun n => by kernel_rfl) (fc (fun n => by kernel_rfl) (fc (fun n => by kernel_rfl) (fc (fun n => by kernel_rfl) (fc (fun n => by kernel_rfl) (fc (fun n => by kernel_rfl) (fc (fun n => by kernel_rfl) (fc (fun n => by kernel_rfl) (fc (fun n => by kernel_rfl) (fc (fun n => by kernel_rfl) (fc (fun n => by kernel_rfl) (fc (fun n => by kernel_rfl) (List.forall_mem_nil _)))))))))))))))
theorem c_169 : ∀ e ∈ cn_169, EC [5, 1, 1] [2] e := fc (by show runC _ _ _ = _; kernel_rfl) (fc (by show runC _ _ _ = _; kernel_rfl) (fc (by show runC _ _ _ = _; kernel_rfl) (fc (by show runC _ _ _ = _; kernel_rfl) (fc (by show runC _ _ _ = _; kernel_rfl) (fc (by show runC _ _ _ = _; kernel_rfl) (List.forall_mem_nil _))))))
theorem k_169 : okI 5 in_169 cn_169 = true := by decide +kernel
theorem g_169 : Gd [5, 1, 1] [2] := ⟨in_169, cn_169, f_169, c_169, k_169⟩
def in_175 : List (List Nat × List (List (List Nat))) := [([6], []),
 ([1, 5], []),
 ([2, 4], [[[1, 1, 2], [2, 2, 2]]]),
 ([3, 3], [[[1, 1, 1], [2, 2, 2]], [[1, 1, 2], [1, 2, 2]]]),
 ([4, 2], [[[1, 1, 1], [1, 2, 2]]]),
 ([5, 1], []),
 ([1, 1, 4], [[[1, 2, 3], [3, 3, 3]]]),
 ([1, 2, 3], [[[1, 2, 2], [3, 3, 3]], [[1, 2, 3], [2, 3, 3]], [[2, 2, 3], [1, 3, 3]]]),
 ([1, 3, 2], [[[1, 2, 2], [2, 3, 3]], [[2, 2, 2], [1, 3, 3]], [[1, 2, 3], [2, 2, 3]]]),
 ([1, 4, 1], [[[1, 2, 2], [2, 2, 3]]]),
 ([2, 1, 3], [[[1, 1, 2], [3, 3, 3]], [[1, 1, 3], [2, 3, 3]], [[1, 2, 3], [1, 3, 3]]]),
 ([2, 2, 2], [[[1, 1, 2], [2, 3, 3]], [[1, 2, 2], [1, 3, 3]], [[1, 1, 3], [2, 2, 3]], [[1, 2, 3], [1, 2, 3]]]),
 ([2, 3, 1], [[[1, 1, 2], [2, 2, 3]], [[1, 2, 2], [1, 2, 3]], [[1, 1, 3], [2, 2, 2]]]),
 ([3, 1, 2], [[[1, 1, 1], [2, 3, 3]], [[1, 1, 2], [1, 3, 3]], [[1, 1, 3], [1, 2, 3]]]),
 ([3, 2, 1], [[[1, 1, 1], [2, 2, 3]], [[1, 1, 2], [1, 2, 3]], [[1, 1, 3], [1, 2, 2]]]),
 ([4, 1, 1], [[[1, 1, 1], [1, 2, 3]]]),
 ([1, 1, 1, 3], [[[1, 2, 3], [4, 4, 4]], [[1, 2, 4], [3, 4, 4]], [[1, 3, 4], [2, 4, 4]], [[2, 3, 4], [1, 4, 4]]]),
 ([1, 1, 2, 2], [[[1, 2, 3], [3, 4, 4]], [[1, 3, 3], [2, 4, 4]], [[2, 3, 3], [1, 4, 4]], [[1, 2, 4], [3, 3, 4]], [[1, 3, 4], [2, 3, 4]], [[2, 3, 4], [1, 3, 4]]]),
 ([1, 1, 3, 1], [[[1, 2, 3], [3, 3, 4]], [[1, 3, 3], [2, 3, 4]], [[2, 3, 3], [1, 3, 4]], [[1, 2, 4], [3, 3, 3]]]),
 ([1, 2, 1, 2], [[[1, 2, 2], [3, 4, 4]], [[1, 2, 3], [2, 4, 4]], [[2, 2, 3], [1, 4, 4]], [[1, 2, 4], [2, 3, 4]], [[2, 2, 4], [1, 3, 4]], [[1, 3, 4], [2, 2, 4]]]),
 ([1, 2, 2, 1], [[[1, 2, 2], [3, 3, 4]], [[1, 2, 3], [2, 3, 4]], [[2, 2, 3], [1, 3, 4]], [[1, 3, 3], [2, 2, 4]], [[1, 2, 4], [2, 3, 3]], [[2, 2, 4], [1, 3, 3]]]),
 ([1, 3, 1, 1], [[[1, 2, 2], [2, 3, 4]], [[2, 2, 2], [1, 3, 4]], [[1, 2, 3], [2, 2, 4]], [[1, 2, 4], [2, 2, 3]]]),
 ([2, 1, 1, 2], [[[1, 1, 2], [3, 4, 4]], [[1, 1, 3], [2, 4, 4]], [[1, 2, 3], [1, 4, 4]], [[1, 1, 4], [2, 3, 4]], [[1, 2, 4], [1, 3, 4]], [[1, 3, 4], [1, 2, 4]]]),
 ([2, 1, 2, 1], [[[1, 1, 2], [3, 3, 4]], [[1, 1, 3], [2, 3, 4]], [[1, 2, 3], [1, 3, 4]], [[1, 3, 3], [1, 2, 4]], [[1, 1, 4], [2, 3, 3]], [[1, 2, 4], [1, 3, 3]]]),
 ([2, 2, 1, 1], [[[1, 1, 2], [2, 3, 4]], [[1, 2, 2], [1, 3, 4]], [[1, 1, 3], [2, 2, 4]], [[1, 2, 3], [1, 2, 4]], [[1, 1, 4], [2, 2, 3]], [[1, 2, 4], [1, 2, 3]]]),
 ([3, 1, 1, 1], [[[1, 1, 1], [2, 3, 4]], [[1, 1, 2], [1, 3, 4]], [[1, 1, 3], [1, 2, 4]], [[1, 1, 4], [1, 2, 3]]])]
def cn_175 : List (List Nat × Nat) := [([6], 0), ([5, 1], 0), ([4, 2], 1), ([4, 1, 1], 1), ([3, 3], 2), ([3, 2, 1], 3), ([3, 1, 1, 1], 4), ([2, 2, 2], 4), ([2, 2, 1, 1], 6)]
theorem f_175 : ∀ e ∈ in_175, EF [4, 3] [1] e := fc (fun n => by kernel_rfl) (fc (fun n => by kernel_rfl) (fc (fun n => by kernel_rfl) (fc (fun n => by kernel_rfl) (fc (fun n => by kernel_rfl) (fc (fun n => by kernel_rfl) (fc (fun n => by kernel_rfl) (fc (fun n => by kernel_rfl) (fc (fun n => by kernel_rfl) (fc (fun n => by kernel_rfl) (fc (fun n => by kernel_rfl) (fc (fun n => by kernel_rfl) (fc (fun n => by kernel_rfl) (fc (fun n => by kernel_rfl) (fc (fun n => by kernel_rfl) (fc (fun n => by kernel_rfl) (fc (fun n => by kernel_rfl) (fc (fun n => by kernel_rfl) (fc (fun n => by kernel_rfl) (fc (fun n => by kernel_rfl) (fc (fun n => by kernel_rfl) (fc (fun n => by kernel_rfl) (fc (fun n => by kernel_rfl) (fc (fun n => by kernel_rfl) (fc (fun n => by kernel_rfl) (fc (fun n => by kernel_rfl) (List.forall_mem_nil _))))))))))))))))))))))))))
theorem c_175 : ∀ e ∈ cn_175, EC [4, 3] [1] e := fc (by show runC _ _ _ = _; kernel_rfl) (fc (by show runC _ _ _ = _; kernel_rfl) (fc (by show runC _ _ _ = _; kernel_rfl) (fc (by show runC _ _ _ = _; kernel_rfl) (fc (by show runC _ _ _ = _; kernel_rfl) (fc (by show runC _ _ _ = _; kernel_rfl) (fc (by show runC _ _ _ = _; kernel_rfl) (fc (by show runC _ _ _ = _; kernel_rfl) (fc (by show runC _ _ _ = _; kernel_rfl) (List.forall_mem_nil _)))))))))
theorem k_175 : okI 6 in_175 cn_175 = true := by decide +kernel
theorem g_175 : Gd [4, 3] [1] := ⟨in_175, cn_175, f_175, c_175, k_175⟩
def in_178 : List (List Nat × List (List (List Nat))) := [([5], []),
 ([1, 4], []),
 ([2, 3], [[[1, 1, 2], [2, 2]]]),
 ([3, 2], [[[1, 1, 1], [2, 2]]]),
 ([4, 1], []),
 ([1, 1, 3], [[[1, 2, 3], [3, 3]]]),
 ([1, 2, 2], [[[1, 2, 2], [3, 3]], [[1, 2, 3], [2, 3]]]),
 ([1, 3, 1], [[[1, 2, 2], [2, 3]]]),
 ([2, 1, 2], [[[1, 1, 2], [3, 3]], [[1, 1, 3], [2, 3]]]),
 ([2, 2, 1], [[[1, 1, 2], [2, 3]], [[1, 1, 3], [2, 2]]]),
 ([3, 1, 1], [[[1, 1, 1], [2, 3]]]),
 ([1, 1, 1, 2], [[[1, 2, 3], [4, 4]], [[1, 2, 4], [3, 4]], [[1, 3, 4], [2, 4]]]),
 ([1, 1, 2, 1], [[[1, 2, 3], [3, 4]], [[1, 3, 3], [2, 4]], [[1, 2, 4], [3, 3]]]),
 ([1, 2, 1, 1], [[[1, 2, 2], [3, 4]], [[1, 2, 3], [2, 4]], [[1, 2, 4], [2, 3]]]),
 ([2, 1, 1, 1], [[[1, 1, 2], [3, 4]], [[1, 1, 3], [2, 4]], [[1, 1, 4], [2, 3]]])]
def cn_178 : List (List Nat × Nat) := [([5], 0), ([4, 1], 0), ([3, 2], 1), ([3, 1, 1], 1), ([2, 2, 1], 2), ([2, 1, 1, 1], 3)]
theorem f_178 : ∀ e ∈ in_178, EF [4, 3] [1, 1] e := fc (fun n => by kernel_rfl) (fc (fun n => by kernel_rfl) (fc (fun n => by kernel_rfl) (fc (fun n => by kernel_rfl) (fc (fun n => by kernel_rfl) (fc (fun n => by kernel_rfl) (fc (fun n => by kernel_rfl) (fc (fun n => by kernel_rfl) (fc (fun n => by kernel_rfl) (fc (fun n => by kernel_rfl) (fc (fun n => by kernel_rfl) (fc (fun n => by kernel_rfl) (fc (fun n => by kernel_rfl) (fc (fun n => by kernel_rfl) (fc (fun n => by kernel_rfl) (List.forall_mem_nil _)))))))))))))))
theorem c_178 : ∀ e ∈ cn_178, EC [4, 3] [1, 1] e := fc (by show runC _ _ _ = _; kernel_rfl) (fc (by show runC _ _ _ = _; kernel_rfl) (fc (by show runC _ _ _ = _; kernel_rfl) (fc (by show runC _ _ _ = _; kernel_rfl) (fc (by show runC _ _ _ = _; kernel_rfl) (fc (by show runC _ _ _ = _; kernel_rfl) (List.forall_mem_nil _))))))
theorem k_178 : okI 5 in_178 cn_178 = true := by decide +kernel
theorem g_178 : Gd [4, 3] [1, 1] := ⟨in_178, cn_178, f_178, c_178, k_178⟩
def in_179 : List (List Nat × List (List (List Nat))) := [([4], []),
 ([1, 3], [[[1, 2], [2, 2]]]),
 ([2, 2], [[[1, 1], [2, 2]], [[1, 2], [1, 2]]]),
 ([3, 1], [[[1, 1], [1, 2]]]),
 ([1, 1, 2], [[[1, 2], [3, 3]], [[1, 3], [2, 3]], [[2, 3], [1, 3]]]),
 ([1, 2, 1], [[[1, 2], [2, 3]], [[2, 2], [1, 3]], [[1, 3], [2, 2]]]),
 ([2, 1, 1], [[[1, 1], [2, 3]], [[1, 2], [1, 3]], [[1, 3], [1, 2]]]),
 ([1, 1, 1, 1], [[[1, 2], [3, 4]], [[1, 3], [2, 4]], [[2, 3], [1, 4]], [[1, 4], [2, 3]], [[2, 4], [1, 3]]])]
def cn_179 : List (List Nat × Nat) := [([4], 0), ([3, 1], 1), ([2, 2], 2), ([2, 1, 1], 3), ([1, 1, 1, 1], 5)]
theorem f_179 : ∀ e ∈ in_179, EF [4, 3] [2, 1] e := fc (fun n => by kernel_rfl) (fc (fun n => by kernel_rfl) (fc (fun n => by kernel_rfl) (fc (fun n => by kernel_rfl) (fc (fun n => by kernel_rfl) (fc (fun n => by kernel_rfl) (fc (fun n => by kernel_rfl) (fc (fun n => by kernel_rfl) (List.forall_mem_nil _))))))))
theorem c_179 : ∀ e ∈ cn_179, EC [4, 3] [2, 1] e := fc (by show runC _ _ _ = _; kernel_rfl) (fc (by show runC _ _ _ = _; kernel_rfl) (fc (by show runC _ _ _ = _; kernel_rfl) (fc (by show runC _ _ _ = _; kernel_rfl) (fc (by show runC _ _ _ = _; kernel_rfl) (List.forall_mem_nil _)))))
theorem k_179 : okI 4 in_179 cn_179 = true := by decide +kernel
theorem g_179 : Gd [4, 3] [2, 1] := ⟨in_179, cn_179, f_179, c_179, k_179⟩
def in_194 : List (List Nat × List (List (List Nat))) := [([7], []),
 ([1, 6], []),
 ([2, 5], []),
 ([3, 4], []),
 ([4, 3], []),
 ([5, 2], []),
 ([6, 1], []),
 ([1, 1, 5], []),
 ([1, 2, 4], []),
 ([1, 3, 3], [[[1, 2, 2], [2, 3, 3], [3]]]),
 ([1, 4, 2], []),
 ([1, 5, 1], []),
 ([2, 1, 4], []),
 ([2, 2, 3], [[[1, 1, 2], [2, 3, 3], [3]]]),
 ([2, 3, 2], [[[1, 1, 2], [2, 2, 3], [3]]]),
 ([2, 4, 1], []),
 ([3, 1, 3], [[[1, 1, 1], [2, 3, 3], [3]]]),
 ([3, 2, 2], [[[1, 1, 1], [2, 2, 3], [3]]]),
 ([3, 3, 1], [[[1, 1, 1], [2, 2, 2], [3]]]),
 ([4, 1, 2], []),
 ([4, 2, 1], []),
 ([5, 1, 1], []),
 ([1, 1, 1, 4], []),
 ([1, 1, 2, 3], [[[1, 2, 3], [3, 4, 4], [4]], [[1, 3, 3], [2, 4, 4], [4]]]),
 ([1, 1, 3, 2], [[[1, 2, 3], [3, 3, 4], [4]], [[1, 3, 3], [2, 4, 4], [3]]]),
 ([1, 1, 4, 1], []),
 ([1, 2, 1, 3], [[[1, 2, 2], [3, 4, 4], [4]], [[1, 2, 3], [2, 4, 4], [4]]]),
 ([1, 2, 2, 2], [[[1, 2, 2], [3, 3, 4], [4]], [[1, 2, 3], [2, 3, 4], [4]], [[1, 2, 3], [2, 4, 4], [3]]]),
 ([1, 2, 3, 1], [[[1, 2, 2], [3, 3, 3], [4]], [[1, 2, 3], [2, 3, 4], [3]]]),
 ([1, 3, 1, 2], [[[1, 2, 2], [2, 3, 4], [4]], [[1, 2, 2], [2, 4, 4], [3]]]),
 ([1, 3, 2, 1], [[[1, 2, 2], [2, 3, 3], [4]], [[1, 2, 2], [2, 3, 4], [3]]]),
 ([1, 4, 1, 1], []),
 ([2, 1, 1, 3], [[[1, 1, 2], [3, 4, 4], [4]], [[1, 1, 3], [2, 4, 4], [4]]]),
 ([2, 1, 2, 2], [[[1, 1, 2], [3, 3, 4], [4]], [[1, 1, 3], [2, 3, 4], [4]], [[1, 1, 3], [2, 4, 4], [3]]]),
 ([2, 1, 3, 1], [[[1, 1, 2], [3, 3, 3], [4]], [[1, 1, 3], [2, 3, 4], [3]]]),
 ([2, 2, 1, 2], [[[1, 1, 2], [2, 3, 4], [4]], [[1, 1, 3], [2, 2, 4], [4]], [[1, 1, 2], [2, 4, 4], [3]]]),
 ([2, 2, 2, 1], [[[1, 1, 2], [2, 3, 3], [4]], [[1, 1, 2], [2, 3, 4], [3]], [[1, 1, 3], [2, 2, 4], [3]]]),
 ([2, 3, 1, 1], [[[1, 1, 2], [2, 2, 3], [4]], [[1, 1, 2], [2, 2, 4], [3]]]),
 ([3, 1, 1, 2], [[[1, 1, 1], [2, 3, 4], [4]], [[1, 1, 1], [2, 4, 4], [3]]]),
 ([3, 1, 2, 1], [[[1, 1, 1], [2, 3, 3], [4]], [[1, 1, 1], [2, 3, 4], [3]]]),
 ([3, 2, 1, 1], [[[1, 1, 1], [2, 2, 3], [4]], [[1, 1, 1], [2, 2, 4], [3]]]),
 ([4, 1, 1, 1], [])]
def cn_194 : List (List Nat × Nat) := [([7], 0), ([6, 1], 0), ([5, 2], 0), ([5, 1, 1], 0), ([4, 3], 0), ([4, 2, 1], 0), ([4, 1, 1, 1], 0), ([3, 3, 1], 1), ([3, 2, 2], 1), ([3, 2, 1, 1], 2), ([2, 2, 2, 1], 3)]
theorem f_194 : ∀ e ∈ in_194, EF [3, 3, 1] [] e := fc (fun n => by kernel_rfl) (fc (fun n => by kernel_rfl) (fc (fun n => by kernel_rfl) (fc (fun n => by kernel_rfl) (fc (fun n => by kernel_rfl) (fc (fun n => by kernel_rfl) (fc (fun n => by kernel_rfl) (fc (fun n => by kernel_rfl) (fc (fun n => by kernel_rfl) (fc (fun n => by kernel_rfl) (fc (fun n => by kernel_rfl) (fc (fun n => by kernel_rfl) (fc (fun n => by kernel_rfl) (fc (fun n => by kernel_rfl) (fc (fun n => by kernel_rfl) (fc (fun n => by kernel_rfl) (fc (fun n => by kernel_rfl) (fc (fun n => by kernel_rfl) (fc (fun n => by kernel_rfl) (fc (fun n => by kernel_rfl) (fc (fun n => by kernel_rfl) (fc (fun n => by kernel_rfl) (fc (fun n => by kernel_rfl) (fc (fun n => by kernel_rfl) (fc (fun n => by kernel_rfl) (fc (fun n => by kernel_rfl) (fc (fun n => by kernel_rfl) (fc (fun n => by kernel_rfl) (fc (fun n => by kernel_rfl) (fc (fun n => by kernel_rfl) (fc (fun n => by kernel_rfl) (fc (fun n => by kernel_rfl) (fc (fun n => by kernel_rfl) (fc (fun n => by kernel_rfl) (fc (fun n => by kernel_rfl) (fc (fun n => by kernel_rfl) (fc (fun n => by kernel_rfl) (fc (fun n => by kernel_rfl) (fc (fun n => by kernel_rfl) (fc (fun n => by kernel_rfl) (fc (fun n => by kernel_rfl) (fc (fun n => by kernel_rfl) (List.forall_mem_nil _))))))))))))))))))))))))))))))))))))))))))
theorem c_194 : ∀ e ∈ cn_194, EC [3, 3, 1] [] e := fc (by show runC _ _ _ = _; kernel_rfl) (fc (by show runC _ _ _ = _; kernel_rfl) (fc (by show runC _ _ _ = _; kernel_rfl) (fc (by show runC _ _ _ = _; kernel_rfl) (fc (by show runC _ _ _ = _; kernel_rfl) (fc (by show runC _ _ _ = _; kernel_rfl) (fc (by show runC _ _ _ = _; kernel_rfl) (fc (by show runC _ _ _ = _; kernel_rfl) (fc (by show runC _ _ _ = _; kernel_rfl) (fc (by show runC _ _ _ = _; kernel_rfl) (fc (by show runC _ _ _ = _; kernel_rfl) (List.forall_mem_nil _)))))))))))
theorem k_194 : okI 7 in_194 cn_194 = true := by decide +kernel
theorem g_194 : Gd [3, 3, 1] [] := ⟨in_194, cn_194, f_194, c_194, k_194⟩
def in_210 : List (List Nat × List (List (List Nat))) := [([5], []),
 ([1, 4], []),
 ([2, 3], []),
 ([3, 2], []),
 ([4, 1], []),
 ([1, 1, 3], [[[3], [1, 3], [2], [3]]]),
 ([1, 2, 2], [[[2], [1, 3], [2], [3]], [[3], [1, 2], [2], [3]]]),
 ([1, 3, 1], [[[2], [1, 2], [2], [3]]]),
 ([2, 1, 2], [[[1], [1, 3], [2], [3]], [[3], [1, 1], [2], [3]]]),
 ([2, 2, 1], [[[1], [1, 2], [2], [3]], [[2], [1, 1], [2], [3]]]),
 ([3, 1, 1], [[[1], [1, 1], [2], [3]]]),
 ([1, 1, 1, 2], [[[1], [2, 4], [3], [4]], [[2], [1, 4], [3], [4]], [[3], [1, 4], [2], [4]], [[4], [1, 2], [3], [4]], [[4], [1, 3], [2], [4]], [[4], [1, 4], [2], [3]]]),
 ([1, 1, 2, 1], [[[1], [2, 3], [3], [4]], [[2], [1, 3], [3], [4]], [[3], [1, 2], [3], [4]], [[3], [1, 3], [2], [4]], [[3], [1, 4], [2], [3]], [[4], [1, 3], [2], [3]]]),
 ([1, 2, 1, 1], [[[1], [2, 2], [3], [4]], [[2], [1, 2], [3], [4]], [[2], [1, 3], [2], [4]], [[3], [1, 2], [2], [4]], [[2], [1, 4], [2], [3]], [[4], [1, 2], [2], [3]]]),
 ([2, 1, 1, 1], [[[1], [1, 2], [3], [4]], [[2], [1, 1], [3], [4]], [[1], [1, 3], [2], [4]], [[3], [1, 1], [2], [4]], [[1], [1, 4], [2], [3]], [[4], [1, 1], [2], [3]]])]
def cn_210 : List (List Nat × Nat) := [([5], 0), ([4, 1], 0), ([3, 2], 0), ([3, 1, 1], 1), ([2, 2, 1], 2), ([2, 1, 1, 1], 6)]
theorem f_210 : ∀ e ∈ in_210, EF [3, 2, 1, 1] [2] e := fc (fun n => by kernel_rfl) (fc (fun n => by kernel_rfl) (fc (fun n => by kernel_rfl) (fc (fun n => by kernel_rfl) (fc (fun n => by kernel_rfl) (fc (fun n => by kernel_rfl) (fc (fun n => by kernel_rfl) (fc (fun n => by kernel_rfl) (fc (fun n => by kernel_rfl) (fc (fun n => by kernel_rfl) (fc (fun n => by kernel_rfl) (fc (fun n => by kernel_rfl) (fc (fun n => by kernel_rfl) (fc (fun n => by kernel_rfl) (fc (fun n => by kernel_rfl) (List.forall_mem_nil _)))))))))))))))
theorem c_210 : ∀ e ∈ cn_210, EC [3, 2, 1, 1] [2] e := fc (by show runC _ _ _ = _; kernel_rfl) (fc (by show runC _ _ _ = _; kernel_rfl) (fc (by show runC _ _ _ = _; kernel_rfl) (fc (by show runC _ _ _ = _; kernel_rfl) (fc (by show runC _ _ _ = _; kernel_rfl) (fc (by show runC _ _ _ = _; kernel_rfl) (List.forall_mem_nil _))))))
theorem k_210 : okI 5 in_210 cn_210 = true := by decide +kernel
theorem g_210 : Gd [3, 2, 1, 1] [2] := ⟨in_210, cn_210, f_210, c_210, k_210⟩
def in_211 : List (List Nat × List (List (List Nat))) := [([4], []),
 ([1, 3], []),
 ([2, 2], []),
 ([3, 1], []),
 ([1, 1, 2], [[[], [1, 3], [2], [3]]]),
 ([1, 2, 1], [[[], [1, 2], [2], [3]]]),
 ([2, 1, 1], [[[], [1, 1], [2], [3]]]),
 ([1, 1, 1, 1], [[[], [1, 2], [3], [4]], [[], [1, 3], [2], [4]], [[], [1, 4], [2], [3]]])]
def cn_211 : List (List Nat × Nat) := [([4], 0), ([3, 1], 0), ([2, 2], 0), ([2, 1, 1], 1), ([1, 1, 1, 1], 3)]
theorem f_211 : ∀ e ∈ in_211, EF [3, 2, 1, 1] [3] e := fc (fun n => by kernel_rfl) (fc (fun n => by kernel_rfl) (fc (fun n => by kernel_rfl) (fc (fun n => by kernel_rfl) (fc (fun n => by kernel_rfl) (fc (fun n => by kernel_rfl) (fc (fun n => by kernel_rfl) (fc (fun n => by kernel_rfl) (List.forall_mem_nil _))))))))
theorem c_211 : ∀ e ∈ cn_211, EC [3, 2, 1, 1] [3] e := fc (by show runC _ _ _ = _; kernel_rfl) (fc (by show runC _ _ _ = _; kernel_rfl) (fc (by show runC _ _ _ = _; kernel_rfl) (fc (by show runC _ _ _ = _; kernel_rfl) (fc (by show runC _ _ _ = _; kernel_rfl) (List.forall_mem_nil _)))))
theorem k_211 : okI 4 in_211 cn_211 = true := by decide +kernel
theorem g_211 : Gd [3, 2, 1, 1] [3] := ⟨in_211, cn_211, f_211, c_211, k_211⟩
def in_212 : List (List Nat × List (List (List Nat))) := [([5], []),
 ([1, 4], []),
 ([2, 3], [[[1, 2], [2], [1], [2]]]),
 ([3, 2], [[[1, 1], [2], [1], [2]]]),
 ([4, 1], []),
 ([1, 1, 3], [[[1, 3], [3], [2], [3]], [[2, 3], [3], [1], [3]]]),
 ([1, 2, 2], [[[1, 2], [3], [2], [3]], [[2, 2], [3], [1], [3]], [[1, 3], [2], [2], [3]], [[2, 3], [3], [1], [2]]]),
 ([1, 3, 1], [[[1, 2], [2], [2], [3]], [[2, 2], [3], [1], [2]]]),
 ([2, 1, 2], [[[1, 1], [3], [2], [3]], [[1, 2], [3], [1], [3]], [[1, 3], [2], [1], [3]], [[1, 3], [3], [1], [2]]]),
 ([2, 2, 1], [[[1, 1], [2], [2], [3]], [[1, 2], [2], [1], [3]], [[1, 2], [3], [1], [2]], [[1, 3], [2], [1], [2]]]),
 ([3, 1, 1], [[[1, 1], [2], [1], [3]], [[1, 1], [3], [1], [2]]]),
 ([1, 1, 1, 2], [[[1, 2], [4], [3], [4]], [[1, 3], [4], [2], [4]], [[2, 3], [4], [1], [4]], [[1, 4], [2], [3], [4]], [[1, 4], [3], [2], [4]], [[2, 4], [3], [1], [4]], [[1, 4], [4], [2], [3]], [[2, 4], [4], [1], [3]], [[3, 4], [4], [1], [2]]]),
 ([1, 1, 2, 1], [[[1, 2], [3], [3], [4]], [[1, 3], [2], [3], [4]], [[1, 3], [3], [2], [4]], [[2, 3], [3], [1], [4]], [[1, 3], [4], [2], [3]], [[2, 3], [4], [1], [3]], [[3, 3], [4], [1], [2]], [[1, 4], [3], [2], [3]], [[2, 4], [3], [1], [3]]]),
 ([1, 2, 1, 1], [[[1, 2], [2], [3], [4]], [[1, 2], [3], [2], [4]], [[2, 2], [3], [1], [4]], [[1, 3], [2], [2], [4]], [[1, 2], [4], [2], [3]], [[2, 2], [4], [1], [3]], [[2, 3], [4], [1], [2]], [[1, 4], [2], [2], [3]], [[2, 4], [3], [1], [2]]]),
 ([2, 1, 1, 1], [[[1, 1], [2], [3], [4]], [[1, 1], [3], [2], [4]], [[1, 2], [3], [1], [4]], [[1, 3], [2], [1], [4]], [[1, 1], [4], [2], [3]], [[1, 2], [4], [1], [3]], [[1, 3], [4], [1], [2]], [[1, 4], [2], [1], [3]], [[1, 4], [3], [1], [2]]])]
def cn_212 : List (List Nat × Nat) := [([5], 0), ([4, 1], 0), ([3, 2], 1), ([3, 1, 1], 2), ([2, 2, 1], 4), ([2, 1, 1, 1], 9)]
theorem f_212 : ∀ e ∈ in_212, EF [3, 2, 1, 1] [1, 1] e := fc (fun n => by kernel_rfl) (fc (fun n => by kernel_rfl) (fc (fun n => by kernel_rfl) (fc (fun n => by kernel_rfl) (fc (fun n => by kernel_rfl) (fc (fun n => by kernel_rfl) (fc (fun n => by kernel_rfl) (fc (fun n => by kernel_rfl) (fc (fun n => by kernel_rfl) (fc (fun n => by kernel_rfl) (fc (fun n => by kernel_rfl) (fc (fun n => by kernel_rfl) (fc (fun n => by kernel_rfl) (fc (fun n => by kernel_rfl) (fc (fun n => by kernel_rfl) (List.forall_mem_nil _)))))))))))))))
theorem c_212 : ∀ e ∈ cn_212, EC [3, 2, 1, 1] [1, 1] e := fc (by show runC _ _ _ = _; kernel_rfl) (fc (by show runC _ _ _ = _; kernel_rfl) (fc (by show runC _ _ _ = _; kernel_rfl) (fc (by show runC _ _ _ = _; kernel_rfl) (fc (by show runC _ _ _ = _; kernel_rfl) (fc (by show runC _ _ _ = _; kernel_rfl) (List.forall_mem_nil _))))))
theorem k_212 : okI 5 in_212 cn_212 = true := by decide +kernel
theorem g_212 : Gd [3, 2, 1, 1] [1, 1] := ⟨in_212, cn_212, f_212, c_212, k_212⟩
def in_219 : List (List Nat × List (List (List Nat))) := [([5], []),
 ([1, 4], []),
 ([2, 3], []),
 ([3, 2], []),
 ([4, 1], []),
 ([1, 1, 3], [[[3, 3], [], [1], [2], [3]]]),
 ([1, 2, 2], [[[2, 3], [], [1], [2], [3]]]),
 ([1, 3, 1], [[[2, 2], [], [1], [2], [3]]]),
 ([2, 1, 2], [[[1, 3], [], [1], [2], [3]]]),
 ([2, 2, 1], [[[1, 2], [], [1], [2], [3]]]),
 ([3, 1, 1], [[[1, 1], [], [1], [2], [3]]]),
 ([1, 1, 1, 2], [[[1, 4], [], [2], [3], [4]], [[2, 4], [], [1], [3], [4]], [[3, 4], [], [1], [2], [4]], [[4, 4], [], [1], [2], [3]]]),
 ([1, 1, 2, 1], [[[1, 3], [], [2], [3], [4]], [[2, 3], [], [1], [3], [4]], [[3, 3], [], [1], [2], [4]], [[3, 4], [], [1], [2], [3]]]),
 ([1, 2, 1, 1], [[[1, 2], [], [2], [3], [4]], [[2, 2], [], [1], [3], [4]], [[2, 3], [], [1], [2], [4]], [[2, 4], [], [1], [2], [3]]]),
 ([2, 1, 1, 1], [[[1, 1], [], [2], [3], [4]], [[1, 2], [], [1], [3], [4]], [[1, 3], [], [1], [2], [4]], [[1, 4], [], [1], [2], [3]]])]
def cn_219 : List (List Nat × Nat) := [([5], 0), ([4, 1], 0), ([3, 2], 0), ([3, 1, 1], 1), ([2, 2, 1], 1), ([2, 1, 1, 1], 4)]
theorem f_219 : ∀ e ∈ in_219, EF [3, 1, 1, 1, 1] [1, 1] e := fc (fun n => by kernel_rfl) (fc (fun n => by kernel_rfl) (fc (fun n => by kernel_rfl) (fc (fun n => by kernel_rfl) (fc (fun n => by kernel_rfl) (fc (fun n => by kernel_rfl) (fc (fun n => by kernel_rfl) (fc (fun n => by kernel_rfl) (fc (fun n => by kernel_rfl) (fc (fun n => by kernel_rfl) (fc (fun n => by kernel_rfl) (fc (fun n => by kernel_rfl) (fc (fun n => by kernel_rfl) (fc (fun n => by kernel_rfl) (fc (fun n => by kernel_rfl) (List.forall_mem_nil _)))))))))))))))
theorem c_219 : ∀ e ∈ cn_219, EC [3, 1, 1, 1, 1] [1, 1] e := fc (by show runC _ _ _ = _; kernel_rfl) (fc (by show runC _ _ _ = _; kernel_rfl) (fc (by show runC _ _ _ = _; kernel_rfl) (fc (by show runC _ _ _ = _; kernel_rfl) (fc (by show runC _ _ _ = _; kernel_rfl) (fc (by show runC _ _ _ = _; kernel_rfl) (List.forall_mem_nil _))))))
theorem k_219 : okI 5 in_219 cn_219 = true := by decide +kernel
theorem g_219 : Gd [3, 1, 1, 1, 1] [1, 1] := ⟨in_219, cn_219, f_219, c_219, k_219⟩
def in_222 : List (List Nat × List (List (List Nat))) := [([7], []),
 ([1, 6], []),
 ([2, 5], []),
 ([3, 4], []),
 ([4, 3], []),
 ([5, 2], []),
 ([6, 1], []),
 ([1, 1, 5], []),
 ([1, 2, 4], []),
 ([1, 3, 3], []),
 ([1, 4, 2], []),
 ([1, 5, 1], []),
 ([2, 1, 4], []),
 ([2, 2, 3], []),
 ([2, 3, 2], []),
 ([2, 4, 1], []),
 ([3, 1, 3], []),
 ([3, 2, 2], []),
 ([3, 3, 1], []),
 ([4, 1, 2], []),
 ([4, 2, 1], []),
 ([5, 1, 1], []),
 ([1, 1, 1, 4], []),
 ([1, 1, 2, 3], []),
 ([1, 1, 3, 2], []),
 ([1, 1, 4, 1], []),
 ([1, 2, 1, 3], []),
 ([1, 2, 2, 2], [[[1, 2], [2, 3], [3, 4], [4]]]),
 ([1, 2, 3, 1], []),
 ([1, 3, 1, 2], []),
 ([1, 3, 2, 1], []),
 ([1, 4, 1, 1], []),
 ([2, 1, 1, 3], []),
 ([2, 1, 2, 2], [[[1, 1], [2, 3], [3, 4], [4]]]),
 ([2, 1, 3, 1], []),
 ([2, 2, 1, 2], [[[1, 1], [2, 2], [3, 4], [4]]]),
 ([2, 2, 2, 1], [[[1, 1], [2, 2], [3, 3], [4]]]),
 ([2, 3, 1, 1], []),
 ([3, 1, 1, 2], []),
 ([3, 1, 2, 1], []),
 ([3, 2, 1, 1], []),
 ([4, 1, 1, 1], [])]
def cn_222 : List (List Nat × Nat) := [([7], 0), ([6, 1], 0), ([5, 2], 0), ([5, 1, 1], 0), ([4, 3], 0), ([4, 2, 1], 0), ([4, 1, 1, 1], 0), ([3, 3, 1], 0), ([3, 2, 2], 0), ([3, 2, 1, 1], 0), ([2, 2, 2, 1], 1)]
theorem f_222 : ∀ e ∈ in_222, EF [2, 2, 2, 1] [] e := fc (fun n => by kernel_rfl) (fc (fun n => by kernel_rfl) (fc (fun n => by kernel_rfl) (fc (fun n => by kernel_rfl) (fc (fun n => by kernel_rfl) (fc (fun n => by kernel_rfl) (fc (fun n => by kernel_rfl) (fc (fun n => by kernel_rfl) (fc (fun n => by kernel_rfl) (fc (fun n => by kernel_rfl) (fc (fun n => by kernel_rfl) (fc (fun n => by kernel_rfl) (fc (fun n => by kernel_rfl) (fc (fun n => by kernel_rfl) (fc (fun n => by kernel_rfl) (fc (fun n => by kernel_rfl) (fc (fun n => by kernel_rfl) (fc (fun n => by kernel_rfl) (fc (fun n => by kernel_rfl) (fc (fun n => by kernel_rfl) (fc (fun n => by kernel_rfl) (fc (fun n => by kernel_rfl) (fc (fun n => by kernel_rfl) (fc (fun n => by kernel_rfl) (fc (fun n => by kernel_rfl) (fc (fun n => by kernel_rfl) (fc (fun n => by kernel_rfl) (fc (fun n => by kernel_rfl) (fc (fun n => by kernel_rfl) (fc (fun n => by kernel_rfl) (fc (fun n => by kernel_rfl) (fc (fun n => by kernel_rfl) (fc (fun n => by kernel_rfl) (fc (fun n => by kernel_rfl) (fc (fun n => by kernel_rfl) (fc (fun n => by kernel_rfl) (fc (fun n => by kernel_rfl) (fc (fun n => by kernel_rfl) (fc (fun n => by kernel_rfl) (fc (fun n => by kernel_rfl) (fc (fun n => by kernel_rfl) (fc (fun n => by kernel_rfl) (List.forall_mem_nil _))))))))))))))))))))))))))))))))))))))))))
theorem c_222 : ∀ e ∈ cn_222, EC [2, 2, 2, 1] [] e := fc (by show runC _ _ _ = _; kernel_rfl) (fc (by show runC _ _ _ = _; kernel_rfl) (fc (by show runC _ _ _ = _; kernel_rfl) (fc (by show runC _ _ _ = _; kernel_rfl) (fc (by show runC _ _ _ = _; kernel_rfl) (fc (by show runC _ _ _ = _; kernel_rfl) (fc (by show runC _ _ _ = _; kernel_rfl) (fc (by show runC _ _ _ = _; kernel_rfl) (fc (by show runC _ _ _ = _; kernel_rfl) (fc (by show runC _ _ _ = _; kernel_rfl) (fc (by show runC _ _ _ = _; kernel_rfl) (List.forall_mem_nil _)))))))))))
theorem k_222 : okI 7 in_222 cn_222 = true := by decide +kernel
theorem g_222 : Gd [2, 2, 2, 1] [] := ⟨in_222, cn_222, f_222, c_222, k_222⟩
def in_229 : List (List Nat × List (List (List Nat))) := [([6], []),
 ([1, 5], []),
 ([2, 4], []),
 ([3, 3], []),
 ([4, 2], []),
 ([5, 1], []),
 ([1, 1, 4], []),
 ([1, 2, 3], []),
 ([1, 3, 2], []),
 ([1, 4, 1], []),
 ([2, 1, 3], []),
 ([2, 2, 2], []),
 ([2, 3, 1], []),
 ([3, 1, 2], []),
 ([3, 2, 1], []),
 ([4, 1, 1], []),
 ([1, 1, 1, 3], []),
 ([1, 1, 2, 2], [[[3], [1, 4], [2], [3], [4]]]),
 ([1, 1, 3, 1], []),
 ([1, 2, 1, 2], [[[2], [1, 4], [2], [3], [4]]]),
 ([1, 2, 2, 1], [[[2], [1, 3], [2], [3], [4]]]),
 ([1, 3, 1, 1], []),
 ([2, 1, 1, 2], [[[1], [1, 4], [2], [3], [4]]]),
 ([2, 1, 2, 1], [[[1], [1, 3], [2], [3], [4]]]),
 ([2, 2, 1, 1], [[[1], [1, 2], [2], [3], [4]]]),
 ([3, 1, 1, 1], [])]
def cn_229 : List (List Nat × Nat) := [([6], 0), ([5, 1], 0), ([4, 2], 0), ([4, 1, 1], 0), ([3, 3], 0), ([3, 2, 1], 0), ([3, 1, 1, 1], 0), ([2, 2, 2], 0), ([2, 2, 1, 1], 1)]
theorem f_229 : ∀ e ∈ in_229, EF [2, 2, 1, 1, 1] [1] e := fc (fun n => by kernel_rfl) (fc (fun n => by kernel_rfl) (fc (fun n => by kernel_rfl) (fc (fun n => by kernel_rfl) (fc (fun n => by kernel_rfl) (fc (fun n => by kernel_rfl) (fc (fun n => by kernel_rfl) (fc (fun n => by kernel_rfl) (fc (fun n => by kernel_rfl) (fc (fun n => by kernel_rfl) (fc (fun n => by kernel_rfl) (fc (fun n => by kernel_rfl) (fc (fun n => by kernel_rfl) (fc (fun n => by kernel_rfl) (fc (fun n => by kernel_rfl) (fc (fun n => by kernel_rfl) (fc (fun n => by kernel_rfl) (fc (fun n => by kernel_rfl) (fc (fun n => by kernel_rfl) (fc (fun n => by kernel_rfl) (fc (fun n => by kernel_rfl) (fc (fun n => by kernel_rfl) (fc (fun n => by kernel_rfl) (fc (fun n => by kernel_rfl) (fc (fun n => by kernel_rfl) (fc (fun n => by kernel_rfl) (List.forall_mem_nil _))))))))))))))))))))))))))
theorem c_229 : ∀ e ∈ cn_229, EC [2, 2, 1, 1, 1] [1] e := fc (by show runC _ _ _ = _; kernel_rfl) (fc (by show runC _ _ _ = _; kernel_rfl) (fc (by show runC _ _ _ = _; kernel_rfl) (fc (by show runC _ _ _ = _; kernel_rfl) (fc (by show runC _ _ _ = _; kernel_rfl) (fc (by show runC _ _ _ = _; kernel_rfl) (fc (by show runC _ _ _ = _; kernel_rfl) (fc (by show runC _ _ _ = _; kernel_rfl) (fc (by show runC _ _ _ = _; kernel_rfl) (List.forall_mem_nil _)))))))))
theorem k_229 : okI 6 in_229 cn_229 = true := by decide +kernel
theorem g_229 : Gd [2, 2, 1, 1, 1] [1] := ⟨in_229, cn_229, f_229, c_229, k_229⟩
def in_232 : List (List Nat × List (List (List Nat))) := [([4], []),
 ([1, 3], []),
 ([2, 2], []),
 ([3, 1], []),
 ([1, 1, 2], [[[], [3], [1], [2], [3]]]),
 ([1, 2, 1], [[[], [2], [1], [2], [3]]]),
 ([2, 1, 1], [[[], [1], [1], [2], [3]]]),
 ([1, 1, 1, 1], [[[], [1], [2], [3], [4]], [[], [2], [1], [3], [4]], [[], [3], [1], [2], [4]], [[], [4], [1], [2], [3]]])]
def cn_232 : List (List Nat × Nat) := [([4], 0), ([3, 1], 0), ([2, 2], 0), ([2, 1, 1], 1), ([1, 1, 1, 1], 4)]
theorem f_232 : ∀ e ∈ in_232, EF [2, 2, 1, 1, 1] [2, 1] e := fc (fun n => by kernel_rfl) (fc (fun n => by kernel_rfl) (fc (fun n => by kernel_rfl) (fc (fun n => by kernel_rfl) (fc (fun n => by kernel_rfl) (fc (fun n => by kernel_rfl) (fc (fun n => by kernel_rfl) (fc (fun n => by kernel_rfl) (List.forall_mem_nil _))))))))
theorem c_232 : ∀ e ∈ cn_232, EC [2, 2, 1, 1, 1] [2, 1] e := fc (by show runC _ _ _ = _; kernel_rfl) (fc (by show runC _ _ _ = _; kernel_rfl) (fc (by show runC _ _ _ = _; kernel_rfl) (fc (by show runC _ _ _ = _; kernel_rfl) (fc (by show runC _ _ _ = _; kernel_rfl) (List.forall_mem_nil _)))))
theorem k_232 : okI 4 in_232 cn_232 = true := by decide +kernel
theorem g_232 : Gd [2, 2, 1, 1, 1] [2, 1] := ⟨in_232, cn_232, f_232, c_232, k_232⟩
def in_238 : List (List Nat × List (List (List Nat))) := [([4], []),
 ([1, 3], []),
 ([2, 2], []),
 ([3, 1], []),
 ([1, 1, 2], []),
 ([1, 2, 1], []),
 ([2, 1, 1], []),
 ([1, 1, 1, 1], [[[], [], [1], [2], [3], [4]]])]
def cn_238 : List (List Nat × Nat) := [([4], 0), ([3, 1], 0), ([2, 2], 0), ([2, 1, 1], 0), ([1, 1, 1, 1], 1)]
theorem f_238 : ∀ e ∈ in_238, EF [2, 1, 1, 1, 1, 1] [2, 1] e := fc (fun n => by kernel_rfl) (fc (fun n => by kernel_rfl) (fc (fun n => by kernel_rfl) (fc (fun n => by kernel_rfl) (fc (fun n => by kernel_rfl) (fc (fun n => by kernel_rfl) (fc (fun n => by kernel_rfl) (fc (fun n => by kernel_rfl) (List.forall_mem_nil _))))))))
theorem c_238 : ∀ e ∈ cn_238, EC [2, 1, 1, 1, 1, 1] [2, 1] e := fc (by show runC _ _ _ = _; kernel_rfl) (fc (by show runC _ _ _ = _; kernel_rfl) (fc (by show runC _ _ _ = _; kernel_rfl) (fc (by show runC _ _ _ = _; kernel_rfl) (fc (by show runC _ _ _ = _; kernel_rfl) (List.forall_mem_nil _)))))
theorem k_238 : okI 4 in_238 cn_238 = true := by decide +kernel
theorem g_238 : Gd [2, 1, 1, 1, 1, 1] [2, 1] := ⟨in_238, cn_238, f_238, c_238, k_238⟩
end K14
set_option maxHeartbeats 0
noncomputable section
namespace K14
open PySem L2 Pd Gn PySem.Spec PyProof.Rows Zq Hx
def in_11 : List (List Nat × List (List (List Nat))) := [([1], [[[1]]])]
def cn_11 : List (List Nat × Nat) := [([1], 1)]
theorem f_11 : ∀ e ∈ in_11, EF [3] [2] e := fc (fun n => by kernel_rfl) (List.forall_mem_nil _)
theorem c_11 : ∀ e ∈ cn_11, EC [3] [2] e := fc (by show runC _ _ _ = _; kernel_rfl) (List.forall_mem_nil _)
theorem k_11 : okI 1 in_11 cn_11 = true := by decide +kernel
theorem g_11 : Gd [3] [2] := ⟨in_11, cn_11, f_11, c_11, k_11⟩
def in_21 : List (List Nat × List (List (List Nat))) := [([], [[[], [], []]])]
def cn_21 : List (List Nat × Nat) := [([], 1)]
theorem f_21 : ∀ e ∈ in_21, EF [1, 1, 1] [1, 1, 1] e := fc (fun n => by kernel_rfl) (List.forall_mem_nil _)
theorem c_21 : ∀ e ∈ cn_21, EC [1, 1, 1] [1, 1, 1] e := fc (by show runC _ _ _ = _; kernel_rfl) (List.forall_mem_nil _)
theorem k_21 : okI 0 in_21 cn_21 = true := by decide +kernel
theorem g_21 : Gd [1, 1, 1] [1, 1, 1] := ⟨in_21, cn_21, f_21, c_21, k_21⟩
def in_24 : List (List Nat × List (List (List Nat))) := [([2], [[[1, 1]]]),
 ([1, 1], [[[1, 2]]])]
def cn_24 : List (List Nat × Nat) := [([2], 1), ([1, 1], 1)]
theorem f_24 : ∀ e ∈ in_24, EF [4] [2] e := fc (fun n => by kernel_rfl) (fc (fun n => by kernel_rfl) (List.forall_mem_nil _))
theorem c_24 : ∀ e ∈ cn_24, EC [4] [2] e := fc (by show runC _ _ _ = _; kernel_rfl) (fc (by show runC _ _ _ = _; kernel_rfl) (List.forall_mem_nil _))
theorem k_24 : okI 2 in_24 cn_24 = true := by decide +kernel
theorem g_24 : Gd [4] [2] := ⟨in_24, cn_24, f_24, c_24, k_24⟩
def in_31 : List (List Nat × List (List (List Nat))) := [([1], [[[1], []]])]
def cn_31 : List (List Nat × Nat) := [([1], 1)]
theorem f_31 : ∀ e ∈ in_31, EF [3, 1] [2, 1] e := fc (fun n => by kernel_rfl) (List.forall_mem_nil _)
theorem c_31 : ∀ e ∈ cn_31, EC [3, 1] [2, 1] e := fc (by show runC _ _ _ = _; kernel_rfl) (List.forall_mem_nil _)
theorem k_31 : okI 1 in_31 cn_31 = true := by decide +kernel
theorem g_31 : Gd [3, 1] [2, 1] := ⟨in_31, cn_31, f_31, c_31, k_31⟩
def in_32 : List (List Nat × List (List (List Nat))) := [([4], []),
 ([1, 3], []),
 ([2, 2], [[[1, 1], [2, 2]]]),
 ([3, 1], []),
 ([1, 1, 2], [[[1, 2], [3, 3]]]),
 ([1, 2, 1], [[[1, 2], [2, 3]]]),
 ([2, 1, 1], [[[1, 1], [2, 3]]]),
 ([1, 1, 1, 1], [[[1, 2], [3, 4]], [[1, 3], [2, 4]]])]
def cn_32 : List (List Nat × Nat) := [([4], 0), ([3, 1], 0), ([2, 2], 1), ([2, 1, 1], 1), ([1, 1, 1, 1], 2)]
theorem f_32 : ∀ e ∈ in_32, EF [2, 2] [] e := fc (fun n => by kernel_rfl) (fc (fun n => by kernel_rfl) (fc (fun n => by kernel_rfl) (fc (fun n => by kernel_rfl) (fc (fun n => by kernel_rfl) (fc (fun n => by kernel_rfl) (fc (fun n => by kernel_rfl) (fc (fun n => by kernel_rfl) (List.forall_mem_nil _))))))))
theorem c_32 : ∀ e ∈ cn_32, EC [2, 2] [] e := fc (by show runC _ _ _ = _; kernel_rfl) (fc (by show runC _ _ _ = _; kernel_rfl) (fc (by show runC _ _ _ = _; kernel_rfl) (fc (by show runC _ _ _ = _; kernel_rfl) (fc (by show runC _ _ _ = _; kernel_rfl) (List.forall_mem_nil _)))))
theorem k_32 : okI 4 in_32 cn_32 = true := by decide +kernel
theorem g_32 : Gd [2, 2] [] := ⟨in_32, cn_32, f_32, c_32, k_32⟩
def in_35 : List (List Nat × List (List (List Nat))) := [([2], []),
 ([1, 1], [[[1], [2]]])]
def cn_35 : List (List Nat × Nat) := [([2], 0), ([1, 1], 1)]
theorem f_35 : ∀ e ∈ in_35, EF [2, 2] [1, 1] e := fc (fun n => by kernel_rfl) (fc (fun n => by kernel_rfl) (List.forall_mem_nil _))
theorem c_35 : ∀ e ∈ cn_35, EC [2, 2] [1, 1] e := fc (by show runC _ _ _ = _; kernel_rfl) (fc (by show runC _ _ _ = _; kernel_rfl) (List.forall_mem_nil _))
theorem k_35 : okI 2 in_35 cn_35 = true := by decide +kernel
theorem g_35 : Gd [2, 2] [1, 1] := ⟨in_35, cn_35, f_35, c_35, k_35⟩
def in_49 : List (List Nat × List (List (List Nat))) := [([3], [[[1, 1, 1]]]),
 ([1, 2], [[[1, 2, 2]]]),
 ([2, 1], [[[1, 1, 2]]]),
 ([1, 1, 1], [[[1, 2, 3]]])]
def cn_49 : List (List Nat × Nat) := [([3], 1), ([2, 1], 1), ([1, 1, 1], 1)]
theorem f_49 : ∀ e ∈ in_49, EF [5] [2] e := fc (fun n => by kernel_rfl) (fc (fun n => by kernel_rfl) (fc (fun n => by kernel_rfl) (fc (fun n => by kernel_rfl) (List.forall_mem_nil _))))
theorem c_49 : ∀ e ∈ cn_49, EC [5] [2] e := fc (by show runC _ _ _ = _; kernel_rfl) (fc (by show runC _ _ _ = _; kernel_rfl) (fc (by show runC _ _ _ = _; kernel_rfl) (List.forall_mem_nil _)))
theorem k_49 : okI 3 in_49 cn_49 = true := by decide +kernel
theorem g_49 : Gd [5] [2] := ⟨in_49, cn_49, f_49, c_49, k_49⟩
def in_55 : List (List Nat × List (List (List Nat))) := [([3], [[[1, 1, 1], []]]),
 ([1, 2], [[[1, 2, 2], []]]),
 ([2, 1], [[[1, 1, 2], []]]),
 ([1, 1, 1], [[[1, 2, 3], []]])]
def cn_55 : List (List Nat × Nat) := [([3], 1), ([2, 1], 1), ([1, 1, 1], 1)]
theorem f_55 : ∀ e ∈ in_55, EF [4, 1] [1, 1] e := fc (fun n => by kernel_rfl) (fc (fun n => by kernel_rfl) (fc (fun n => by kernel_rfl) (fc (fun n => by kernel_rfl) (List.forall_mem_nil _))))
theorem c_55 : ∀ e ∈ cn_55, EC [4, 1] [1, 1] e := fc (by show runC _ _ _ = _; kernel_rfl) (fc (by show runC _ _ _ = _; kernel_rfl) (fc (by show runC _ _ _ = _; kernel_rfl) (List.forall_mem_nil _)))
theorem k_55 : okI 3 in_55 cn_55 = true := by decide +kernel
theorem g_55 : Gd [4, 1] [1, 1] := ⟨in_55, cn_55, f_55, c_55, k_55⟩
def in_59 : List (List Nat × List (List (List Nat))) := [([3], [[[1], [1, 1]]]),
 ([1, 2], [[[1], [2, 2]], [[2], [1, 2]]]),
 ([2, 1], [[[1], [1, 2]], [[2], [1, 1]]]),
 ([1, 1, 1], [[[1], [2, 3]], [[2], [1, 3]], [[3], [1, 2]]])]
def cn_59 : List (List Nat × Nat) := [([3], 1), ([2, 1], 2), ([1, 1, 1], 3)]
theorem f_59 : ∀ e ∈ in_59, EF [3, 2] [2] e := fc (fun n => by kernel_rfl) (fc (fun n => by kernel_rfl) (fc (fun n => by kernel_rfl) (fc (fun n => by kernel_rfl) (List.forall_mem_nil _))))
theorem c_59 : ∀ e ∈ cn_59, EC [3, 2] [2] e := fc (by show runC _ _ _ = _; kernel_rfl) (fc (by show runC _ _ _ = _; kernel_rfl) (fc (by show runC _ _ _ = _; kernel_rfl) (List.forall_mem_nil _)))
theorem k_59 : okI 3 in_59 cn_59 = true := by decide +kernel
theorem g_59 : Gd [3, 2] [2] := ⟨in_59, cn_59, f_59, c_59, k_59⟩
def in_62 : List (List Nat × List (List (List Nat))) := [([2], [[[1], [1]]]),
 ([1, 1], [[[1], [2]], [[2], [1]]])]
def cn_62 : List (List Nat × Nat) := [([2], 1), ([1, 1], 2)]
theorem f_62 : ∀ e ∈ in_62, EF [3, 2] [2, 1] e := fc (fun n => by kernel_rfl) (fc (fun n => by kernel_rfl) (List.forall_mem_nil _))
theorem c_62 : ∀ e ∈ cn_62, EC [3, 2] [2, 1] e := fc (by show runC _ _ _ = _; kernel_rfl) (fc (by show runC _ _ _ = _; kernel_rfl) (List.forall_mem_nil _))
theorem k_62 : okI 2 in_62 cn_62 = true := by decide +kernel
theorem g_62 : Gd [3, 2] [2, 1] := ⟨in_62, cn_62, f_62, c_62, k_62⟩
def in_66 : List (List Nat × List (List (List Nat))) := [([2], []),
 ([1, 1], [[[], [1], [2]]])]
def cn_66 : List (List Nat × Nat) := [([2], 0), ([1, 1], 1)]
theorem f_66 : ∀ e ∈ in_66, EF [3, 1, 1] [3] e := fc (fun n => by kernel_rfl) (fc (fun n => by kernel_rfl) (List.forall_mem_nil _))
theorem c_66 : ∀ e ∈ cn_66, EC [3, 1, 1] [3] e := fc (by show runC _ _ _ = _; kernel_rfl) (fc (by show runC _ _ _ = _; kernel_rfl) (List.forall_mem_nil _))
theorem k_66 : okI 2 in_66 cn_66 = true := by decide +kernel
theorem g_66 : Gd [3, 1, 1] [3] := ⟨in_66, cn_66, f_66, c_66, k_66⟩
def in_84 : List (List Nat × List (List (List Nat))) := [([3], []),
 ([1, 2], []),
 ([2, 1], []),
 ([1, 1, 1], [[[], [], [1], [2], [3]]])]
def cn_84 : List (List Nat × Nat) := [([3], 0), ([2, 1], 0), ([1, 1, 1], 1)]
theorem f_84 : ∀ e ∈ in_84, EF [1, 1, 1, 1, 1] [1, 1] e := fc (fun n => by kernel_rfl) (fc (fun n => by kernel_rfl) (fc (fun n => by kernel_rfl) (fc (fun n => by kernel_rfl) (List.forall_mem_nil _))))
theorem c_84 : ∀ e ∈ cn_84, EC [1, 1, 1, 1, 1] [1, 1] e := fc (by show runC _ _ _ = _; kernel_rfl) (fc (by show runC _ _ _ = _; kernel_rfl) (fc (by show runC _ _ _ = _; kernel_rfl) (List.forall_mem_nil _)))
theorem k_84 : okI 3 in_84 cn_84 = true := by decide +kernel
theorem g_84 : Gd [1, 1, 1, 1, 1] [1, 1] := ⟨in_84, cn_84, f_84, c_84, k_84⟩
def in_86 : List (List Nat × List (List (List Nat))) := [([6], [[[1, 1, 1, 1, 1, 1]]]),
 ([1, 5], [[[1, 2, 2, 2, 2, 2]]]),
 ([2, 4], [[[1, 1, 2, 2, 2, 2]]]),
 ([3, 3], [[[1, 1, 1, 2, 2, 2]]]),
 ([4, 2], [[[1, 1, 1, 1, 2, 2]]]),
 ([5, 1], [[[1, 1, 1, 1, 1, 2]]]),
 ([1, 1, 4], [[[1, 2, 3, 3, 3, 3]]]),
 ([1, 2, 3], [[[1, 2, 2, 3, 3, 3]]]),
 ([1, 3, 2], [[[1, 2, 2, 2, 3, 3]]]),
 ([1, 4, 1], [[[1, 2, 2, 2, 2, 3]]]),
 ([2, 1, 3], [[[1, 1, 2, 3, 3, 3]]]),
 ([2, 2, 2], [[[1, 1, 2, 2, 3, 3]]]),
 ([2, 3, 1], [[[1, 1, 2, 2, 2, 3]]]),
 ([3, 1, 2], [[[1, 1, 1, 2, 3, 3]]]),
 ([3, 2, 1], [[[1, 1, 1, 2, 2, 3]]]),
 ([4, 1, 1], [[[1, 1, 1, 1, 2, 3]]]),
 ([1, 1, 1, 3], [[[1, 2, 3, 4, 4, 4]]]),
 ([1, 1, 2, 2], [[[1, 2, 3, 3, 4, 4]]]),
 ([1, 1, 3, 1], [[[1, 2, 3, 3, 3, 4]]]),
 ([1, 2, 1, 2], [[[1, 2, 2, 3, 4, 4]]]),
 ([1, 2, 2, 1], [[[1, 2, 2, 3, 3, 4]]]),
 ([1, 3, 1, 1], [[[1, 2, 2, 2, 3, 4]]]),
 ([2, 1, 1, 2], [[[1, 1, 2, 3, 4, 4]]]),
 ([2, 1, 2, 1], [[[1, 1, 2, 3, 3, 4]]]),
 ([2, 2, 1, 1], [[[1, 1, 2, 2, 3, 4]]]),
 ([3, 1, 1, 1], [[[1, 1, 1, 2, 3, 4]]])]
def cn_86 : List (List Nat × Nat) := [([6], 1), ([5, 1], 1), ([4, 2], 1), ([4, 1, 1], 1), ([3, 3], 1), ([3, 2, 1], 1), ([3, 1, 1, 1], 1), ([2, 2, 2], 1), ([2, 2, 1, 1], 1)]
theorem f_86 : ∀ e ∈ in_86, EF [6] [] e := fc (fun n => by kernel_rfl) (fc (fun n => by kernel_rfl) (fc (fun n => by kernel_rfl) (fc (fun n => by kernel_rfl) (fc (fun n => by kernel_rfl) (fc (fun n => by kernel_rfl) (fc (fun n => by kernel_rfl) (fc (fun n => by kernel_rfl) (fc (fun n => by kernel_rfl) (fc (fun n => by kernel_rfl) (fc (fun n => by kernel_rfl) (fc (fun n => by kernel_rfl) (fc (fun n => by kernel_rfl) (fc (fun n => by kernel_rfl) (fc (fun n => by kernel_rfl) (fc (fun n => by kernel_rfl) (fc (fun n => by kernel_rfl) (fc (fun n => by kernel_rfl) (fc (fun n => by kernel_rfl) (fc (fun n => by kernel_rfl) (fc (fun n => by kernel_rfl) (fc (fun n => by kernel_rfl) (fc (fun n => by kernel_rfl) (fc (fun n => by kernel_rfl) (fc (fun n => by kernel_rfl) (fc (fun n => by kernel_rfl) (List.forall_mem_nil _))))))))))))))))))))))))))
theorem c_86 : ∀ e ∈ cn_86, EC [6] [] e := fc (by show runC _ _ _ = _; kernel_rfl) (fc (by show runC _ _ _ = _; kernel_rfl) (fc (by show runC _ _ _ = _; kernel_rfl) (fc (by show runC _ _ _ = _; kernel_rfl) (fc (by show runC _ _ _ = _; kernel_rfl) (fc (by show runC _ _ _ = _; kernel_rfl) (fc (by show runC _ _ _ = _; kernel_rfl) (fc (by show runC _ _ _ = _; kernel_rfl) (fc (by show runC _ _ _ = _; kernel_rfl) (List.forall_mem_nil _)))))))))
theorem k_86 : okI 6 in_86 cn_86 = true := by decide +kernel
theorem g_86 : Gd [6] [] := ⟨in_86, cn_86, f_86, c_86, k_86⟩
def in_87 : List (List Nat × List (List (List Nat))) := [([5], [[[1, 1, 1, 1, 1]]]),
 ([1, 4], [[[1, 2, 2, 2, 2]]]),
 ([2, 3], [[[1, 1, 2, 2, 2]]]),
 ([3, 2], [[[1, 1, 1, 2, 2]]]),
 ([4, 1], [[[1, 1, 1, 1, 2]]]),
 ([1, 1, 3], [[[1, 2, 3, 3, 3]]]),
 ([1, 2, 2], [[[1, 2, 2, 3, 3]]]),
 ([1, 3, 1], [[[1, 2, 2, 2, 3]]]),
 ([2, 1, 2], [[[1, 1, 2, 3, 3]]]),
 ([2, 2, 1], [[[1, 1, 2, 2, 3]]]),
 ([3, 1, 1], [[[1, 1, 1, 2, 3]]]),
 ([1, 1, 1, 2], [[[1, 2, 3, 4, 4]]]),
 ([1, 1, 2, 1], [[[1, 2, 3, 3, 4]]]),
 ([1, 2, 1, 1], [[[1, 2, 2, 3, 4]]]),
 ([2, 1, 1, 1], [[[1, 1, 2, 3, 4]]])]
def cn_87 : List (List Nat × Nat) := [([5], 1), ([4, 1], 1), ([3, 2], 1), ([3, 1, 1], 1), ([2, 2, 1], 1), ([2, 1, 1, 1], 1)]
theorem f_87 : ∀ e ∈ in_87, EF [6] [1] e := fc (fun n => by kernel_rfl) (fc (fun n => by kernel_rfl) (fc (fun n => by kernel_rfl) (fc (fun n => by kernel_rfl) (fc (fun n => by kernel_rfl) (fc (fun n => by kernel_rfl) (fc (fun n => by kernel_rfl) (fc (fun n => by kernel_rfl) (fc (fun n => by kernel_rfl) (fc (fun n => by kernel_rfl) (fc (fun n => by kernel_rfl) (fc (fun n => by kernel_rfl) (fc (fun n => by kernel_rfl) (fc (fun n => by kernel_rfl) (fc (fun n => by kernel_rfl) (List.forall_mem_nil _)))))))))))))))
theorem c_87 : ∀ e ∈ cn_87, EC [6] [1] e := fc (by show runC _ _ _ = _; kernel_rfl) (fc (by show runC _ _ _ = _; kernel_rfl) (fc (by show runC _ _ _ = _; kernel_rfl) (fc (by show runC _ _ _ = _; kernel_rfl) (fc (by show runC _ _ _ = _; kernel_rfl) (fc (by show runC _ _ _ = _; kernel_rfl) (List.forall_mem_nil _))))))
theorem k_87 : okI 5 in_87 cn_87 = true := by decide +kernel
theorem g_87 : Gd [6] [1] := ⟨in_87, cn_87, f_87, c_87, k_87⟩
def in_90 : List (List Nat × List (List (List Nat))) := [([6], []),
 ([1, 5], [[[1, 2, 2, 2, 2], [2]]]),
 ([2, 4], [[[1, 1, 2, 2, 2], [2]]]),
 ([3, 3], [[[1, 1, 1, 2, 2], [2]]]),
 ([4, 2], [[[1, 1, 1, 1, 2], [2]]]),
 ([5, 1], [[[1, 1, 1, 1, 1], [2]]]),
 ([1, 1, 4], [[[1, 2, 3, 3, 3], [3]], [[1, 3, 3, 3, 3], [2]]]),
 ([1, 2, 3], [[[1, 2, 2, 3, 3], [3]], [[1, 2, 3, 3, 3], [2]]]),
 ([1, 3, 2], [[[1, 2, 2, 2, 3], [3]], [[1, 2, 2, 3, 3], [2]]]),
 ([1, 4, 1], [[[1, 2, 2, 2, 2], [3]], [[1, 2, 2, 2, 3], [2]]]),
 ([2, 1, 3], [[[1, 1, 2, 3, 3], [3]], [[1, 1, 3, 3, 3], [2]]]),
 ([2, 2, 2], [[[1, 1, 2, 2, 3], [3]], [[1, 1, 2, 3, 3], [2]]]),
 ([2, 3, 1], [[[1, 1, 2, 2, 2], [3]], [[1, 1, 2, 2, 3], [2]]]),
 ([3, 1, 2], [[[1, 1, 1, 2, 3], [3]], [[1, 1, 1, 3, 3], [2]]]),
 ([3, 2, 1], [[[1, 1, 1, 2, 2], [3]], [[1, 1, 1, 2, 3], [2]]]),
 ([4, 1, 1], [[[1, 1, 1, 1, 2], [3]], [[1, 1, 1, 1, 3], [2]]]),
 ([1, 1, 1, 3], [[[1, 2, 3, 4, 4], [4]], [[1, 2, 4, 4, 4], [3]], [[1, 3, 4, 4, 4], [2]]]),
 ([1, 1, 2, 2], [[[1, 2, 3, 3, 4], [4]], [[1, 2, 3, 4, 4], [3]], [[1, 3, 3, 4, 4], [2]]]),
 ([1, 1, 3, 1], [[[1, 2, 3, 3, 3], [4]], [[1, 2, 3, 3, 4], [3]], [[1, 3, 3, 3, 4], [2]]]),
 ([1, 2, 1, 2], [[[1, 2, 2, 3, 4], [4]], [[1, 2, 2, 4, 4], [3]], [[1, 2, 3, 4, 4], [2]]]),
 ([1, 2, 2, 1], [[[1, 2, 2, 3, 3], [4]], [[1, 2, 2, 3, 4], [3]], [[1, 2, 3, 3, 4], [2]]]),
 ([1, 3, 1, 1], [[[1, 2, 2, 2, 3], [4]], [[1, 2, 2, 2, 4], [3]], [[1, 2, 2, 3, 4], [2]]]),
 ([2, 1, 1, 2], [[[1, 1, 2, 3, 4], [4]], [[1, 1, 2, 4, 4], [3]], [[1, 1, 3, 4, 4], [2]]]),
 ([2, 1, 2, 1], [[[1, 1, 2, 3, 3], [4]], [[1, 1, 2, 3, 4], [3]], [[1, 1, 3, 3, 4], [2]]]),
 ([2, 2, 1, 1], [[[1, 1, 2, 2, 3], [4]], [[1, 1, 2, 2, 4], [3]], [[1, 1, 2, 3, 4], [2]]]),
 ([3, 1, 1, 1], [[[1, 1, 1, 2, 3], [4]], [[1, 1, 1, 2, 4], [3]], [[1, 1, 1, 3, 4], [2]]])]
def cn_90 : List (List Nat × Nat) := [([6], 0), ([5, 1], 1), ([4, 2], 1), ([4, 1, 1], 2), ([3, 3], 1), ([3, 2, 1], 2), ([3, 1, 1, 1], 3), ([2, 2, 2], 2), ([2, 2, 1, 1], 3)]
theorem f_90 : ∀ e ∈ in_90, EF [5, 1] [] e := fc (fun n => by kernel_rfl) (fc (fun n => by kernel_rfl) (fc (fun n => by kernel_rfl) (fc (fun n => by kernel_rfl) (fc (fun n => by kernel_rfl) (fc (fun n => by kernel_rfl) (fc (fun n => by kernel_rfl) (fc (fun n => by kernel_rfl) (fc (fun n => by kernel_rfl) (fc (fun n => by kernel_rfl) (fc (fun n => by kernel_rfl) (fc (fun n => by kernel_rfl) (fc (fun n => by kernel_rfl) (fc (fun n => by kernel_rfl) (fc (fun n => by kernel_rfl) (fc (fun n => by kernel_rfl) (fc (fun n => by kernel_rfl) (fc (fun n => by kernel_rfl) (fc (fun n => by kernel_rfl) (fc (fun n => by kernel_rfl) (fc (fun n => by kernel_rfl) (fc (fun n => by kernel_rfl) (fc (fun n => by kernel_rfl) (fc (fun n => by kernel_rfl) (fc (fun n => by kernel_rfl) (fc (fun n => by kernel_rfl) (List.forall_mem_nil _))))))))))))))))))))))))))
theorem c_90 : ∀ e ∈ cn_90, EC [5, 1] [] e := fc (by show runC _ _ _ = _; kernel_rfl) (fc (by show runC _ _ _ = _; kernel_rfl) (fc (by show runC _ _ _ = _; kernel_rfl) (fc (by show runC _ _ _ = _; kernel_rfl) (fc (by show runC _ _ _ = _; kernel_rfl) (fc (by show runC _ _ _ = _; kernel_rfl) (fc (by show runC _ _ _ = _; kernel_rfl) (fc (by show runC _ _ _ = _; kernel_rfl) (fc (by show runC _ _ _ = _; kernel_rfl) (List.forall_mem_nil _)))))))))
theorem k_90 : okI 6 in_90 cn_90 = true := by decide +kernel
theorem g_90 : Gd [5, 1] [] := ⟨in_90, cn_90, f_90, c_90, k_90⟩
def in_101 : List (List Nat × List (List (List Nat))) := [([3], [[[1, 1], [1]]]),
 ([1, 2], [[[1, 2], [2]], [[2, 2], [1]]]),
 ([2, 1], [[[1, 1], [2]], [[1, 2], [1]]]),
 ([1, 1, 1], [[[1, 2], [3]], [[1, 3], [2]], [[2, 3], [1]]])]
def cn_101 : List (List Nat × Nat) := [([3], 1), ([2, 1], 2), ([1, 1, 1], 3)]
theorem f_101 : ∀ e ∈ in_101, EF [4, 2] [2, 1] e := fc (fun n => by kernel_rfl) (fc (fun n => by kernel_rfl) (fc (fun n => by kernel_rfl) (fc (fun n => by kernel_rfl) (List.forall_mem_nil _))))
theorem c_101 : ∀ e ∈ cn_101, EC [4, 2] [2, 1] e := fc (by show runC _ _ _ = _; kernel_rfl) (fc (by show runC _ _ _ = _; kernel_rfl) (fc (by show runC _ _ _ = _; kernel_rfl) (List.forall_mem_nil _)))
theorem k_101 : okI 3 in_101 cn_101 = true := by decide +kernel
theorem g_101 : Gd [4, 2] [2, 1] := ⟨in_101, cn_101, f_101, c_101, k_101⟩
def in_121 : List (List Nat × List (List (List Nat))) := [([3], []),
 ([1, 2], [[[1, 2], [2], []]]),
 ([2, 1], [[[1, 1], [2], []]]),
 ([1, 1, 1], [[[1, 2], [3], []], [[1, 3], [2], []]])]
def cn_121 : List (List Nat × Nat) := [([3], 0), ([2, 1], 1), ([1, 1, 1], 2)]
theorem f_121 : ∀ e ∈ in_121, EF [3, 2, 1] [1, 1, 1] e := fc (fun n => by kernel_rfl) (fc (fun n => by kernel_rfl) (fc (fun n => by kernel_rfl) (fc (fun n => by kernel_rfl) (List.forall_mem_nil _))))
theorem c_121 : ∀ e ∈ cn_121, EC [3, 2, 1] [1, 1, 1] e := fc (by show runC _ _ _ = _; kernel_rfl) (fc (by show runC _ _ _ = _; kernel_rfl) (fc (by show runC _ _ _ = _; kernel_rfl) (List.forall_mem_nil _)))
theorem k_121 : okI 3 in_121 cn_121 = true := by decide +kernel
theorem g_121 : Gd [3, 2, 1] [1, 1, 1] := ⟨in_121, cn_121, f_121, c_121, k_121⟩
def in_132 : List (List Nat × List (List (List Nat))) := [([4], []),
 ([1, 3], []),
 ([2, 2], []),
 ([3, 1], []),
 ([1, 1, 2], [[[1], [2], [3, 3]]]),
 ([1, 2, 1], [[[1], [2], [2, 3]]]),
 ([2, 1, 1], [[[1], [2], [1, 3]]]),
 ([1, 1, 1, 1], [[[1], [2], [3, 4]], [[1], [3], [2, 4]], [[2], [3], [1, 4]]])]
def cn_132 : List (List Nat × Nat) := [([4], 0), ([3, 1], 0), ([2, 2], 0), ([2, 1, 1], 1), ([1, 1, 1, 1], 3)]
theorem f_132 : ∀ e ∈ in_132, EF [2, 2, 2] [1, 1] e := fc (fun n => by kernel_rfl) (fc (fun n => by kernel_rfl) (fc (fun n => by kernel_rfl) (fc (fun n => by kernel_rfl) (fc (fun n => by kernel_rfl) (fc (fun n => by kernel_rfl) (fc (fun n => by kernel_rfl) (fc (fun n => by kernel_rfl) (List.forall_mem_nil _))))))))
theorem c_132 : ∀ e ∈ cn_132, EC [2, 2, 2] [1, 1] e := fc (by show runC _ _ _ = _; kernel_rfl) (fc (by show runC _ _ _ = _; kernel_rfl) (fc (by show runC _ _ _ = _; kernel_rfl) (fc (by show runC _ _ _ = _; kernel_rfl) (fc (by show runC _ _ _ = _; kernel_rfl) (List.forall_mem_nil _)))))
theorem k_132 : okI 4 in_132 cn_132 = true := by decide +kernel
theorem g_132 : Gd [2, 2, 2] [1, 1] := ⟨in_132, cn_132, f_132, c_132, k_132⟩
def in_134 : List (List Nat × List (List (List Nat))) := [([3], []),
 ([1, 2], []),
 ([2, 1], []),
 ([1, 1, 1], [[[1], [2], [3]]])]
def cn_134 : List (List Nat × Nat) := [([3], 0), ([2, 1], 0), ([1, 1, 1], 1)]
theorem f_134 : ∀ e ∈ in_134, EF [2, 2, 2] [1, 1, 1] e := fc (fun n => by kernel_rfl) (fc (fun n => by kernel_rfl) (fc (fun n => by kernel_rfl) (fc (fun n => by kernel_rfl) (List.forall_mem_nil _))))
theorem c_134 : ∀ e ∈ cn_134, EC [2, 2, 2] [1, 1, 1] e := fc (by show runC _ _ _ = _; kernel_rfl) (fc (by show runC _ _ _ = _; kernel_rfl) (fc (by show runC _ _ _ = _; kernel_rfl) (List.forall_mem_nil _)))
theorem k_134 : okI 3 in_134 cn_134 = true := by decide +kernel
theorem g_134 : Gd [2, 2, 2] [1, 1, 1] := ⟨in_134, cn_134, f_134, c_134, k_134⟩
def in_135 : List (List Nat × List (List (List Nat))) := [([6], []),
 ([1, 5], []),
 ([2, 4], []),
 ([3, 3], []),
 ([4, 2], []),
 ([5, 1], []),
 ([1, 1, 4], []),
 ([1, 2, 3], []),
 ([1, 3, 2], []),
 ([1, 4, 1], []),
 ([2, 1, 3], []),
 ([2, 2, 2], []),
 ([2, 3, 1], []),
 ([3, 1, 2], []),
 ([3, 2, 1], []),
 ([4, 1, 1], []),
 ([1, 1, 1, 3], []),
 ([1, 1, 2, 2], [[[1, 3], [2, 4], [3], [4]]]),
 ([1, 1, 3, 1], []),
 ([1, 2, 1, 2], [[[1, 2], [2, 4], [3], [4]]]),
 ([1, 2, 2, 1], [[[1, 2], [2, 3], [3], [4]]]),
 ([1, 3, 1, 1], []),
 ([2, 1, 1, 2], [[[1, 1], [2, 4], [3], [4]]]),
 ([2, 1, 2, 1], [[[1, 1], [2, 3], [3], [4]]]),
 ([2, 2, 1, 1], [[[1, 1], [2, 2], [3], [4]]]),
 ([3, 1, 1, 1], [])]
def cn_135 : List (List Nat × Nat) := [([6], 0), ([5, 1], 0), ([4, 2], 0), ([4, 1, 1], 0), ([3, 3], 0), ([3, 2, 1], 0), ([3, 1, 1, 1], 0), ([2, 2, 2], 0), ([2, 2, 1, 1], 1)]
theorem f_135 : ∀ e ∈ in_135, EF [2, 2, 1, 1] [] e := fc (fun n => by kernel_rfl) (fc (fun n => by kernel_rfl) (fc (fun n => by kernel_rfl) (fc (fun n => by kernel_rfl) (fc (fun n => by kernel_rfl) (fc (fun n => by kernel_rfl) (fc (fun n => by kernel_rfl) (fc (fun n => by kernel_rfl) (fc (fun n => by kernel_rfl) (fc (fun n => by kernel_rfl) (fc (fun n => by kernel_rfl) (fc (fun n => by kernel_rfl) (fc (fun n => by kernel_rfl) (fc (fun n => by kernel_rfl) (fc (fun n => by kernel_rfl) (fc (fun n => by kernel_rfl) (fc (fun n => by kernel_rfl) (fc (fun n => by kernel_rfl) (fc (fun n => by kernel_rfl) (fc (fun n => by kernel_rfl) (fc (fun n => by kernel_rfl) (fc (fun n => by kernel_rfl) (fc (fun n => by kernel_rfl) (fc (fun n => by kernel_rfl) (fc (fun n => by kernel_rfl) (fc (fun n => by kernel_rfl) (List.forall_mem_nil _))))))))))))))))))))))))))
theorem c_135 : ∀ e ∈ cn_135, EC [2, 2, 1, 1] [] e := fc (by show runC _ _ _ = _; kernel_rfl) (fc (by show runC _ _ _ = _; kernel_rfl) (fc (by show runC _ _ _ = _; kernel_rfl) (fc (by show runC _ _ _ = _; kernel_rfl) (fc (by show runC _ _ _ = _; kernel_rfl) (fc (by show runC _ _ _ = _; kernel_rfl) (fc (by show runC _ _ _ = _; kernel_rfl) (fc (by show runC _ _ _ = _; kernel_rfl) (fc (by show runC _ _ _ = _; kernel_rfl) (List.forall_mem_nil _)))))))))
theorem k_135 : okI 6 in_135 cn_135 = true := by decide +kernel
theorem g_135 : Gd [2, 2, 1, 1] [] := ⟨in_135, cn_135, f_135, c_135, k_135⟩
def in_138 : List (List Nat × List (List (List Nat))) := [([4], []),
 ([1, 3], []),
 ([2, 2], [[[1], [2], [1], [2]]]),
 ([3, 1], []),
 ([1, 1, 2], [[[1], [3], [2], [3]], [[2], [3], [1], [3]]]),
 ([1, 2, 1], [[[1], [2], [2], [3]], [[2], [3], [1], [2]]]),
 ([2, 1, 1], [[[1], [2], [1], [3]], [[1], [3], [1], [2]]]),
 ([1, 1, 1, 1], [[[1], [2], [3], [4]], [[1], [3], [2], [4]], [[2], [3], [1], [4]], [[1], [4], [2], [3]], [[2], [4], [1], [3]], [[3], [4], [1], [2]]])]
def cn_138 : List (List Nat × Nat) := [([4], 0), ([3, 1], 0), ([2, 2], 1), ([2, 1, 1], 2), ([1, 1, 1, 1], 6)]
theorem f_138 : ∀ e ∈ in_138, EF [2, 2, 1, 1] [1, 1] e := fc (fun n => by kernel_rfl) (fc (fun n => by kernel_rfl) (fc (fun n => by kernel_rfl) (fc (fun n => by kernel_rfl) (fc (fun n => by kernel_rfl) (fc (fun n => by kernel_rfl) (fc (fun n => by kernel_rfl) (fc (fun n => by kernel_rfl) (List.forall_mem_nil _))))))))
theorem c_138 : ∀ e ∈ cn_138, EC [2, 2, 1, 1] [1, 1] e := fc (by show runC _ _ _ = _; kernel_rfl) (fc (by show runC _ _ _ = _; kernel_rfl) (fc (by show runC _ _ _ = _; kernel_rfl) (fc (by show runC _ _ _ = _; kernel_rfl) (fc (by show runC _ _ _ = _; kernel_rfl) (List.forall_mem_nil _)))))
theorem k_138 : okI 4 in_138 cn_138 = true := by decide +kernel
theorem g_138 : Gd [2, 2, 1, 1] [1, 1] := ⟨in_138, cn_138, f_138, c_138, k_138⟩
def in_144 : List (List Nat × List (List (List Nat))) := [([4], []),
 ([1, 3], []),
 ([2, 2], []),
 ([3, 1], []),
 ([1, 1, 2], [[[3], [], [1], [2], [3]]]),
 ([1, 2, 1], [[[2], [], [1], [2], [3]]]),
 ([2, 1, 1], [[[1], [], [1], [2], [3]]]),
 ([1, 1, 1, 1], [[[1], [], [2], [3], [4]], [[2], [], [1], [3], [4]], [[3], [], [1], [2], [4]], [[4], [], [1], [2], [3]]])]
def cn_144 : List (List Nat × Nat) := [([4], 0), ([3, 1], 0), ([2, 2], 0), ([2, 1, 1], 1), ([1, 1, 1, 1], 4)]
theorem f_144 : ∀ e ∈ in_144, EF [2, 1, 1, 1, 1] [1, 1] e := fc (fun n => by kernel_rfl) (fc (fun n => by kernel_rfl) (fc (fun n => by kernel_rfl) (fc (fun n => by kernel_rfl) (fc (fun n => by kernel_rfl) (fc (fun n => by kernel_rfl) (fc (fun n => by kernel_rfl) (fc (fun n => by kernel_rfl) (List.forall_mem_nil _))))))))
theorem c_144 : ∀ e ∈ cn_144, EC [2, 1, 1, 1, 1] [1, 1] e := fc (by show runC _ _ _ = _; kernel_rfl) (fc (by show runC _ _ _ = _; kernel_rfl) (fc (by show runC _ _ _ = _; kernel_rfl) (fc (by show runC _ _ _ = _; kernel_rfl) (fc (by show runC _ _ _ = _; kernel_rfl) (List.forall_mem_nil _)))))
theorem k_144 : okI 4 in_144 cn_144 = true := by decide +kernel
theorem g_144 : Gd [2, 1, 1, 1, 1] [1, 1] := ⟨in_144, cn_144, f_144, c_144, k_144⟩
def in_149 : List (List Nat × List (List (List Nat))) := [([4], []),
 ([1, 3], []),
 ([2, 2], []),
 ([3, 1], []),
 ([1, 1, 2], []),
 ([1, 2, 1], []),
 ([2, 1, 1], []),
 ([1, 1, 1, 1], [[[], [], [1], [2], [3], [4]]])]
def cn_149 : List (List Nat × Nat) := [([4], 0), ([3, 1], 0), ([2, 2], 0), ([2, 1, 1], 0), ([1, 1, 1, 1], 1)]
theorem f_149 : ∀ e ∈ in_149, EF [1, 1, 1, 1, 1, 1] [1, 1] e := fc (fun n => by kernel_rfl) (fc (fun n => by kernel_rfl) (fc (fun n => by kernel_rfl) (fc (fun n => by kernel_rfl) (fc (fun n => by kernel_rfl) (fc (fun n => by kernel_rfl) (fc (fun n => by kernel_rfl) (fc (fun n => by kernel_rfl) (List.forall_mem_nil _))))))))
theorem c_149 : ∀ e ∈ cn_149, EC [1, 1, 1, 1, 1, 1] [1, 1] e := fc (by show runC _ _ _ = _; kernel_rfl) (fc (by show runC _ _ _ = _; kernel_rfl) (fc (by show runC _ _ _ = _; kernel_rfl) (fc (by show runC _ _ _ = _; kernel_rfl) (fc (by show runC _ _ _ = _; kernel_rfl) (List.forall_mem_nil _)))))
theorem k_149 : okI 4 in_149 cn_149 = true := by decide +kernel
theorem g_149 : Gd [1, 1, 1, 1, 1, 1] [1, 1] := ⟨in_149, cn_149, f_149, c_149, k_149⟩
def in_160 : List (List Nat × List (List (List Nat))) := [([4], [[[1, 1, 1, 1], []]]),
 ([1, 3], [[[1, 2, 2, 2], []]]),
 ([2, 2], [[[1, 1, 2, 2], []]]),
 ([3, 1], [[[1, 1, 1, 2], []]]),
 ([1, 1, 2], [[[1, 2, 3, 3], []]]),
 ([1, 2, 1], [[[1, 2, 2, 3], []]]),
 ([2, 1, 1], [[[1, 1, 2, 3], []]]),
 ([1, 1, 1, 1], [[[1, 2, 3, 4], []]])]
def cn_160 : List (List Nat × Nat) := [([4], 1), ([3, 1], 1), ([2, 2], 1), ([2, 1, 1], 1), ([1, 1, 1, 1], 1)]
theorem f_160 : ∀ e ∈ in_160, EF [6, 1] [2, 1] e := fc (fun n => by kernel_rfl) (fc (fun n => by kernel_rfl) (fc (fun n => by kernel_rfl) (fc (fun n => by kernel_rfl) (fc (fun n => by kernel_rfl) (fc (fun n => by kernel_rfl) (fc (fun n => by kernel_rfl) (fc (fun n => by kernel_rfl) (List.forall_mem_nil _))))))))
theorem c_160 : ∀ e ∈ cn_160, EC [6, 1] [2, 1] e := fc (by show runC _ _ _ = _; kernel_rfl) (fc (by show runC _ _ _ = _; kernel_rfl) (fc (by show runC _ _ _ = _; kernel_rfl) (fc (by show runC _ _ _ = _; kernel_rfl) (fc (by show runC _ _ _ = _; kernel_rfl) (List.forall_mem_nil _)))))
theorem k_160 : okI 4 in_160 cn_160 = true := by decide +kernel
theorem g_160 : Gd [6, 1] [2, 1] := ⟨in_160, cn_160, f_160, c_160, k_160⟩
def in_167 : List (List Nat × List (List (List Nat))) := [([7], []),
 ([1, 6], []),
 ([2, 5], []),
 ([3, 4], []),
 ([4, 3], []),
 ([5, 2], []),
 ([6, 1], []),
 ([1, 1, 5], [[[1, 3, 3, 3, 3], [2], [3]]]),
 ([1, 2, 4], [[[1, 2, 3, 3, 3], [2], [3]]]),
 ([1, 3, 3], [[[1, 2, 2, 3, 3], [2], [3]]]),
 ([1, 4, 2], [[[1, 2, 2, 2, 3], [2], [3]]]),
 ([1, 5, 1], [[[1, 2, 2, 2, 2], [2], [3]]]),
 ([2, 1, 4], [[[1, 1, 3, 3, 3], [2], [3]]]),
 ([2, 2, 3], [[[1, 1, 2, 3, 3], [2], [3]]]),
 ([2, 3, 2], [[[1, 1, 2, 2, 3], [2], [3]]]),
 ([2, 4, 1], [[[1, 1, 2, 2, 2], [2], [3]]]),
 ([3, 1, 3], [[[1, 1, 1, 3, 3], [2], [3]]]),
 ([3, 2, 2], [[[1, 1, 1, 2, 3], [2], [3]]]),
 ([3, 3, 1], [[[1, 1, 1, 2, 2], [2], [3]]]),
 ([4, 1, 2], [[[1, 1, 1, 1, 3], [2], [3]]]),
 ([4, 2, 1], [[[1, 1, 1, 1, 2], [2], [3]]]),
 ([5, 1, 1], [[[1, 1, 1, 1, 1], [2], [3]]]),
 ([1, 1, 1, 4], [[[1, 2, 4, 4, 4], [3], [4]], [[1, 3, 4, 4, 4], [2], [4]], [[1, 4, 4, 4, 4], [2], [3]]]),
 ([1, 1, 2, 3], [[[1, 2, 3, 4, 4], [3], [4]], [[1, 3, 3, 4, 4], [2], [4]], [[1, 3, 4, 4, 4], [2], [3]]]),
 ([1, 1, 3, 2], [[[1, 2, 3, 3, 4], [3], [4]], [[1, 3, 3, 3, 4], [2], [4]], [[1, 3, 3, 4, 4], [2], [3]]]),
 ([1, 1, 4, 1], [[[1, 2, 3, 3, 3], [3], [4]], [[1, 3, 3, 3, 3], [2], [4]], [[1, 3, 3, 3, 4], [2], [3]]]),
 ([1, 2, 1, 3], [[[1, 2, 2, 4, 4], [3], [4]], [[1, 2, 3, 4, 4], [2], [4]], [[1, 2, 4, 4, 4], [2], [3]]]),
 ([1, 2, 2, 2], [[[1, 2, 2, 3, 4], [3], [4]], [[1, 2, 3, 3, 4], [2], [4]], [[1, 2, 3, 4, 4], [2], [3]]]),
 ([1, 2, 3, 1], [[[1, 2, 2, 3, 3], [3], [4]], [[1, 2, 3, 3, 3], [2], [4]], [[1, 2, 3, 3, 4], [2], [3]]]),
 ([1, 3, 1, 2], [[[1, 2, 2, 2, 4], [3], [4]], [[1, 2, 2, 3, 4], [2], [4]], [[1, 2, 2, 4, 4], [2], [3]]]),
 ([1, 3, 2, 1], [[[1, 2, 2, 2, 3], [3], [4]], [[1, 2, 2, 3, 3], [2], [4]], [[1, 2, 2, 3, 4], [2], [3]]]),
 ([1, 4, 1, 1], [[[1, 2, 2, 2, 2], [3], [4]], [[1, 2, 2, 2, 3], [2], [4]], [[1, 2, 2, 2, 4], [2], [3]]]),
 ([2, 1, 1, 3], [[[1, 1, 2, 4, 4], [3], [4]], [[1, 1, 3, 4, 4], [2], [4]], [[1, 1, 4, 4, 4], [2], [3]]]),
 ([2, 1, 2, 2], [[[1, 1, 2, 3, 4], [3], [4]], [[1, 1, 3, 3, 4], [2], [4]], [[1, 1, 3, 4, 4], [2], [3]]]),
 ([2, 1, 3, 1], [[[1, 1, 2, 3, 3], [3], [4]], [[1, 1, 3, 3, 3], [2], [4]], [[1, 1, 3, 3, 4], [2], [3]]]),
 ([2, 2, 1, 2], [[[1, 1, 2, 2, 4], [3], [4]], [[1, 1, 2, 3, 4], [2], [4]], [[1, 1, 2, 4, 4], [2], [3]]]),
 ([2, 2, 2, 1], [[[1, 1, 2, 2, 3], [3], [4]], [[1, 1, 2, 3, 3], [2], [4]], [[1, 1, 2, 3, 4], [2], [3]]]),
 ([2, 3, 1, 1], [[[1, 1, 2, 2, 2], [3], [4]], [[1, 1, 2, 2, 3], [2], [4]], [[1, 1, 2, 2, 4], [2], [3]]]),
 ([3, 1, 1, 2], [[[1, 1, 1, 2, 4], [3], [4]], [[1, 1, 1, 3, 4], [2], [4]], [[1, 1, 1, 4, 4], [2], [3]]]),
 ([3, 1, 2, 1], [[[1, 1, 1, 2, 3], [3], [4]], [[1, 1, 1, 3, 3], [2], [4]], [[1, 1, 1, 3, 4], [2], [3]]]),
 ([3, 2, 1, 1], [[[1, 1, 1, 2, 2], [3], [4]], [[1, 1, 1, 2, 3], [2], [4]], [[1, 1, 1, 2, 4], [2], [3]]]),
 ([4, 1, 1, 1], [[[1, 1, 1, 1, 2], [3], [4]], [[1, 1, 1, 1, 3], [2], [4]], [[1, 1, 1, 1, 4], [2], [3]]])]
def cn_167 : List (List Nat × Nat) := [([7], 0), ([6, 1], 0), ([5, 2], 0), ([5, 1, 1], 1), ([4, 3], 0), ([4, 2, 1], 1), ([4, 1, 1, 1], 3), ([3, 3, 1], 1), ([3, 2, 2], 1), ([3, 2, 1, 1], 3), ([2, 2, 2, 1], 3)]
theorem f_167 : ∀ e ∈ in_167, EF [5, 1, 1] [] e := fc (fun n => by kernel_rfl) (fc (fun n => by kernel_rfl) (fc (fun n => by kernel_rfl) (fc (fun n => by kernel_rfl) (fc (fun n => by kernel_rfl) (fc (fun n => by kernel_rfl) (fc (fun n => by kernel_rfl) (fc (fun n => by kernel_rfl) (fc (fun n => by kernel_rfl) (fc (fun n => by kernel_rfl) (fc (fun n => by kernel_rfl) (fc (fun n => by kernel_rfl) (fc (fun n => by kernel_rfl) (fc (fun n => by kernel_rfl) (fc (fun n => by kernel_rfl) (fc (fun n => by kernel_rfl) (fc (fun n => by kernel_rfl) (fc (fun n => by kernel_rfl) (fc (fun n => by kernel_rfl) (fc (fun n => by kernel_rfl) (fc (fun n => by kernel_rfl) (fc (fun n => by kernel_rfl) (fc (fun n => by kernel_rfl) (fc (fun n => by kernel_rfl) (fc (fun n => by kernel_rfl) (fc (fun n => by kernel_rfl) (fc (fun n => by kernel_rfl) (fc (fun n => by kernel_rfl) (fc (fun n => by kernel_rfl) (fc (fun n => by kernel_rfl) (fc (fun n => by kernel_rfl) (fc (fun n => by kernel_rfl) (fc (fun n => by kernel_rfl) (fc (fun n => by kernel_rfl) (fc (fun n => by kernel_rfl) (fc (fun n => by kernel_rfl) (fc (fun n => by kernel_rfl) (fc (fun n => by kernel_rfl) (fc (fun n => by kernel_rfl) (fc (fun n => by kernel_rfl) (fc (fun n => by kernel_rfl) (fc (fun n => by kernel_rfl) (List.forall_mem_nil _))))))))))))))))))))))))))))))))))))))))))
theorem c_167 : ∀ e ∈ cn_167, EC [5, 1, 1] [] e := fc (by show runC _ _ _ = _; kernel_rfl) (fc (by show runC _ _ _ = _; kernel_rfl) (fc (by show runC _ _ _ = _; kernel_rfl) (fc (by show runC _ _ _ = _; kernel_rfl) (fc (by show runC _ _ _ = _; kernel_rfl) (fc (by show runC _ _ _ = _; kernel_rfl) (fc (by show runC _ _ _ = _; kernel_rfl) (fc (by show runC _ _ _ = _; kernel_rfl) (fc (by show runC _ _ _ = _; kernel_rfl) (fc (by show runC _ _ _ = _; kernel_rfl) (fc (by show runC _ _ _ = _; kernel_rfl) (List.forall_mem_nil _)))))))))))
theorem k_167 : okI 7 in_167 cn_167 = true := by decide +kernel
theorem g_167 : Gd [5, 1, 1] [] := ⟨in_167, cn_167, f_167, c_167, k_167⟩
def in_170 : List (List Nat × List (List (List Nat))) := [([4], []),
 ([1, 3], [[[2, 2], [1], [2]]]),
 ([2, 2], [[[1, 2], [1], [2]]]),
 ([3, 1], [[[1, 1], [1], [2]]]),
 ([1, 1, 2], [[[1, 3], [2], [3]], [[2, 3], [1], [3]], [[3, 3], [1], [2]]]),
 ([1, 2, 1], [[[1, 2], [2], [3]], [[2, 2], [1], [3]], [[2, 3], [1], [2]]]),
 ([2, 1, 1], [[[1, 1], [2], [3]], [[1, 2], [1], [3]], [[1, 3], [1], [2]]]),
 ([1, 1, 1, 1], [[[1, 2], [3], [4]], [[1, 3], [2], [4]], [[2, 3], [1], [4]], [[1, 4], [2], [3]], [[2, 4], [1], [3]], [[3, 4], [1], [2]]])]
def cn_170 : List (List Nat × Nat) := [([4], 0), ([3, 1], 1), ([2, 2], 1), ([2, 1, 1], 3), ([1, 1, 1, 1], 6)]
theorem f_170 : ∀ e ∈ in_170, EF [5, 1, 1] [3] e := fc (fun n => by kernel_rfl) (fc (fun n => by kernel_rfl) (fc (fun n => by kernel_rfl) (fc (fun n => by kernel_rfl) (fc (fun n => by kernel_rfl) (fc (fun n => by kernel_rfl) (fc (fun n => by kernel_rfl) (fc (fun n => by kernel_rfl) (List.forall_mem_nil _))))))))
theorem c_170 : ∀ e ∈ cn_170, EC [5, 1, 1] [3] e := fc (by show runC _ _ _ = _; kernel_rfl) (fc (by show runC _ _ _ = _; kernel_rfl) (fc (by show runC _ _ _ = _; kernel_rfl) (fc (by show runC _ _ _ = _; kernel_rfl) (fc (by show runC _ _ _ = _; kernel_rfl) (List.forall_mem_nil _)))))
theorem k_170 : okI 4 in_170 cn_170 = true := by decide +kernel
theorem g_170 : Gd [5, 1, 1] [3] := ⟨in_170, cn_170, f_170, c_170, k_170⟩
def in_180 : List (List Nat × List (List (List Nat))) := [([7], []),
 ([1, 6], []),
 ([2, 5], []),
 ([3, 4], []),
 ([4, 3], []),
 ([5, 2], []),
 ([6, 1], []),
 ([1, 1, 5], []),
 ([1, 2, 4], [[[1, 2, 3, 3], [2, 3], [3]]]),
 ([1, 3, 3], [[[1, 2, 2, 3], [2, 3], [3]]]),
 ([1, 4, 2], [[[1, 2, 2, 2], [2, 3], [3]]]),
 ([1, 5, 1], []),
 ([2, 1, 4], [[[1, 1, 3, 3], [2, 3], [3]]]),
 ([2, 2, 3], [[[1, 1, 2, 3], [2, 3], [3]], [[1, 1, 3, 3], [2, 2], [3]]]),
 ([2, 3, 2], [[[1, 1, 2, 2], [2, 3], [3]], [[1, 1, 2, 3], [2, 2], [3]]]),
 ([2, 4, 1], [[[1, 1, 2, 2], [2, 2], [3]]]),
 ([3, 1, 3], [[[1, 1, 1, 3], [2, 3], [3]]]),
 ([3, 2, 2], [[[1, 1, 1, 2], [2, 3], [3]], [[1, 1, 1, 3], [2, 2], [3]]]),
 ([3, 3, 1], [[[1, 1, 1, 2], [2, 2], [3]]]),
 ([4, 1, 2], [[[1, 1, 1, 1], [2, 3], [3]]]),
 ([4, 2, 1], [[[1, 1, 1, 1], [2, 2], [3]]]),
 ([5, 1, 1], []),
 ([1, 1, 1, 4], [[[1, 2, 4, 4], [3, 4], [4]], [[1, 3, 4, 4], [2, 4], [4]]]),
 ([1, 1, 2, 3], [[[1, 2, 3, 4], [3, 4], [4]], [[1, 3, 3, 4], [2, 4], [4]], [[1, 2, 4, 4], [3, 3], [4]], [[1, 3, 4, 4], [2, 4], [3]]]),
 ([1, 1, 3, 2], [[[1, 2, 3, 3], [3, 4], [4]], [[1, 3, 3, 3], [2, 4], [4]], [[1, 2, 3, 4], [3, 3], [4]], [[1, 3, 3, 4], [2, 4], [3]]]),
 ([1, 1, 4, 1], [[[1, 2, 3, 3], [3, 3], [4]], [[1, 3, 3, 3], [2, 4], [3]]]),
 ([1, 2, 1, 3], [[[1, 2, 2, 4], [3, 4], [4]], [[1, 2, 3, 4], [2, 4], [4]], [[1, 2, 4, 4], [2, 3], [4]], [[1, 2, 4, 4], [2, 4], [3]]]),
 ([1, 2, 2, 2], [[[1, 2, 2, 3], [3, 4], [4]], [[1, 2, 3, 3], [2, 4], [4]], [[1, 2, 2, 4], [3, 3], [4]], [[1, 2, 3, 4], [2, 3], [4]], [[1, 2, 3, 4], [2, 4], [3]], [[1, 2, 4, 4], [2, 3], [3]]]),
 ([1, 2, 3, 1], [[[1, 2, 2, 3], [3, 3], [4]], [[1, 2, 3, 3], [2, 3], [4]], [[1, 2, 3, 3], [2, 4], [3]], [[1, 2, 3, 4], [2, 3], [3]]]),
 ([1, 3, 1, 2], [[[1, 2, 2, 2], [3, 4], [4]], [[1, 2, 2, 3], [2, 4], [4]], [[1, 2, 2, 4], [2, 3], [4]], [[1, 2, 2, 4], [2, 4], [3]]]),
 ([1, 3, 2, 1], [[[1, 2, 2, 2], [3, 3], [4]], [[1, 2, 2, 3], [2, 3], [4]], [[1, 2, 2, 3], [2, 4], [3]], [[1, 2, 2, 4], [2, 3], [3]]]),
 ([1, 4, 1, 1], [[[1, 2, 2, 2], [2, 3], [4]], [[1, 2, 2, 2], [2, 4], [3]]]),
 ([2, 1, 1, 3], [[[1, 1, 2, 4], [3, 4], [4]], [[1, 1, 3, 4], [2, 4], [4]], [[1, 1, 4, 4], [2, 3], [4]], [[1, 1, 4, 4], [2, 4], [3]]]),
 ([2, 1, 2, 2], [[[1, 1, 2, 3], [3, 4], [4]], [[1, 1, 3, 3], [2, 4], [4]], [[1, 1, 2, 4], [3, 3], [4]], [[1, 1, 3, 4], [2, 3], [4]], [[1, 1, 3, 4], [2, 4], [3]], [[1, 1, 4, 4], [2, 3], [3]]]),
 ([2, 1, 3, 1], [[[1, 1, 2, 3], [3, 3], [4]], [[1, 1, 3, 3], [2, 3], [4]], [[1, 1, 3, 3], [2, 4], [3]], [[1, 1, 3, 4], [2, 3], [3]]]),
 ([2, 2, 1, 2], [[[1, 1, 2, 2], [3, 4], [4]], [[1, 1, 2, 3], [2, 4], [4]], [[1, 1, 2, 4], [2, 3], [4]], [[1, 1, 3, 4], [2, 2], [4]], [[1, 1, 2, 4], [2, 4], [3]], [[1, 1, 4, 4], [2, 2], [3]]]),
 ([2, 2, 2, 1], [[[1, 1, 2, 2], [3, 3], [4]], [[1, 1, 2, 3], [2, 3], [4]], [[1, 1, 3, 3], [2, 2], [4]], [[1, 1, 2, 3], [2, 4], [3]], [[1, 1, 2, 4], [2, 3], [3]], [[1, 1, 3, 4], [2, 2], [3]]]),
 ([2, 3, 1, 1], [[[1, 1, 2, 2], [2, 3], [4]], [[1, 1, 2, 3], [2, 2], [4]], [[1, 1, 2, 2], [2, 4], [3]], [[1, 1, 2, 4], [2, 2], [3]]]),
 ([3, 1, 1, 2], [[[1, 1, 1, 2], [3, 4], [4]], [[1, 1, 1, 3], [2, 4], [4]], [[1, 1, 1, 4], [2, 3], [4]], [[1, 1, 1, 4], [2, 4], [3]]]),
 ([3, 1, 2, 1], [[[1, 1, 1, 2], [3, 3], [4]], [[1, 1, 1, 3], [2, 3], [4]], [[1, 1, 1, 3], [2, 4], [3]], [[1, 1, 1, 4], [2, 3], [3]]]),
 ([3, 2, 1, 1], [[[1, 1, 1, 2], [2, 3], [4]], [[1, 1, 1, 3], [2, 2], [4]], [[1, 1, 1, 2], [2, 4], [3]], [[1, 1, 1, 4], [2, 2], [3]]]),
 ([4, 1, 1, 1], [[[1, 1, 1, 1], [2, 3], [4]], [[1, 1, 1, 1], [2, 4], [3]]])]
def cn_180 : List (List Nat × Nat) := [([7], 0), ([6, 1], 0), ([5, 2], 0), ([5, 1, 1], 0), ([4, 3], 0), ([4, 2, 1], 1), ([4, 1, 1, 1], 2), ([3, 3, 1], 1), ([3, 2, 2], 2), ([3, 2, 1, 1], 4), ([2, 2, 2, 1], 6)]
theorem f_180 : ∀ e ∈ in_180, EF [4, 2, 1] [] e := fc (fun n => by kernel_rfl) (fc (fun n => by kernel_rfl) (fc (fun n => by kernel_rfl) (fc (fun n => by kernel_rfl) (fc (fun n => by kernel_rfl) (fc (fun n => by kernel_rfl) (fc (fun n => by kernel_rfl) (fc (fun n => by kernel_rfl) (fc (fun n => by kernel_rfl) (fc (fun n => by kernel_rfl) (fc (fun n => by kernel_rfl) (fc (fun n => by kernel_rfl) (fc (fun n => by kernel_rfl) (fc (fun n => by kernel_rfl) (fc (fun n => by kernel_rfl) (fc (fun n => by kernel_rfl) (fc (fun n => by kernel_rfl) (fc (fun n => by kernel_rfl) (fc (fun n => by kernel_rfl) (fc (fun n => by kernel_rfl) (fc (fun n => by kernel_rfl) (fc (fun n => by kernel_rfl) (fc (fun n => by kernel_rfl) (fc (fun n => by kernel_rfl) (fc (fun n => by kernel_rfl) (fc (fun n => by kernel_rfl) (fc (fun n => by kernel_rfl) (fc (fun n => by kernel_rfl) (fc (fun n => by kernel_rfl) (fc (fun n => by kernel_rfl) (fc (fun n => by kernel_rfl) (fc (fun n => by kernel_rfl) (fc (fun n => by kernel_rfl) (fc (fun n => by kernel_rfl) (fc (fun n => by kernel_rfl) (fc (fun n => by kernel_rfl) (fc (fun n => by kernel_rfl) (fc (fun n => by kernel_rfl) (fc (fun n => by kernel_rfl) (fc (fun n => by kernel_rfl) (fc (fun n => by kernel_rfl) (fc (fun n => by kernel_rfl) (List.forall_mem_nil _))))))))))))))))))))))))))))))))))))))))))
theorem c_180 : ∀ e ∈ cn_180, EC [4, 2, 1] [] e := fc (by show runC _ _ _ = _; kernel_rfl) (fc (by show runC _ _ _ = _; kernel_rfl) (fc (by show runC _ _ _ = _; kernel_rfl) (fc (by show runC _ _ _ = _; kernel_rfl) (fc (by show runC _ _ _ = _; kernel_rfl) (fc (by show runC _ _ _ = _; kernel_rfl) (fc (by show runC _ _ _ = _; kernel_rfl) (fc (by show runC _ _ _ = _; kernel_rfl) (fc (by show runC _ _ _ = _; kernel_rfl) (fc (by show runC _ _ _ = _; kernel_rfl) (fc (by show runC _ _ _ = _; kernel_rfl) (List.forall_mem_nil _)))))))))))
theorem k_180 : okI 7 in_180 cn_180 = true := by decide +kernel
theorem g_180 : Gd [4, 2, 1] [] := ⟨in_180, cn_180, f_180, c_180, k_180⟩
def in_188 : List (List Nat × List (List (List Nat))) := [([6], []),
 ([1, 5], []),
 ([2, 4], []),
 ([3, 3], []),
 ([4, 2], []),
 ([5, 1], []),
 ([1, 1, 4], [[[3, 3, 3], [1], [2], [3]]]),
 ([1, 2, 3], [[[2, 3, 3], [1], [2], [3]]]),
 ([1, 3, 2], [[[2, 2, 3], [1], [2], [3]]]),
 ([1, 4, 1], [[[2, 2, 2], [1], [2], [3]]]),
 ([2, 1, 3], [[[1, 3, 3], [1], [2], [3]]]),
 ([2, 2, 2], [[[1, 2, 3], [1], [2], [3]]]),
 ([2, 3, 1], [[[1, 2, 2], [1], [2], [3]]]),
 ([3, 1, 2], [[[1, 1, 3], [1], [2], [3]]]),
 ([3, 2, 1], [[[1, 1, 2], [1], [2], [3]]]),
 ([4, 1, 1], [[[1, 1, 1], [1], [2], [3]]]),
 ([1, 1, 1, 3], [[[1, 4, 4], [2], [3], [4]], [[2, 4, 4], [1], [3], [4]], [[3, 4, 4], [1], [2], [4]], [[4, 4, 4], [1], [2], [3]]]),
 ([1, 1, 2, 2], [[[1, 3, 4], [2], [3], [4]], [[2, 3, 4], [1], [3], [4]], [[3, 3, 4], [1], [2], [4]], [[3, 4, 4], [1], [2], [3]]]),
 ([1, 1, 3, 1], [[[1, 3, 3], [2], [3], [4]], [[2, 3, 3], [1], [3], [4]], [[3, 3, 3], [1], [2], [4]], [[3, 3, 4], [1], [2], [3]]]),
 ([1, 2, 1, 2], [[[1, 2, 4], [2], [3], [4]], [[2, 2, 4], [1], [3], [4]], [[2, 3, 4], [1], [2], [4]], [[2, 4, 4], [1], [2], [3]]]),
 ([1, 2, 2, 1], [[[1, 2, 3], [2], [3], [4]], [[2, 2, 3], [1], [3], [4]], [[2, 3, 3], [1], [2], [4]], [[2, 3, 4], [1], [2], [3]]]),
 ([1, 3, 1, 1], [[[1, 2, 2], [2], [3], [4]], [[2, 2, 2], [1], [3], [4]], [[2, 2, 3], [1], [2], [4]], [[2, 2, 4], [1], [2], [3]]]),
 ([2, 1, 1, 2], [[[1, 1, 4], [2], [3], [4]], [[1, 2, 4], [1], [3], [4]], [[1, 3, 4], [1], [2], [4]], [[1, 4, 4], [1], [2], [3]]]),
 ([2, 1, 2, 1], [[[1, 1, 3], [2], [3], [4]], [[1, 2, 3], [1], [3], [4]], [[1, 3, 3], [1], [2], [4]], [[1, 3, 4], [1], [2], [3]]]),
 ([2, 2, 1, 1], [[[1, 1, 2], [2], [3], [4]], [[1, 2, 2], [1], [3], [4]], [[1, 2, 3], [1], [2], [4]], [[1, 2, 4], [1], [2], [3]]]),
 ([3, 1, 1, 1], [[[1, 1, 1], [2], [3], [4]], [[1, 1, 2], [1], [3], [4]], [[1, 1, 3], [1], [2], [4]], [[1, 1, 4], [1], [2], [3]]])]
def cn_188 : List (List Nat × Nat) := [([6], 0), ([5, 1], 0), ([4, 2], 0), ([4, 1, 1], 1), ([3, 3], 0), ([3, 2, 1], 1), ([3, 1, 1, 1], 4), ([2, 2, 2], 1), ([2, 2, 1, 1], 4)]
theorem f_188 : ∀ e ∈ in_188, EF [4, 1, 1, 1] [1] e := fc (fun n => by kernel_rfl) (fc (fun n => by kernel_rfl) (fc (fun n => by kernel_rfl) (fc (fun n => by kernel_rfl) (fc (fun n => by kernel_rfl) (fc (fun n => by kernel_rfl) (fc (fun n => by kernel_rfl) (fc (fun n => by kernel_rfl) (fc (fun n => by kernel_rfl) (fc (fun n => by kernel_rfl) (fc (fun n => by kernel_rfl) (fc (fun n => by kernel_rfl) (fc (fun n => by kernel_rfl) (fc (fun n => by kernel_rfl) (fc (fun n => by kernel_rfl) (fc (fun n => by kernel_rfl) (fc (fun n => by kernel_rfl) (fc (fun n => by kernel_rfl) (fc (fun n => by kernel_rfl) (fc (fun n => by kernel_rfl) (fc (fun n => by kernel_rfl) (fc (fun n => by kernel_rfl) (fc (fun n => by kernel_rfl) (fc (fun n => by kernel_rfl) (fc (fun n => by kernel_rfl) (fc (fun n => by kernel_rfl) (List.forall_mem_nil _))))))))))))))))))))))))))
theorem c_188 : ∀ e ∈ cn_188, EC [4, 1, 1, 1] [1] e := fc (by show runC _ _ _ = _; kernel_rfl) (fc (by show runC _ _ _ = _; kernel_rfl) (fc (by show runC _ _ _ = _; kernel_rfl) (fc (by show runC _ _ _ = _; kernel_rfl) (fc (by show runC _ _ _ = _; kernel_rfl) (fc (by show runC _ _ _ = _; kernel_rfl) (fc (by show runC _ _ _ = _; kernel_rfl) (fc (by show runC _ _ _ = _; kernel_rfl) (fc (by show runC _ _ _ = _; kernel_rfl) (List.forall_mem_nil _)))))))))
theorem k_188 : okI 6 in_188 cn_188 = true := by decide +kernel
theorem g_188 : Gd [4, 1, 1, 1] [1] := ⟨in_188, cn_188, f_188, c_188, k_188⟩
def in_191 : List (List Nat × List (List (List Nat))) := [([5], []),
 ([1, 4], [[[2, 2, 2], [], [1], [2]]]),
 ([2, 3], [[[1, 2, 2], [], [1], [2]]]),
 ([3, 2], [[[1, 1, 2], [], [1], [2]]]),
 ([4, 1], [[[1, 1, 1], [], [1], [2]]]),
 ([1, 1, 3], [[[1, 3, 3], [], [2], [3]], [[2, 3, 3], [], [1], [3]], [[3, 3, 3], [], [1], [2]]]),
 ([1, 2, 2], [[[1, 2, 3], [], [2], [3]], [[2, 2, 3], [], [1], [3]], [[2, 3, 3], [], [1], [2]]]),
 ([1, 3, 1], [[[1, 2, 2], [], [2], [3]], [[2, 2, 2], [], [1], [3]], [[2, 2, 3], [], [1], [2]]]),
 ([2, 1, 2], [[[1, 1, 3], [], [2], [3]], [[1, 2, 3], [], [1], [3]], [[1, 3, 3], [], [1], [2]]]),
 ([2, 2, 1], [[[1, 1, 2], [], [2], [3]], [[1, 2, 2], [], [1], [3]], [[1, 2, 3], [], [1], [2]]]),
 ([3, 1, 1], [[[1, 1, 1], [], [2], [3]], [[1, 1, 2], [], [1], [3]], [[1, 1, 3], [], [1], [2]]]),
 ([1, 1, 1, 2], [[[1, 2, 4], [], [3], [4]], [[1, 3, 4], [], [2], [4]], [[2, 3, 4], [], [1], [4]], [[1, 4, 4], [], [2], [3]], [[2, 4, 4], [], [1], [3]], [[3, 4, 4], [], [1], [2]]]),
 ([1, 1, 2, 1], [[[1, 2, 3], [], [3], [4]], [[1, 3, 3], [], [2], [4]], [[2, 3, 3], [], [1], [4]], [[1, 3, 4], [], [2], [3]], [[2, 3, 4], [], [1], [3]], [[3, 3, 4], [], [1], [2]]]),
 ([1, 2, 1, 1], [[[1, 2, 2], [], [3], [4]], [[1, 2, 3], [], [2], [4]], [[2, 2, 3], [], [1], [4]], [[1, 2, 4], [], [2], [3]], [[2, 2, 4], [], [1], [3]], [[2, 3, 4], [], [1], [2]]]),
 ([2, 1, 1, 1], [[[1, 1, 2], [], [3], [4]], [[1, 1, 3], [], [2], [4]], [[1, 2, 3], [], [1], [4]], [[1, 1, 4], [], [2], [3]], [[1, 2, 4], [], [1], [3]], [[1, 3, 4], [], [1], [2]]])]
def cn_191 : List (List Nat × Nat) := [([5], 0), ([4, 1], 1), ([3, 2], 1), ([3, 1, 1], 3), ([2, 2, 1], 3), ([2, 1, 1, 1], 6)]
theorem f_191 : ∀ e ∈ in_191, EF [4, 1, 1, 1] [1, 1] e := fc (fun n => by kernel_rfl) (fc (fun n => by kernel_rfl) (fc (fun n => by kernel_rfl) (fc (fun n => by kernel_rfl) (fc (fun n => by kernel_rfl) (fc (fun n => by kernel_rfl) (fc (fun n => by kernel_rfl) (fc (fun n => by kernel_rfl) (fc (fun n => by kernel_rfl) (fc (fun n => by kernel_rfl) (fc (fun n => by kernel_rfl) (fc (fun n => by kernel_rfl) (fc (fun n => by kernel_rfl) (fc (fun n => by kernel_rfl) (fc (fun n => by kernel_rfl) (List.forall_mem_nil _)))))))))))))))
theorem c_191 : ∀ e ∈ cn_191, EC [4, 1, 1, 1] [1, 1] e := fc (by show runC _ _ _ = _; kernel_rfl) (fc (by show runC _ _ _ = _; kernel_rfl) (fc (by show runC _ _ _ = _; kernel_rfl) (fc (by show runC _ _ _ = _; kernel_rfl) (fc (by show runC _ _ _ = _; kernel_rfl) (fc (by show runC _ _ _ = _; kernel_rfl) (List.forall_mem_nil _))))))
theorem k_191 : okI 5 in_191 cn_191 = true := by decide +kernel
theorem g_191 : Gd [4, 1, 1, 1] [1, 1] := ⟨in_191, cn_191, f_191, c_191, k_191⟩
def in_196 : List (List Nat × List (List (List Nat))) := [([5], []),
 ([1, 4], []),
 ([2, 3], [[[1], [1, 2, 2], [2]]]),
 ([3, 2], [[[1], [1, 1, 2], [2]]]),
 ([4, 1], []),
 ([1, 1, 3], [[[1], [2, 3, 3], [3]], [[2], [1, 3, 3], [3]]]),
 ([1, 2, 2], [[[1], [2, 2, 3], [3]], [[2], [1, 2, 3], [3]], [[2], [1, 3, 3], [2]]]),
 ([1, 3, 1], [[[1], [2, 2, 2], [3]], [[2], [1, 2, 3], [2]]]),
 ([2, 1, 2], [[[1], [1, 2, 3], [3]], [[2], [1, 1, 3], [3]], [[1], [1, 3, 3], [2]]]),
 ([2, 2, 1], [[[1], [1, 2, 2], [3]], [[1], [1, 2, 3], [2]], [[2], [1, 1, 3], [2]]]),
 ([3, 1, 1], [[[1], [1, 1, 2], [3]], [[1], [1, 1, 3], [2]]]),
 ([1, 1, 1, 2], [[[1], [2, 3, 4], [4]], [[2], [1, 3, 4], [4]], [[3], [1, 2, 4], [4]], [[1], [2, 4, 4], [3]], [[2], [1, 4, 4], [3]], [[3], [1, 4, 4], [2]]]),
 ([1, 1, 2, 1], [[[1], [2, 3, 3], [4]], [[2], [1, 3, 3], [4]], [[1], [2, 3, 4], [3]], [[2], [1, 3, 4], [3]], [[3], [1, 2, 4], [3]], [[3], [1, 3, 4], [2]]]),
 ([1, 2, 1, 1], [[[1], [2, 2, 3], [4]], [[2], [1, 2, 3], [4]], [[1], [2, 2, 4], [3]], [[2], [1, 2, 4], [3]], [[2], [1, 3, 4], [2]], [[3], [1, 2, 4], [2]]]),
 ([2, 1, 1, 1], [[[1], [1, 2, 3], [4]], [[2], [1, 1, 3], [4]], [[1], [1, 2, 4], [3]], [[2], [1, 1, 4], [3]], [[1], [1, 3, 4], [2]], [[3], [1, 1, 4], [2]]])]
def cn_196 : List (List Nat × Nat) := [([5], 0), ([4, 1], 0), ([3, 2], 1), ([3, 1, 1], 2), ([2, 2, 1], 3), ([2, 1, 1, 1], 6)]
theorem f_196 : ∀ e ∈ in_196, EF [3, 3, 1] [2] e := fc (fun n => by kernel_rfl) (fc (fun n => by kernel_rfl) (fc (fun n => by kernel_rfl) (fc (fun n => by kernel_rfl) (fc (fun n => by kernel_rfl) (fc (fun n => by kernel_rfl) (fc (fun n => by kernel_rfl) (fc (fun n => by kernel_rfl) (fc (fun n => by kernel_rfl) (fc (fun n => by kernel_rfl) (fc (fun n => by kernel_rfl) (fc (fun n => by kernel_rfl) (fc (fun n => by kernel_rfl) (fc (fun n => by kernel_rfl) (fc (fun n => by kernel_rfl) (List.forall_mem_nil _)))))))))))))))
theorem c_196 : ∀ e ∈ cn_196, EC [3, 3, 1] [2] e := fc (by show runC _ _ _ = _; kernel_rfl) (fc (by show runC _ _ _ = _; kernel_rfl) (fc (by show runC _ _ _ = _; kernel_rfl) (fc (by show runC _ _ _ = _; kernel_rfl) (fc (by show runC _ _ _ = _; kernel_rfl) (fc (by show runC _ _ _ = _; kernel_rfl) (List.forall_mem_nil _))))))
theorem k_196 : okI 5 in_196 cn_196 = true := by decide +kernel
theorem g_196 : Gd [3, 3, 1] [2] := ⟨in_196, cn_196, f_196, c_196, k_196⟩
def in_198 : List (List Nat × List (List (List Nat))) := [([5], []),
 ([1, 4], []),
 ([2, 3], [[[1, 1], [2, 2], [2]]]),
 ([3, 2], [[[1, 1], [2, 2], [1]]]),
 ([4, 1], []),
 ([1, 1, 3], [[[1, 2], [3, 3], [3]]]),
 ([1, 2, 2], [[[1, 2], [2, 3], [3]], [[1, 2], [3, 3], [2]], [[2, 2], [3, 3], [1]]]),
 ([1, 3, 1], [[[1, 2], [2, 3], [2]]]),
 ([2, 1, 2], [[[1, 1], [2, 3], [3]], [[1, 1], [3, 3], [2]], [[1, 2], [3, 3], [1]]]),
 ([2, 2, 1], [[[1, 1], [2, 2], [3]], [[1, 1], [2, 3], [2]], [[1, 2], [2, 3], [1]]]),
 ([3, 1, 1], [[[1, 1], [2, 3], [1]]]),
 ([1, 1, 1, 2], [[[1, 2], [3, 4], [4]], [[1, 3], [2, 4], [4]], [[1, 2], [4, 4], [3]], [[1, 3], [4, 4], [2]], [[2, 3], [4, 4], [1]]]),
 ([1, 1, 2, 1], [[[1, 2], [3, 3], [4]], [[1, 2], [3, 4], [3]], [[1, 3], [2, 4], [3]], [[1, 3], [3, 4], [2]], [[2, 3], [3, 4], [1]]]),
 ([1, 2, 1, 1], [[[1, 2], [2, 3], [4]], [[1, 2], [2, 4], [3]], [[1, 2], [3, 4], [2]], [[2, 2], [3, 4], [1]], [[1, 3], [2, 4], [2]]]),
 ([2, 1, 1, 1], [[[1, 1], [2, 3], [4]], [[1, 1], [2, 4], [3]], [[1, 1], [3, 4], [2]], [[1, 2], [3, 4], [1]], [[1, 3], [2, 4], [1]]])]
def cn_198 : List (List Nat × Nat) := [([5], 0), ([4, 1], 0), ([3, 2], 1), ([3, 1, 1], 1), ([2, 2, 1], 3), ([2, 1, 1, 1], 5)]
theorem f_198 : ∀ e ∈ in_198, EF [3, 3, 1] [1, 1] e := fc (fun n => by kernel_rfl) (fc (fun n => by kernel_rfl) (fc (fun n => by kernel_rfl) (fc (fun n => by kernel_rfl) (fc (fun n => by kernel_rfl) (fc (fun n => by kernel_rfl) (fc (fun n => by kernel_rfl) (fc (fun n => by kernel_rfl) (fc (fun n => by kernel_rfl) (fc (fun n => by kernel_rfl) (fc (fun n => by kernel_rfl) (fc (fun n => by kernel_rfl) (fc (fun n => by kernel_rfl) (fc (fun n => by kernel_rfl) (fc (fun n => by kernel_rfl) (List.forall_mem_nil _)))))))))))))))
theorem c_198 : ∀ e ∈ cn_198, EC [3, 3, 1] [1, 1] e := fc (by show runC _ _ _ = _; kernel_rfl) (fc (by show runC _ _ _ = _; kernel_rfl) (fc (by show runC _ _ _ = _; kernel_rfl) (fc (by show runC _ _ _ = _; kernel_rfl) (fc (by show runC _ _ _ = _; kernel_rfl) (fc (by show runC _ _ _ = _; kernel_rfl) (List.forall_mem_nil _))))))
theorem k_198 : okI 5 in_198 cn_198 = true := by decide +kernel
theorem g_198 : Gd [3, 3, 1] [1, 1] := ⟨in_198, cn_198, f_198, c_198, k_198⟩
def in_200 : List (List Nat × List (List (List Nat))) := [([4], []),
 ([1, 3], []),
 ([2, 2], [[[1, 1], [2, 2], []]]),
 ([3, 1], []),
 ([1, 1, 2], [[[1, 2], [3, 3], []]]),
 ([1, 2, 1], [[[1, 2], [2, 3], []]]),
 ([2, 1, 1], [[[1, 1], [2, 3], []]]),
 ([1, 1, 1, 1], [[[1, 2], [3, 4], []], [[1, 3], [2, 4], []]])]
def cn_200 : List (List Nat × Nat) := [([4], 0), ([3, 1], 0), ([2, 2], 1), ([2, 1, 1], 1), ([1, 1, 1, 1], 2)]
theorem f_200 : ∀ e ∈ in_200, EF [3, 3, 1] [1, 1, 1] e := fc (fun n => by kernel_rfl) (fc (fun n => by kernel_rfl) (fc (fun n => by kernel_rfl) (fc (fun n => by kernel_rfl) (fc (fun n => by kernel_rfl) (fc (fun n => by kernel_rfl) (fc (fun n => by kernel_rfl) (fc (fun n => by kernel_rfl) (List.forall_mem_nil _))))))))
theorem c_200 : ∀ e ∈ cn_200, EC [3, 3, 1] [1, 1, 1] e := fc (by show runC _ _ _ = _; kernel_rfl) (fc (by show runC _ _ _ = _; kernel_rfl) (fc (by show runC _ _ _ = _; kernel_rfl) (fc (by show runC _ _ _ = _; kernel_rfl) (fc (by show runC _ _ _ = _; kernel_rfl) (List.forall_mem_nil _)))))
theorem k_200 : okI 4 in_200 cn_200 = true := by decide +kernel
theorem g_200 : Gd [3, 3, 1] [1, 1, 1] := ⟨in_200, cn_200, f_200, c_200, k_200⟩
def in_214 : List (List Nat × List (List (List Nat))) := [([4], []),
 ([1, 3], [[[1, 2], [2], [], [2]]]),
 ([2, 2], [[[1, 1], [2], [], [2]], [[1, 2], [2], [], [1]]]),
 ([3, 1], [[[1, 1], [2], [], [1]]]),
 ([1, 1, 2], [[[1, 2], [3], [], [3]], [[1, 3], [2], [], [3]], [[1, 3], [3], [], [2]], [[2, 3], [3], [], [1]]]),
 ([1, 2, 1], [[[1, 2], [2], [], [3]], [[1, 2], [3], [], [2]], [[2, 2], [3], [], [1]], [[1, 3], [2], [], [2]]]),
 ([2, 1, 1], [[[1, 1], [2], [], [3]], [[1, 1], [3], [], [2]], [[1, 2], [3], [], [1]], [[1, 3], [2], [], [1]]]),
 ([1, 1, 1, 1], [[[1, 2], [3], [], [4]], [[1, 3], [2], [], [4]], [[1, 2], [4], [], [3]], [[1, 3], [4], [], [2]], [[2, 3], [4], [], [1]], [[1, 4], [2], [], [3]], [[1, 4], [3], [], [2]], [[2, 4], [3], [], [1]]])]
def cn_214 : List (List Nat × Nat) := [([4], 0), ([3, 1], 1), ([2, 2], 2), ([2, 1, 1], 4), ([1, 1, 1, 1], 8)]
theorem f_214 : ∀ e ∈ in_214, EF [3, 2, 1, 1] [1, 1, 1] e := fc (fun n => by kernel_rfl) (fc (fun n => by kernel_rfl) (fc (fun n => by kernel_rfl) (fc (fun n => by kernel_rfl) (fc (fun n => by kernel_rfl) (fc (fun n => by kernel_rfl) (fc (fun n => by kernel_rfl) (fc (fun n => by kernel_rfl) (List.forall_mem_nil _))))))))
theorem c_214 : ∀ e ∈ cn_214, EC [3, 2, 1, 1] [1, 1, 1] e := fc (by show runC _ _ _ = _; kernel_rfl) (fc (by show runC _ _ _ = _; kernel_rfl) (fc (by show runC _ _ _ = _; kernel_rfl) (fc (by show runC _ _ _ = _; kernel_rfl) (fc (by show runC _ _ _ = _; kernel_rfl) (List.forall_mem_nil _)))))
theorem k_214 : okI 4 in_214 cn_214 = true := by decide +kernel
theorem g_214 : Gd [3, 2, 1, 1] [1, 1, 1] := ⟨in_214, cn_214, f_214, c_214, k_214⟩
def in_216 : List (List Nat × List (List (List Nat))) := [([6], []),
 ([1, 5], []),
 ([2, 4], []),
 ([3, 3], []),
 ([4, 2], []),
 ([5, 1], []),
 ([1, 1, 4], []),
 ([1, 2, 3], []),
 ([1, 3, 2], []),
 ([1, 4, 1], []),
 ([2, 1, 3], []),
 ([2, 2, 2], []),
 ([2, 3, 1], []),
 ([3, 1, 2], []),
 ([3, 2, 1], []),
 ([4, 1, 1], []),
 ([1, 1, 1, 3], [[[4, 4], [1], [2], [3], [4]]]),
 ([1, 1, 2, 2], [[[3, 4], [1], [2], [3], [4]]]),
 ([1, 1, 3, 1], [[[3, 3], [1], [2], [3], [4]]]),
 ([1, 2, 1, 2], [[[2, 4], [1], [2], [3], [4]]]),
 ([1, 2, 2, 1], [[[2, 3], [1], [2], [3], [4]]]),
 ([1, 3, 1, 1], [[[2, 2], [1], [2], [3], [4]]]),
 ([2, 1, 1, 2], [[[1, 4], [1], [2], [3], [4]]]),
 ([2, 1, 2, 1], [[[1, 3], [1], [2], [3], [4]]]),
 ([2, 2, 1, 1], [[[1, 2], [1], [2], [3], [4]]]),
 ([3, 1, 1, 1], [[[1, 1], [1], [2], [3], [4]]])]
def cn_216 : List (List Nat × Nat) := [([6], 0), ([5, 1], 0), ([4, 2], 0), ([4, 1, 1], 0), ([3, 3], 0), ([3, 2, 1], 0), ([3, 1, 1, 1], 1), ([2, 2, 2], 0), ([2, 2, 1, 1], 1)]
theorem f_216 : ∀ e ∈ in_216, EF [3, 1, 1, 1, 1] [1] e := fc (fun n => by kernel_rfl) (fc (fun n => by kernel_rfl) (fc (fun n => by kernel_rfl) (fc (fun n => by kernel_rfl) (fc (fun n => by kernel_rfl) (fc (fun n => by kernel_rfl) (fc (fun n => by kernel_rfl) (fc (fun n => by kernel_rfl) (fc (fun n => by kernel_rfl) (fc (fun n => by kernel_rfl) (fc (fun n => by kernel_rfl) (fc (fun n => by kernel_rfl) (fc (fun n => by kernel_rfl) (fc (fun n => by kernel_rfl) (fc (fun n => by kernel_rfl) (fc (fun n => by kernel_rfl) (fc (fun n => by kernel_rfl) (fc (fun n => by kernel_rfl) (fc (fun n => by kernel_rfl) (fc (fun n => by kernel_rfl) (fc (fun n => by kernel_rfl) (fc (fun n => by kernel_rfl) (fc (fun n => by kernel_rfl) (fc (fun n => by kernel_rfl) (fc (fun n => by kernel_rfl) (fc (fun n => by kernel_rfl) (List.forall_mem_nil _))))))))))))))))))))))))))
theorem c_216 : ∀ e ∈ cn_216, EC [3, 1, 1, 1, 1] [1] e := fc (by show runC _ _ _ = _; kernel_rfl) (fc (by show runC _ _ _ = _; kernel_rfl) (fc (by show runC _ _ _ = _; kernel_rfl) (fc (by show runC _ _ _ = _; kernel_rfl) (fc (by show runC _ _ _ = _; kernel_rfl) (fc (by show runC _ _ _ = _; kernel_rfl) (fc (by show runC _ _ _ = _; kernel_rfl) (fc (by show runC _ _ _ = _; kernel_rfl) (fc (by show runC _ _ _ = _; kernel_rfl) (List.forall_mem_nil _)))))))))
theorem k_216 : okI 6 in_216 cn_216 = true := by decide +kernel
theorem g_216 : Gd [3, 1, 1, 1, 1] [1] := ⟨in_216, cn_216, f_216, c_216, k_216⟩
def in_223 : List (List Nat × List (List (List Nat))) := [([6], []),
 ([1, 5], []),
 ([2, 4], []),
 ([3, 3], []),
 ([4, 2], []),
 ([5, 1], []),
 ([1, 1, 4], []),
 ([1, 2, 3], []),
 ([1, 3, 2], []),
 ([1, 4, 1], []),
 ([2, 1, 3], []),
 ([2, 2, 2], [[[1], [1, 2], [2, 3], [3]]]),
 ([2, 3, 1], []),
 ([3, 1, 2], []),
 ([3, 2, 1], []),
 ([4, 1, 1], []),
 ([1, 1, 1, 3], []),
 ([1, 1, 2, 2], [[[1], [2, 3], [3, 4], [4]], [[2], [1, 3], [3, 4], [4]]]),
 ([1, 1, 3, 1], []),
 ([1, 2, 1, 2], [[[1], [2, 2], [3, 4], [4]], [[2], [1, 3], [2, 4], [4]]]),
 ([1, 2, 2, 1], [[[1], [2, 2], [3, 3], [4]], [[2], [1, 3], [2, 4], [3]]]),
 ([1, 3, 1, 1], []),
 ([2, 1, 1, 2], [[[1], [1, 2], [3, 4], [4]], [[1], [1, 3], [2, 4], [4]]]),
 ([2, 1, 2, 1], [[[1], [1, 2], [3, 3], [4]], [[1], [1, 3], [2, 4], [3]]]),
 ([2, 2, 1, 1], [[[1], [1, 2], [2, 3], [4]], [[1], [1, 2], [2, 4], [3]]]),
 ([3, 1, 1, 1], [])]
def cn_223 : List (List Nat × Nat) := [([6], 0), ([5, 1], 0), ([4, 2], 0), ([4, 1, 1], 0), ([3, 3], 0), ([3, 2, 1], 0), ([3, 1, 1, 1], 0), ([2, 2, 2], 1), ([2, 2, 1, 1], 2)]
theorem f_223 : ∀ e ∈ in_223, EF [2, 2, 2, 1] [1] e := fc (fun n => by kernel_rfl) (fc (fun n => by kernel_rfl) (fc (fun n => by kernel_rfl) (fc (fun n => by kernel_rfl) (fc (fun n => by kernel_rfl) (fc (fun n => by kernel_rfl) (fc (fun n => by kernel_rfl) (fc (fun n => by kernel_rfl) (fc (fun n => by kernel_rfl) (fc (fun n => by kernel_rfl) (fc (fun n => by kernel_rfl) (fc (fun n => by kernel_rfl) (fc (fun n => by kernel_rfl) (fc (fun n => by kernel_rfl) (fc (fun n => by kernel_rfl) (fc (fun n => by kernel_rfl) (fc (fun n => by kernel_rfl) (fc (fun n => by kernel_rfl) (fc (fun n => by kernel_rfl) (fc (fun n => by kernel_rfl) (fc (fun n => by kernel_rfl) (fc (fun n => by kernel_rfl) (fc (fun n => by kernel_rfl) (fc (fun n => by kernel_rfl) (fc (fun n => by kernel_rfl) (fc (fun n => by kernel_rfl) (List.forall_mem_nil _))))))))))))))))))))))))))
theorem c_223 : ∀ e ∈ cn_223, EC [2, 2, 2, 1] [1] e := fc (by show runC _ _ _ = _; kernel_rfl) (fc (by show runC _ _ _ = _; kernel_rfl) (fc (by show runC _ _ _ = _; kernel_rfl) (fc (by show runC _ _ _ = _; kernel_rfl) (fc (by show runC _ _ _ = _; kernel_rfl) (fc (by show runC _ _ _ = _; kernel_rfl) (fc (by show runC _ _ _ = _; kernel_rfl) (fc (by show runC _ _ _ = _; kernel_rfl) (fc (by show runC _ _ _ = _; kernel_rfl) (List.forall_mem_nil _)))))))))
theorem k_223 : okI 6 in_223 cn_223 = true := by decide +kernel
theorem g_223 : Gd [2, 2, 2, 1] [1] := ⟨in_223, cn_223, f_223, c_223, k_223⟩
def in_226 : List (List Nat × List (List (List Nat))) := [([4], []),
 ([1, 3], []),
 ([2, 2], [[[], [1], [1, 2], [2]]]),
 ([3, 1], []),
 ([1, 1, 2], [[[], [1], [2, 3], [3]], [[], [2], [1, 3], [3]]]),
 ([1, 2, 1], [[[], [1], [2, 2], [3]], [[], [2], [1, 3], [2]]]),
 ([2, 1, 1], [[[], [1], [1, 2], [3]], [[], [1], [1, 3], [2]]]),
 ([1, 1, 1, 1], [[[], [1], [2, 3], [4]], [[], [2], [1, 3], [4]], [[], [1], [2, 4], [3]], [[], [2], [1, 4], [3]], [[], [3], [1, 4], [2]]])]
def cn_226 : List (List Nat × Nat) := [([4], 0), ([3, 1], 0), ([2, 2], 1), ([2, 1, 1], 2), ([1, 1, 1, 1], 5)]
theorem f_226 : ∀ e ∈ in_226, EF [2, 2, 2, 1] [2, 1] e := fc (fun n => by kernel_rfl) (fc (fun n => by kernel_rfl) (fc (fun n => by kernel_rfl) (fc (fun n => by kernel_rfl) (fc (fun n => by kernel_rfl) (fc (fun n => by kernel_rfl) (fc (fun n => by kernel_rfl) (fc (fun n => by kernel_rfl) (List.forall_mem_nil _))))))))
theorem c_226 : ∀ e ∈ cn_226, EC [2, 2, 2, 1] [2, 1] e := fc (by show runC _ _ _ = _; kernel_rfl) (fc (by show runC _ _ _ = _; kernel_rfl) (fc (by show runC _ _ _ = _; kernel_rfl) (fc (by show runC _ _ _ = _; kernel_rfl) (fc (by show runC _ _ _ = _; kernel_rfl) (List.forall_mem_nil _)))))
theorem k_226 : okI 4 in_226 cn_226 = true := by decide +kernel
theorem g_226 : Gd [2, 2, 2, 1] [2, 1] := ⟨in_226, cn_226, f_226, c_226, k_226⟩
def in_231 : List (List Nat × List (List (List Nat))) := [([5], []),
 ([1, 4], []),
 ([2, 3], []),
 ([3, 2], []),
 ([4, 1], []),
 ([1, 1, 3], []),
 ([1, 2, 2], [[[2], [3], [1], [2], [3]]]),
 ([1, 3, 1], []),
 ([2, 1, 2], [[[1], [3], [1], [2], [3]]]),
 ([2, 2, 1], [[[1], [2], [1], [2], [3]]]),
 ([3, 1, 1], []),
 ([1, 1, 1, 2], [[[1], [4], [2], [3], [4]], [[2], [4], [1], [3], [4]], [[3], [4], [1], [2], [4]]]),
 ([1, 1, 2, 1], [[[1], [3], [2], [3], [4]], [[2], [3], [1], [3], [4]], [[3], [4], [1], [2], [3]]]),
 ([1, 2, 1, 1], [[[1], [2], [2], [3], [4]], [[2], [3], [1], [2], [4]], [[2], [4], [1], [2], [3]]]),
 ([2, 1, 1, 1], [[[1], [2], [1], [3], [4]], [[1], [3], [1], [2], [4]], [[1], [4], [1], [2], [3]]])]
def cn_231 : List (List Nat × Nat) := [([5], 0), ([4, 1], 0), ([3, 2], 0), ([3, 1, 1], 0), ([2, 2, 1], 1), ([2, 1, 1, 1], 3)]
theorem f_231 : ∀ e ∈ in_231, EF [2, 2, 1, 1, 1] [1, 1] e := fc (fun n => by kernel_rfl) (fc (fun n => by kernel_rfl) (fc (fun n => by kernel_rfl) (fc (fun n => by kernel_rfl) (fc (fun n => by kernel_rfl) (fc (fun n => by kernel_rfl) (fc (fun n => by kernel_rfl) (fc (fun n => by kernel_rfl) (fc (fun n => by kernel_rfl) (fc (fun n => by kernel_rfl) (fc (fun n => by kernel_rfl) (fc (fun n => by kernel_rfl) (fc (fun n => by kernel_rfl) (fc (fun n => by kernel_rfl) (fc (fun n => by kernel_rfl) (List.forall_mem_nil _)))))))))))))))
theorem c_231 : ∀ e ∈ cn_231, EC [2, 2, 1, 1, 1] [1, 1] e := fc (by show runC _ _ _ = _; kernel_rfl) (fc (by show runC _ _ _ = _; kernel_rfl) (fc (by show runC _ _ _ = _; kernel_rfl) (fc (by show runC _ _ _ = _; kernel_rfl) (fc (by show runC _ _ _ = _; kernel_rfl) (fc (by show runC _ _ _ = _; kernel_rfl) (List.forall_mem_nil _))))))
theorem k_231 : okI 5 in_231 cn_231 = true := by decide +kernel
theorem g_231 : Gd [2, 2, 1, 1, 1] [1, 1] := ⟨in_231, cn_231, f_231, c_231, k_231⟩
def in_233 : List (List Nat × List (List (List Nat))) := [([4], []),
 ([1, 3], []),
 ([2, 2], [[[1], [2], [], [1], [2]]]),
 ([3, 1], []),
 ([1, 1, 2], [[[1], [3], [], [2], [3]], [[2], [3], [], [1], [3]]]),
 ([1, 2, 1], [[[1], [2], [], [2], [3]], [[2], [3], [], [1], [2]]]),
 ([2, 1, 1], [[[1], [2], [], [1], [3]], [[1], [3], [], [1], [2]]]),
 ([1, 1, 1, 1], [[[1], [2], [], [3], [4]], [[1], [3], [], [2], [4]], [[2], [3], [], [1], [4]], [[1], [4], [], [2], [3]], [[2], [4], [], [1], [3]], [[3], [4], [], [1], [2]]])]
def cn_233 : List (List Nat × Nat) := [([4], 0), ([3, 1], 0), ([2, 2], 1), ([2, 1, 1], 2), ([1, 1, 1, 1], 6)]
theorem f_233 : ∀ e ∈ in_233, EF [2, 2, 1, 1, 1] [1, 1, 1] e := fc (fun n => by kernel_rfl) (fc (fun n => by kernel_rfl) (fc (fun n => by kernel_rfl) (fc (fun n => by kernel_rfl) (fc (fun n => by kernel_rfl) (fc (fun n => by kernel_rfl) (fc (fun n => by kernel_rfl) (fc (fun n => by kernel_rfl) (List.forall_mem_nil _))))))))
theorem c_233 : ∀ e ∈ cn_233, EC [2, 2, 1, 1, 1] [1, 1, 1] e := fc (by show runC _ _ _ = _; kernel_rfl) (fc (by show runC _ _ _ = _; kernel_rfl) (fc (by show runC _ _ _ = _; kernel_rfl) (fc (by show runC _ _ _ = _; kernel_rfl) (fc (by show runC _ _ _ = _; kernel_rfl) (List.forall_mem_nil _)))))
theorem k_233 : okI 4 in_233 cn_233 = true := by decide +kernel
theorem g_233 : Gd [2, 2, 1, 1, 1] [1, 1, 1] := ⟨in_233, cn_233, f_233, c_233, k_233⟩
def in_239 : List (List Nat × List (List (List Nat))) := [([4], []),
 ([1, 3], []),
 ([2, 2], []),
 ([3, 1], []),
 ([1, 1, 2], [[[3], [], [], [1], [2], [3]]]),
 ([1, 2, 1], [[[2], [], [], [1], [2], [3]]]),
 ([2, 1, 1], [[[1], [], [], [1], [2], [3]]]),
 ([1, 1, 1, 1], [[[1], [], [], [2], [3], [4]], [[2], [], [], [1], [3], [4]], [[3], [], [], [1], [2], [4]], [[4], [], [], [1], [2], [3]]])]
def cn_239 : List (List Nat × Nat) := [([4], 0), ([3, 1], 0), ([2, 2], 0), ([2, 1, 1], 1), ([1, 1, 1, 1], 4)]
theorem f_239 : ∀ e ∈ in_239, EF [2, 1, 1, 1, 1, 1] [1, 1, 1] e := fc (fun n => by kernel_rfl) (fc (fun n => by kernel_rfl) (fc (fun n => by kernel_rfl) (fc (fun n => by kernel_rfl) (fc (fun n => by kernel_rfl) (fc (fun n => by kernel_rfl) (fc (fun n => by kernel_rfl) (fc (fun n => by kernel_rfl) (List.forall_mem_nil _))))))))
theorem c_239 : ∀ e ∈ cn_239, EC [2, 1, 1, 1, 1, 1] [1, 1, 1] e := fc (by show runC _ _ _ = _; kernel_rfl) (fc (by show runC _ _ _ = _; kernel_rfl) (fc (by show runC _ _ _ = _; kernel_rfl) (fc (by show runC _ _ _ = _; kernel_rfl) (fc (by show runC _ _ _ = _; kernel_rfl) (List.forall_mem_nil _)))))
theorem k_239 : okI 4 in_239 cn_239 = true := by decide +kernel
theorem g_239 : Gd [2, 1, 1, 1, 1, 1] [1, 1, 1] := ⟨in_239, cn_239, f_239, c_239, k_239⟩
def in_241 : List (List Nat × List (List (List Nat))) := [([6], []),
 ([1, 5], []),
 ([2, 4], []),
 ([3, 3], []),
 ([4, 2], []),
 ([5, 1], []),
 ([1, 1, 4], []),
 ([1, 2, 3], []),
 ([1, 3, 2], []),
 ([1, 4, 1], []),
 ([2, 1, 3], []),
 ([2, 2, 2], []),
 ([2, 3, 1], []),
 ([3, 1, 2], []),
 ([3, 2, 1], []),
 ([4, 1, 1], []),
 ([1, 1, 1, 3], []),
 ([1, 1, 2, 2], []),
 ([1, 1, 3, 1], []),
 ([1, 2, 1, 2], []),
 ([1, 2, 2, 1], []),
 ([1, 3, 1, 1], []),
 ([2, 1, 1, 2], []),
 ([2, 1, 2, 1], []),
 ([2, 2, 1, 1], []),
 ([3, 1, 1, 1], [])]
def cn_241 : List (List Nat × Nat) := [([6], 0), ([5, 1], 0), ([4, 2], 0), ([4, 1, 1], 0), ([3, 3], 0), ([3, 2, 1], 0), ([3, 1, 1, 1], 0), ([2, 2, 2], 0), ([2, 2, 1, 1], 0)]
theorem f_241 : ∀ e ∈ in_241, EF [1, 1, 1, 1, 1, 1, 1] [1] e := fc (fun n => by kernel_rfl) (fc (fun n => by kernel_rfl) (fc (fun n => by kernel_rfl) (fc (fun n => by kernel_rfl) (fc (fun n => by kernel_rfl) (fc (fun n => by kernel_rfl) (fc (fun n => by kernel_rfl) (fc (fun n => by kernel_rfl) (fc (fun n => by kernel_rfl) (fc (fun n => by kernel_rfl) (fc (fun n => by kernel_rfl) (fc (fun n => by kernel_rfl) (fc (fun n => by kernel_rfl) (fc (fun n => by kernel_rfl) (fc (fun n => by kernel_rfl) (fc (fun n => by kernel_rfl) (fc (fun n => by kernel_rfl) (fc (fun n => by kernel_rfl) (fc (fun n => by kernel_rfl) (fc (fun n => by kernel_rfl) (fc (fun n => by kernel_rfl) (fc (fun n => by kernel_rfl) (fc (fun n => by kernel_rfl) (fc (fun n => by kernel_rfl) (fc (fun n => by kernel_rfl) (fc (fun n => by kernel_rfl) (List.forall_mem_nil _))))))))))))))))))))))))))
theorem c_241 : ∀ e ∈ cn_241, EC [1, 1, 1, 1, 1, 1, 1] [1] e := fc (by show runC _ _ _ = _; kernel_rfl) (fc (by show runC _ _ _ = _; kernel_rfl) (fc (by show runC _ _ _ = _; kernel_rfl) (fc (by show runC _ _ _ = _; kernel_rfl) (fc (by show runC _ _ _ = _; kernel_rfl) (fc (by show runC _ _ _ = _; kernel_rfl) (fc (by show runC _ _ _ = _; kernel_rfl) (fc (by show runC _ _ _ = _; kernel_rfl) (fc (by show runC _ _ _ = _; kernel_rfl) (List.forall_mem_nil _)))))))))
theorem k_241 : okI 6 in_241 cn_241 = true := by decide +kernel
theorem g_241 : Gd [1, 1, 1, 1, 1, 1, 1] [1] := ⟨in_241, cn_241, f_241, c_241, k_241⟩
end K14
set_option maxHeartbeats 0
noncomputable section
namespace K14
open PySem L2 Pd Gn PySem.Spec PyProof.Rows Zq Hx
def in_4 : List (List Nat × List (List (List Nat))) := [([1], [[[1]]])]
def cn_4 : List (List Nat × Nat) := [([1], 1)]
theorem f_4 : ∀ e ∈ in_4, EF [2] [1] e := fc (fun n => by kernel_rfl) (List.forall_mem_nil _)
theorem c_4 : ∀ e ∈ cn_4, EC [2] [1] e := fc (by show runC _ _ _ = _; kernel_rfl) (List.forall_mem_nil _)
theorem k_4 : okI 1 in_4 cn_4 = true := by decide +kernel
theorem g_4 : Gd [2] [1] := ⟨in_4, cn_4, f_4, c_4, k_4⟩
def in_8 : List (List Nat × List (List (List Nat))) := [([], [[[], []]])]
def cn_8 : List (List Nat × Nat) := [([], 1)]
theorem f_8 : ∀ e ∈ in_8, EF [1, 1] [1, 1] e := fc (fun n => by kernel_rfl) (List.forall_mem_nil _)
theorem c_8 : ∀ e ∈ cn_8, EC [1, 1] [1, 1] e := fc (by show runC _ _ _ = _; kernel_rfl) (List.forall_mem_nil _)
theorem k_8 : okI 0 in_8 cn_8 = true := by decide +kernel
theorem g_8 : Gd [1, 1] [1, 1] := ⟨in_8, cn_8, f_8, c_8, k_8⟩
def in_12 : List (List Nat × List (List (List Nat))) := [([], [[[]]])]
def cn_12 : List (List Nat × Nat) := [([], 1)]
theorem f_12 : ∀ e ∈ in_12, EF [3] [3] e := fc (fun n => by kernel_rfl) (List.forall_mem_nil _)
theorem c_12 : ∀ e ∈ cn_12, EC [3] [3] e := fc (by show runC _ _ _ = _; kernel_rfl) (List.forall_mem_nil _)
theorem k_12 : okI 0 in_12 cn_12 = true := by decide +kernel
theorem g_12 : Gd [3] [3] := ⟨in_12, cn_12, f_12, c_12, k_12⟩
def in_27 : List (List Nat × List (List (List Nat))) := [([3], [[[1, 1], [1]]]),
 ([1, 2], [[[1, 2], [2]], [[2, 2], [1]]]),
 ([2, 1], [[[1, 1], [2]], [[1, 2], [1]]]),
 ([1, 1, 1], [[[1, 2], [3]], [[1, 3], [2]], [[2, 3], [1]]])]
def cn_27 : List (List Nat × Nat) := [([3], 1), ([2, 1], 2), ([1, 1, 1], 3)]
theorem f_27 : ∀ e ∈ in_27, EF [3, 1] [1] e := fc (fun n => by kernel_rfl) (fc (fun n => by kernel_rfl) (fc (fun n => by kernel_rfl) (fc (fun n => by kernel_rfl) (List.forall_mem_nil _))))
theorem c_27 : ∀ e ∈ cn_27, EC [3, 1] [1] e := fc (by show runC _ _ _ = _; kernel_rfl) (fc (by show runC _ _ _ = _; kernel_rfl) (fc (by show runC _ _ _ = _; kernel_rfl) (List.forall_mem_nil _)))
theorem k_27 : okI 3 in_27 cn_27 = true := by decide +kernel
theorem g_27 : Gd [3, 1] [1] := ⟨in_27, cn_27, f_27, c_27, k_27⟩
def in_28 : List (List Nat × List (List (List Nat))) := [([2], [[[1], [1]]]),
 ([1, 1], [[[1], [2]], [[2], [1]]])]
def cn_28 : List (List Nat × Nat) := [([2], 1), ([1, 1], 2)]
theorem f_28 : ∀ e ∈ in_28, EF [3, 1] [2] e := fc (fun n => by kernel_rfl) (fc (fun n => by kernel_rfl) (List.forall_mem_nil _))
theorem c_28 : ∀ e ∈ cn_28, EC [3, 1] [2] e := fc (by show runC _ _ _ = _; kernel_rfl) (fc (by show runC _ _ _ = _; kernel_rfl) (List.forall_mem_nil _))
theorem k_28 : okI 2 in_28 cn_28 = true := by decide +kernel
theorem g_28 : Gd [3, 1] [2] := ⟨in_28, cn_28, f_28, c_28, k_28⟩
def in_36 : List (List Nat × List (List (List Nat))) := [([1], [[[], [1]]])]
def cn_36 : List (List Nat × Nat) := [([1], 1)]
theorem f_36 : ∀ e ∈ in_36, EF [2, 2] [2, 1] e := fc (fun n => by kernel_rfl) (List.forall_mem_nil _)
theorem c_36 : ∀ e ∈ cn_36, EC [2, 2] [2, 1] e := fc (by show runC _ _ _ = _; kernel_rfl) (List.forall_mem_nil _)
theorem k_36 : okI 1 in_36 cn_36 = true := by decide +kernel
theorem g_36 : Gd [2, 2] [2, 1] := ⟨in_36, cn_36, f_36, c_36, k_36⟩
def in_37 : List (List Nat × List (List (List Nat))) := [([4], []),
 ([1, 3], []),
 ([2, 2], []),
 ([3, 1], []),
 ([1, 1, 2], [[[1, 3], [2], [3]]]),
 ([1, 2, 1], [[[1, 2], [2], [3]]]),
 ([2, 1, 1], [[[1, 1], [2], [3]]]),
 ([1, 1, 1, 1], [[[1, 2], [3], [4]], [[1, 3], [2], [4]], [[1, 4], [2], [3]]])]
def cn_37 : List (List Nat × Nat) := [([4], 0), ([3, 1], 0), ([2, 2], 0), ([2, 1, 1], 1), ([1, 1, 1, 1], 3)]
theorem f_37 : ∀ e ∈ in_37, EF [2, 1, 1] [] e := fc (fun n => by kernel_rfl) (fc (fun n => by kernel_rfl) (fc (fun n => by kernel_rfl) (fc (fun n => by kernel_rfl) (fc (fun n => by kernel_rfl) (fc (fun n => by kernel_rfl) (fc (fun n => by kernel_rfl) (fc (fun n => by kernel_rfl) (List.forall_mem_nil _))))))))
theorem c_37 : ∀ e ∈ cn_37, EC [2, 1, 1] [] e := fc (by show runC _ _ _ = _; kernel_rfl) (fc (by show runC _ _ _ = _; kernel_rfl) (fc (by show runC _ _ _ = _; kernel_rfl) (fc (by show runC _ _ _ = _; kernel_rfl) (fc (by show runC _ _ _ = _; kernel_rfl) (List.forall_mem_nil _)))))
theorem k_37 : okI 4 in_37 cn_37 = true := by decide +kernel
theorem g_37 : Gd [2, 1, 1] [] := ⟨in_37, cn_37, f_37, c_37, k_37⟩
def in_39 : List (List Nat × List (List (List Nat))) := [([2], []),
 ([1, 1], [[[], [1], [2]]])]
def cn_39 : List (List Nat × Nat) := [([2], 0), ([1, 1], 1)]
theorem f_39 : ∀ e ∈ in_39, EF [2, 1, 1] [2] e := fc (fun n => by kernel_rfl) (fc (fun n => by kernel_rfl) (List.forall_mem_nil _))
theorem c_39 : ∀ e ∈ cn_39, EC [2, 1, 1] [2] e := fc (by show runC _ _ _ = _; kernel_rfl) (fc (by show runC _ _ _ = _; kernel_rfl) (List.forall_mem_nil _))
theorem k_39 : okI 2 in_39 cn_39 = true := by decide +kernel
theorem g_39 : Gd [2, 1, 1] [2] := ⟨in_39, cn_39, f_39, c_39, k_39⟩
def in_43 : List (List Nat × List (List (List Nat))) := [([4], []),
 ([1, 3], []),
 ([2, 2], []),
 ([3, 1], []),
 ([1, 1, 2], []),
 ([1, 2, 1], []),
 ([2, 1, 1], []),
 ([1, 1, 1, 1], [[[1], [2], [3], [4]]])]
def cn_43 : List (List Nat × Nat) := [([4], 0), ([3, 1], 0), ([2, 2], 0), ([2, 1, 1], 0), ([1, 1, 1, 1], 1)]
theorem f_43 : ∀ e ∈ in_43, EF [1, 1, 1, 1] [] e := fc (fun n => by kernel_rfl) (fc (fun n => by kernel_rfl) (fc (fun n => by kernel_rfl) (fc (fun n => by kernel_rfl) (fc (fun n => by kernel_rfl) (fc (fun n => by kernel_rfl) (fc (fun n => by kernel_rfl) (fc (fun n => by kernel_rfl) (List.forall_mem_nil _))))))))
theorem c_43 : ∀ e ∈ cn_43, EC [1, 1, 1, 1] [] e := fc (by show runC _ _ _ = _; kernel_rfl) (fc (by show runC _ _ _ = _; kernel_rfl) (fc (by show runC _ _ _ = _; kernel_rfl) (fc (by show runC _ _ _ = _; kernel_rfl) (fc (by show runC _ _ _ = _; kernel_rfl) (List.forall_mem_nil _)))))
theorem k_43 : okI 4 in_43 cn_43 = true := by decide +kernel
theorem g_43 : Gd [1, 1, 1, 1] [] := ⟨in_43, cn_43, f_43, c_43, k_43⟩
def in_51 : List (List Nat × List (List (List Nat))) := [([5], []),
 ([1, 4], [[[1, 2, 2, 2], [2]]]),
 ([2, 3], [[[1, 1, 2, 2], [2]]]),
 ([3, 2], [[[1, 1, 1, 2], [2]]]),
 ([4, 1], [[[1, 1, 1, 1], [2]]]),
 ([1, 1, 3], [[[1, 2, 3, 3], [3]], [[1, 3, 3, 3], [2]]]),
 ([1, 2, 2], [[[1, 2, 2, 3], [3]], [[1, 2, 3, 3], [2]]]),
 ([1, 3, 1], [[[1, 2, 2, 2], [3]], [[1, 2, 2, 3], [2]]]),
 ([2, 1, 2], [[[1, 1, 2, 3], [3]], [[1, 1, 3, 3], [2]]]),
 ([2, 2, 1], [[[1, 1, 2, 2], [3]], [[1, 1, 2, 3], [2]]]),
 ([3, 1, 1], [[[1, 1, 1, 2], [3]], [[1, 1, 1, 3], [2]]]),
 ([1, 1, 1, 2], [[[1, 2, 3, 4], [4]], [[1, 2, 4, 4], [3]], [[1, 3, 4, 4], [2]]]),
 ([1, 1, 2, 1], [[[1, 2, 3, 3], [4]], [[1, 2, 3, 4], [3]], [[1, 3, 3, 4], [2]]]),
 ([1, 2, 1, 1], [[[1, 2, 2, 3], [4]], [[1, 2, 2, 4], [3]], [[1, 2, 3, 4], [2]]]),
 ([2, 1, 1, 1], [[[1, 1, 2, 3], [4]], [[1, 1, 2, 4], [3]], [[1, 1, 3, 4], [2]]])]
def cn_51 : List (List Nat × Nat) := [([5], 0), ([4, 1], 1), ([3, 2], 1), ([3, 1, 1], 2), ([2, 2, 1], 2), ([2, 1, 1, 1], 3)]
theorem f_51 : ∀ e ∈ in_51, EF [4, 1] [] e := fc (fun n => by kernel_rfl) (fc (fun n => by kernel_rfl) (fc (fun n => by kernel_rfl) (fc (fun n => by kernel_rfl) (fc (fun n => by kernel_rfl) (fc (fun n => by kernel_rfl) (fc (fun n => by kernel_rfl) (fc (fun n => by kernel_rfl) (fc (fun n => by kernel_rfl) (fc (fun n => by kernel_rfl) (fc (fun n => by kernel_rfl) (fc (fun n => by kernel_rfl) (fc (fun n => by kernel_rfl) (fc (fun n => by kernel_rfl) (fc (fun n => by kernel_rfl) (List.forall_mem_nil _)))))))))))))))
theorem c_51 : ∀ e ∈ cn_51, EC [4, 1] [] e := fc (by show runC _ _ _ = _; kernel_rfl) (fc (by show runC _ _ _ = _; kernel_rfl) (fc (by show runC _ _ _ = _; kernel_rfl) (fc (by show runC _ _ _ = _; kernel_rfl) (fc (by show runC _ _ _ = _; kernel_rfl) (fc (by show runC _ _ _ = _; kernel_rfl) (List.forall_mem_nil _))))))
theorem k_51 : okI 5 in_51 cn_51 = true := by decide +kernel
theorem g_51 : Gd [4, 1] [] := ⟨in_51, cn_51, f_51, c_51, k_51⟩
def in_56 : List (List Nat × List (List (List Nat))) := [([2], [[[1, 1], []]]),
 ([1, 1], [[[1, 2], []]])]
def cn_56 : List (List Nat × Nat) := [([2], 1), ([1, 1], 1)]
theorem f_56 : ∀ e ∈ in_56, EF [4, 1] [2, 1] e := fc (fun n => by kernel_rfl) (fc (fun n => by kernel_rfl) (List.forall_mem_nil _))
theorem c_56 : ∀ e ∈ cn_56, EC [4, 1] [2, 1] e := fc (by show runC _ _ _ = _; kernel_rfl) (fc (by show runC _ _ _ = _; kernel_rfl) (List.forall_mem_nil _))
theorem k_56 : okI 2 in_56 cn_56 = true := by decide +kernel
theorem g_56 : Gd [4, 1] [2, 1] := ⟨in_56, cn_56, f_56, c_56, k_56⟩
def in_58 : List (List Nat × List (List (List Nat))) := [([4], []),
 ([1, 3], [[[1, 2], [2, 2]]]),
 ([2, 2], [[[1, 1], [2, 2]], [[1, 2], [1, 2]]]),
 ([3, 1], [[[1, 1], [1, 2]]]),
 ([1, 1, 2], [[[1, 2], [3, 3]], [[1, 3], [2, 3]], [[2, 3], [1, 3]]]),
 ([1, 2, 1], [[[1, 2], [2, 3]], [[2, 2], [1, 3]], [[1, 3], [2, 2]]]),
 ([2, 1, 1], [[[1, 1], [2, 3]], [[1, 2], [1, 3]], [[1, 3], [1, 2]]]),
 ([1, 1, 1, 1], [[[1, 2], [3, 4]], [[1, 3], [2, 4]], [[2, 3], [1, 4]], [[1, 4], [2, 3]], [[2, 4], [1, 3]]])]
def cn_58 : List (List Nat × Nat) := [([4], 0), ([3, 1], 1), ([2, 2], 2), ([2, 1, 1], 3), ([1, 1, 1, 1], 5)]
theorem f_58 : ∀ e ∈ in_58, EF [3, 2] [1] e := fc (fun n => by kernel_rfl) (fc (fun n => by kernel_rfl) (fc (fun n => by kernel_rfl) (fc (fun n => by kernel_rfl) (fc (fun n => by kernel_rfl) (fc (fun n => by kernel_rfl) (fc (fun n => by kernel_rfl) (fc (fun n => by kernel_rfl) (List.forall_mem_nil _))))))))
theorem c_58 : ∀ e ∈ cn_58, EC [3, 2] [1] e := fc (by show runC _ _ _ = _; kernel_rfl) (fc (by show runC _ _ _ = _; kernel_rfl) (fc (by show runC _ _ _ = _; kernel_rfl) (fc (by show runC _ _ _ = _; kernel_rfl) (fc (by show runC _ _ _ = _; kernel_rfl) (List.forall_mem_nil _)))))
theorem k_58 : okI 4 in_58 cn_58 = true := by decide +kernel
theorem g_58 : Gd [3, 2] [1] := ⟨in_58, cn_58, f_58, c_58, k_58⟩
def in_67 : List (List Nat × List (List (List Nat))) := [([3], [[[1, 1], [], [1]]]),
 ([1, 2], [[[1, 2], [], [2]], [[2, 2], [], [1]]]),
 ([2, 1], [[[1, 1], [], [2]], [[1, 2], [], [1]]]),
 ([1, 1, 1], [[[1, 2], [], [3]], [[1, 3], [], [2]], [[2, 3], [], [1]]])]
def cn_67 : List (List Nat × Nat) := [([3], 1), ([2, 1], 2), ([1, 1, 1], 3)]
theorem f_67 : ∀ e ∈ in_67, EF [3, 1, 1] [1, 1] e := fc (fun n => by kernel_rfl) (fc (fun n => by kernel_rfl) (fc (fun n => by kernel_rfl) (fc (fun n => by kernel_rfl) (List.forall_mem_nil _))))
theorem c_67 : ∀ e ∈ cn_67, EC [3, 1, 1] [1, 1] e := fc (by show runC _ _ _ = _; kernel_rfl) (fc (by show runC _ _ _ = _; kernel_rfl) (fc (by show runC _ _ _ = _; kernel_rfl) (List.forall_mem_nil _)))
theorem k_67 : okI 3 in_67 cn_67 = true := by decide +kernel
theorem g_67 : Gd [3, 1, 1] [1, 1] := ⟨in_67, cn_67, f_67, c_67, k_67⟩
def in_68 : List (List Nat × List (List (List Nat))) := [([2], [[[1], [], [1]]]),
 ([1, 1], [[[1], [], [2]], [[2], [], [1]]])]
def cn_68 : List (List Nat × Nat) := [([2], 1), ([1, 1], 2)]
theorem f_68 : ∀ e ∈ in_68, EF [3, 1, 1] [2, 1] e := fc (fun n => by kernel_rfl) (fc (fun n => by kernel_rfl) (List.forall_mem_nil _))
theorem c_68 : ∀ e ∈ cn_68, EC [3, 1, 1] [2, 1] e := fc (by show runC _ _ _ = _; kernel_rfl) (fc (by show runC _ _ _ = _; kernel_rfl) (List.forall_mem_nil _))
theorem k_68 : okI 2 in_68 cn_68 = true := by decide +kernel
theorem g_68 : Gd [3, 1, 1] [2, 1] := ⟨in_68, cn_68, f_68, c_68, k_68⟩
def in_75 : List (List Nat × List (List (List Nat))) := [([2], []),
 ([1, 1], [[[1], [2], []]])]
def cn_75 : List (List Nat × Nat) := [([2], 0), ([1, 1], 1)]
theorem f_75 : ∀ e ∈ in_75, EF [2, 2, 1] [1, 1, 1] e := fc (fun n => by kernel_rfl) (fc (fun n => by kernel_rfl) (List.forall_mem_nil _))
theorem c_75 : ∀ e ∈ cn_75, EC [2, 2, 1] [1, 1, 1] e := fc (by show runC _ _ _ = _; kernel_rfl) (fc (by show runC _ _ _ = _; kernel_rfl) (List.forall_mem_nil _))
theorem k_75 : okI 2 in_75 cn_75 = true := by decide +kernel
theorem g_75 : Gd [2, 2, 1] [1, 1, 1] := ⟨in_75, cn_75, f_75, c_75, k_75⟩
def in_79 : List (List Nat × List (List (List Nat))) := [([3], []),
 ([1, 2], [[[2], [], [1], [2]]]),
 ([2, 1], [[[1], [], [1], [2]]]),
 ([1, 1, 1], [[[1], [], [2], [3]], [[2], [], [1], [3]], [[3], [], [1], [2]]])]
def cn_79 : List (List Nat × Nat) := [([3], 0), ([2, 1], 1), ([1, 1, 1], 3)]
theorem f_79 : ∀ e ∈ in_79, EF [2, 1, 1, 1] [1, 1] e := fc (fun n => by kernel_rfl) (fc (fun n => by kernel_rfl) (fc (fun n => by kernel_rfl) (fc (fun n => by kernel_rfl) (List.forall_mem_nil _))))
theorem c_79 : ∀ e ∈ cn_79, EC [2, 1, 1, 1] [1, 1] e := fc (by show runC _ _ _ = _; kernel_rfl) (fc (by show runC _ _ _ = _; kernel_rfl) (fc (by show runC _ _ _ = _; kernel_rfl) (List.forall_mem_nil _)))
theorem k_79 : okI 3 in_79 cn_79 = true := by decide +kernel
theorem g_79 : Gd [2, 1, 1, 1] [1, 1] := ⟨in_79, cn_79, f_79, c_79, k_79⟩
def in_107 : List (List Nat × List (List (List Nat))) := [([3], [[[1, 1], [], [1]]]),
 ([1, 2], [[[1, 2], [], [2]], [[2, 2], [], [1]]]),
 ([2, 1], [[[1, 1], [], [2]], [[1, 2], [], [1]]]),
 ([1, 1, 1], [[[1, 2], [], [3]], [[1, 3], [], [2]], [[2, 3], [], [1]]])]
def cn_107 : List (List Nat × Nat) := [([3], 1), ([2, 1], 2), ([1, 1, 1], 3)]
theorem f_107 : ∀ e ∈ in_107, EF [4, 1, 1] [2, 1] e := fc (fun n => by kernel_rfl) (fc (fun n => by kernel_rfl) (fc (fun n => by kernel_rfl) (fc (fun n => by kernel_rfl) (List.forall_mem_nil _))))
theorem c_107 : ∀ e ∈ cn_107, EC [4, 1, 1] [2, 1] e := fc (by show runC _ _ _ = _; kernel_rfl) (fc (by show runC _ _ _ = _; kernel_rfl) (fc (by show runC _ _ _ = _; kernel_rfl) (List.forall_mem_nil _)))
theorem k_107 : okI 3 in_107 cn_107 = true := by decide +kernel
theorem g_107 : Gd [4, 1, 1] [2, 1] := ⟨in_107, cn_107, f_107, c_107, k_107⟩
def in_114 : List (List Nat × List (List (List Nat))) := [([3], []),
 ([1, 2], [[[1], [2, 2]]]),
 ([2, 1], [[[1], [1, 2]]]),
 ([1, 1, 1], [[[1], [2, 3]], [[2], [1, 3]]])]
def cn_114 : List (List Nat × Nat) := [([3], 0), ([2, 1], 1), ([1, 1, 1], 2)]
theorem f_114 : ∀ e ∈ in_114, EF [3, 3] [2, 1] e := fc (fun n => by kernel_rfl) (fc (fun n => by kernel_rfl) (fc (fun n => by kernel_rfl) (fc (fun n => by kernel_rfl) (List.forall_mem_nil _))))
theorem c_114 : ∀ e ∈ cn_114, EC [3, 3] [2, 1] e := fc (by show runC _ _ _ = _; kernel_rfl) (fc (by show runC _ _ _ = _; kernel_rfl) (fc (by show runC _ _ _ = _; kernel_rfl) (List.forall_mem_nil _)))
theorem k_114 : okI 3 in_114 cn_114 = true := by decide +kernel
theorem g_114 : Gd [3, 3] [2, 1] := ⟨in_114, cn_114, f_114, c_114, k_114⟩
def in_119 : List (List Nat × List (List (List Nat))) := [([4], []),
 ([1, 3], [[[1, 2], [2], [2]]]),
 ([2, 2], [[[1, 1], [2], [2]], [[1, 2], [2], [1]]]),
 ([3, 1], [[[1, 1], [2], [1]]]),
 ([1, 1, 2], [[[1, 2], [3], [3]], [[1, 3], [2], [3]], [[1, 3], [3], [2]], [[2, 3], [3], [1]]]),
 ([1, 2, 1], [[[1, 2], [2], [3]], [[1, 2], [3], [2]], [[2, 2], [3], [1]], [[1, 3], [2], [2]]]),
 ([2, 1, 1], [[[1, 1], [2], [3]], [[1, 1], [3], [2]], [[1, 2], [3], [1]], [[1, 3], [2], [1]]]),
 ([1, 1, 1, 1], [[[1, 2], [3], [4]], [[1, 3], [2], [4]], [[1, 2], [4], [3]], [[1, 3], [4], [2]], [[2, 3], [4], [1]], [[1, 4], [2], [3]], [[1, 4], [3], [2]], [[2, 4], [3], [1]]])]
def cn_119 : List (List Nat × Nat) := [([4], 0), ([3, 1], 1), ([2, 2], 2), ([2, 1, 1], 4), ([1, 1, 1, 1], 8)]
theorem f_119 : ∀ e ∈ in_119, EF [3, 2, 1] [1, 1] e := fc (fun n => by kernel_rfl) (fc (fun n => by kernel_rfl) (fc (fun n => by kernel_rfl) (fc (fun n => by kernel_rfl) (fc (fun n => by kernel_rfl) (fc (fun n => by kernel_rfl) (fc (fun n => by kernel_rfl) (fc (fun n => by kernel_rfl) (List.forall_mem_nil _))))))))
theorem c_119 : ∀ e ∈ cn_119, EC [3, 2, 1] [1, 1] e := fc (by show runC _ _ _ = _; kernel_rfl) (fc (by show runC _ _ _ = _; kernel_rfl) (fc (by show runC _ _ _ = _; kernel_rfl) (fc (by show runC _ _ _ = _; kernel_rfl) (fc (by show runC _ _ _ = _; kernel_rfl) (List.forall_mem_nil _)))))
theorem k_119 : okI 4 in_119 cn_119 = true := by decide +kernel
theorem g_119 : Gd [3, 2, 1] [1, 1] := ⟨in_119, cn_119, f_119, c_119, k_119⟩
def in_122 : List (List Nat × List (List (List Nat))) := [([6], []),
 ([1, 5], []),
 ([2, 4], []),
 ([3, 3], []),
 ([4, 2], []),
 ([5, 1], []),
 ([1, 1, 4], []),
 ([1, 2, 3], []),
 ([1, 3, 2], []),
 ([1, 4, 1], []),
 ([2, 1, 3], []),
 ([2, 2, 2], []),
 ([2, 3, 1], []),
 ([3, 1, 2], []),
 ([3, 2, 1], []),
 ([4, 1, 1], []),
 ([1, 1, 1, 3], [[[1, 4, 4], [2], [3], [4]]]),
 ([1, 1, 2, 2], [[[1, 3, 4], [2], [3], [4]]]),
 ([1, 1, 3, 1], [[[1, 3, 3], [2], [3], [4]]]),
 ([1, 2, 1, 2], [[[1, 2, 4], [2], [3], [4]]]),
 ([1, 2, 2, 1], [[[1, 2, 3], [2], [3], [4]]]),
 ([1, 3, 1, 1], [[[1, 2, 2], [2], [3], [4]]]),
 ([2, 1, 1, 2], [[[1, 1, 4], [2], [3], [4]]]),
 ([2, 1, 2, 1], [[[1, 1, 3], [2], [3], [4]]]),
 ([2, 2, 1, 1], [[[1, 1, 2], [2], [3], [4]]]),
 ([3, 1, 1, 1], [[[1, 1, 1], [2], [3], [4]]])]
def cn_122 : List (List Nat × Nat) := [([6], 0), ([5, 1], 0), ([4, 2], 0), ([4, 1, 1], 0), ([3, 3], 0), ([3, 2, 1], 0), ([3, 1, 1, 1], 1), ([2, 2, 2], 0), ([2, 2, 1, 1], 1)]
theorem f_122 : ∀ e ∈ in_122, EF [3, 1, 1, 1] [] e := fc (fun n => by kernel_rfl) (fc (fun n => by kernel_rfl) (fc (fun n => by kernel_rfl) (fc (fun n => by kernel_rfl) (fc (fun n => by kernel_rfl) (fc (fun n => by kernel_rfl) (fc (fun n => by kernel_rfl) (fc (fun n => by kernel_rfl) (fc (fun n => by kernel_rfl) (fc (fun n => by kernel_rfl) (fc (fun n => by kernel_rfl) (fc (fun n => by kernel_rfl) (fc (fun n => by kernel_rfl) (fc (fun n => by kernel_rfl) (fc (fun n => by kernel_rfl) (fc (fun n => by kernel_rfl) (fc (fun n => by kernel_rfl) (fc (fun n => by kernel_rfl) (fc (fun n => by kernel_rfl) (fc (fun n => by kernel_rfl) (fc (fun n => by kernel_rfl) (fc (fun n => by kernel_rfl) (fc (fun n => by kernel_rfl) (fc (fun n => by kernel_rfl) (fc (fun n => by kernel_rfl) (fc (fun n => by kernel_rfl) (List.forall_mem_nil _))))))))))))))))))))))))))
theorem c_122 : ∀ e ∈ cn_122, EC [3, 1, 1, 1] [] e := fc (by show runC _ _ _ = _; kernel_rfl) (fc (by show runC _ _ _ = _; kernel_rfl) (fc (by show runC _ _ _ = _; kernel_rfl) (fc (by show runC _ _ _ = _; kernel_rfl) (fc (by show runC _ _ _ = _; kernel_rfl) (fc (by show runC _ _ _ = _; kernel_rfl) (fc (by show runC _ _ _ = _; kernel_rfl) (fc (by show runC _ _ _ = _; kernel_rfl) (fc (by show runC _ _ _ = _; kernel_rfl) (List.forall_mem_nil _)))))))))
theorem k_122 : okI 6 in_122 cn_122 = true := by decide +kernel
theorem g_122 : Gd [3, 1, 1, 1] [] := ⟨in_122, cn_122, f_122, c_122, k_122⟩
def in_123 : List (List Nat × List (List (List Nat))) := [([5], []),
 ([1, 4], []),
 ([2, 3], []),
 ([3, 2], []),
 ([4, 1], []),
 ([1, 1, 3], [[[3, 3], [1], [2], [3]]]),
 ([1, 2, 2], [[[2, 3], [1], [2], [3]]]),
 ([1, 3, 1], [[[2, 2], [1], [2], [3]]]),
 ([2, 1, 2], [[[1, 3], [1], [2], [3]]]),
 ([2, 2, 1], [[[1, 2], [1], [2], [3]]]),
 ([3, 1, 1], [[[1, 1], [1], [2], [3]]]),
 ([1, 1, 1, 2], [[[1, 4], [2], [3], [4]], [[2, 4], [1], [3], [4]], [[3, 4], [1], [2], [4]], [[4, 4], [1], [2], [3]]]),
 ([1, 1, 2, 1], [[[1, 3], [2], [3], [4]], [[2, 3], [1], [3], [4]], [[3, 3], [1], [2], [4]], [[3, 4], [1], [2], [3]]]),
 ([1, 2, 1, 1], [[[1, 2], [2], [3], [4]], [[2, 2], [1], [3], [4]], [[2, 3], [1], [2], [4]], [[2, 4], [1], [2], [3]]]),
 ([2, 1, 1, 1], [[[1, 1], [2], [3], [4]], [[1, 2], [1], [3], [4]], [[1, 3], [1], [2], [4]], [[1, 4], [1], [2], [3]]])]
def cn_123 : List (List Nat × Nat) := [([5], 0), ([4, 1], 0), ([3, 2], 0), ([3, 1, 1], 1), ([2, 2, 1], 1), ([2, 1, 1, 1], 4)]
theorem f_123 : ∀ e ∈ in_123, EF [3, 1, 1, 1] [1] e := fc (fun n => by kernel_rfl) (fc (fun n => by kernel_rfl) (fc (fun n => by kernel_rfl) (fc (fun n => by kernel_rfl) (fc (fun n => by kernel_rfl) (fc (fun n => by kernel_rfl) (fc (fun n => by kernel_rfl) (fc (fun n => by kernel_rfl) (fc (fun n => by kernel_rfl) (fc (fun n => by kernel_rfl) (fc (fun n => by kernel_rfl) (fc (fun n => by kernel_rfl) (fc (fun n => by kernel_rfl) (fc (fun n => by kernel_rfl) (fc (fun n => by kernel_rfl) (List.forall_mem_nil _)))))))))))))))
theorem c_123 : ∀ e ∈ cn_123, EC [3, 1, 1, 1] [1] e := fc (by show runC _ _ _ = _; kernel_rfl) (fc (by show runC _ _ _ = _; kernel_rfl) (fc (by show runC _ _ _ = _; kernel_rfl) (fc (by show runC _ _ _ = _; kernel_rfl) (fc (by show runC _ _ _ = _; kernel_rfl) (fc (by show runC _ _ _ = _; kernel_rfl) (List.forall_mem_nil _))))))
theorem k_123 : okI 5 in_123 cn_123 = true := by decide +kernel
theorem g_123 : Gd [3, 1, 1, 1] [1] := ⟨in_123, cn_123, f_123, c_123, k_123⟩
def in_126 : List (List Nat × List (List (List Nat))) := [([4], []),
 ([1, 3], [[[2, 2], [], [1], [2]]]),
 ([2, 2], [[[1, 2], [], [1], [2]]]),
 ([3, 1], [[[1, 1], [], [1], [2]]]),
 ([1, 1, 2], [[[1, 3], [], [2], [3]], [[2, 3], [], [1], [3]], [[3, 3], [], [1], [2]]]),
 ([1, 2, 1], [[[1, 2], [], [2], [3]], [[2, 2], [], [1], [3]], [[2, 3], [], [1], [2]]]),
 ([2, 1, 1], [[[1, 1], [], [2], [3]], [[1, 2], [], [1], [3]], [[1, 3], [], [1], [2]]]),
 ([1, 1, 1, 1], [[[1, 2], [], [3], [4]], [[1, 3], [], [2], [4]], [[2, 3], [], [1], [4]], [[1, 4], [], [2], [3]], [[2, 4], [], [1], [3]], [[3, 4], [], [1], [2]]])]
def cn_126 : List (List Nat × Nat) := [([4], 0), ([3, 1], 1), ([2, 2], 1), ([2, 1, 1], 3), ([1, 1, 1, 1], 6)]
theorem f_126 : ∀ e ∈ in_126, EF [3, 1, 1, 1] [1, 1] e := fc (fun n => by kernel_rfl) (fc (fun n => by kernel_rfl) (fc (fun n => by kernel_rfl) (fc (fun n => by kernel_rfl) (fc (fun n => by kernel_rfl) (fc (fun n => by kernel_rfl) (fc (fun n => by kernel_rfl) (fc (fun n => by kernel_rfl) (List.forall_mem_nil _))))))))
theorem c_126 : ∀ e ∈ cn_126, EC [3, 1, 1, 1] [1, 1] e := fc (by show runC _ _ _ = _; kernel_rfl) (fc (by show runC _ _ _ = _; kernel_rfl) (fc (by show runC _ _ _ = _; kernel_rfl) (fc (by show runC _ _ _ = _; kernel_rfl) (fc (by show runC _ _ _ = _; kernel_rfl) (List.forall_mem_nil _)))))
theorem k_126 : okI 4 in_126 cn_126 = true := by decide +kernel
theorem g_126 : Gd [3, 1, 1, 1] [1, 1] := ⟨in_126, cn_126, f_126, c_126, k_126⟩
def in_137 : List (List Nat × List (List (List Nat))) := [([4], []),
 ([1, 3], []),
 ([2, 2], []),
 ([3, 1], []),
 ([1, 1, 2], [[[], [1, 3], [2], [3]]]),
 ([1, 2, 1], [[[], [1, 2], [2], [3]]]),
 ([2, 1, 1], [[[], [1, 1], [2], [3]]]),
 ([1, 1, 1, 1], [[[], [1, 2], [3], [4]], [[], [1, 3], [2], [4]], [[], [1, 4], [2], [3]]])]
def cn_137 : List (List Nat × Nat) := [([4], 0), ([3, 1], 0), ([2, 2], 0), ([2, 1, 1], 1), ([1, 1, 1, 1], 3)]
theorem f_137 : ∀ e ∈ in_137, EF [2, 2, 1, 1] [2] e := fc (fun n => by kernel_rfl) (fc (fun n => by kernel_rfl) (fc (fun n => by kernel_rfl) (fc (fun n => by kernel_rfl) (fc (fun n => by kernel_rfl) (fc (fun n => by kernel_rfl) (fc (fun n => by kernel_rfl) (fc (fun n => by kernel_rfl) (List.forall_mem_nil _))))))))
theorem c_137 : ∀ e ∈ cn_137, EC [2, 2, 1, 1] [2] e := fc (by show runC _ _ _ = _; kernel_rfl) (fc (by show runC _ _ _ = _; kernel_rfl) (fc (by show runC _ _ _ = _; kernel_rfl) (fc (by show runC _ _ _ = _; kernel_rfl) (fc (by show runC _ _ _ = _; kernel_rfl) (List.forall_mem_nil _)))))
theorem k_137 : okI 4 in_137 cn_137 = true := by decide +kernel
theorem g_137 : Gd [2, 2, 1, 1] [2] := ⟨in_137, cn_137, f_137, c_137, k_137⟩
def in_141 : List (List Nat × List (List (List Nat))) := [([6], []),
 ([1, 5], []),
 ([2, 4], []),
 ([3, 3], []),
 ([4, 2], []),
 ([5, 1], []),
 ([1, 1, 4], []),
 ([1, 2, 3], []),
 ([1, 3, 2], []),
 ([1, 4, 1], []),
 ([2, 1, 3], []),
 ([2, 2, 2], []),
 ([2, 3, 1], []),
 ([3, 1, 2], []),
 ([3, 2, 1], []),
 ([4, 1, 1], []),
 ([1, 1, 1, 3], []),
 ([1, 1, 2, 2], []),
 ([1, 1, 3, 1], []),
 ([1, 2, 1, 2], []),
 ([1, 2, 2, 1], []),
 ([1, 3, 1, 1], []),
 ([2, 1, 1, 2], []),
 ([2, 1, 2, 1], []),
 ([2, 2, 1, 1], []),
 ([3, 1, 1, 1], [])]
def cn_141 : List (List Nat × Nat) := [([6], 0), ([5, 1], 0), ([4, 2], 0), ([4, 1, 1], 0), ([3, 3], 0), ([3, 2, 1], 0), ([3, 1, 1, 1], 0), ([2, 2, 2], 0), ([2, 2, 1, 1], 0)]
theorem f_141 : ∀ e ∈ in_141, EF [2, 1, 1, 1, 1] [] e := fc (fun n => by kernel_rfl) (fc (fun n => by kernel_rfl) (fc (fun n => by kernel_rfl) (fc (fun n => by kernel_rfl) (fc (fun n => by kernel_rfl) (fc (fun n => by kernel_rfl) (fc (fun n => by kernel_rfl) (fc (fun n => by kernel_rfl) (fc (fun n => by kernel_rfl) (fc (fun n => by kernel_rfl) (fc (fun n => by kernel_rfl) (fc (fun n => by kernel_rfl) (fc (fun n => by kernel_rfl) (fc (fun n => by kernel_rfl) (fc (fun n => by kernel_rfl) (fc (fun n => by kernel_rfl) (fc (fun n => by kernel_rfl) (fc (fun n => by kernel_rfl) (fc (fun n => by kernel_rfl) (fc (fun n => by kernel_rfl) (fc (fun n => by kernel_rfl) (fc (fun n => by kernel_rfl) (fc (fun n => by kernel_rfl) (fc (fun n => by kernel_rfl) (fc (fun n => by kernel_rfl) (fc (fun n => by kernel_rfl) (List.forall_mem_nil _))))))))))))))))))))))))))
theorem c_141 : ∀ e ∈ cn_141, EC [2, 1, 1, 1, 1] [] e := fc (by show runC _ _ _ = _; kernel_rfl) (fc (by show runC _ _ _ = _; kernel_rfl) (fc (by show runC _ _ _ = _; kernel_rfl) (fc (by show runC _ _ _ = _; kernel_rfl) (fc (by show runC _ _ _ = _; kernel_rfl) (fc (by show runC _ _ _ = _; kernel_rfl) (fc (by show runC _ _ _ = _; kernel_rfl) (fc (by show runC _ _ _ = _; kernel_rfl) (fc (by show runC _ _ _ = _; kernel_rfl) (List.forall_mem_nil _)))))))))
theorem k_141 : okI 6 in_141 cn_141 = true := by decide +kernel
theorem g_141 : Gd [2, 1, 1, 1, 1] [] := ⟨in_141, cn_141, f_141, c_141, k_141⟩
def in_145 : List (List Nat × List (List (List Nat))) := [([3], []),
 ([1, 2], []),
 ([2, 1], []),
 ([1, 1, 1], [[[], [], [1], [2], [3]]])]
def cn_145 : List (List Nat × Nat) := [([3], 0), ([2, 1], 0), ([1, 1, 1], 1)]
theorem f_145 : ∀ e ∈ in_145, EF [2, 1, 1, 1, 1] [2, 1] e := fc (fun n => by kernel_rfl) (fc (fun n => by kernel_rfl) (fc (fun n => by kernel_rfl) (fc (fun n => by kernel_rfl) (List.forall_mem_nil _))))
theorem c_145 : ∀ e ∈ cn_145, EC [2, 1, 1, 1, 1] [2, 1] e := fc (by show runC _ _ _ = _; kernel_rfl) (fc (by show runC _ _ _ = _; kernel_rfl) (fc (by show runC _ _ _ = _; kernel_rfl) (List.forall_mem_nil _)))
theorem k_145 : okI 3 in_145 cn_145 = true := by decide +kernel
theorem g_145 : Gd [2, 1, 1, 1, 1] [2, 1] := ⟨in_145, cn_145, f_145, c_145, k_145⟩
def in_148 : List (List Nat × List (List (List Nat))) := [([5], []),
 ([1, 4], []),
 ([2, 3], []),
 ([3, 2], []),
 ([4, 1], []),
 ([1, 1, 3], []),
 ([1, 2, 2], []),
 ([1, 3, 1], []),
 ([2, 1, 2], []),
 ([2, 2, 1], []),
 ([3, 1, 1], []),
 ([1, 1, 1, 2], []),
 ([1, 1, 2, 1], []),
 ([1, 2, 1, 1], []),
 ([2, 1, 1, 1], [])]
def cn_148 : List (List Nat × Nat) := [([5], 0), ([4, 1], 0), ([3, 2], 0), ([3, 1, 1], 0), ([2, 2, 1], 0), ([2, 1, 1, 1], 0)]
theorem f_148 : ∀ e ∈ in_148, EF [1, 1, 1, 1, 1, 1] [1] e := fc (fun n => by kernel_rfl) (fc (fun n => by kernel_rfl) (fc (fun n => by kernel_rfl) (fc (fun n => by kernel_rfl) (fc (fun n => by kernel_rfl) (fc (fun n => by kernel_rfl) (fc (fun n => by kernel_rfl) (fc (fun n => by kernel_rfl) (fc (fun n => by kernel_rfl) (fc (fun n => by kernel_rfl) (fc (fun n => by kernel_rfl) (fc (fun n => by kernel_rfl) (fc (fun n => by kernel_rfl) (fc (fun n => by kernel_rfl) (fc (fun n => by kernel_rfl) (List.forall_mem_nil _)))))))))))))))
theorem c_148 : ∀ e ∈ cn_148, EC [1, 1, 1, 1, 1, 1] [1] e := fc (by show runC _ _ _ = _; kernel_rfl) (fc (by show runC _ _ _ = _; kernel_rfl) (fc (by show runC _ _ _ = _; kernel_rfl) (fc (by show runC _ _ _ = _; kernel_rfl) (fc (by show runC _ _ _ = _; kernel_rfl) (fc (by show runC _ _ _ = _; kernel_rfl) (List.forall_mem_nil _))))))
theorem k_148 : okI 5 in_148 cn_148 = true := by decide +kernel
theorem g_148 : Gd [1, 1, 1, 1, 1, 1] [1] := ⟨in_148, cn_148, f_148, c_148, k_148⟩
def in_151 : List (List Nat × List (List (List Nat))) := [([7], [[[1, 1, 1, 1, 1, 1, 1]]]),
 ([1, 6], [[[1, 2, 2, 2, 2, 2, 2]]]),
 ([2, 5], [[[1, 1, 2, 2, 2, 2, 2]]]),
 ([3, 4], [[[1, 1, 1, 2, 2, 2, 2]]]),
 ([4, 3], [[[1, 1, 1, 1, 2, 2, 2]]]),
 ([5, 2], [[[1, 1, 1, 1, 1, 2, 2]]]),
 ([6, 1], [[[1, 1, 1, 1, 1, 1, 2]]]),
 ([1, 1, 5], [[[1, 2, 3, 3, 3, 3, 3]]]),
 ([1, 2, 4], [[[1, 2, 2, 3, 3, 3, 3]]]),
 ([1, 3, 3], [[[1, 2, 2, 2, 3, 3, 3]]]),
 ([1, 4, 2], [[[1, 2, 2, 2, 2, 3, 3]]]),
 ([1, 5, 1], [[[1, 2, 2, 2, 2, 2, 3]]]),
 ([2, 1, 4], [[[1, 1, 2, 3, 3, 3, 3]]]),
 ([2, 2, 3], [[[1, 1, 2, 2, 3, 3, 3]]]),
 ([2, 3, 2], [[[1, 1, 2, 2, 2, 3, 3]]]),
 ([2, 4, 1], [[[1, 1, 2, 2, 2, 2, 3]]]),
 ([3, 1, 3], [[[1, 1, 1, 2, 3, 3, 3]]]),
 ([3, 2, 2], [[[1, 1, 1, 2, 2, 3, 3]]]),
 ([3, 3, 1], [[[1, 1, 1, 2, 2, 2, 3]]]),
 ([4, 1, 2], [[[1, 1, 1, 1, 2, 3, 3]]]),
 ([4, 2, 1], [[[1, 1, 1, 1, 2, 2, 3]]]),
 ([5, 1, 1], [[[1, 1, 1, 1, 1, 2, 3]]]),
 ([1, 1, 1, 4], [[[1, 2, 3, 4, 4, 4, 4]]]),
 ([1, 1, 2, 3], [[[1, 2, 3, 3, 4, 4, 4]]]),
 ([1, 1, 3, 2], [[[1, 2, 3, 3, 3, 4, 4]]]),
 ([1, 1, 4, 1], [[[1, 2, 3, 3, 3, 3, 4]]]),
 ([1, 2, 1, 3], [[[1, 2, 2, 3, 4, 4, 4]]]),
 ([1, 2, 2, 2], [[[1, 2, 2, 3, 3, 4, 4]]]),
 ([1, 2, 3, 1], [[[1, 2, 2, 3, 3, 3, 4]]]),
 ([1, 3, 1, 2], [[[1, 2, 2, 2, 3, 4, 4]]]),
 ([1, 3, 2, 1], [[[1, 2, 2, 2, 3, 3, 4]]]),
 ([1, 4, 1, 1], [[[1, 2, 2, 2, 2, 3, 4]]]),
 ([2, 1, 1, 3], [[[1, 1, 2, 3, 4, 4, 4]]]),
 ([2, 1, 2, 2], [[[1, 1, 2, 3, 3, 4, 4]]]),
 ([2, 1, 3, 1], [[[1, 1, 2, 3, 3, 3, 4]]]),
 ([2, 2, 1, 2], [[[1, 1, 2, 2, 3, 4, 4]]]),
 ([2, 2, 2, 1], [[[1, 1, 2, 2, 3, 3, 4]]]),
 ([2, 3, 1, 1], [[[1, 1, 2, 2, 2, 3, 4]]]),
 ([3, 1, 1, 2], [[[1, 1, 1, 2, 3, 4, 4]]]),
 ([3, 1, 2, 1], [[[1, 1, 1, 2, 3, 3, 4]]]),
 ([3, 2, 1, 1], [[[1, 1, 1, 2, 2, 3, 4]]]),
 ([4, 1, 1, 1], [[[1, 1, 1, 1, 2, 3, 4]]])]
def cn_151 : List (List Nat × Nat) := [([7], 1), ([6, 1], 1), ([5, 2], 1), ([5, 1, 1], 1), ([4, 3], 1), ([4, 2, 1], 1), ([4, 1, 1, 1], 1), ([3, 3, 1], 1), ([3, 2, 2], 1), ([3, 2, 1, 1], 1), ([2, 2, 2, 1], 1)]
theorem f_151 : ∀ e ∈ in_151, EF [7] [] e := fc (fun n => by kernel_rfl) (fc (fun n => by kernel_rfl) (fc (fun n => by kernel_rfl) (fc (fun n => by kernel_rfl) (fc (fun n => by kernel_rfl) (fc (fun n => by kernel_rfl) (fc (fun n => by kernel_rfl) (fc (fun n => by kernel_rfl) (fc (fun n => by kernel_rfl) (fc (fun n => by kernel_rfl) (fc (fun n => by kernel_rfl) (fc (fun n => by kernel_rfl) (fc (fun n => by kernel_rfl) (fc (fun n => by kernel_rfl) (fc (fun n => by kernel_rfl) (fc (fun n => by kernel_rfl) (fc (fun n => by kernel_rfl) (fc (fun n => by kernel_rfl) (fc (fun n => by kernel_rfl) (fc (fun n => by kernel_rfl) (fc (fun n => by kernel_rfl) (fc (fun n => by kernel_rfl) (fc (fun n => by kernel_rfl) (fc (fun n => by kernel_rfl) (fc (fun n => by kernel_rfl) (fc (fun n => by kernel_rfl) (fc (fun n => by kernel_rfl) (fc (fun n => by kernel_rfl) (fc (fun n => by kernel_rfl) (fc (fun n => by kernel_rfl) (fc (fun n => by kernel_rfl) (fc (fun n => by kernel_rfl) (fc (fun n => by kernel_rfl) (fc (fun n => by kernel_rfl) (fc (fun n => by kernel_rfl) (fc (fun n => by kernel_rfl) (fc (fun n => by kernel_rfl) (fc (fun n => by kernel_rfl) (fc (fun n => by kernel_rfl) (fc (fun n => by kernel_rfl) (fc (fun n => by kernel_rfl) (fc (fun n => by kernel_rfl) (List.forall_mem_nil _))))))))))))))))))))))))))))))))))))))))))
theorem c_151 : ∀ e ∈ cn_151, EC [7] [] e := fc (by show runC _ _ _ = _; kernel_rfl) (fc (by show runC _ _ _ = _; kernel_rfl) (fc (by show runC _ _ _ = _; kernel_rfl) (fc (by show runC _ _ _ = _; kernel_rfl) (fc (by show runC _ _ _ = _; kernel_rfl) (fc (by show runC _ _ _ = _; kernel_rfl) (fc (by show runC _ _ _ = _; kernel_rfl) (fc (by show runC _ _ _ = _; kernel_rfl) (fc (by show runC _ _ _ = _; kernel_rfl) (fc (by show runC _ _ _ = _; kernel_rfl) (fc (by show runC _ _ _ = _; kernel_rfl) (List.forall_mem_nil _)))))))))))
theorem k_151 : okI 7 in_151 cn_151 = true := by decide +kernel
theorem g_151 : Gd [7] [] := ⟨in_151, cn_151, f_151, c_151, k_151⟩
def in_165 : List (List Nat × List (List (List Nat))) := [([5], []),
 ([1, 4], [[[1, 2, 2, 2], [2]]]),
 ([2, 3], [[[1, 1, 2, 2], [2]]]),
 ([3, 2], [[[1, 1, 1, 2], [2]]]),
 ([4, 1], [[[1, 1, 1, 1], [2]]]),
 ([1, 1, 3], [[[1, 2, 3, 3], [3]], [[1, 3, 3, 3], [2]]]),
 ([1, 2, 2], [[[1, 2, 2, 3], [3]], [[1, 2, 3, 3], [2]]]),
 ([1, 3, 1], [[[1, 2, 2, 2], [3]], [[1, 2, 2, 3], [2]]]),
 ([2, 1, 2], [[[1, 1, 2, 3], [3]], [[1, 1, 3, 3], [2]]]),
 ([2, 2, 1], [[[1, 1, 2, 2], [3]], [[1, 1, 2, 3], [2]]]),
 ([3, 1, 1], [[[1, 1, 1, 2], [3]], [[1, 1, 1, 3], [2]]]),
 ([1, 1, 1, 2], [[[1, 2, 3, 4], [4]], [[1, 2, 4, 4], [3]], [[1, 3, 4, 4], [2]]]),
 ([1, 1, 2, 1], [[[1, 2, 3, 3], [4]], [[1, 2, 3, 4], [3]], [[1, 3, 3, 4], [2]]]),
 ([1, 2, 1, 1], [[[1, 2, 2, 3], [4]], [[1, 2, 2, 4], [3]], [[1, 2, 3, 4], [2]]]),
 ([2, 1, 1, 1], [[[1, 1, 2, 3], [4]], [[1, 1, 2, 4], [3]], [[1, 1, 3, 4], [2]]])]
def cn_165 : List (List Nat × Nat) := [([5], 0), ([4, 1], 1), ([3, 2], 1), ([3, 1, 1], 2), ([2, 2, 1], 2), ([2, 1, 1, 1], 3)]
theorem f_165 : ∀ e ∈ in_165, EF [5, 2] [1, 1] e := fc (fun n => by kernel_rfl) (fc (fun n => by kernel_rfl) (fc (fun n => by kernel_rfl) (fc (fun n => by kernel_rfl) (fc (fun n => by kernel_rfl) (fc (fun n => by kernel_rfl) (fc (fun n => by kernel_rfl) (fc (fun n => by kernel_rfl) (fc (fun n => by kernel_rfl) (fc (fun n => by kernel_rfl) (fc (fun n => by kernel_rfl) (fc (fun n => by kernel_rfl) (fc (fun n => by kernel_rfl) (fc (fun n => by kernel_rfl) (fc (fun n => by kernel_rfl) (List.forall_mem_nil _)))))))))))))))
theorem c_165 : ∀ e ∈ cn_165, EC [5, 2] [1, 1] e := fc (by show runC _ _ _ = _; kernel_rfl) (fc (by show runC _ _ _ = _; kernel_rfl) (fc (by show runC _ _ _ = _; kernel_rfl) (fc (by show runC _ _ _ = _; kernel_rfl) (fc (by show runC _ _ _ = _; kernel_rfl) (fc (by show runC _ _ _ = _; kernel_rfl) (List.forall_mem_nil _))))))
theorem k_165 : okI 5 in_165 cn_165 = true := by decide +kernel
theorem g_165 : Gd [5, 2] [1, 1] := ⟨in_165, cn_165, f_165, c_165, k_165⟩
def in_168 : List (List Nat × List (List (List Nat))) := [([6], []),
 ([1, 5], [[[2, 2, 2, 2], [1], [2]]]),
 ([2, 4], [[[1, 2, 2, 2], [1], [2]]]),
 ([3, 3], [[[1, 1, 2, 2], [1], [2]]]),
 ([4, 2], [[[1, 1, 1, 2], [1], [2]]]),
 ([5, 1], [[[1, 1, 1, 1], [1], [2]]]),
 ([1, 1, 4], [[[1, 3, 3, 3], [2], [3]], [[2, 3, 3, 3], [1], [3]], [[3, 3, 3, 3], [1], [2]]]),
 ([1, 2, 3], [[[1, 2, 3, 3], [2], [3]], [[2, 2, 3, 3], [1], [3]], [[2, 3, 3, 3], [1], [2]]]),
 ([1, 3, 2], [[[1, 2, 2, 3], [2], [3]], [[2, 2, 2, 3], [1], [3]], [[2, 2, 3, 3], [1], [2]]]),
 ([1, 4, 1], [[[1, 2, 2, 2], [2], [3]], [[2, 2, 2, 2], [1], [3]], [[2, 2, 2, 3], [1], [2]]]),
 ([2, 1, 3], [[[1, 1, 3, 3], [2], [3]], [[1, 2, 3, 3], [1], [3]], [[1, 3, 3, 3], [1], [2]]]),
 ([2, 2, 2], [[[1, 1, 2, 3], [2], [3]], [[1, 2, 2, 3], [1], [3]], [[1, 2, 3, 3], [1], [2]]]),
 ([2, 3, 1], [[[1, 1, 2, 2], [2], [3]], [[1, 2, 2, 2], [1], [3]], [[1, 2, 2, 3], [1], [2]]]),
 ([3, 1, 2], [[[1, 1, 1, 3], [2], [3]], [[1, 1, 2, 3], [1], [3]], [[1, 1, 3, 3], [1], [2]]]),
 ([3, 2, 1], [[[1, 1, 1, 2], [2], [3]], [[1, 1, 2, 2], [1], [3]], [[1, 1, 2, 3], [1], [2]]]),
 ([4, 1, 1], [[[1, 1, 1, 1], [2], [3]], [[1, 1, 1, 2], [1], [3]], [[1, 1, 1, 3], [1], [2]]]),
 ([1, 1, 1, 3], [[[1, 2, 4, 4], [3], [4]], [[1, 3, 4, 4], [2], [4]], [[2, 3, 4, 4], [1], [4]], [[1, 4, 4, 4], [2], [3]], [[2, 4, 4, 4], [1], [3]], [[3, 4, 4, 4], [1], [2]]]),
 ([1, 1, 2, 2], [[[1, 2, 3, 4], [3], [4]], [[1, 3, 3, 4], [2], [4]], [[2, 3, 3, 4], [1], [4]], [[1, 3, 4, 4], [2], [3]], [[2, 3, 4, 4], [1], [3]], [[3, 3, 4, 4], [1], [2]]]),
 ([1, 1, 3, 1], [[[1, 2, 3, 3], [3], [4]], [[1, 3, 3, 3], [2], [4]], [[2, 3, 3, 3], [1], [4]], [[1, 3, 3, 4], [2], [3]], [[2, 3, 3, 4], [1], [3]], [[3, 3, 3, 4], [1], [2]]]),
 ([1, 2, 1, 2], [[[1, 2, 2, 4], [3], [4]], [[1, 2, 3, 4], [2], [4]], [[2, 2, 3, 4], [1], [4]], [[1, 2, 4, 4], [2], [3]], [[2, 2, 4, 4], [1], [3]], [[2, 3, 4, 4], [1], [2]]]),
 ([1, 2, 2, 1], [[[1, 2, 2, 3], [3], [4]], [[1, 2, 3, 3], [2], [4]], [[2, 2, 3, 3], [1], [4]], [[1, 2, 3, 4], [2], [3]], [[2, 2, 3, 4], [1], [3]], [[2, 3, 3, 4], [1], [2]]]),
 ([1, 3, 1, 1], [[[1, 2, 2, 2], [3], [4]], [[1, 2, 2, 3], [2], [4]], [[2, 2, 2, 3], [1], [4]], [[1, 2, 2, 4], [2], [3]], [[2, 2, 2, 4], [1], [3]], [[2, 2, 3, 4], [1], [2]]]),
 ([2, 1, 1, 2], [[[1, 1, 2, 4], [3], [4]], [[1, 1, 3, 4], [2], [4]], [[1, 2, 3, 4], [1], [4]], [[1, 1, 4, 4], [2], [3]], [[1, 2, 4, 4], [1], [3]], [[1, 3, 4, 4], [1], [2]]]),
 ([2, 1, 2, 1], [[[1, 1, 2, 3], [3], [4]], [[1, 1, 3, 3], [2], [4]], [[1, 2, 3, 3], [1], [4]], [[1, 1, 3, 4], [2], [3]], [[1, 2, 3, 4], [1], [3]], [[1, 3, 3, 4], [1], [2]]]),
 ([2, 2, 1, 1], [[[1, 1, 2, 2], [3], [4]], [[1, 1, 2, 3], [2], [4]], [[1, 2, 2, 3], [1], [4]], [[1, 1, 2, 4], [2], [3]], [[1, 2, 2, 4], [1], [3]], [[1, 2, 3, 4], [1], [2]]]),
 ([3, 1, 1, 1], [[[1, 1, 1, 2], [3], [4]], [[1, 1, 1, 3], [2], [4]], [[1, 1, 2, 3], [1], [4]], [[1, 1, 1, 4], [2], [3]], [[1, 1, 2, 4], [1], [3]], [[1, 1, 3, 4], [1], [2]]])]
def cn_168 : List (List Nat × Nat) := [([6], 0), ([5, 1], 1), ([4, 2], 1), ([4, 1, 1], 3), ([3, 3], 1), ([3, 2, 1], 3), ([3, 1, 1, 1], 6), ([2, 2, 2], 3), ([2, 2, 1, 1], 6)]
theorem f_168 : ∀ e ∈ in_168, EF [5, 1, 1] [1] e := fc (fun n => by kernel_rfl) (fc (fun n => by kernel_rfl) (fc (fun n => by kernel_rfl) (fc (fun n => by kernel_rfl) (fc (fun n => by kernel_rfl) (fc (fun n => by kernel_rfl) (fc (fun n => by kernel_rfl) (fc (fun n => by kernel_rfl) (fc (fun n => by kernel_rfl) (fc (fun n => by kernel_rfl) (fc (fun n => by kernel_rfl) (fc (fun n => by kernel_rfl) (fc (fun n => by kernel_rfl) (fc (fun n => by kernel_rfl) (fc (fun n => by kernel_rfl) (fc (fun n => by kernel_rfl) (fc (fun n => by kernel_rfl) (fc (fun n => by kernel_rfl) (fc (fun n => by kernel_rfl) (fc (fun n => by kernel_rfl) (fc (fun n => by kernel_rfl) (fc (fun n => by kernel_rfl) (fc (fun n => by kernel_rfl) (fc (fun n => by kernel_rfl) (fc (fun n => by kernel_rfl) (fc (fun n => by kernel_rfl) (List.forall_mem_nil _))))))))))))))))))))))))))
theorem c_168 : ∀ e ∈ cn_168, EC [5, 1, 1] [1] e := fc (by show runC _ _ _ = _; kernel_rfl) (fc (by show runC _ _ _ = _; kernel_rfl) (fc (by show runC _ _ _ = _; kernel_rfl) (fc (by show runC _ _ _ = _; kernel_rfl) (fc (by show runC _ _ _ = _; kernel_rfl) (fc (by show runC _ _ _ = _; kernel_rfl) (fc (by show runC _ _ _ = _; kernel_rfl) (fc (by show runC _ _ _ = _; kernel_rfl) (fc (by show runC _ _ _ = _; kernel_rfl) (List.forall_mem_nil _)))))))))
theorem k_168 : okI 6 in_168 cn_168 = true := by decide +kernel
theorem g_168 : Gd [5, 1, 1] [1] := ⟨in_168, cn_168, f_168, c_168, k_168⟩
def in_171 : List (List Nat × List (List (List Nat))) := [([5], [[[1, 1, 1, 1], [], [1]]]),
 ([1, 4], [[[1, 2, 2, 2], [], [2]], [[2, 2, 2, 2], [], [1]]]),
 ([2, 3], [[[1, 1, 2, 2], [], [2]], [[1, 2, 2, 2], [], [1]]]),
 ([3, 2], [[[1, 1, 1, 2], [], [2]], [[1, 1, 2, 2], [], [1]]]),
 ([4, 1], [[[1, 1, 1, 1], [], [2]], [[1, 1, 1, 2], [], [1]]]),
 ([1, 1, 3], [[[1, 2, 3, 3], [], [3]], [[1, 3, 3, 3], [], [2]], [[2, 3, 3, 3], [], [1]]]),
 ([1, 2, 2], [[[1, 2, 2, 3], [], [3]], [[1, 2, 3, 3], [], [2]], [[2, 2, 3, 3], [], [1]]]),
 ([1, 3, 1], [[[1, 2, 2, 2], [], [3]], [[1, 2, 2, 3], [], [2]], [[2, 2, 2, 3], [], [1]]]),
 ([2, 1, 2], [[[1, 1, 2, 3], [], [3]], [[1, 1, 3, 3], [], [2]], [[1, 2, 3, 3], [], [1]]]),
 ([2, 2, 1], [[[1, 1, 2, 2], [], [3]], [[1, 1, 2, 3], [], [2]], [[1, 2, 2, 3], [], [1]]]),
 ([3, 1, 1], [[[1, 1, 1, 2], [], [3]], [[1, 1, 1, 3], [], [2]], [[1, 1, 2, 3], [], [1]]]),
 ([1, 1, 1, 2], [[[1, 2, 3, 4], [], [4]], [[1, 2, 4, 4], [], [3]], [[1, 3, 4, 4], [], [2]], [[2, 3, 4, 4], [], [1]]]),
 ([1, 1, 2, 1], [[[1, 2, 3, 3], [], [4]], [[1, 2, 3, 4], [], [3]], [[1, 3, 3, 4], [], [2]], [[2, 3, 3, 4], [], [1]]]),
 ([1, 2, 1, 1], [[[1, 2, 2, 3], [], [4]], [[1, 2, 2, 4], [], [3]], [[1, 2, 3, 4], [], [2]], [[2, 2, 3, 4], [], [1]]]),
 ([2, 1, 1, 1], [[[1, 1, 2, 3], [], [4]], [[1, 1, 2, 4], [], [3]], [[1, 1, 3, 4], [], [2]], [[1, 2, 3, 4], [], [1]]])]
def cn_171 : List (List Nat × Nat) := [([5], 1), ([4, 1], 2), ([3, 2], 2), ([3, 1, 1], 3), ([2, 2, 1], 3), ([2, 1, 1, 1], 4)]
theorem f_171 : ∀ e ∈ in_171, EF [5, 1, 1] [1, 1] e := fc (fun n => by kernel_rfl) (fc (fun n => by kernel_rfl) (fc (fun n => by kernel_rfl) (fc (fun n => by kernel_rfl) (fc (fun n => by kernel_rfl) (fc (fun n => by kernel_rfl) (fc (fun n => by kernel_rfl) (fc (fun n => by kernel_rfl) (fc (fun n => by kernel_rfl) (fc (fun n => by kernel_rfl) (fc (fun n => by kernel_rfl) (fc (fun n => by kernel_rfl) (fc (fun n => by kernel_rfl) (fc (fun n => by kernel_rfl) (fc (fun n => by kernel_rfl) (List.forall_mem_nil _)))))))))))))))
theorem c_171 : ∀ e ∈ cn_171, EC [5, 1, 1] [1, 1] e := fc (by show runC _ _ _ = _; kernel_rfl) (fc (by show runC _ _ _ = _; kernel_rfl) (fc (by show runC _ _ _ = _; kernel_rfl) (fc (by show runC _ _ _ = _; kernel_rfl) (fc (by show runC _ _ _ = _; kernel_rfl) (fc (by show runC _ _ _ = _; kernel_rfl) (List.forall_mem_nil _))))))
theorem k_171 : okI 5 in_171 cn_171 = true := by decide +kernel
theorem g_171 : Gd [5, 1, 1] [1, 1] := ⟨in_171, cn_171, f_171, c_171, k_171⟩
def in_173 : List (List Nat × List (List (List Nat))) := [([4], [[[1, 1, 1, 1], [], []]]),
 ([1, 3], [[[1, 2, 2, 2], [], []]]),
 ([2, 2], [[[1, 1, 2, 2], [], []]]),
 ([3, 1], [[[1, 1, 1, 2], [], []]]),
 ([1, 1, 2], [[[1, 2, 3, 3], [], []]]),
 ([1, 2, 1], [[[1, 2, 2, 3], [], []]]),
 ([2, 1, 1], [[[1, 1, 2, 3], [], []]]),
 ([1, 1, 1, 1], [[[1, 2, 3, 4], [], []]])]
def cn_173 : List (List Nat × Nat) := [([4], 1), ([3, 1], 1), ([2, 2], 1), ([2, 1, 1], 1), ([1, 1, 1, 1], 1)]
theorem f_173 : ∀ e ∈ in_173, EF [5, 1, 1] [1, 1, 1] e := fc (fun n => by kernel_rfl) (fc (fun n => by kernel_rfl) (fc (fun n => by kernel_rfl) (fc (fun n => by kernel_rfl) (fc (fun n => by kernel_rfl) (fc (fun n => by kernel_rfl) (fc (fun n => by kernel_rfl) (fc (fun n => by kernel_rfl) (List.forall_mem_nil _))))))))
theorem c_173 : ∀ e ∈ cn_173, EC [5, 1, 1] [1, 1, 1] e := fc (by show runC _ _ _ = _; kernel_rfl) (fc (by show runC _ _ _ = _; kernel_rfl) (fc (by show runC _ _ _ = _; kernel_rfl) (fc (by show runC _ _ _ = _; kernel_rfl) (fc (by show runC _ _ _ = _; kernel_rfl) (List.forall_mem_nil _)))))
theorem k_173 : okI 4 in_173 cn_173 = true := by decide +kernel
theorem g_173 : Gd [5, 1, 1] [1, 1, 1] := ⟨in_173, cn_173, f_173, c_173, k_173⟩
def in_174 : List (List Nat × List (List (List Nat))) := [([7], []),
 ([1, 6], []),
 ([2, 5], []),
 ([3, 4], [[[1, 1, 1, 2], [2, 2, 2]]]),
 ([4, 3], [[[1, 1, 1, 1], [2, 2, 2]]]),
 ([5, 2], []),
 ([6, 1], []),
 ([1, 1, 5], []),
 ([1, 2, 4], [[[1, 2, 2, 3], [3, 3, 3]]]),
 ([1, 3, 3], [[[1, 2, 2, 2], [3, 3, 3]], [[1, 2, 2, 3], [2, 3, 3]]]),
 ([1, 4, 2], [[[1, 2, 2, 2], [2, 3, 3]]]),
 ([1, 5, 1], []),
 ([2, 1, 4], [[[1, 1, 2, 3], [3, 3, 3]]]),
 ([2, 2, 3], [[[1, 1, 2, 2], [3, 3, 3]], [[1, 1, 2, 3], [2, 3, 3]]]),
 ([2, 3, 2], [[[1, 1, 2, 2], [2, 3, 3]], [[1, 1, 2, 3], [2, 2, 3]]]),
 ([2, 4, 1], [[[1, 1, 2, 2], [2, 2, 3]]]),
 ([3, 1, 3], [[[1, 1, 1, 2], [3, 3, 3]], [[1, 1, 1, 3], [2, 3, 3]]]),
 ([3, 2, 2], [[[1, 1, 1, 2], [2, 3, 3]], [[1, 1, 1, 3], [2, 2, 3]]]),
 ([3, 3, 1], [[[1, 1, 1, 2], [2, 2, 3]], [[1, 1, 1, 3], [2, 2, 2]]]),
 ([4, 1, 2], [[[1, 1, 1, 1], [2, 3, 3]]]),
 ([4, 2, 1], [[[1, 1, 1, 1], [2, 2, 3]]]),
 ([5, 1, 1], []),
 ([1, 1, 1, 4], [[[1, 2, 3, 4], [4, 4, 4]]]),
 ([1, 1, 2, 3], [[[1, 2, 3, 3], [4, 4, 4]], [[1, 2, 3, 4], [3, 4, 4]], [[1, 3, 3, 4], [2, 4, 4]]]),
 ([1, 1, 3, 2], [[[1, 2, 3, 3], [3, 4, 4]], [[1, 3, 3, 3], [2, 4, 4]], [[1, 2, 3, 4], [3, 3, 4]]]),
 ([1, 1, 4, 1], [[[1, 2, 3, 3], [3, 3, 4]]]),
 ([1, 2, 1, 3], [[[1, 2, 2, 3], [4, 4, 4]], [[1, 2, 2, 4], [3, 4, 4]], [[1, 2, 3, 4], [2, 4, 4]]]),
 ([1, 2, 2, 2], [[[1, 2, 2, 3], [3, 4, 4]], [[1, 2, 3, 3], [2, 4, 4]], [[1, 2, 2, 4], [3, 3, 4]], [[1, 2, 3, 4], [2, 3, 4]]]),
 ([1, 2, 3, 1], [[[1, 2, 2, 3], [3, 3, 4]], [[1, 2, 3, 3], [2, 3, 4]], [[1, 2, 2, 4], [3, 3, 3]]]),
 ([1, 3, 1, 2], [[[1, 2, 2, 2], [3, 4, 4]], [[1, 2, 2, 3], [2, 4, 4]], [[1, 2, 2, 4], [2, 3, 4]]]),
 ([1, 3, 2, 1], [[[1, 2, 2, 2], [3, 3, 4]], [[1, 2, 2, 3], [2, 3, 4]], [[1, 2, 2, 4], [2, 3, 3]]]),
 ([1, 4, 1, 1], [[[1, 2, 2, 2], [2, 3, 4]]]),
 ([2, 1, 1, 3], [[[1, 1, 2, 3], [4, 4, 4]], [[1, 1, 2, 4], [3, 4, 4]], [[1, 1, 3, 4], [2, 4, 4]]]),
 ([2, 1, 2, 2], [[[1, 1, 2, 3], [3, 4, 4]], [[1, 1, 3, 3], [2, 4, 4]], [[1, 1, 2, 4], [3, 3, 4]], [[1, 1, 3, 4], [2, 3, 4]]]),
 ([2, 1, 3, 1], [[[1, 1, 2, 3], [3, 3, 4]], [[1, 1, 3, 3], [2, 3, 4]], [[1, 1, 2, 4], [3, 3, 3]]]),
 ([2, 2, 1, 2], [[[1, 1, 2, 2], [3, 4, 4]], [[1, 1, 2, 3], [2, 4, 4]], [[1, 1, 2, 4], [2, 3, 4]], [[1, 1, 3, 4], [2, 2, 4]]]),
 ([2, 2, 2, 1], [[[1, 1, 2, 2], [3, 3, 4]], [[1, 1, 2, 3], [2, 3, 4]], [[1, 1, 3, 3], [2, 2, 4]], [[1, 1, 2, 4], [2, 3, 3]]]),
 ([2, 3, 1, 1], [[[1, 1, 2, 2], [2, 3, 4]], [[1, 1, 2, 3], [2, 2, 4]], [[1, 1, 2, 4], [2, 2, 3]]]),
 ([3, 1, 1, 2], [[[1, 1, 1, 2], [3, 4, 4]], [[1, 1, 1, 3], [2, 4, 4]], [[1, 1, 1, 4], [2, 3, 4]]]),
 ([3, 1, 2, 1], [[[1, 1, 1, 2], [3, 3, 4]], [[1, 1, 1, 3], [2, 3, 4]], [[1, 1, 1, 4], [2, 3, 3]]]),
 ([3, 2, 1, 1], [[[1, 1, 1, 2], [2, 3, 4]], [[1, 1, 1, 3], [2, 2, 4]], [[1, 1, 1, 4], [2, 2, 3]]]),
 ([4, 1, 1, 1], [[[1, 1, 1, 1], [2, 3, 4]]])]
def cn_174 : List (List Nat × Nat) := [([7], 0), ([6, 1], 0), ([5, 2], 0), ([5, 1, 1], 0), ([4, 3], 1), ([4, 2, 1], 1), ([4, 1, 1, 1], 1), ([3, 3, 1], 2), ([3, 2, 2], 2), ([3, 2, 1, 1], 3), ([2, 2, 2, 1], 4)]
theorem f_174 : ∀ e ∈ in_174, EF [4, 3] [] e := fc (fun n => by kernel_rfl) (fc (fun n => by kernel_rfl) (fc (fun n => by kernel_rfl) (fc (fun n => by kernel_rfl) (fc (fun n => by kernel_rfl) (fc (fun n => by kernel_rfl) (fc (fun n => by kernel_rfl) (fc (fun n => by kernel_rfl) (fc (fun n => by kernel_rfl) (fc (fun n => by kernel_rfl) (fc (fun n => by kernel_rfl) (fc (fun n => by kernel_rfl) (fc (fun n => by kernel_rfl) (fc (fun n => by kernel_rfl) (fc (fun n => by kernel_rfl) (fc (fun n => by kernel_rfl) (fc (fun n => by kernel_rfl) (fc (fun n => by kernel_rfl) (fc (fun n => by kernel_rfl) (fc (fun n => by kernel_rfl) (fc (fun n => by kernel_rfl) (fc (fun n => by kernel_rfl) (fc (fun n => by kernel_rfl) (fc (fun n => by kernel_rfl) (fc (fun n => by kernel_rfl) (fc (fun n => by kernel_rfl) (fc (fun n => by kernel_rfl) (fc (fun n => by kernel_rfl) (fc (fun n => by kernel_rfl) (fc (fun n => by kernel_rfl) (fc (fun n => by kernel_rfl) (fc (fun n => by kernel_rfl) (fc (fun n => by kernel_rfl) (fc (fun n => by kernel_rfl) (fc (fun n => by kernel_rfl) (fc (fun n => by kernel_rfl) (fc (fun n => by kernel_rfl) (fc (fun n => by kernel_rfl) (fc (fun n => by kernel_rfl) (fc (fun n => by kernel_rfl) (fc (fun n => by kernel_rfl) (fc (fun n => by kernel_rfl) (List.forall_mem_nil _))))))))))))))))))))))))))))))))))))))))))
theorem c_174 : ∀ e ∈ cn_174, EC [4, 3] [] e := fc (by show runC _ _ _ = _; kernel_rfl) (fc (by show runC _ _ _ = _; kernel_rfl) (fc (by show runC _ _ _ = _; kernel_rfl) (fc (by show runC _ _ _ = _; kernel_rfl) (fc (by show runC _ _ _ = _; kernel_rfl) (fc (by show runC _ _ _ = _; kernel_rfl) (fc (by show runC _ _ _ = _; kernel_rfl) (fc (by show runC _ _ _ = _; kernel_rfl) (fc (by show runC _ _ _ = _; kernel_rfl) (fc (by show runC _ _ _ = _; kernel_rfl) (fc (by show runC _ _ _ = _; kernel_rfl) (List.forall_mem_nil _)))))))))))
theorem k_174 : okI 7 in_174 cn_174 = true := by decide +kernel
theorem g_174 : Gd [4, 3] [] := ⟨in_174, cn_174, f_174, c_174, k_174⟩
def in_185 : List (List Nat × List (List (List Nat))) := [([4], [[[1, 1], [1], [1]]]),
 ([1, 3], [[[1, 2], [2], [2]], [[2, 2], [1], [2]], [[2, 2], [2], [1]]]),
 ([2, 2], [[[1, 1], [2], [2]], [[1, 2], [1], [2]], [[1, 2], [2], [1]], [[2, 2], [1], [1]]]),
 ([3, 1], [[[1, 1], [1], [2]], [[1, 1], [2], [1]], [[1, 2], [1], [1]]]),
 ([1, 1, 2], [[[1, 2], [3], [3]], [[1, 3], [2], [3]], [[2, 3], [1], [3]], [[1, 3], [3], [2]], [[2, 3], [3], [1]], [[3, 3], [1], [2]], [[3, 3], [2], [1]]]),
 ([1, 2, 1], [[[1, 2], [2], [3]], [[2, 2], [1], [3]], [[1, 2], [3], [2]], [[2, 2], [3], [1]], [[1, 3], [2], [2]], [[2, 3], [1], [2]], [[2, 3], [2], [1]]]),
 ([2, 1, 1], [[[1, 1], [2], [3]], [[1, 2], [1], [3]], [[1, 1], [3], [2]], [[1, 2], [3], [1]], [[1, 3], [1], [2]], [[1, 3], [2], [1]], [[2, 3], [1], [1]]]),
 ([1, 1, 1, 1], [[[1, 2], [3], [4]], [[1, 3], [2], [4]], [[2, 3], [1], [4]], [[1, 2], [4], [3]], [[1, 3], [4], [2]], [[2, 3], [4], [1]], [[1, 4], [2], [3]], [[2, 4], [1], [3]], [[1, 4], [3], [2]], [[2, 4], [3], [1]], [[3, 4], [1], [2]], [[3, 4], [2], [1]]])]
def cn_185 : List (List Nat × Nat) := [([4], 1), ([3, 1], 3), ([2, 2], 4), ([2, 1, 1], 7), ([1, 1, 1, 1], 12)]
theorem f_185 : ∀ e ∈ in_185, EF [4, 2, 1] [2, 1] e := fc (fun n => by kernel_rfl) (fc (fun n => by kernel_rfl) (fc (fun n => by kernel_rfl) (fc (fun n => by kernel_rfl) (fc (fun n => by kernel_rfl) (fc (fun n => by kernel_rfl) (fc (fun n => by kernel_rfl) (fc (fun n => by kernel_rfl) (List.forall_mem_nil _))))))))
theorem c_185 : ∀ e ∈ cn_185, EC [4, 2, 1] [2, 1] e := fc (by show runC _ _ _ = _; kernel_rfl) (fc (by show runC _ _ _ = _; kernel_rfl) (fc (by show runC _ _ _ = _; kernel_rfl) (fc (by show runC _ _ _ = _; kernel_rfl) (fc (by show runC _ _ _ = _; kernel_rfl) (List.forall_mem_nil _)))))
theorem k_185 : okI 4 in_185 cn_185 = true := by decide +kernel
theorem g_185 : Gd [4, 2, 1] [2, 1] := ⟨in_185, cn_185, f_185, c_185, k_185⟩
def in_187 : List (List Nat × List (List (List Nat))) := [([7], []),
 ([1, 6], []),
 ([2, 5], []),
 ([3, 4], []),
 ([4, 3], []),
 ([5, 2], []),
 ([6, 1], []),
 ([1, 1, 5], []),
 ([1, 2, 4], []),
 ([1, 3, 3], []),
 ([1, 4, 2], []),
 ([1, 5, 1], []),
 ([2, 1, 4], []),
 ([2, 2, 3], []),
 ([2, 3, 2], []),
 ([2, 4, 1], []),
 ([3, 1, 3], []),
 ([3, 2, 2], []),
 ([3, 3, 1], []),
 ([4, 1, 2], []),
 ([4, 2, 1], []),
 ([5, 1, 1], []),
 ([1, 1, 1, 4], [[[1, 4, 4, 4], [2], [3], [4]]]),
 ([1, 1, 2, 3], [[[1, 3, 4, 4], [2], [3], [4]]]),
 ([1, 1, 3, 2], [[[1, 3, 3, 4], [2], [3], [4]]]),
 ([1, 1, 4, 1], [[[1, 3, 3, 3], [2], [3], [4]]]),
 ([1, 2, 1, 3], [[[1, 2, 4, 4], [2], [3], [4]]]),
 ([1, 2, 2, 2], [[[1, 2, 3, 4], [2], [3], [4]]]),
 ([1, 2, 3, 1], [[[1, 2, 3, 3], [2], [3], [4]]]),
 ([1, 3, 1, 2], [[[1, 2, 2, 4], [2], [3], [4]]]),
 ([1, 3, 2, 1], [[[1, 2, 2, 3], [2], [3], [4]]]),
 ([1, 4, 1, 1], [[[1, 2, 2, 2], [2], [3], [4]]]),
 ([2, 1, 1, 3], [[[1, 1, 4, 4], [2], [3], [4]]]),
 ([2, 1, 2, 2], [[[1, 1, 3, 4], [2], [3], [4]]]),
 ([2, 1, 3, 1], [[[1, 1, 3, 3], [2], [3], [4]]]),
 ([2, 2, 1, 2], [[[1, 1, 2, 4], [2], [3], [4]]]),
 ([2, 2, 2, 1], [[[1, 1, 2, 3], [2], [3], [4]]]),
 ([2, 3, 1, 1], [[[1, 1, 2, 2], [2], [3], [4]]]),
 ([3, 1, 1, 2], [[[1, 1, 1, 4], [2], [3], [4]]]),
 ([3, 1, 2, 1], [[[1, 1, 1, 3], [2], [3], [4]]]),
 ([3, 2, 1, 1], [[[1, 1, 1, 2], [2], [3], [4]]]),
 ([4, 1, 1, 1], [[[1, 1, 1, 1], [2], [3], [4]]])]
def cn_187 : List (List Nat × Nat) := [([7], 0), ([6, 1], 0), ([5, 2], 0), ([5, 1, 1], 0), ([4, 3], 0), ([4, 2, 1], 0), ([4, 1, 1, 1], 1), ([3, 3, 1], 0), ([3, 2, 2], 0), ([3, 2, 1, 1], 1), ([2, 2, 2, 1], 1)]
theorem f_187 : ∀ e ∈ in_187, EF [4, 1, 1, 1] [] e := fc (fun n => by kernel_rfl) (fc (fun n => by kernel_rfl) (fc (fun n => by kernel_rfl) (fc (fun n => by kernel_rfl) (fc (fun n => by kernel_rfl) (fc (fun n => by kernel_rfl) (fc (fun n => by kernel_rfl) (fc (fun n => by kernel_rfl) (fc (fun n => by kernel_rfl) (fc (fun n => by kernel_rfl) (fc (fun n => by kernel_rfl) (fc (fun n => by kernel_rfl) (fc (fun n => by kernel_rfl) (fc (fun n => by kernel_rfl) (fc (fun n => by kernel_rfl) (fc (fun n => by kernel_rfl) (fc (fun n => by kernel_rfl) (fc (fun n => by kernel_rfl) (fc (fun n => by kernel_rfl) (fc (fun n => by kernel_rfl) (fc (fun n => by kernel_rfl) (fc (fun n => by kernel_rfl) (fc (fun n => by kernel_rfl) (fc (fun n => by kernel_rfl) (fc (fun n => by kernel_rfl) (fc (fun n => by kernel_rfl) (fc (fun n => by kernel_rfl) (fc (fun n => by kernel_rfl) (fc (fun n => by kernel_rfl) (fc (fun n => by kernel_rfl) (fc (fun n => by kernel_rfl) (fc (fun n => by kernel_rfl) (fc (fun n => by kernel_rfl) (fc (fun n => by kernel_rfl) (fc (fun n => by kernel_rfl) (fc (fun n => by kernel_rfl) (fc (fun n => by kernel_rfl) (fc (fun n => by kernel_rfl) (fc (fun n => by kernel_rfl) (fc (fun n => by kernel_rfl) (fc (fun n => by kernel_rfl) (fc (fun n => by kernel_rfl) (List.forall_mem_nil _))))))))))))))))))))))))))))))))))))))))))
theorem c_187 : ∀ e ∈ cn_187, EC [4, 1, 1, 1] [] e := fc (by show runC _ _ _ = _; kernel_rfl) (fc (by show runC _ _ _ = _; kernel_rfl) (fc (by show runC _ _ _ = _; kernel_rfl) (fc (by show runC _ _ _ = _; kernel_rfl) (fc (by show runC _ _ _ = _; kernel_rfl) (fc (by show runC _ _ _ = _; kernel_rfl) (fc (by show runC _ _ _ = _; kernel_rfl) (fc (by show runC _ _ _ = _; kernel_rfl) (fc (by show runC _ _ _ = _; kernel_rfl) (fc (by show runC _ _ _ = _; kernel_rfl) (fc (by show runC _ _ _ = _; kernel_rfl) (List.forall_mem_nil _)))))))))))
theorem k_187 : okI 7 in_187 cn_187 = true := by decide +kernel
theorem g_187 : Gd [4, 1, 1, 1] [] := ⟨in_187, cn_187, f_187, c_187, k_187⟩
def in_193 : List (List Nat × List (List (List Nat))) := [([4], [[[1, 1, 1], [], [], [1]]]),
 ([1, 3], [[[1, 2, 2], [], [], [2]], [[2, 2, 2], [], [], [1]]]),
 ([2, 2], [[[1, 1, 2], [], [], [2]], [[1, 2, 2], [], [], [1]]]),
 ([3, 1], [[[1, 1, 1], [], [], [2]], [[1, 1, 2], [], [], [1]]]),
 ([1, 1, 2], [[[1, 2, 3], [], [], [3]], [[1, 3, 3], [], [], [2]], [[2, 3, 3], [], [], [1]]]),
 ([1, 2, 1], [[[1, 2, 2], [], [], [3]], [[1, 2, 3], [], [], [2]], [[2, 2, 3], [], [], [1]]]),
 ([2, 1, 1], [[[1, 1, 2], [], [], [3]], [[1, 1, 3], [], [], [2]], [[1, 2, 3], [], [], [1]]]),
 ([1, 1, 1, 1], [[[1, 2, 3], [], [], [4]], [[1, 2, 4], [], [], [3]], [[1, 3, 4], [], [], [2]], [[2, 3, 4], [], [], [1]]])]
def cn_193 : List (List Nat × Nat) := [([4], 1), ([3, 1], 2), ([2, 2], 2), ([2, 1, 1], 3), ([1, 1, 1, 1], 4)]
theorem f_193 : ∀ e ∈ in_193, EF [4, 1, 1, 1] [1, 1, 1] e := fc (fun n => by kernel_rfl) (fc (fun n => by kernel_rfl) (fc (fun n => by kernel_rfl) (fc (fun n => by kernel_rfl) (fc (fun n => by kernel_rfl) (fc (fun n => by kernel_rfl) (fc (fun n => by kernel_rfl) (fc (fun n => by kernel_rfl) (List.forall_mem_nil _))))))))
theorem c_193 : ∀ e ∈ cn_193, EC [4, 1, 1, 1] [1, 1, 1] e := fc (by show runC _ _ _ = _; kernel_rfl) (fc (by show runC _ _ _ = _; kernel_rfl) (fc (by show runC _ _ _ = _; kernel_rfl) (fc (by show runC _ _ _ = _; kernel_rfl) (fc (by show runC _ _ _ = _; kernel_rfl) (List.forall_mem_nil _)))))
theorem k_193 : okI 4 in_193 cn_193 = true := by decide +kernel
theorem g_193 : Gd [4, 1, 1, 1] [1, 1, 1] := ⟨in_193, cn_193, f_193, c_193, k_193⟩
def in_202 : List (List Nat × List (List (List Nat))) := [([6], []),
 ([1, 5], []),
 ([2, 4], []),
 ([3, 3], []),
 ([4, 2], []),
 ([5, 1], []),
 ([1, 1, 4], []),
 ([1, 2, 3], [[[1, 3], [2, 2], [3, 3]]]),
 ([1, 3, 2], [[[1, 2], [2, 2], [3, 3]]]),
 ([1, 4, 1], []),
 ([2, 1, 3], [[[1, 3], [1, 2], [3, 3]]]),
 ([2, 2, 2], [[[1, 1], [2, 2], [3, 3]], [[1, 2], [1, 2], [3, 3]], [[1, 3], [1, 2], [2, 3]]]),
 ([2, 3, 1], [[[1, 2], [1, 2], [2, 3]]]),
 ([3, 1, 2], [[[1, 1], [1, 2], [3, 3]]]),
 ([3, 2, 1], [[[1, 1], [1, 2], [2, 3]]]),
 ([4, 1, 1], []),
 ([1, 1, 1, 3], [[[1, 4], [2, 3], [4, 4]], [[2, 4], [1, 3], [4, 4]]]),
 ([1, 1, 2, 2], [[[1, 2], [3, 3], [4, 4]], [[1, 3], [2, 3], [4, 4]], [[2, 3], [1, 3], [4, 4]], [[1, 4], [2, 3], [3, 4]], [[2, 4], [1, 3], [3, 4]]]),
 ([1, 1, 3, 1], [[[1, 3], [2, 3], [3, 4]], [[2, 3], [1, 3], [3, 4]]]),
 ([1, 2, 1, 2], [[[1, 2], [2, 3], [4, 4]], [[2, 2], [1, 3], [4, 4]], [[1, 3], [2, 2], [4, 4]], [[1, 4], [2, 2], [3, 4]], [[2, 4], [1, 3], [2, 4]]]),
 ([1, 2, 2, 1], [[[1, 2], [2, 3], [3, 4]], [[2, 2], [1, 3], [3, 4]], [[1, 3], [2, 2], [3, 4]], [[2, 3], [1, 3], [2, 4]], [[1, 4], [2, 2], [3, 3]]]),
 ([1, 3, 1, 1], [[[1, 2], [2, 2], [3, 4]], [[2, 2], [1, 3], [2, 4]]]),
 ([2, 1, 1, 2], [[[1, 1], [2, 3], [4, 4]], [[1, 2], [1, 3], [4, 4]], [[1, 3], [1, 2], [4, 4]], [[1, 4], [1, 2], [3, 4]], [[1, 4], [1, 3], [2, 4]]]),
 ([2, 1, 2, 1], [[[1, 1], [2, 3], [3, 4]], [[1, 2], [1, 3], [3, 4]], [[1, 3], [1, 2], [3, 4]], [[1, 3], [1, 3], [2, 4]], [[1, 4], [1, 2], [3, 3]]]),
 ([2, 2, 1, 1], [[[1, 1], [2, 2], [3, 4]], [[1, 2], [1, 2], [3, 4]], [[1, 2], [1, 3], [2, 4]], [[1, 3], [1, 2], [2, 4]], [[1, 4], [1, 2], [2, 3]]]),
 ([3, 1, 1, 1], [[[1, 1], [1, 2], [3, 4]], [[1, 1], [1, 3], [2, 4]]])]
def cn_202 : List (List Nat × Nat) := [([6], 0), ([5, 1], 0), ([4, 2], 0), ([4, 1, 1], 0), ([3, 3], 0), ([3, 2, 1], 1), ([3, 1, 1, 1], 2), ([2, 2, 2], 3), ([2, 2, 1, 1], 5)]
theorem f_202 : ∀ e ∈ in_202, EF [3, 2, 2] [1] e := fc (fun n => by kernel_rfl) (fc (fun n => by kernel_rfl) (fc (fun n => by kernel_rfl) (fc (fun n => by kernel_rfl) (fc (fun n => by kernel_rfl) (fc (fun n => by kernel_rfl) (fc (fun n => by kernel_rfl) (fc (fun n => by kernel_rfl) (fc (fun n => by kernel_rfl) (fc (fun n => by kernel_rfl) (fc (fun n => by kernel_rfl) (fc (fun n => by kernel_rfl) (fc (fun n => by kernel_rfl) (fc (fun n => by kernel_rfl) (fc (fun n => by kernel_rfl) (fc (fun n => by kernel_rfl) (fc (fun n => by kernel_rfl) (fc (fun n => by kernel_rfl) (fc (fun n => by kernel_rfl) (fc (fun n => by kernel_rfl) (fc (fun n => by kernel_rfl) (fc (fun n => by kernel_rfl) (fc (fun n => by kernel_rfl) (fc (fun n => by kernel_rfl) (fc (fun n => by kernel_rfl) (fc (fun n => by kernel_rfl) (List.forall_mem_nil _))))))))))))))))))))))))))
theorem c_202 : ∀ e ∈ cn_202, EC [3, 2, 2] [1] e := fc (by show runC _ _ _ = _; kernel_rfl) (fc (by show runC _ _ _ = _; kernel_rfl) (fc (by show runC _ _ _ = _; kernel_rfl) (fc (by show runC _ _ _ = _; kernel_rfl) (fc (by show runC _ _ _ = _; kernel_rfl) (fc (by show runC _ _ _ = _; kernel_rfl) (fc (by show runC _ _ _ = _; kernel_rfl) (fc (by show runC _ _ _ = _; kernel_rfl) (fc (by show runC _ _ _ = _; kernel_rfl) (List.forall_mem_nil _)))))))))
theorem k_202 : okI 6 in_202 cn_202 = true := by decide +kernel
theorem g_202 : Gd [3, 2, 2] [1] := ⟨in_202, cn_202, f_202, c_202, k_202⟩
def in_204 : List (List Nat × List (List (List Nat))) := [([4], []),
 ([1, 3], []),
 ([2, 2], [[[], [1, 1], [2, 2]]]),
 ([3, 1], []),
 ([1, 1, 2], [[[], [1, 2], [3, 3]]]),
 ([1, 2, 1], [[[], [1, 2], [2, 3]]]),
 ([2, 1, 1], [[[], [1, 1], [2, 3]]]),
 ([1, 1, 1, 1], [[[], [1, 2], [3, 4]], [[], [1, 3], [2, 4]]])]
def cn_204 : List (List Nat × Nat) := [([4], 0), ([3, 1], 0), ([2, 2], 1), ([2, 1, 1], 1), ([1, 1, 1, 1], 2)]
theorem f_204 : ∀ e ∈ in_204, EF [3, 2, 2] [3] e := fc (fun n => by kernel_rfl) (fc (fun n => by kernel_rfl) (fc (fun n => by kernel_rfl) (fc (fun n => by kernel_rfl) (fc (fun n => by kernel_rfl) (fc (fun n => by kernel_rfl) (fc (fun n => by kernel_rfl) (fc (fun n => by kernel_rfl) (List.forall_mem_nil _))))))))
theorem c_204 : ∀ e ∈ cn_204, EC [3, 2, 2] [3] e := fc (by show runC _ _ _ = _; kernel_rfl) (fc (by show runC _ _ _ = _; kernel_rfl) (fc (by show runC _ _ _ = _; kernel_rfl) (fc (by show runC _ _ _ = _; kernel_rfl) (fc (by show runC _ _ _ = _; kernel_rfl) (List.forall_mem_nil _)))))
theorem k_204 : okI 4 in_204 cn_204 = true := by decide +kernel
theorem g_204 : Gd [3, 2, 2] [3] := ⟨in_204, cn_204, f_204, c_204, k_204⟩
def in_217 : List (List Nat × List (List (List Nat))) := [([5], []),
 ([1, 4], []),
 ([2, 3], []),
 ([3, 2], []),
 ([4, 1], []),
 ([1, 1, 3], []),
 ([1, 2, 2], []),
 ([1, 3, 1], []),
 ([2, 1, 2], []),
 ([2, 2, 1], []),
 ([3, 1, 1], []),
 ([1, 1, 1, 2], [[[4], [1], [2], [3], [4]]]),
 ([1, 1, 2, 1], [[[3], [1], [2], [3], [4]]]),
 ([1, 2, 1, 1], [[[2], [1], [2], [3], [4]]]),
 ([2, 1, 1, 1], [[[1], [1], [2], [3], [4]]])]
def cn_217 : List (List Nat × Nat) := [([5], 0), ([4, 1], 0), ([3, 2], 0), ([3, 1, 1], 0), ([2, 2, 1], 0), ([2, 1, 1, 1], 1)]
theorem f_217 : ∀ e ∈ in_217, EF [3, 1, 1, 1, 1] [2] e := fc (fun n => by kernel_rfl) (fc (fun n => by kernel_rfl) (fc (fun n => by kernel_rfl) (fc (fun n => by kernel_rfl) (fc (fun n => by kernel_rfl) (fc (fun n => by kernel_rfl) (fc (fun n => by kernel_rfl) (fc (fun n => by kernel_rfl) (fc (fun n => by kernel_rfl) (fc (fun n => by kernel_rfl) (fc (fun n => by kernel_rfl) (fc (fun n => by kernel_rfl) (fc (fun n => by kernel_rfl) (fc (fun n => by kernel_rfl) (fc (fun n => by kernel_rfl) (List.forall_mem_nil _)))))))))))))))
theorem c_217 : ∀ e ∈ cn_217, EC [3, 1, 1, 1, 1] [2] e := fc (by show runC _ _ _ = _; kernel_rfl) (fc (by show runC _ _ _ = _; kernel_rfl) (fc (by show runC _ _ _ = _; kernel_rfl) (fc (by show runC _ _ _ = _; kernel_rfl) (fc (by show runC _ _ _ = _; kernel_rfl) (fc (by show runC _ _ _ = _; kernel_rfl) (List.forall_mem_nil _))))))
theorem k_217 : okI 5 in_217 cn_217 = true := by decide +kernel
theorem g_217 : Gd [3, 1, 1, 1, 1] [2] := ⟨in_217, cn_217, f_217, c_217, k_217⟩
def in_235 : List (List Nat × List (List (List Nat))) := [([6], []),
 ([1, 5], []),
 ([2, 4], []),
 ([3, 3], []),
 ([4, 2], []),
 ([5, 1], []),
 ([1, 1, 4], []),
 ([1, 2, 3], []),
 ([1, 3, 2], []),
 ([1, 4, 1], []),
 ([2, 1, 3], []),
 ([2, 2, 2], []),
 ([2, 3, 1], []),
 ([3, 1, 2], []),
 ([3, 2, 1], []),
 ([4, 1, 1], []),
 ([1, 1, 1, 3], []),
 ([1, 1, 2, 2], []),
 ([1, 1, 3, 1], []),
 ([1, 2, 1, 2], []),
 ([1, 2, 2, 1], []),
 ([1, 3, 1, 1], []),
 ([2, 1, 1, 2], []),
 ([2, 1, 2, 1], []),
 ([2, 2, 1, 1], []),
 ([3, 1, 1, 1], [])]
def cn_235 : List (List Nat × Nat) := [([6], 0), ([5, 1], 0), ([4, 2], 0), ([4, 1, 1], 0), ([3, 3], 0), ([3, 2, 1], 0), ([3, 1, 1, 1], 0), ([2, 2, 2], 0), ([2, 2, 1, 1], 0)]
theorem f_235 : ∀ e ∈ in_235, EF [2, 1, 1, 1, 1, 1] [1] e := fc (fun n => by kernel_rfl) (fc (fun n => by kernel_rfl) (fc (fun n => by kernel_rfl) (fc (fun n => by kernel_rfl) (fc (fun n => by kernel_rfl) (fc (fun n => by kernel_rfl) (fc (fun n => by kernel_rfl) (fc (fun n => by kernel_rfl) (fc (fun n => by kernel_rfl) (fc (fun n => by kernel_rfl) (fc (fun n => by kernel_rfl) (fc (fun n => by kernel_rfl) (fc (fun n => by kernel_rfl) (fc (fun n => by kernel_rfl) (fc (fun n => by kernel_rfl) (fc (fun n => by kernel_rfl) (fc (fun n => by kernel_rfl) (fc (fun n => by kernel_rfl) (fc (fun n => by kernel_rfl) (fc (fun n => by kernel_rfl) (fc (fun n => by kernel_rfl) (fc (fun n => by kernel_rfl) (fc (fun n => by kernel_rfl) (fc (fun n => by kernel_rfl) (fc (fun n => by kernel_rfl) (fc (fun n => by kernel_rfl) (List.forall_mem_nil _))))))))))))))))))))))))))
theorem c_235 : ∀ e ∈ cn_235, EC [2, 1, 1, 1, 1, 1] [1] e := fc (by show runC _ _ _ = _; kernel_rfl) (fc (by show runC _ _ _ = _; kernel_rfl) (fc (by show runC _ _ _ = _; kernel_rfl) (fc (by show runC _ _ _ = _; kernel_rfl) (fc (by show runC _ _ _ = _; kernel_rfl) (fc (by show runC _ _ _ = _; kernel_rfl) (fc (by show runC _ _ _ = _; kernel_rfl) (fc (by show runC _ _ _ = _; kernel_rfl) (fc (by show runC _ _ _ = _; kernel_rfl) (List.forall_mem_nil _)))))))))
theorem k_235 : okI 6 in_235 cn_235 = true := by decide +kernel
theorem g_235 : Gd [2, 1, 1, 1, 1, 1] [1] := ⟨in_235, cn_235, f_235, c_235, k_235⟩
def in_240 : List (List Nat × List (List (List Nat))) := [([7], []),
 ([1, 6], []),
 ([2, 5], []),
 ([3, 4], []),
 ([4, 3], []),
 ([5, 2], []),
 ([6, 1], []),
 ([1, 1, 5], []),
 ([1, 2, 4], []),
 ([1, 3, 3], []),
 ([1, 4, 2], []),
 ([1, 5, 1], []),
 ([2, 1, 4], []),
 ([2, 2, 3], []),
 ([2, 3, 2], []),
 ([2, 4, 1], []),
 ([3, 1, 3], []),
 ([3, 2, 2], []),
 ([3, 3, 1], []),
 ([4, 1, 2], []),
 ([4, 2, 1], []),
 ([5, 1, 1], []),
 ([1, 1, 1, 4], []),
 ([1, 1, 2, 3], []),
 ([1, 1, 3, 2], []),
 ([1, 1, 4, 1], []),
 ([1, 2, 1, 3], []),
 ([1, 2, 2, 2], []),
 ([1, 2, 3, 1], []),
 ([1, 3, 1, 2], []),
 ([1, 3, 2, 1], []),
 ([1, 4, 1, 1], []),
 ([2, 1, 1, 3], []),
 ([2, 1, 2, 2], []),
 ([2, 1, 3, 1], []),
 ([2, 2, 1, 2], []),
 ([2, 2, 2, 1], []),
 ([2, 3, 1, 1], []),
 ([3, 1, 1, 2], []),
 ([3, 1, 2, 1], []),
 ([3, 2, 1, 1], []),
 ([4, 1, 1, 1], [])]
def cn_240 : List (List Nat × Nat) := [([7], 0), ([6, 1], 0), ([5, 2], 0), ([5, 1, 1], 0), ([4, 3], 0), ([4, 2, 1], 0), ([4, 1, 1, 1], 0), ([3, 3, 1], 0), ([3, 2, 2], 0), ([3, 2, 1, 1], 0), ([2, 2, 2, 1], 0)]
theorem f_240 : ∀ e ∈ in_240, EF [1, 1, 1, 1, 1, 1, 1] [] e := fc (fun n => by kernel_rfl) (fc (fun n => by kernel_rfl) (fc (fun n => by kernel_rfl) (fc (fun n => by kernel_rfl) (fc (fun n => by kernel_rfl) (fc (fun n => by kernel_rfl) (fc (fun n => by kernel_rfl) (fc (fun n => by kernel_rfl) (fc (fun n => by kernel_rfl) (fc (fun n => by kernel_rfl) (fc (fun n => by kernel_rfl) (fc (fun n => by kernel_rfl) (fc (fun n => by kernel_rfl) (fc (fun n => by kernel_rfl) (fc (fun n => by kernel_rfl) (fc (fun n => by kernel_rfl) (fc (fun n => by kernel_rfl) (fc (fun n => by kernel_rfl) (fc (fun n => by kernel_rfl) (fc (fun n => by kernel_rfl) (fc (fun n => by kernel_rfl) (fc (fun n => by kernel_rfl) (fc (fun n => by kernel_rfl) (fc (fun n => by kernel_rfl) (fc (fun n => by kernel_rfl) (fc (fun n => by kernel_rfl) (fc (fun n => by kernel_rfl) (fc (fun n => by kernel_rfl) (fc (fun n => by kernel_rfl) (fc (fun n => by kernel_rfl) (fc (fun n => by kernel_rfl) (fc (fun n => by kernel_rfl) (fc (fun n => by kernel_rfl) (fc (fun n => by kernel_rfl) (fc (fun n => by kernel_rfl) (fc (fun n => by kernel_rfl) (fc (fun n => by kernel_rfl) (fc (fun n => by kernel_rfl) (fc (fun n => by kernel_rfl) (fc (fun n => by kernel_rfl) (fc (fun n => by kernel_rfl) (fc (fun n => by kernel_rfl) (List.forall_mem_nil _))))))))))))))))))))))))))))))))))))))))))
theorem c_240 : ∀ e ∈ cn_240, EC [1, 1, 1, 1, 1, 1, 1] [] e := fc (by show runC _ _ _ = _; kernel_rfl) (fc (by show runC _ _ _ = _; kernel_rfl) (fc (by show runC _ _ _ = _; kernel_rfl) (fc (by show runC _ _ _ = _; kernel_rfl) (fc (by show runC _ _ _ = _; kernel_rfl) (fc (by show runC _ _ _ = _; kernel_rfl) (fc (by show runC _ _ _ = _; kernel_rfl) (fc (by show runC _ _ _ = _; kernel_rfl) (fc (by show runC _ _ _ = _; kernel_rfl) (fc (by show runC _ _ _ = _; kernel_rfl) (fc (by show runC _ _ _ = _; kernel_rfl) (List.forall_mem_nil _)))))))))))
theorem k_240 : okI 7 in_240 cn_240 = true := by decide +kernel
theorem g_240 : Gd [1, 1, 1, 1, 1, 1, 1] [] := ⟨in_240, cn_240, f_240, c_240, k_240⟩
def in_242 : List (List Nat × List (List (List Nat))) := [([5], []),
 ([1, 4], []),
 ([2, 3], []),
 ([3, 2], []),
 ([4, 1], []),
 ([1, 1, 3], []),
 ([1, 2, 2], []),
 ([1, 3, 1], []),
 ([2, 1, 2], []),
 ([2, 2, 1], []),
 ([3, 1, 1], []),
 ([1, 1, 1, 2], []),
 ([1, 1, 2, 1], []),
 ([1, 2, 1, 1], []),
 ([2, 1, 1, 1], [])]
def cn_242 : List (List Nat × Nat) := [([5], 0), ([4, 1], 0), ([3, 2], 0), ([3, 1, 1], 0), ([2, 2, 1], 0), ([2, 1, 1, 1], 0)]
theorem f_242 : ∀ e ∈ in_242, EF [1, 1, 1, 1, 1, 1, 1] [1, 1] e := fc (fun n => by kernel_rfl) (fc (fun n => by kernel_rfl) (fc (fun n => by kernel_rfl) (fc (fun n => by kernel_rfl) (fc (fun n => by kernel_rfl) (fc (fun n => by kernel_rfl) (fc (fun n => by kernel_rfl) (fc (fun n => by kernel_rfl) (fc (fun n => by kernel_rfl) (fc (fun n => by kernel_rfl) (fc (fun n => by kernel_rfl) (fc (fun n => by kernel_rfl) (fc (fun n => by kernel_rfl) (fc (fun n => by kernel_rfl) (fc (fun n => by kernel_rfl) (List.forall_mem_nil _)))))))))))))))
theorem c_242 : ∀ e ∈ cn_242, EC [1, 1, 1, 1, 1, 1, 1] [1, 1] e := fc (by show runC _ _ _ = _; kernel_rfl) (fc (by show runC _ _ _ = _; kernel_rfl) (fc (by show runC _ _ _ = _; kernel_rfl) (fc (by show runC _ _ _ = _; kernel_rfl) (fc (by show runC _ _ _ = _; kernel_rfl) (fc (by show runC _ _ _ = _; kernel_rfl) (List.forall_mem_nil _))))))
theorem k_242 : okI 5 in_242 cn_242 = true := by decide +kernel
theorem g_242 : Gd [1, 1, 1, 1, 1, 1, 1] [1, 1] := ⟨in_242, cn_242, f_242, c_242, k_242⟩
end K14
set_option maxHeartbeats 0
noncomputable section
namespace K14
open PySem L2 Pd Gn PySem.Spec PyProof.Rows Zq Hx
def PP : List (List Nat × List Nat) := [([], []), ([1], []), ([1], [1]), ([2], []), ([2], [1]), ([2], [2]), ([1, 1], []), ([1, 1], [1]), ([1, 1], [1, 1]), ([3], []), ([3], [1]), ([3], [2]), ([3], [3]), ([2, 1], []), ([2, 1], [1]), ([2, 1], [2]), ([2, 1], [1, 1]), ([2, 1], [2, 1]), ([1, 1, 1], []), ([1, 1, 1], [1]), ([1, 1, 1], [1, 1]), ([1, 1, 1], [1, 1, 1]), ([4], []), ([4], [1]), ([4], [2]), ([4], [3]), ([3, 1], []), ([3, 1], [1]), ([3, 1], [2]), ([3, 1], [3]), ([3, 1], [1, 1]), ([3, 1], [2, 1]), ([2, 2], []), ([2, 2], [1]), ([2, 2], [2]), ([2, 2], [1, 1]), ([2, 2], [2, 1]), ([2, 1, 1], []), ([2, 1, 1], [1]), ([2, 1, 1], [2]), ([2, 1, 1], [1, 1]), ([2, 1, 1], [2, 1]), ([2, 1, 1], [1, 1, 1]), ([1, 1, 1, 1], []), ([1, 1, 1, 1], [1]), ([1, 1, 1, 1], [1, 1]), ([1, 1, 1, 1], [1, 1, 1]), ([5], []), ([5], [1]), ([5], [2]), ([5], [3]), ([4, 1], []), ([4, 1], [1]), ([4, 1], [2]), ([4, 1], [3]), ([4, 1], [1, 1]), ([4, 1], [2, 1]), ([3, 2], []), ([3, 2], [1]), ([3, 2], [2]), ([3, 2], [3]), ([3, 2], [1, 1]), ([3, 2], [2, 1]), ([3, 1, 1], []), ([3, 1, 1], [1]), ([3, 1, 1], [2]), ([3, 1, 1], [3]), ([3, 1, 1], [1, 1]), ([3, 1, 1], [2, 1]), ([3, 1, 1], [1, 1, 1]), ([2, 2, 1], []), ([2, 2, 1], [1]), ([2, 2, 1], [2]), ([2, 2, 1], [1, 1]), ([2, 2, 1], [2, 1]), ([2, 2, 1], [1, 1, 1]), ([2, 1, 1, 1], []), ([2, 1, 1, 1], [1]), ([2, 1, 1, 1], [2]), ([2, 1, 1, 1], [1, 1]), ([2, 1, 1, 1], [2, 1]), ([2, 1, 1, 1], [1, 1, 1]), ([1, 1, 1, 1, 1], []), ([1, 1, 1, 1, 1], [1]), ([1, 1, 1, 1, 1], [1, 1]), ([1, 1, 1, 1, 1], [1, 1, 1]), ([6], []), ([6], [1]), ([6], [2]), ([6], [3]), ([5, 1], []), ([5, 1], [1]), ([5, 1], [2]), ([5, 1], [3]), ([5, 1], [1, 1]), ([5, 1], [2, 1]), ([4, 2], []), ([4, 2], [1]), ([4, 2], [2]), ([4, 2], [3]), ([4, 2], [1, 1]), ([4, 2], [2, 1]), ([4, 1, 1], []), ([4, 1, 1], [1]), ([4, 1, 1], [2]), ([4, 1, 1], [3]), ([4, 1, 1], [1, 1]), ([4, 1, 1], [2, 1]), ([4, 1, 1], [1, 1, 1]), ([3, 3], []), ([3, 3], [1]), ([3, 3], [2]), ([3, 3], [3]), ([3, 3], [1, 1]), ([3, 3], [2, 1]), ([3, 2, 1], []), ([3, 2, 1], [1]), ([3, 2, 1], [2]), ([3, 2, 1], [3]), ([3, 2, 1], [1, 1]), ([3, 2, 1], [2, 1]), ([3, 2, 1], [1, 1, 1]), ([3, 1, 1, 1], []), ([3, 1, 1, 1], [1]), ([3, 1, 1, 1], [2]), ([3, 1, 1, 1], [3]), ([3, 1, 1, 1], [1, 1]), ([3, 1, 1, 1], [2, 1]), ([3, 1, 1, 1], [1, 1, 1]), ([2, 2, 2], []), ([2, 2, 2], [1]), ([2, 2, 2], [2]), ([2, 2, 2], [1, 1]), ([2, 2, 2], [2, 1]), ([2, 2, 2], [1, 1, 1]), ([2, 2, 1, 1], []), ([2, 2, 1, 1], [1]), ([2, 2, 1, 1], [2]), ([2, 2, 1, 1], [1, 1]), ([2, 2, 1, 1], [2, 1]), ([2, 2, 1, 1], [1, 1, 1]), ([2, 1, 1, 1, 1], []), ([2, 1, 1, 1, 1], [1]), ([2, 1, 1, 1, 1], [2]), ([2, 1, 1, 1, 1], [1, 1]), ([2, 1, 1, 1, 1], [2, 1]), ([2, 1, 1, 1, 1], [1, 1, 1]), ([1, 1, 1, 1, 1, 1], []), ([1, 1, 1, 1, 1, 1], [1]), ([1, 1, 1, 1, 1, 1], [1, 1]), ([1, 1, 1, 1, 1, 1], [1, 1, 1]), ([7], []), ([7], [1]), ([7], [2]), ([7], [3]), ([6, 1], []), ([6, 1], [1]), ([6, 1], [2]), ([6, 1], [3]), ([6, 1], [1, 1]), ([6, 1], [2, 1]), ([5, 2], []), ([5, 2], [1]), ([5, 2], [2]), ([5, 2], [3]), ([5, 2], [1, 1]), ([5, 2], [2, 1]), ([5, 1, 1], []), ([5, 1, 1], [1]), ([5, 1, 1], [2]), ([5, 1, 1], [3]), ([5, 1, 1], [1, 1]), ([5, 1, 1], [2, 1]), ([5, 1, 1], [1, 1, 1]), ([4, 3], []), ([4, 3], [1]), ([4, 3], [2]), ([4, 3], [3]), ([4, 3], [1, 1]), ([4, 3], [2, 1]), ([4, 2, 1], []), ([4, 2, 1], [1]), ([4, 2, 1], [2]), ([4, 2, 1], [3]), ([4, 2, 1], [1, 1]), ([4, 2, 1], [2, 1]), ([4, 2, 1], [1, 1, 1]), ([4, 1, 1, 1], []), ([4, 1, 1, 1], [1]), ([4, 1, 1, 1], [2]), ([4, 1, 1, 1], [3]), ([4, 1, 1, 1], [1, 1]), ([4, 1, 1, 1], [2, 1]), ([4, 1, 1, 1], [1, 1, 1]), ([3, 3, 1], []), ([3, 3, 1], [1]), ([3, 3, 1], [2]), ([3, 3, 1], [3]), ([3, 3, 1], [1, 1]), ([3, 3, 1], [2, 1]), ([3, 3, 1], [1, 1, 1]), ([3, 2, 2], []), ([3, 2, 2], [1]), ([3, 2, 2], [2]), ([3, 2, 2], [3]), ([3, 2, 2], [1, 1]), ([3, 2, 2], [2, 1]), ([3, 2, 2], [1, 1, 1]), ([3, 2, 1, 1], []), ([3, 2, 1, 1], [1]), ([3, 2, 1, 1], [2]), ([3, 2, 1, 1], [3]), ([3, 2, 1, 1], [1, 1]), ([3, 2, 1, 1], [2, 1]), ([3, 2, 1, 1], [1, 1, 1]), ([3, 1, 1, 1, 1], []), ([3, 1, 1, 1, 1], [1]), ([3, 1, 1, 1, 1], [2]), ([3, 1, 1, 1, 1], [3]), ([3, 1, 1, 1, 1], [1, 1]), ([3, 1, 1, 1, 1], [2, 1]), ([3, 1, 1, 1, 1], [1, 1, 1]), ([2, 2, 2, 1], []), ([2, 2, 2, 1], [1]), ([2, 2, 2, 1], [2]), ([2, 2, 2, 1], [1, 1]), ([2, 2, 2, 1], [2, 1]), ([2, 2, 2, 1], [1, 1, 1]), ([2, 2, 1, 1, 1], []), ([2, 2, 1, 1, 1], [1]), ([2, 2, 1, 1, 1], [2]), ([2, 2, 1, 1, 1], [1, 1]), ([2, 2, 1, 1, 1], [2, 1]), ([2, 2, 1, 1, 1], [1, 1, 1]), ([2, 1, 1, 1, 1, 1], []), ([2, 1, 1, 1, 1, 1], [1]), ([2, 1, 1, 1, 1, 1], [2]), ([2, 1, 1, 1, 1, 1], [1, 1]), ([2, 1, 1, 1, 1, 1], [2, 1]), ([2, 1, 1, 1, 1, 1], [1, 1, 1]), ([1, 1, 1, 1, 1, 1, 1], []), ([1, 1, 1, 1, 1, 1, 1], [1]), ([1, 1, 1, 1, 1, 1, 1], [1, 1]), ([1, 1, 1, 1, 1, 1, 1], [1, 1, 1])]
theorem gAll : ∀ p ∈ PP, Gd p.1 p.2 := fc g_0 (fc g_1 (fc g_2 (fc g_3 (fc g_4 (fc g_5 (fc g_6 (fc g_7 (fc g_8 (fc g_9 (fc g_10 (fc g_11 (fc g_12 (fc g_13 (fc g_14 (fc g_15 (fc g_16 (fc g_17 (fc g_18 (fc g_19 (fc g_20 (fc g_21 (fc g_22 (fc g_23 (fc g_24 (fc g_25 (fc g_26 (fc g_27 (fc g_28 (fc g_29 (fc g_30 (fc g_31 (fc g_32 (fc g_33 (fc g_34 (fc g_35 (fc g_36 (fc g_37 (fc g_38 (fc g_39 (fc g_40 (fc g_41 (fc g_42 (fc g_43 (fc g_44 (fc g_45 (fc g_46 (fc g_47 (fc g_48 (fc g_49 (fc g_50 (fc g_51 (fc g_52 (fc g_53 (fc g_54 (fc g_55 (fc g_56 (fc g_57 (fc g_58 (fc g_59 (fc g_60 (fc g_61 (fc g_62 (fc g_63 (fc g_64 (fc g_65 (fc g_66 (fc g_67 (fc g_68 (fc g_69 (fc g_70 (fc g_71 (fc g_72 (fc g_73 (fc g_74 (fc g_75 (fc g_76 (fc g_77 (fc g_78 (fc g_79 (fc g_80 (fc g_81 (fc g_82 (fc g_83 (fc g_84 (fc g_85 (fc g_86 (fc g_87 (fc g_88 (fc g_89 (fc g_90 (fc g_91 (fc g_92 (fc g_93 (fc g_94 (fc g_95 (fc g_96 (fc g_97 (fc g_98 (fc g_99 (fc g_100 (fc g_101 (fc g_102 (fc g_103 (fc g_104 (fc g_105 (fc g_106 (fc g_107 (fc g_108 (fc g_109 (fc g_110 (fc g_111 (fc g_112 (fc g_113 (fc g_114 (fc g_115 (fc g_116 (fc g_117 (fc g_118 (fc g_119 (fc g_120 (fc g_121 (fc g_122 (fc g_123 (fc g_124 (fc g_125 (fc g_126 (fc g_127 (fc g_128 (fc g_129 (fc g_130 (fc g_131 (fc g_132 (fc g_133 (fc g_134 (fc g_135 (fc g_136 (fc g_137 (fc g_138 (fc g_139 (fc g_140 (fc g_141 (fc g_142 (fc g_143 (fc g_144 (fc g_145 (fc g_146 (fc g_147 (fc g_148 (fc g_149 (fc g_150 (fc g_151 (fc g_152 (fc g_153 (fc g_154 (fc g_155 (fc g_156 (fc g_157 (fc g_158 (fc g_159 (fc g_160 (fc g_161 (fc g_162 (fc g_163 (fc g_164 (fc g_165 (fc g_166 (fc g_167 (fc g_168 (fc g_169 (fc g_170 (fc g_171 (fc g_172 (fc g_173 (fc g_174 (fc g_175 (fc g_176 (fc g_177 (fc g_178 (fc g_179 (fc g_180 (fc g_181 (fc g_182 (fc g_183 (fc g_184 (fc g_185 (fc g_186 (fc g_187 (fc g_188 (fc g_189 (fc g_190 (fc g_191 (fc g_192 (fc g_193 (fc g_194 (fc g_195 (fc g_196 (fc g_197 (fc g_198 (fc g_199 (fc g_200 (fc g_201 (fc g_202 (fc g_203 (fc g_204 (fc g_205 (fc g_206 (fc g_207 (fc g_208 (fc g_209 (fc g_210 (fc g_211 (fc g_212 (fc g_213 (fc g_214 (fc g_215 (fc g_216 (fc g_217 (fc g_218 (fc g_219 (fc g_220 (fc g_221 (fc g_222 (fc g_223 (fc g_224 (fc g_225 (fc g_226 (fc g_227 (fc g_228 (fc g_229 (fc g_230 (fc g_231 (fc g_232 (fc g_233 (fc g_234 (fc g_235 (fc g_236 (fc g_237 (fc g_238 (fc g_239 (fc g_240 (fc g_241 (fc g_242 (fc g_243 (List.forall_mem_nil _))))))))))))))))))))))))))))))))))))))))))))))))))))))))))))))))))))))))))))))))))))))))))))))))))))))))))))))))))))))))))))))))))))))))))))))))))))))))))))))))))))))))))))))))))))))))))))))))))))))))))))))))))))))))))))))))))))))))))))))))))))
end K14
set_option maxHeartbeats 1000000
set_option pp.maxSteps 300
noncomputable section
namespace K14
open PySem L2 Pd Gn PySem.Spec PyProof.Rows Zq Hx Sy
theorem intsOf_map : ∀ xs : List Nat, intsOf (xs.map fun x : Nat => PyData.int (x : Int)) = some (xs.map fun x : Nat => (x : Int))
  | [] => rfl
  | x :: r => by
    show (intsOf (r.map fun x : Nat => PyData.int (x : Int))).map (fun ns => (x : Int) :: ns) = _
    rw [intsOf_map r]
    rfl
theorem sum_cast : ∀ xs : List Nat, (xs.map fun x : Nat => (x : Int)).sum = ((xs.sum : Nat) : Int)
  | [] => rfl
  | x :: r => by
    rw [List.map_cons, List.sum_cons, sum_cast r, List.sum_cons, Int.natCast_add]
theorem sum_ev {m : M W} {xs : List Nat} (e : Ev m (tN xs)) : Ev (biM (u1 pSum) (apM m (rt []))) (iW ((xs.sum : Nat) : Int)) := ev_u1 e (by
  show (intsOf (xs.map fun x : Nat => PyData.int (x : Int))).map (fun ns => PyData.int ns.sum) = _
  rw [intsOf_map]
  show some (PyData.int (xs.map fun x : Nat => (x : Int)).sum) = _
  rw [sum_cast])
theorem f_full (o c i : List Nat) : m__is_full [tN o, tN c, tN i] ⟨0, []⟩ = .ok (.dat (.bool (decide (((c.sum : Nat) : Int) = (o.sum : Nat) - (i.sum : Nat))))) ⟨0, []⟩ :=
  of_ev (ev_fin (ev_ret (ev_bW (ev_eqI (sum_ev (ev_rt (tN c))) (ev_sub (sum_ev (ev_rt (tN o))) (sum_ev (ev_rt (tN i))))))))
theorem full_ev (o c i : List Nat) : Ev (Hx.notM (tvM (callI 3 (apM (rt (tN o)) (apM (rt (tN c)) (apM (rt (tN i)) (rt [])))) m__is_full))) (!decide (((c.sum : Nat) : Int) = (o.sum : Nat) - (i.sum : Nat))) := ev_not (ev_tv (ev_call (ev_apc (ev_rt _) (ev_ap2 (ev_rt _) (ev_rt _))) rfl (f_full o c i) rfl))
theorem lcM_f {γ β : Type} {u : W → Option β} {cd : β → M Bool} {me : β → M W} {g f : γ → W} {p : γ → Bool} : ∀ xs : List γ, (∀ x ∈ xs, ∃ b, u (g x) = some b ∧ Ev (cd b) (p x) ∧ (p x = true → Ev (me b) (f x))) → Ev (lcM u cd me (xs.map g)) ((xs.filter p).map f)
  | [], _ => ev_rt _
  | x :: xs, h => by
    obtain ⟨b, h1, h2, h3⟩ := h x (by simp)
    have e : Ev (lf (u (g x))) b := fun h => by rw [h1]; rfl
    have ih := lcM_f xs fun z hz => h z (List.mem_cons_of_mem _ hz)
    rw [List.filter_cons]
    cases q : p x with
    | true =>
      rw [q] at h2
      exact ev_bd e (ev_bd h2 (ev_bd (h3 q) (ev_bd ih (ev_rt _))))
    | false =>
      rw [q] at h2
      exact ev_bd e (ev_bd h2 ih)
theorem ev_lcf {γ β : Type} {u : W → Option β} {cd : β → M Bool} {me : β → M W} {g f : γ → W} {p : γ → Bool} {mi : M (List W)} {xs : List γ} (hi : Ev mi (xs.map g)) (hs : short xs.length = true) (h : ∀ x ∈ xs, ∃ b, u (g x) = some b ∧ Ev (cd b) (p x) ∧ (p x = true → Ev (me b) (f x))) : Ev (lc1 u cd me mi) ((xs.filter p).map f) := fun hp => by
  unfold lc1
  rw [bd_ok (hi hp), bd_ok (show lf (gd (short (xs.map g).length) (some ())) hp = .ok () hp by rw [List.length_map, hs]; rfl)]
  show nox (lcM u cd me (xs.map g)) hp = _
  have e := lcM_f xs h hp
  unfold nox
  rw [e]
  rfl
def posB (x : Nat) : Bool := decide (((x : Nat) : Int) > 0)
def pos (c : List Nat) : List Nat := c.filter posB
theorem sh {n : Nat} (h : n ≤ 1000) : short n = true := Nat.ble_eq_true_of_le (by omega)
theorem sq_tN (c : List Nat) : Ev (sqM (rt (tN c))) (c.map fun x : Nat => iW (x : Nat)) := fun h => by
  show T.ok ((c.map fun x : Nat => PyData.int (x : Int)).map W.dat) h = _
  rw [List.map_map]
  rfl
theorem intsW_map : ∀ xs : List Nat, intsW (xs.map fun x : Nat => iW (x : Nat)) = some (xs.map fun x : Nat => (x : Int))
  | [] => rfl
  | x :: r => by
    show (intsW (r.map fun x : Nat => iW (x : Nat))).map (fun ns => (x : Int) :: ns) = _
    rw [intsW_map r]
    rfl
theorem toNat_map : ∀ {l : List Int}, (∀ x ∈ l, 0 ≤ x) → (l.map Int.toNat).map (fun x : Nat => (x : Int)) = l
  | [], _ => rfl
  | x :: r, h => by
    rw [List.map_cons, List.map_cons, toNat_map fun z hz => h z (List.mem_cons_of_mem _ hz), Int.toNat_of_nonneg (h x (by simp))]
theorem sd_cast (s : List Nat) : (sd s).map (fun x : Nat => (x : Int)) = sortR (s.map fun x : Nat => (x : Int)) := toNat_map fun x hx => by
  have := (sortR_perm (l := s.map fun x : Nat => (x : Int))).mem_iff.mp hx
  obtain ⟨y, _, rfl⟩ := List.mem_map.mp this
  omega
theorem sd_perm {a b : List Nat} (h : a.Perm b) : sd a = sd b := by
  unfold sd
  rw [ord_uniq ((sortR_perm (l := a.map fun x : Nat => (x : Int))).trans ((h.map _).trans (sortR_perm (l := b.map fun x : Nat => (x : Int))).symm)) sortR_ord sortR_ord]
theorem st_ev {c : List Nat} (hc : c.length ≤ 100) : Ev (frzW (srtRM (frzW (lc1 tgN (fun x_2 => (cmpM (c2 cGt) (rt x_2) (rt (.dat (.int 0))))) (fun x_2 => (rt x_2)) (sqM (rt (tN c))))))) (lN (sd (pos c))) := fun hp => by
  have a : Ev (lc1 tgN (fun x_2 => (cmpM (c2 cGt) (rt x_2) (rt (.dat (.int 0))))) (fun x_2 => (rt x_2)) (sqM (rt (tN c)))) ((pos c).map fun x : Nat => iW (x : Nat)) := ev_lcf (sq_tN c) (sh (by omega)) fun x _ => ⟨_, rfl, ev_gtI (ev_rt (iW (x : Nat))) (ev_rt (iW 0)), fun _ => ev_rt _⟩
  have b : Ev (frzW (lc1 tgN (fun x_2 => (cmpM (c2 cGt) (rt x_2) (rt (.dat (.int 0))))) (fun x_2 => (rt x_2)) (sqM (rt (tN c))))) (.dat (.list ((pos c).map fun x : Nat => PyData.int (x : Int)))) := ev_frz (by rw [List.map_map]; exact a)
  have d : srtRM (frzW (lc1 tgN (fun x_2 => (cmpM (c2 cGt) (rt x_2) (rt (.dat (.int 0))))) (fun x_2 => (rt x_2)) (sqM (rt (tN c))))) hp = .ok ((sd (pos c)).map fun x : Nat => iW (x : Nat)) hp := by
    unfold srtRM
    rw [bd_ok (b hp)]
    show lf ((some (((pos c).map fun x : Nat => PyData.int (x : Int)).map W.dat)).bind fun ws => (intsW ws).map fun ns => (sortR ns).map fun i => W.dat (.int i)) hp = _
    rw [List.map_map]
    show lf ((intsW ((pos c).map fun x : Nat => iW (x : Nat))).map fun ns => (sortR ns).map fun i => W.dat (.int i)) hp = _
    rw [intsW_map]
    show T.ok ((sortR ((pos c).map fun x : Nat => (x : Int))).map fun i => W.dat (.int i)) hp = _
    rw [← sd_cast, List.map_map]
    rfl
  refine (bd_ok (f := fun ws => rt (mkL ws)) d).trans ?_
  show T.ok (mkL ((sd (pos c)).map fun x : Nat => iW (x : Nat))) hp = _
  have := mkL_dat ((sd (pos c)).map fun x : Nat => PyData.int (x : Int))
  rw [List.map_map] at this
  rw [show mkL ((sd (pos c)).map fun x : Nat => iW (x : Nat)) = .dat (.list ((sd (pos c)).map fun x : Nat => PyData.int (x : Int))) from this]
  rfl
theorem runC_ok {o i st w : W} (h : runC o i st = some w) : ∃ h', finM (CB o i st) ⟨0, []⟩ = .ok w h' := by
  unfold runC at h
  split at h
  · rename_i w' h' e
    cases h
    exact ⟨h', e⟩
  · cases h
theorem fin_bd {m : M (Res W Unit)} {m' : M (Res W Unit)} {h h' : Hs} (e : m h = m' h') : finM m h = finM m' h' := by
  show T.bind (m h) _ = T.bind (m' h') _
  rw [e]
theorem cnt_ok {o c i : List Nat} {N : Nat} (hc : c.length ≤ 100) (hf : ((c.sum : Nat) : Int) = (o.sum : Nat) - (i.sum : Nat)) (e : EC o i (sd (pos c), N)) : ∃ h', m_count_fillings [tN o, tN c, tN i] ⟨0, []⟩ = .ok (iW (N : Nat)) h' := by
  have f := full_ev o c i
  rw [decide_eq_true hf] at f
  obtain ⟨h', r⟩ := runC_ok e
  refine ⟨h', ?_⟩
  have k : g_count_fillings (tN o) (tN c) (tN i) ⟨0, []⟩ = CB (tN o) (tN i) (lN (sd (pos c))) ⟨0, []⟩ := by
    unfold g_count_fillings
    rw [if_f (f _), bd_ok (st_ev hc _)]
    rfl
  exact (fin_bd k).trans r
theorem cnt_no {o c i : List Nat} (hf : ¬ ((c.sum : Nat) : Int) = (o.sum : Nat) - (i.sum : Nat)) : m_count_fillings [tN o, tN c, tN i] ⟨0, []⟩ = .ok (iW 0) ⟨0, []⟩ := by
  have f := full_ev o c i
  rw [decide_eq_false hf] at f
  show finM (g_count_fillings (tN o) (tN c) (tN i)) ⟨0, []⟩ = _
  unfold g_count_fillings
  exact of_ev (ev_fin (ev_ift f (ev_retE (ev_ret (ev_rt _)))))
theorem fil_no {o c i : List Nat} (hf : ¬ ((c.sum : Nat) : Int) = (o.sum : Nat) - (i.sum : Nat)) : m_fillings [tN o, tN c, tN i] ⟨0, []⟩ = .ok (.dat (.tuple [])) ⟨0, []⟩ := by
  have f := full_ev o c i
  rw [decide_eq_false hf] at f
  show finM (g_fillings (tN o) (tN c) (tN i)) ⟨0, []⟩ = _
  unfold g_fillings
  exact of_ev (ev_fin (ev_ift f (ev_retE (ev_ret (fun h => rfl)))))
/-- the places of the parts that are no 0 -/
def labs : Nat → List Nat → List Int
  | _, [] => []
  | k, x :: r => match posB x with
    | true => ((k + 1 : Nat) : Int) :: labs (k + 1) r
    | false => labs (k + 1) r
theorem stp_lc : ∀ (c : List Nat) (k : Nat), Ev (lcM (tgT 2 (tgsC tgN (tgsC tgN tgs0))) (fun x_2 => (cmpM (c2 cGt) (rt x_2.2.1) (rt (.dat (.int 0))))) (fun x_2 => (tupM (apM (binM (Hx.l2 pAddX) (rt x_2.1) (rt (.dat (.int 1)))) (apM (rt x_2.2.1) (rt []))))) (enumW k (c.map fun x : Nat => iW (x : Nat)))) ((((labs k c).zip (pos c)).map fun p => PyData.tuple [.int p.1, .int (p.2 : Int)]).map W.dat)
  | [], k => ev_rt _
  | x :: r, k => by
    have ih := stp_lc r (k + 1)
    have t : Ev (lf ((tgT 2 (tgsC tgN (tgsC tgN tgs0))) (mkT [W.dat (.int (k : Nat)), iW (x : Nat)]))) (iW (k : Nat), iW (x : Nat), ()) := fun h => rfl
    have c : Ev (cmpM (c2 cGt) (rt (iW (x : Nat))) (rt (.dat (.int 0)))) (posB x) := ev_gtI (ev_rt (iW (x : Nat))) (ev_rt (iW 0))
    show Ev (bd (lf ((tgT 2 (tgsC tgN (tgsC tgN tgs0))) (mkT [W.dat (.int (k : Nat)), iW (x : Nat)]))) _) _
    unfold labs pos
    rw [List.filter_cons]
    cases q : posB x with
    | true =>
      rw [q] at c
      have tu : Ev (tupM (apM (binM (Hx.l2 pAddX) (rt (iW (k : Nat))) (rt (.dat (.int 1)))) (apM (rt (iW (x : Nat))) (rt [])))) (.dat (.tuple [.int ((k + 1 : Nat) : Int), .int (x : Int)])) := ev_bd (ev_ap2 (ev_add (ev_rt (iW (k : Nat))) (ev_rt (iW 1))) (ev_rt (iW (x : Nat)))) (fun h => rfl)
      exact ev_bd t (ev_bd c (ev_bd tu (ev_bd ih (ev_rt _))))
    | false =>
      rw [q] at c
      exact ev_bd t (ev_bd c ih)
theorem stp_ev {c : List Nat} (hc : c.length ≤ 100) : Ev (frzW (lc1 (tgT 2 (tgsC tgN (tgsC tgN tgs0))) (fun x_2 => (cmpM (c2 cGt) (rt x_2.2.1) (rt (.dat (.int 0))))) (fun x_2 => (tupM (apM (binM (Hx.l2 pAddX) (rt x_2.1) (rt (.dat (.int 1)))) (apM (rt x_2.2.1) (rt []))))) (enM (rt (tN c))))) (stW (labs 0 c) (pos c)) := by
  refine ev_frz fun hp => ?_
  have en : Ev (enM (rt (tN c))) (enumW 0 (c.map fun x : Nat => iW (x : Nat))) := fun h => by
    show T.ok (enumW 0 ((c.map fun x : Nat => PyData.int (x : Int)).map W.dat)) h = _
    rw [List.map_map]
    rfl
  unfold lc1
  rw [bd_ok (en hp), bd_ok (show lf (gd (short (enumW 0 (c.map fun x : Nat => iW (x : Nat))).length) (some ())) hp = .ok () hp by rw [enumW_len, List.length_map, sh (by omega)]; rfl)]
  have e := stp_lc c 0 hp
  show nox (lcM _ _ _ _) hp = _
  unfold nox
  rw [e]
  rfl
theorem bind_ok {α β : Type} {t : T α} {f : α → Hs → T β} {w : β} {h : Hs} (e : t.bind f = .ok w h) : ∃ a h', t = .ok a h' ∧ f a h' = .ok w h := by
  cases t with
  | ok a h' => exact ⟨a, h', rfl, e⟩
  | exc x h' => cases e
  | draw n k => cases e
  | bad => cases e
theorem bd_inv {α β : Type} {m : M α} {f : α → M β} {w : β} {h h' : Hs} (e : bd m f h = .ok w h') : ∃ a h1, m h = .ok a h1 ∧ f a h1 = .ok w h' := bind_ok e
theorem runF_ok {o i st w : W} (h : runF o i st = some w) : ∃ lay h1 h2, finM (LB o i st) ⟨0, []⟩ = .ok lay h1 ∧ noref lay = true ∧ finM (FP o lay) ⟨0, []⟩ = .ok w h2 := by
  unfold runF at h
  split at h
  · rename_i lay h1 e1
    split at h
    · rename_i e2
      split at h
      · rename_i w' h2 e3
        cases h
        exact ⟨lay, h1, h2, e1, e2, e3⟩
      · cases h
    · cases h
  · cases h
end K14
set_option maxHeartbeats 1000000
set_option pp.maxSteps 300
noncomputable section
namespace K14
open PySem L2 Pd Gn PySem.Spec PyProof.Rows Zq Hx Sy
theorem labs_len : ∀ (c : List Nat) (k : Nat), (labs k c).length = (pos c).length
  | [], k => rfl
  | x :: r, k => by
    unfold labs pos
    rw [List.filter_cons]
    cases posB x with
    | true =>
      show (labs (k + 1) r).length + 1 = (pos r).length + 1
      rw [labs_len r]
    | false => exact labs_len r (k + 1)
theorem labs_in : ∀ (c : List Nat) (k : Nat), ∀ x ∈ labs k c, (k : Int) < x ∧ x ≤ (k : Int) + c.length
  | [], k, x, h => by cases h
  | y :: r, k, x, h => by
    unfold labs at h
    have ih := labs_in r (k + 1)
    rw [List.length_cons]
    cases q : posB y with
    | true =>
      rw [q] at h
      rcases List.mem_cons.mp h with rfl | h
      · omega
      · have := ih x h; omega
    | false =>
      rw [q] at h
      have := ih x h
      omega
theorem labs_inc : ∀ (c : List Nat) (k : Nat), (labs k c).Pairwise (· < ·)
  | [], k => .nil
  | y :: r, k => by
    unfold labs
    cases posB y with
    | true => exact List.pairwise_cons.mpr ⟨fun x hx => by have := labs_in r (k + 1) x hx; omega, labs_inc r (k + 1)⟩
    | false => exact labs_inc r (k + 1)
def nf (l : List Int) (k : Nat) : Int := l.getD (k - 1) (1000 + (k : Int))
theorem lab_nf : ∀ (l p : List Int), lab (nf (p ++ l)) (p.length + 1) l.length = l
  | [], p => rfl
  | x :: r, p => by
    show nf (p ++ x :: r) (p.length + 1) :: lab (nf (p ++ x :: r)) (p.length + 1 + 1) r.length = x :: r
    have ih := lab_nf r (p ++ [x])
    rw [List.append_assoc, List.length_append] at ih
    have e : nf (p ++ x :: r) (p.length + 1) = x := by
      unfold nf
      rw [List.getD_eq_getElem?_getD, Nat.add_sub_cancel, List.getElem?_append_right (Nat.le_refl _), Nat.sub_self]
      rfl
    rw [e]
    congr 1
theorem mono_nf {l : List Int} (h : l.Pairwise (· < ·)) (hb : ∀ x ∈ l, x ≤ 1000) : Mono (nf l) := fun x y hx hxy => by
  unfold nf
  rw [List.getD_eq_getElem?_getD, List.getD_eq_getElem?_getD]
  by_cases q : y - 1 < l.length
  · rw [List.getElem?_eq_getElem q, List.getElem?_eq_getElem (show x - 1 < l.length by omega)]
    exact List.pairwise_iff_getElem.mp h (x - 1) (y - 1) (by omega) q (by omega)
  · rw [List.getElem?_eq_none (by omega : l.length ≤ y - 1)]
    by_cases q2 : x - 1 < l.length
    · rw [List.getElem?_eq_getElem q2]
      have := hb _ (List.getElem_mem q2)
      show l[x - 1] < 1000 + (y : Int)
      omega
    · rw [List.getElem?_eq_none (by omega : l.length ≤ x - 1)]
      show (1000 : Int) + (x : Int) < 1000 + (y : Int)
      omega
theorem lay_eq {o c i : List Nat} (hc : c.length ≤ 100) : m__layers [tN o, tN c, tN i] ⟨0, []⟩ = finM (LB (tN o) (tN i) (stW (labs 0 c) (pos c))) ⟨0, []⟩ := by
  refine fin_bd ?_
  show g__layers (tN o) (tN c) (tN i) ⟨0, []⟩ = _
  unfold g__layers
  rw [bd_ok (stp_ev hc _)]
  rfl
theorem sq_rev {m : M W} {lay : W} (e : Ev m lay) (h : Hs) : sqM (frzW (revM m)) h = sqM (frzW (revM (rt lay))) h := by
  have r : revM m h = revM (rt lay) h := by
    unfold revM
    rw [bd_ok (e h), bd_ok (show rt lay h = .ok lay h from rfl)]
  have f : frzW (revM m) h = frzW (revM (rt lay)) h := by
    show T.bind (revM m h) _ = T.bind (revM (rt lay) h) _
    rw [r]
  show T.bind (frzW (revM m) h) _ = T.bind (frzW (revM (rt lay)) h) _
  rw [f]
def srtL (ds : List PyData) : List PyData := match Nat.ble ds.length 1 with
  | true => ds
  | false => srtD ds
theorem srt_at {X : M W} {ds : List PyData} {h h' : Hs} (e : X h = .ok (.dat (.list ds)) h') (ok : Nat.ble ds.length 1 = true ∨ okSort ds = true) : toM (frzW (srtDM X)) h = .ok (.dat (.tuple (srtL ds))) h' := by
  have s : srtDM X h = .ok ((srtL ds).map W.dat) h' := by
    unfold srtDM
    rw [bd_ok e]
    show lf ((some (ds.map W.dat)).bind fun ws => match Nat.ble ws.length 1 with | true => some ws | false => (datsOf ws).bind fun ds => gd (okSort ds) (some ((srtD ds).map .dat))) h' = _
    show lf (match Nat.ble (ds.map W.dat).length 1 with | true => some (ds.map W.dat) | false => (datsOf (ds.map W.dat)).bind fun ds => gd (okSort ds) (some ((srtD ds).map .dat))) h' = _
    rw [List.length_map]
    unfold srtL
    cases q : Nat.ble ds.length 1 with
    | true => rfl
    | false =>
      have ok2 : okSort ds = true := by
        rcases ok with z | z
        · rw [q] at z; cases z
        · exact z
      rw [datsOf_map]
      show lf (gd (okSort ds) (some ((srtD ds).map W.dat))) h' = _
      rw [ok2]
      rfl
  have f : frzW (srtDM X) h = .ok (.dat (.list (srtL ds))) h' := by
    refine (bd_ok (f := fun ws => rt (mkL ws)) s).trans ?_
    show T.ok (mkL ((srtL ds).map W.dat)) h' = _
    rw [mkL_dat]
  refine (bd_ok f).trans ?_
  show T.ok (mkT ((srtL ds).map W.dat)) h' = _
  rw [mkT_dat]
theorem srtL_len (ds : List PyData) : (srtL ds).length = ds.length := by
  unfold srtL
  split
  · rfl
  · exact srtD_perm.length_eq
theorem okE_at {n : Nat → Int} (h : Mono n) {e : List Nat × List (List (List Nat))} (k : okE e = true) : Nat.ble (rowsD n e.2).length 1 = true ∨ okSort (rowsD n e.2) = true := by
  unfold okE at k
  rw [Bool.or_eq_true, Bool.and_eq_true] at k
  rcases k with z | z
  · exact .inl (by unfold rowsD; rw [List.length_map]; exact z)
  · exact .inr (okSort_map h z.1 z.2).1
theorem noRet {st : W → W → M (Res W W)} (hs : ∀ w a h r h', st w a h = .ok r h' → ∃ z, r = .nxt z) : ∀ (ws : List W) (a : W) (h h' : Hs) (w : W), forM st ws a h = .ok (.ret w) h' → False
  | [], a, h, h', w, e => by
    have e : T.ok (Res.nxt a) h = T.ok (Res.ret w) h' := e
    cases e
  | x :: ws, a, h, h', w, e => by
    obtain ⟨r, h1, e1, e2⟩ := bd_inv (show bd (st x a) _ h = _ from e)
    obtain ⟨z, rfl⟩ := hs _ _ _ _ _ e1
    exact noRet hs ws z h1 h' w e2
theorem fil_ok {o c i : List Nat} {R : List (List (List Nat))} (hc : c.length ≤ 100) (hf : ((c.sum : Nat) : Int) = (o.sum : Nat) - (i.sum : Nat)) (e : EF o i (pos c, R)) (k : okE (pos c, R) = true) : ∃ us h', m_fillings [tN o, tN c, tN i] ⟨0, []⟩ = .ok (.dat (.tuple us)) h' ∧ us.length = R.length := by
  have f := full_ev o c i
  rw [decide_eq_true hf] at f
  have hm : Mono (nf (labs 0 c)) := mono_nf (labs_inc c 0) fun x hx => by have := labs_in c 0 x hx; omega
  have el := lab_nf (labs 0 c) []
  have ee := e (nf (labs 0 c))
  rw [List.nil_append, labs_len] at el
  have el : lab (nf (labs 0 c)) 1 (pos c).length = labs 0 c := el
  rw [el] at ee
  obtain ⟨lay, h1, h2, r1, r2, r3⟩ := runF_ok ee
  have le : Ev (callI 3 (apM (rt (tN o)) (apM (rt (tN c)) (apM (rt (tN i)) (rt [])))) m__layers) lay := ev_call (ev_apc (ev_rt _) (ev_ap2 (ev_rt _) (ev_rt _))) rfl ((lay_eq hc).trans r1) r2
  obtain ⟨r, h3, s1, s2⟩ := bd_inv r3
  unfold FP at s1
  rw [callJ_eq] at s1
  obtain ⟨fo, h4, a1, s1⟩ := bd_inv s1
  obtain ⟨ws, h5, a2, s1⟩ := bd_inv s1
  obtain ⟨r', h6, a3, s1⟩ := bd_inv s1
  cases r' with
  | ret w =>
    exfalso
    exact noRet (fun w a h r h' e => by
      obtain ⟨b, k1, b1, e⟩ := bd_inv e
      obtain ⟨d, k2, b2, e⟩ := bd_inv e
      cases e
      exact ⟨_, rfl⟩) ws fo h5 h6 w a3
  | nxt st =>
    have s1 : bd (frzW (lc1 (tgT 2 (tgsC tgN (tgsC tgN tgs0))) (fun _ => rt true) (fun x_7 => (rt x_7.2.1)) (sqM (rt st)))) (fun w => (rt (.ret w) : M (Res W Unit))) h6 = T.ok r h3 := s1
    obtain ⟨w, h7, a4, s1⟩ := bd_inv s1
    have s1 : T.ok (Res.ret w) h7 = T.ok r h3 := s1
    obtain ⟨e1, e2⟩ : r = .ret w ∧ h3 = h7 := by cases s1; exact ⟨rfl, rfl⟩
    subst e1 e2
    have s2 : T.ok w h3 = T.ok (W.dat (.list (rowsD (nf (labs 0 c)) R))) h2 := s2
    obtain ⟨e1, e2⟩ : w = .dat (.list (rowsD (nf (labs 0 c)) R)) ∧ h3 = h2 := by cases s2; exact ⟨rfl, rfl⟩
    subst e1 e2
    have st := srt_at a4 (okE_at hm k)
    refine ⟨srtL (rowsD (nf (labs 0 c)) R), h3, ?_, (srtL_len _).trans (by unfold rowsD; rw [List.length_map])⟩
    show finM (g_fillings (tN o) (tN c) (tN i)) ⟨0, []⟩ = _
    refine (bd_ok (a := .ret (.dat (.tuple (srtL (rowsD (nf (labs 0 c)) R))))) (h' := h3) ?_).trans rfl
    unfold g_fillings
    rw [if_f (f _), bd_ok a1, bd_ok ((sq_rev le h4).trans a2), seq_nx a3, bd_ok st]
    rfl
end K14
set_option maxHeartbeats 1000000
set_option pp.maxSteps 300
noncomputable section
namespace K14
open PySem L2 Pd Gn PySem.Spec PyProof.Rows Zq Hx Sy
theorem posB_iff {x : Nat} : posB x = true ↔ 0 < x := by
  unfold posB
  rw [decide_eq_true_eq]
  omega
theorem sum_pos : ∀ c : List Nat, (pos c).sum = c.sum
  | [] => rfl
  | x :: r => by
    have ih := sum_pos r
    unfold pos at ih ⊢
    rw [List.filter_cons]
    cases q : posB x with
    | true =>
      show (x :: r.filter posB).sum = (x :: r).sum
      rw [List.sum_cons, List.sum_cons, ih]
    | false =>
      have : x = 0 := by
        rcases Nat.eq_zero_or_pos x with z | z
        · exact z
        · rw [posB_iff.mpr z] at q; cases q
      subst this
      show (r.filter posB).sum = (0 :: r).sum
      rw [List.sum_cons, ih]
      omega
theorem pos_all (c : List Nat) : ∀ x ∈ pos c, 0 < x := fun x hx => posB_iff.mp (List.mem_filter.mp hx).2
theorem mem_comps : ∀ (s : List Nat) (b : Nat), (∀ x ∈ s, 0 < x) → s.sum = b → s ∈ comps s.length b
  | [], b, _, h => by
    have h : 0 = b := h
    subst h
    show ([] : List Nat) ∈ (if (0 : Nat) = 0 then [[]] else [] : List (List Nat))
    simp
  | x :: r, b, h, e => by
    rw [List.sum_cons] at e
    have hx := h x (by simp)
    have ih := mem_comps r (b - x) (fun y hy => h y (List.mem_cons_of_mem _ hy)) (by omega)
    show x :: r ∈ (List.range b).flatMap fun k => (comps r.length (b - (k + 1))).map fun r => (k + 1) :: r
    refine List.mem_flatMap.mpr ⟨x - 1, List.mem_range.mpr (by omega), List.mem_map.mpr ⟨r, ?_, ?_⟩⟩
    · rw [show x - 1 + 1 = x by omega]; exact ih
    · rw [show x - 1 + 1 = x by omega]
theorem eqN_at : ∀ {a b : List Nat}, eqN a b = true → a = b
  | [], [], _ => rfl
  | a :: r, b :: s, h => by
    have h : (Nat.beq a b && eqN r s) = true := h
    rw [Bool.and_eq_true] at h
    rw [Nat.eq_of_beq_eq_true h.1, eqN_at h.2]
  | [], _ :: _, h => by cases h
  | _ :: _, [], h => by cases h
theorem inst {o i s : List Nat} (g : Gd o i) (hs : ∀ x ∈ s, 0 < x) (hl : s.length ≤ 4) (hb : s.sum = o.sum - i.sum) : ∃ R, EF o i (s, R) ∧ okE (s, R) = true ∧ EC o i (sd s, R.length) := by
  obtain ⟨ins, cn, f, c, k⟩ := g
  unfold okI at k
  rw [Bool.and_eq_true] at k
  have k1 := List.all_eq_true.mp (List.all_eq_true.mp k.1 s.length (List.mem_range.mpr (by omega))) s (mem_comps s _ hs hb)
  obtain ⟨e, he, q⟩ := List.any_eq_true.mp k1
  have q := eqN_at q
  have k2 := List.all_eq_true.mp k.2 e he
  rw [Bool.and_eq_true] at k2
  obtain ⟨d, hd, q2⟩ := List.any_eq_true.mp k2.2
  rw [Bool.and_eq_true] at q2
  have q3 := eqN_at q2.1
  have q4 := Nat.eq_of_beq_eq_true q2.2
  obtain ⟨e1, e2⟩ := e
  obtain ⟨d1, d2⟩ := d
  have q : e1 = s := q
  have q3 : d1 = sd e1 := q3
  have q4 : d2 = e2.length := q4
  subst q q3 q4
  exact ⟨e2, f _ he, k2.1, c _ hd⟩
/-- what count and len(fillings) give, for all orders of the parts -/
structure Val (o i c : List Nat) (N : Nat) : Prop where
  cnt : ∀ c' : List Nat, c'.length ≤ 100 → (pos c').Perm (pos c) → ∃ h', m_count_fillings [tN o, tN c', tN i] ⟨0, []⟩ = .ok (iW (N : Nat)) h'
  fil : ∀ c' : List Nat, c'.length ≤ 100 → pos c' = pos c → ∃ us h', m_fillings [tN o, tN c', tN i] ⟨0, []⟩ = .ok (.dat (.tuple us)) h' ∧ us.length = N
  no : c.sum ≠ o.sum - i.sum → N = 0
theorem val {o i c : List Nat} (g : Gd o i) (hi : i.sum ≤ o.sum) (hl : (pos c).length ≤ 4) : ∃ N, Val o i c N := by
  by_cases h : c.sum = o.sum - i.sum
  · obtain ⟨R, e1, e2, e3⟩ := inst g (pos_all c) hl (by rw [sum_pos, h])
    refine ⟨R.length, fun c' h1 h2 => ?_, fun c' h1 h2 => ?_, fun z => absurd h z⟩
    · have : c'.sum = o.sum - i.sum := by rw [← sum_pos, h2.sum_nat, sum_pos, h]
      rw [← sd_perm h2] at e3
      exact cnt_ok h1 (by omega) e3
    · have : c'.sum = o.sum - i.sum := by rw [← sum_pos, h2, sum_pos, h]
      rw [← h2] at e1 e2
      exact fil_ok h1 (by omega) e1 e2
  · refine ⟨0, fun c' h1 h2 => ⟨_, cnt_no ?_⟩, fun c' h1 h2 => ⟨_, _, fil_no ?_, rfl⟩, fun _ => rfl⟩
    · have : c'.sum = c.sum := by rw [← sum_pos, h2.sum_nat, sum_pos]
      omega
    · have : c'.sum = c.sum := by rw [← sum_pos, h2, sum_pos]
      omega
theorem take_eq {h : Hs} (g : h.get 0 = some .st) {m : M W} {k : Nat} (e : m h = .ok (iW (k : Nat)) h) (h0 : 0 < k) (h1 : k < 1000000) : callM 2 (apM (rt (.ref 0)) (apM m (rt []))) m__law_take h = .draw k fun v => .ok (iW (v : Nat)) h := by
  have a : apM (rt (W.ref 0)) (apM m (rt [])) h = .ok [.ref 0, iW (k : Nat)] h := by
    unfold apM
    rw [bd_ok (show rt (W.ref 0) h = .ok (.ref 0) h from rfl), bd_ok (a := [iW (k : Nat)]) (h' := h)]
    · rfl
    · rw [bd_ok e]
      rfl
  unfold callM
  rw [bd_ok a]
  show (match h.get 0 with
    | some .st => (match decide ((0 : Int) < (k : Nat)) && decide (((k : Nat) : Int) < 1000000) with | true => T.draw ((k : Nat) : Int).toNat fun v => T.ok (W.dat (.int (v : Nat))) h | false => T.bad : T W)
    | _ => T.bad) = _
  rw [g]
  show (match decide ((0 : Int) < (k : Nat)) && decide (((k : Nat) : Int) < 1000000) with | true => T.draw ((k : Nat) : Int).toNat fun v => T.ok (W.dat (.int (v : Nat))) h | false => T.bad : T W) = _
  rw [decide_eq_true (show (0 : Int) < (k : Nat) by omega), decide_eq_true (show ((k : Nat) : Int) < 1000000 by omega)]
  rfl
theorem take_sat {α : Type} {m : M W} {f : W → M α} {k : Nat} {h : Hs} {P : α → Hs → Prop} (g : h.get 0 = some .st) (e : m h = .ok (iW (k : Nat)) h) (h0 : 0 < k) (h1 : k < 1000000) (s : ∀ v, v < k → (f (iW (v : Nat)) h).sat P FF) : (bd (callM 2 (apM (rt (.ref 0)) (apM m (rt []))) m__law_take) f h).sat P FF := by
  refine sat_bd ?_
  rw [take_eq g e h0 h1]
  exact fun v hv => s v hv
theorem lN_ints (c : List Nat) : mkL (c.map fun x : Nat => iW (x : Nat)) = lN c := by
  have := mkL_dat (c.map fun x : Nat => PyData.int (x : Int))
  rw [List.map_map] at this
  exact this
theorem tN_ints (c : List Nat) : mkT (c.map fun x : Nat => iW (x : Nat)) = tN c := by
  have := mkT_dat (c.map fun x : Nat => PyData.int (x : Int))
  rw [List.map_map] at this
  exact this
abbrev iL (c : List Nat) : List W := c.map fun x : Nat => iW (x : Nat)
section
variable {h : Hs} {n : Nat} {c : List Nat}
theorem view_at (g : h.get n = some (.lst (iL c))) : view h (.ref n) = lN c := by
  show viewR n (h.get n) = _
  rw [g]
  exact lN_ints c
theorem items_at (g : h.get n = some (.lst (iL c))) : itemsH h (.ref n) = some (iL c) := by
  unfold itemsH
  rw [view_at g]
  show some ((c.map fun x : Nat => PyData.int (x : Int)).map W.dat) = _
  rw [List.map_map]
  rfl
theorem sum_at (g : h.get n = some (.lst (iL c))) : biM (u1 pSum) (apM (rt (.ref n)) (rt [])) h = .ok (iW ((c.sum : Nat) : Int)) h := by
  unfold biM
  rw [bd_ok (ap1 (show rt (W.ref n) h = .ok (.ref n) h from rfl))]
  show lf (u1 pSum [view h (.ref n)]) h = _
  rw [view_at g]
  show lf (((intsOf (c.map fun x : Nat => PyData.int (x : Int))).map fun ns => PyData.int ns.sum).map W.dat) h = _
  rw [intsOf_map]
  show T.ok (W.dat (.int (c.map fun x : Nat => (x : Int)).sum)) h = _
  rw [sum_cast]
theorem len_at (g : h.get n = some (.lst (iL c))) : biM fLen (apM (rt (.ref n)) (rt [])) h = .ok (iW ((c.length : Nat) : Int)) h := by
  unfold biM
  rw [bd_ok (ap1 (show rt (W.ref n) h = .ok (.ref n) h from rfl))]
  show lf (fLen [view h (.ref n)]) h = _
  rw [view_at g]
  show T.ok (W.dat (.int (((c.map fun x : Nat => PyData.int (x : Int)).map W.dat).length : Nat))) h = _
  rw [List.length_map, List.length_map]
theorem to_at (g : h.get n = some (.lst (iL c))) : toM (rt (.ref n)) h = .ok (tN c) h := by
  unfold toM
  rw [bd_ok (show rt (W.ref n) h = .ok (.ref n) h from rfl)]
  show lf ((itemsH h (.ref n)).map mkT) h = _
  rw [items_at g]
  show T.ok (mkT (iL c)) h = _
  rw [tN_ints]
theorem args_at {o i : W} (g : h.get n = some (.lst (iL c))) : apM (rt o) (apM (toM (rt (.ref n))) (apM (rt i) (rt []))) h = .ok [o, tN c, i] h := by
  unfold apM
  rw [bd_ok (show rt o h = .ok o h from rfl), bd_ok (a := [tN c, i]) (h' := h)]
  · rfl
  · rw [bd_ok (to_at g)]
    rfl
end
end K14
set_option maxHeartbeats 1000000
set_option pp.maxSteps 300
noncomputable section
namespace K14
open PySem L2 Pd Gn PySem.Spec PyProof.Rows Zq Hx Sy
def CLB (state_1 boxes_3 content_4 : W) (x_5 : W) (st_6 : Unit) : M (Res W Unit) :=
  (bd (appM (rt content_4) (callM 2 (apM (rt state_1) (apM (binM (l2 pSub) (binM (l2 pAddX) (rt (.dat (.int 1))) (rt boxes_3)) (biM (u1 pSum) (apM (rt content_4) (rt [])))) (rt []))) m__law_take)) fun _ => (rt (.nxt ())))
def OLB (state_1 left_9 other_10 : W) (x_11 : W) (st_12 : Unit) : M (Res W Unit) :=
  (bd (appM (rt other_10) (popI (rt left_9) (callM 2 (apM (rt state_1) (apM (biM fLen (apM (rt left_9) (rt []))) (rt []))) m__law_take))) fun _ => (rt (.nxt ())))
def T9 (out inn content_4 told_8 at_13 : W) : M (Res W Unit) :=
  (bd (toM (binM (l2 pAddX) (binM (l2 pAddX) (slM (rt content_4) (rt none) (soM (rt at_13))) (frzW (lstM (apM (rt (.dat (.int 0))) (rt []))))) (slM (rt content_4) (soM (rt at_13)) (rt none)))) fun wide_14 => (ifM (orM (cmpM (c2 cNe) (callI 3 (apM (rt out) (apM (rt wide_14) (apM (rt inn) (rt [])))) m_count_fillings) (rt told_8)) (cmpM (c2 cNe) (biM fLen (apM (callI 3 (apM (rt out) (apM (rt wide_14) (apM (rt inn) (rt [])))) m_fillings) (rt []))) (rt told_8))) (retE (bd (rt (.dat (.bool false))) fun w => rt (.ret w))) (bd (bW (orM (bvM (bW (cmpM (c2 cNe) (rt inn) (tupM (rt []))))) (bvM (bW (cmpM (c2 cEq) (callI 3 (bd (apM (rt out) (apM (rt wide_14) (rt []))) fun ws => rt (ws ++ [.dat (.tuple [])])) m_count_fillings) (rt told_8)))))) fun w => rt (.ret w))))
def T8 (state_1 out inn content_4 told_8 other_10 : W) : M (Res W Unit) :=
  (ifM (cmpM (c2 cNe) (callI 3 (apM (rt out) (apM (toM (rt other_10)) (apM (rt inn) (rt [])))) m_count_fillings) (rt told_8)) (retE (bd (rt (.dat (.bool false))) fun w => rt (.ret w))) (bd (callM 2 (apM (rt state_1) (apM (binM (l2 pAddX) (biM fLen (apM (rt content_4) (rt []))) (rt (.dat (.int 1)))) (rt []))) m__law_take) fun at_13 => (T9 out inn content_4 told_8 at_13)))
def T7 (state_1 out inn content_4 told_8 : W) : M (Res W Unit) :=
  (bd (ownW (loM (rt content_4))) fun left_9 => (bd (ownW (lstM (rt []))) fun other_10 => (bd (rg1 (biM fLen (apM (rt content_4) (rt [])))) fun ws => seqM (forM (stepM tgN fun x_11 (st_12 : Unit) => (OLB state_1 left_9 other_10 x_11 st_12)) ws ()) fun st_12 => (T8 state_1 out inn content_4 told_8 other_10))))
def T6 (state_1 out inn boxes_3 content_4 : W) : M (Res W Unit) :=
  (bd (callI 3 (apM (rt out) (apM (toM (rt content_4)) (apM (rt inn) (rt [])))) m_count_fillings) fun told_8 => (ifM (orM (notM (tvM (isiM isIntO (rt told_8)))) (orM (tvM (isiM isBoolO (rt told_8))) (cmpM (c2 cNe) (rt told_8) (biM fLen (apM (callI 3 (apM (rt out) (apM (toM (rt content_4)) (apM (rt inn) (rt [])))) m_fillings) (rt [])))))) (retE (bd (rt (.dat (.bool false))) fun w => rt (.ret w))) (ifM (andM (cmpM (c2 cNe) (biM (u1 pSum) (apM (rt content_4) (rt []))) (rt boxes_3)) (cmpM (c2 cNe) (rt told_8) (rt (.dat (.int 0))))) (retE (bd (rt (.dat (.bool false))) fun w => rt (.ret w))) (T7 state_1 out inn content_4 told_8))))
def T5 (state_1 out inn boxes_3 content_4 : W) : M (Res W Unit) :=
  (seqM (ifM (cmpM (c2 cGt) (callM 2 (apM (rt state_1) (apM (rt (.dat (.int 4))) (rt []))) m__law_take) (rt (.dat (.int 0)))) (bd (setM (binM (l2 pSub) (binM (l2 pAddX) (ixM (rt content_4) (rt (.dat (.int 0)))) (rt boxes_3)) (biM (u1 pSum) (apM (rt content_4) (rt [])))) (rt content_4) (rt (.dat (.int 0)))) fun _ => (rt (.nxt ()))) ((rt (.nxt ())) : M (Res W (Unit)))) fun st_7 => (T6 state_1 out inn boxes_3 content_4))
abbrev hC (c : List Nat) : Hs := ⟨2, [(1, .lst (iL c)), (0, .st)]⟩
abbrev hD (c l q : List Nat) : Hs := ⟨4, [(3, .lst (iL q)), (2, .lst (iL l)), (1, .lst (iL c)), (0, .st)]⟩
def pE (r : Res W Unit) (_ : Hs) : Prop := r = .ret (.dat (.bool true))
def wide (c : List Nat) (v : Nat) : List Nat := (c.take v ++ [0]) ++ c.drop v
theorem wide_pos (c : List Nat) (v : Nat) : pos (wide c v) = pos c := by
  unfold wide pos
  rw [List.filter_append, List.filter_append]
  have : [0].filter posB = [] := rfl
  rw [this, List.append_nil, ← List.filter_append, List.take_append_drop]
theorem wide_len (c : List Nat) (v : Nat) : (wide c v).length = c.length + 1 := by
  unfold wide
  rw [List.length_append, List.length_append, List.length_take, List.length_drop]
  simp
  omega
theorem sl_lo {h : Hs} {c : List Nat} {v : Nat} (g : h.get 1 = some (.lst (iL c))) : slM (rt (.ref 1)) (rt none) (soM (rt (iW (v : Nat)))) h = .ok (lN (c.take v)) h := by
  unfold slM
  rw [bd_ok (show rt (W.ref 1) h = .ok (.ref 1) h from rfl), bd_ok (show (rt none : M (Option Int)) h = .ok none h from rfl), bd_ok (show soM (rt (iW (v : Nat))) h = .ok (some ((v : Nat) : Int)) h from rfl)]
  rw [items_at g]
  show T.ok (mkL (cutW (iL c) none (some ((v : Nat) : Int)))) h = _
  have : cutW (iL c) none (some ((v : Nat) : Int)) = iL (c.take v) := by
    unfold cutW
    rw [HT.sIx_none, HT.sIx_nat, List.drop_zero, List.length_map, Nat.sub_zero, ← List.map_take]
    congr 1
    rcases Nat.le_total v c.length with z | z
    · rw [Nat.min_eq_left z]
    · rw [Nat.min_eq_right z, List.take_of_length_le (Nat.le_refl _), List.take_of_length_le z]
  rw [this, lN_ints]
theorem sl_hi {h : Hs} {c : List Nat} {v : Nat} (hv : v ≤ c.length) (g : h.get 1 = some (.lst (iL c))) : slM (rt (.ref 1)) (soM (rt (iW (v : Nat)))) (rt none) h = .ok (lN (c.drop v)) h := by
  unfold slM
  rw [bd_ok (show rt (W.ref 1) h = .ok (.ref 1) h from rfl), bd_ok (show soM (rt (iW (v : Nat))) h = .ok (some ((v : Nat) : Int)) h from rfl), bd_ok (show (rt none : M (Option Int)) h = .ok none h from rfl)]
  rw [items_at g]
  show T.ok (mkL (cutW (iL c) (some ((v : Nat) : Int)) none)) h = _
  have : cutW (iL c) (some ((v : Nat) : Int)) none = iL (c.drop v) := by
    unfold cutW
    rw [HT.sIx_none, HT.sIx_nat, List.length_map, Nat.min_eq_left hv, ← List.map_drop]
    exact List.take_of_length_le (by rw [List.length_map, List.length_drop]; exact Nat.le_refl _)
  rw [this, lN_ints]
theorem add_l {h : Hs} {m1 m2 : M W} {a b : List Nat} (e1 : m1 h = .ok (lN a) h) (e2 : m2 h = .ok (lN b) h) (hl : a.length + b.length ≤ 1000) : binM (Hx.l2 pAddX) m1 m2 h = .ok (lN (a ++ b)) h :=
  bin_eq e1 e2 (by
    show gd (short ((a.map fun x : Nat => PyData.int (x : Int)).length + (b.map fun x : Nat => PyData.int (x : Int)).length)) (some (PyData.list ((a.map fun x : Nat => PyData.int (x : Int)) ++ b.map fun x : Nat => PyData.int (x : Int)))) = _
    rw [List.length_map, List.length_map, sh hl, ← List.map_append]
    rfl)
theorem wide_at {h : Hs} {c : List Nat} {v : Nat} (hv : v ≤ c.length) (hc : c.length ≤ 50) (g : h.get 1 = some (.lst (iL c))) : toM (binM (Hx.l2 pAddX) (binM (Hx.l2 pAddX) (slM (rt (.ref 1)) (rt none) (soM (rt (iW (v : Nat))))) (frzW (lstM (apM (rt (.dat (.int 0))) (rt []))))) (slM (rt (.ref 1)) (soM (rt (iW (v : Nat)))) (rt none))) h = .ok (tN (wide c v)) h := by
  have z : frzW (lstM (apM (rt (.dat (.int 0))) (rt []))) h = .ok (lN [0]) h := rfl
  have a1 := add_l (sl_lo (v := v) g) z (by rw [List.length_take]; simp; omega)
  have a2 := add_l a1 (sl_hi hv g) (by rw [List.length_append, List.length_take, List.length_drop]; simp; omega)
  refine (bd_ok a2).trans ?_
  show T.ok (mkT (((wide c v).map fun x : Nat => PyData.int (x : Int)).map W.dat)) h = _
  rw [mkT_dat]
  rfl
theorem call_at {mm : List W → M W} {ma : M (List W)} {o c i : List Nat} {w : W} {h h' : Hs} (e : ma h = .ok [tN o, tN c, tN i] h) (e2 : mm [tN o, tN c, tN i] ⟨0, []⟩ = .ok w h') (hw : noref w = true) : callI 3 ma mm h = .ok w h := callI_eq e rfl e2 hw
theorem args3 (o c i : List Nat) (h : Hs) : apM (rt (tN o)) (apM (rt (tN c)) (apM (rt (tN i)) (rt []))) h = .ok [tN o, tN c, tN i] h := rfl
theorem ne_int {m1 m2 : M W} {a b : Nat} {h : Hs} (e1 : m1 h = .ok (iW (a : Nat)) h) (e2 : m2 h = .ok (iW (b : Nat)) h) : cmpM (c2 cNe) m1 m2 h = .ok (!decide (a = b)) h := by
  refine cmp_eq e1 e2 ?_
  show (some (decide (((a : Nat) : Int) = ((b : Nat) : Int)))).map (!·) = _
  rw [show decide (((a : Nat) : Int) = ((b : Nat) : Int)) = decide (a = b) from decide_eq_decide.mpr (by omega)]
  rfl
theorem len_tup {m : M W} {us : List PyData} {h : Hs} (e : m h = .ok (.dat (.tuple us)) h) : biM fLen (apM m (rt [])) h = .ok (iW ((us.length : Nat) : Int)) h := by
  unfold biM
  rw [bd_ok (ap1 e)]
  show T.ok (W.dat (.int ((us.map W.dat).length : Nat))) h = _
  rw [List.length_map]
/-- i against () -/
def eqTup (i : List Nat) : Bool := match cEq (.tuple (i.map fun x : Nat => PyData.int (x : Int))) (.tuple []) with
  | some b => (match i with | [] => b | _ => !b)
  | none => false
def neI (i : List Nat) : Bool := match i with | [] => false | _ => true
theorem tup_ne {i : List Nat} (k : eqTup i = true) : c2 cNe (tN i) (.dat (.tuple [])) = some (neI i) := by
  show (cEq (.tuple (i.map fun x : Nat => PyData.int (x : Int))) (.tuple [])).map (!·) = _
  unfold eqTup at k
  split at k
  · rename_i b e
    rw [e]
    cases i with
    | nil =>
      have k : b = true := k
      rw [k]; rfl
    | cons x r =>
      have k : (!b) = true := k
      show some (!b) = some true
      rw [k]
  · cases k
section
variable {o i c : List Nat} {N : Nat}
theorem t9 (V : Val o i c N) (hc : c.length ≤ 50) (k : eqTup i = true) {h : Hs} {v : Nat} (hv : v ≤ c.length) (g : h.get 1 = some (.lst (iL c))) : T9 (tN o) (tN i) (.ref 1) (iW (N : Nat)) (iW (v : Nat)) h = .ok (.ret (.dat (.bool true))) h := by
  have wl := wide_len c v
  have wp := wide_pos c v
  obtain ⟨h1, e1⟩ := V.cnt (wide c v) (by omega) (by rw [wp])
  obtain ⟨us, h2, e2, e3⟩ := V.fil (wide c v) (by omega) wp
  have q1 := ne_int (call_at (args3 o (wide c v) i h) e1 rfl) (show rt (iW (N : Nat)) h = .ok (iW (N : Nat)) h from rfl)
  rw [decide_eq_true rfl] at q1
  have q2 := ne_int (len_tup (call_at (args3 o (wide c v) i h) e2 rfl)) (show rt (iW (N : Nat)) h = .ok (iW (N : Nat)) h from rfl)
  rw [decide_eq_true e3] at q2
  have n1 : cmpM (c2 cNe) (rt (tN i)) (tupM (rt [])) h = .ok (neI i) h := cmp_eq (x := tN i) (y := .dat (.tuple [])) rfl rfl (tup_ne k)
  have n2 : i = [] → cmpM (c2 cEq) (callI 3 (bd (apM (rt (tN o)) (apM (rt (tN (wide c v))) (rt []))) fun ws => rt (ws ++ [.dat (.tuple [])])) m_count_fillings) (rt (iW (N : Nat))) h = .ok true h := fun z => by
    subst z
    have a : (bd (apM (rt (tN o)) (apM (rt (tN (wide c v))) (rt []))) fun ws => rt (ws ++ [W.dat (.tuple [])])) h = .ok [tN o, tN (wide c v), tN []] h := rfl
    refine cmp_eq (call_at a e1 rfl) (show rt (iW (N : Nat)) h = .ok (iW (N : Nat)) h from rfl) ?_
    show some (decide (((N : Nat) : Int) = (N : Nat))) = _
    rw [decide_eq_true rfl]
  have fin : bW (Hx.orM (bvM (bW (cmpM (c2 cNe) (rt (tN i)) (tupM (rt []))))) (bvM (bW (cmpM (c2 cEq) (callI 3 (bd (apM (rt (tN o)) (apM (rt (tN (wide c v))) (rt []))) fun ws => rt (ws ++ [.dat (.tuple [])])) m_count_fillings) (rt (iW (N : Nat))))))) h = .ok (.dat (.bool true)) h := by
    refine bW_ok ?_
    cases i with
    | nil => exact or_f (bv_ok (bW_ok n1)) (bv_ok (bW_ok (n2 rfl)))
    | cons x r =>
      unfold Hx.orM
      rw [bd_ok (bv_ok (bW_ok n1))]
      rfl
  unfold T9
  rw [bd_ok (wide_at hv hc g), if_f (or_f q1 q2), bd_ok fin]
  rfl
theorem t8 (V : Val o i c N) (hc : c.length ≤ 50) (k : eqTup i = true) {q : List Nat} (hq : q.Perm c) : (T8 (.ref 0) (tN o) (tN i) (.ref 1) (iW (N : Nat)) (.ref 3) (hD c [] q)).sat pE FF := by
  obtain ⟨h1, e1⟩ := V.cnt q (by rw [hq.length_eq]; omega) (hq.filter _)
  have q1 := ne_int (call_at (args_at (n := 3) (c := q) (o := tN o) (i := tN i) (h := hD c [] q) rfl) e1 rfl) (show rt (iW (N : Nat)) (hD c [] q) = .ok (iW (N : Nat)) (hD c [] q) from rfl)
  rw [decide_eq_true rfl] at q1
  have ln : binM (Hx.l2 pAddX) (biM fLen (apM (rt (.ref 1)) (rt []))) (rt (.dat (.int 1))) (hD c [] q) = .ok (iW ((c.length + 1 : Nat) : Int)) (hD c [] q) := bin_eq (len_at (n := 1) (c := c) (h := hD c [] q) rfl) (show rt (iW 1) (hD c [] q) = .ok (iW 1) (hD c [] q) from rfl) rfl
  unfold T8
  rw [if_f q1]
  refine take_sat rfl ln (by omega) (by omega) fun v hv => ?_
  rw [t9 V hc k (by omega) (show (hD c [] q).get 1 = some (.lst (iL c)) from rfl)]
  exact (show pE _ _ from rfl)
theorem er_map {α β : Type} (f : α → β) : ∀ (l : List α) (k : Nat), (l.map f).eraseIdx k = (l.eraseIdx k).map f
  | [], _ => rfl
  | _ :: _, 0 => rfl
  | x :: l, k + 1 => by
    show f x :: (l.map f).eraseIdx k = f x :: (l.eraseIdx k).map f
    rw [er_map f l k]
theorem er_perm {α : Type} : ∀ (l : List α) {k : Nat} (h : k < l.length), (l[k] :: l.eraseIdx k).Perm l
  | x :: l, 0, _ => .refl _
  | x :: l, k + 1, h => by
    have ih := er_perm l (k := k) (by simpa using h)
    show (l[k]'(by simpa using h) :: x :: l.eraseIdx k).Perm (x :: l)
    exact (List.Perm.swap _ _ _).trans (ih.cons x)
theorem ostep {l q : List Nat} (hl : l ≠ []) (h0 : l.length ≤ 50) (h1 : q.length ≤ 50) (x : W) : (OLB (.ref 0) (.ref 2) (.ref 3) x () (hD c l q)).sat (fun r h => ∃ l' q', r = .nxt () ∧ h = hD c l' q' ∧ l'.length + 1 = l.length ∧ q'.length = q.length + 1 ∧ (l' ++ q').Perm (l ++ q)) FF := by
  unfold OLB appM popI
  refine sat_bd ?_
  rw [bd_ok (show rt (W.ref 3) (hD c l q) = .ok (.ref 3) (hD c l q) from rfl), bd_ok (show isL (.ref 3) (hD c l q) = .ok (3, iL q) (hD c l q) from rfl)]
  refine sat_bd ?_
  rw [bd_ok (show rt (W.ref 2) (hD c l q) = .ok (.ref 2) (hD c l q) from rfl), bd_ok (show isL (.ref 2) (hD c l q) = .ok (2, iL l) (hD c l q) from rfl)]
  refine take_sat rfl (len_at (n := 2) (c := l) (h := hD c l q) rfl) (List.length_pos_iff.mpr hl) (by omega) fun v hv => ?_
  have gl : (iL l)[v]? = some (iW ((l[v] : Nat) : Int)) := by
    rw [List.getElem?_map, List.getElem?_eq_getElem hv]
    rfl
  rw [bd_ok (show lf (asIW (iW (v : Nat))) (hD c l q) = .ok ((v : Nat) : Int) (hD c l q) from rfl), bd_ok (show isL (.ref 2) (hD c l q) = .ok (2, iL l) (hD c l q) from rfl)]
  show (bd (lf (match decide ((0 : Int) ≤ ((v : Nat) : Int)) with | true => gd (shortS (iL l).length) ((iL l)[((v : Nat) : Int).toNat]?) | false => none)) (fun y => bd (putL 2 ((iL l).eraseIdx ((v : Nat) : Int).toNat)) fun _ => rt y) (hD c l q)).sat _ _
  rw [bd_ok (show lf (match decide ((0 : Int) ≤ ((v : Nat) : Int)) with | true => gd (shortS (iL l).length) ((iL l)[((v : Nat) : Int).toNat]?) | false => none) (hD c l q) = .ok (iW ((l[v] : Nat) : Int)) (hD c l q) by
    rw [decide_eq_true (show (0 : Int) ≤ ((v : Nat) : Int) by omega)]
    show lf (gd (shortS (iL l).length) ((iL l)[((v : Nat) : Int).toNat]?)) (hD c l q) = _
    rw [Int.toNat_natCast, gl, show shortS (iL l).length = true from Nat.blt_eq.mpr (by rw [List.length_map]; omega)]
    rfl)]
  have pl : putL 2 ((iL l).eraseIdx ((v : Nat) : Int).toNat) (hD c l q) = .ok () (hD c (l.eraseIdx v) q) := by
    rw [Int.toNat_natCast]
    have : (iL l).eraseIdx v = iL (l.eraseIdx v) := er_map _ l v
    rw [this]
    rfl
  rw [bd_ok pl]
  show (bd (isL (.ref 3)) _ (hD c (l.eraseIdx v) q)).sat _ _
  rw [bd_ok (show isL (.ref 3) (hD c (l.eraseIdx v) q) = .ok (3, iL q) (hD c (l.eraseIdx v) q) from rfl)]
  rw [bd_ok (show lf (gd (shortS (iL q).length) (some ())) (hD c (l.eraseIdx v) q) = .ok () (hD c (l.eraseIdx v) q) by
    rw [show shortS (iL q).length = true from Nat.blt_eq.mpr (by rw [List.length_map]; omega)]
    rfl)]
  rw [bd_ok (show putL 3 (iL q ++ [iW ((l[v] : Nat) : Int)]) (hD c (l.eraseIdx v) q) = .ok () (hD c (l.eraseIdx v) (q ++ [l[v]])) by
    rw [show iL q ++ [iW ((l[v] : Nat) : Int)] = iL (q ++ [l[v]]) by unfold iL; rw [List.map_append]; rfl]
    rfl)]
  refine ⟨l.eraseIdx v, q ++ [l[v]], rfl, rfl, ?_, by simp, ?_⟩
  · rw [List.length_eraseIdx_of_lt hv]; omega
  · have p1 : (l[v] :: l.eraseIdx v).Perm l := er_perm l hv
    have p2 : (l.eraseIdx v ++ (q ++ [l[v]])).Perm (l[v] :: l.eraseIdx v ++ q) := by
      have a : (q ++ [l[v]]).Perm (l[v] :: q) := List.perm_append_comm
      exact ((List.Perm.append_left _ a).trans List.perm_middle)
    exact p2.trans (p1.append_right q)
theorem oloop : ∀ (ws : List W) (l q : List Nat), ws.length = l.length → l.length + q.length ≤ 50 → (forM (stepM tgN (OLB (.ref 0) (.ref 2) (.ref 3))) ws () (hD c l q)).sat (fun r h => ∃ q', r = .nxt () ∧ h = hD c [] q' ∧ q'.Perm (l ++ q)) FF
  | [], l, q, hw, _ => by
    have : l = [] := List.length_eq_zero_iff.mp hw.symm
    subst this
    exact ⟨q, rfl, rfl, .refl _⟩
  | w :: ws, l, q, hw, hl => by
    rw [List.length_cons] at hw
    show (bd (OLB (.ref 0) (.ref 2) (.ref 3) w ()) _ (hD c l q)).sat _ _
    refine sat_bd (sat_mono (fun r h hr => ?_) (fun _ _ x => x) (ostep (c := c) (l := l) (q := q) (fun z => by rw [z] at hw; cases hw) (by omega) (by omega) w))
    obtain ⟨l', q', rfl, rfl, a1, a2, a3⟩ := hr
    refine sat_mono (fun r h hr => ?_) (fun _ _ x => x) (oloop ws l' q' (by omega) (by omega))
    obtain ⟨q2, b1, b2, b3⟩ := hr
    exact ⟨q2, b1, b2, b3.trans a3⟩
theorem rg_at {m : M W} {n : Nat} {h : Hs} (e : m h = .ok (iW (n : Nat)) h) (hn : n ≤ 1000) : rg1 m h = .ok ((rngD 0 n).map .dat) h := by
  unfold rg1
  rw [bd_ok e]
  show lf (gd (small ((n : Nat) : Int)) (some ((rngD 0 ((n : Nat) : Int).toNat).map W.dat))) h = _
  rw [show small ((n : Nat) : Int) = true from inR_of (by omega) (by omega), Int.toNat_natCast]
  rfl
theorem t7 (V : Val o i c N) (hc : c.length ≤ 50) (k : eqTup i = true) : (T7 (.ref 0) (tN o) (tN i) (.ref 1) (iW (N : Nat)) (hC c)).sat pE FF := by
  have l1 : ownW (loM (rt (.ref 1))) (hC c) = .ok (.ref 2) ⟨3, [(2, .lst (iL c)), (1, .lst (iL c)), (0, .st)]⟩ := by
    have a : loM (rt (.ref 1)) (hC c) = .ok (iL c) (hC c) := by
      unfold loM
      rw [bd_ok (show rt (W.ref 1) (hC c) = .ok (.ref 1) (hC c) from rfl), items_at (show (hC c).get 1 = some (.lst (iL c)) from rfl)]
      rfl
    unfold ownW
    rw [bd_ok a]
    rfl
  have l2 : ownW (lstM (rt [])) (⟨3, [(2, .lst (iL c)), (1, .lst (iL c)), (0, .st)]⟩ : Hs) = .ok (.ref 3) (hD c c []) := rfl
  have rg := rg_at (len_at (n := 1) (c := c) (h := hD c c []) rfl) (by omega)
  unfold T7
  rw [bd_ok l1, bd_ok l2, bd_ok rg]
  show (bd (forM (stepM tgN (OLB (.ref 0) (.ref 2) (.ref 3))) ((rngD 0 c.length).map .dat) ()) _ (hD c c [])).sat _ _
  refine sat_bd (sat_mono (fun r h hr => ?_) (fun _ _ x => x) (oloop (c := c) _ c [] (by rw [List.length_map, rngD_len]) (by simp; omega)))
  obtain ⟨q, rfl, rfl, p⟩ := hr
  rw [List.append_nil] at p
  exact t8 V hc k p
theorem t6 (V : Val o i c N) (hc : c.length ≤ 50) (k : eqTup i = true) : (T6 (.ref 0) (tN o) (tN i) (iW ((o.sum - i.sum : Nat) : Int)) (.ref 1) (hC c)).sat pE FF := by
  obtain ⟨h1, e1⟩ := V.cnt c (by omega) (.refl _)
  obtain ⟨us, h2, e2, e3⟩ := V.fil c (by omega) rfl
  have ar := args_at (n := 1) (c := c) (o := tN o) (i := tN i) (h := hC c) rfl
  have q2 := ne_int (show rt (iW (N : Nat)) (hC c) = .ok (iW (N : Nat)) (hC c) from rfl) (len_tup (call_at ar e2 rfl))
  rw [decide_eq_true e3.symm] at q2
  have c1 : Hx.notM (tvM (isiM isIntO (rt (iW (N : Nat))))) (hC c) = .ok false (hC c) := rfl
  have c3 : tvM (isiM isBoolO (rt (iW (N : Nat)))) (hC c) = .ok false (hC c) := rfl
  have s := ne_int (sum_at (n := 1) (c := c) (h := hC c) rfl) (show rt (iW ((o.sum - i.sum : Nat) : Int)) (hC c) = .ok (iW ((o.sum - i.sum : Nat) : Int)) (hC c) from rfl)
  have z := ne_int (b := 0) (show rt (iW (N : Nat)) (hC c) = .ok (iW (N : Nat)) (hC c) from rfl) (show rt (iW ((0 : Nat) : Int)) (hC c) = .ok (iW ((0 : Nat) : Int)) (hC c) from rfl)
  have c4 : Hx.andM (cmpM (c2 cNe) (biM (u1 pSum) (apM (rt (.ref 1)) (rt []))) (rt (iW ((o.sum - i.sum : Nat) : Int)))) (cmpM (c2 cNe) (rt (iW (N : Nat))) (rt (.dat (.int 0)))) (hC c) = .ok false (hC c) := by
    by_cases y : c.sum = o.sum - i.sum
    · rw [decide_eq_true y] at s
      exact and_f s
    · rw [decide_eq_false y] at s
      rw [decide_eq_true (V.no y)] at z
      exact and_t s z
  unfold T6
  rw [bd_ok (call_at ar e1 rfl), if_f (or_f c1 (or_f c3 q2)), if_f c4]
  exact t7 V hc k
end
end K14
set_option maxHeartbeats 1000000
set_option pp.maxSteps 300
noncomputable section
namespace K14
open PySem L2 Pd Gn PySem.Spec PyProof.Rows Zq Hx Sy
theorem at0 {w : W} {r : List W} : atI (w :: r) 0 = some w := by
  have z : ixN (w :: r).length 0 = some 0 := by
    unfold ixN
    simp
  unfold atI
  rw [z]
  rfl
theorem ix0 {w : W} {r : List W} : ixN (w :: r).length 0 = some 0 := by
  unfold ixN
  simp
section
variable {o i : List Nat} {b : Nat}
theorem less_at {c : List Nat} {m : M W} {k : Nat} (hc : c.sum ≤ k) (e : m (hC c) = .ok (iW (k : Nat)) (hC c)) : binM (Hx.l2 pSub) m (biM (u1 pSum) (apM (rt (.ref 1)) (rt []))) (hC c) = .ok (iW ((k - c.sum : Nat) : Int)) (hC c) := by
  rw [Int.ofNat_sub hc]
  exact bin_eq e (sum_at (n := 1) (c := c) (h := hC c) rfl) rfl
theorem cstep {c : List Nat} (hc : c.sum ≤ b) (hl : c.length ≤ 50) (hb : b ≤ 1000) (x : W) : (CLB (.ref 0) (iW (b : Nat)) (.ref 1) x () (hC c)).sat (fun r h => ∃ v, r = .nxt () ∧ h = hC (c ++ [v]) ∧ (c ++ [v]).sum ≤ b) FF := by
  unfold CLB appM
  refine sat_bd ?_
  rw [bd_ok (show rt (W.ref 1) (hC c) = .ok (.ref 1) (hC c) from rfl), bd_ok (show isL (.ref 1) (hC c) = .ok (1, iL c) (hC c) from rfl)]
  have e1 : binM (Hx.l2 pAddX) (rt (.dat (.int 1))) (rt (iW (b : Nat))) (hC c) = .ok (iW ((1 + b : Nat) : Int)) (hC c) := by
    rw [Int.natCast_add]
    exact bin_eq rfl rfl rfl
  refine take_sat rfl (less_at (by omega) e1) (by omega) (by omega) fun v hv => ?_
  rw [bd_ok (show isL (.ref 1) (hC c) = .ok (1, iL c) (hC c) from rfl)]
  rw [bd_ok (show lf (gd (shortS (iL c).length) (some ())) (hC c) = .ok () (hC c) by
    rw [show shortS (iL c).length = true from Nat.blt_eq.mpr (by rw [List.length_map]; omega)]
    rfl)]
  rw [bd_ok (show putL 1 (iL c ++ [iW (v : Nat)]) (hC c) = .ok () (hC (c ++ [v])) by
    rw [show iL c ++ [iW (v : Nat)] = iL (c ++ [v]) by unfold iL; rw [List.map_append]; rfl]
    rfl)]
  refine ⟨v, rfl, rfl, ?_⟩
  rw [List.sum_append]
  simp
  omega
theorem cloop : ∀ (ws : List W) (c : List Nat), c.sum ≤ b → c.length + ws.length ≤ 50 → b ≤ 1000 → (forM (stepM tgN (CLB (.ref 0) (iW (b : Nat)) (.ref 1))) ws () (hC c)).sat (fun r h => ∃ c', r = .nxt () ∧ h = hC c' ∧ c'.sum ≤ b ∧ c'.length = c.length + ws.length) FF
  | [], c, hc, _, _ => ⟨c, rfl, rfl, hc, rfl⟩
  | w :: ws, c, hc, hl, hb => by
    rw [List.length_cons] at hl
    show (bd (CLB (.ref 0) (iW (b : Nat)) (.ref 1) w ()) _ (hC c)).sat _ _
    refine sat_bd (sat_mono (fun r h hr => ?_) (fun _ _ x => x) (cstep (c := c) hc (by omega) hb w))
    obtain ⟨v, rfl, rfl, a1⟩ := hr
    refine sat_mono (fun r h hr => ?_) (fun _ _ x => x) (cloop ws (c ++ [v]) a1 (by simp; omega) hb)
    obtain ⟨q, b1, b2, b3, b4⟩ := hr
    refine ⟨q, b1, b2, b3, ?_⟩
    rw [b4]
    simp
    omega
theorem pos_le (c : List Nat) : (pos c).length ≤ c.length := List.length_filter_le _ _
theorem t6' (g : Gd o i) (hi : i.sum ≤ o.sum) (k : eqTup i = true) {c : List Nat} (hc : c.length ≤ 4) : (T6 (.ref 0) (tN o) (tN i) (iW ((o.sum - i.sum : Nat) : Int)) (.ref 1) (hC c)).sat pE FF := by
  obtain ⟨N, V⟩ := val g hi (Nat.le_trans (pos_le c) hc)
  exact t6 V (by omega) k
theorem set_at {x : Nat} {r : List Nat} (hc : (x :: r).sum ≤ b) : setM (binM (Hx.l2 pSub) (binM (Hx.l2 pAddX) (ixM (rt (.ref 1)) (rt (.dat (.int 0)))) (rt (iW (b : Nat)))) (biM (u1 pSum) (apM (rt (.ref 1)) (rt [])))) (rt (.ref 1)) (rt (.dat (.int 0))) (hC (x :: r)) = .ok () (hC ((x + b - (x :: r).sum) :: r)) := by
  have e0 : ixM (rt (.ref 1)) (rt (.dat (.int 0))) (hC (x :: r)) = .ok (iW (x : Nat)) (hC (x :: r)) := by
    unfold ixM
    rw [bd_ok (show rt (W.ref 1) (hC (x :: r)) = .ok (.ref 1) (hC (x :: r)) from rfl), bd_ok (show rt (W.dat (.int 0)) (hC (x :: r)) = .ok (iW 0) (hC (x :: r)) from rfl)]
    show lf ((itemsH (hC (x :: r)) (.ref 1)).bind fun ws => atI ws 0) _ = _
    rw [items_at (show (hC (x :: r)).get 1 = some (.lst (iL (x :: r))) from rfl)]
    show lf (atI (iW (x : Nat) :: iL r) 0) _ = _
    rw [at0]
    rfl
  have e1 : binM (Hx.l2 pAddX) (ixM (rt (.ref 1)) (rt (.dat (.int 0)))) (rt (iW (b : Nat))) (hC (x :: r)) = .ok (iW ((x + b : Nat) : Int)) (hC (x :: r)) := by
    rw [Int.natCast_add]
    exact bin_eq e0 rfl rfl
  unfold setM
  rw [bd_ok (less_at (c := x :: r) (by omega) e1), bd_ok (show rt (W.ref 1) (hC (x :: r)) = .ok (.ref 1) (hC (x :: r)) from rfl), bd_ok (show rt (W.dat (.int 0)) (hC (x :: r)) = .ok (iW 0) (hC (x :: r)) from rfl), bd_ok (show isL (.ref 1) (hC (x :: r)) = .ok (1, iL (x :: r)) (hC (x :: r)) from rfl)]
  rw [bd_ok (show lf ((asIW (iW 0)).bind fun j => ixN (iL (x :: r)).length j) (hC (x :: r)) = .ok 0 (hC (x :: r)) by
    show lf (ixN (iW (x : Nat) :: iL r).length 0) _ = _
    rw [ix0]
    rfl)]
  rfl
theorem t5 (g : Gd o i) (hi : i.sum ≤ o.sum) (k : eqTup i = true) {c : List Nat} (hc : c.length ≤ 4) (h0 : c ≠ []) (hs : c.sum ≤ o.sum - i.sum) : (T5 (.ref 0) (tN o) (tN i) (iW ((o.sum - i.sum : Nat) : Int)) (.ref 1) (hC c)).sat pE FF := by
  cases c with
  | nil => exact absurd rfl h0
  | cons x r =>
    have no : (T6 (.ref 0) (tN o) (tN i) (iW ((o.sum - i.sum : Nat) : Int)) (.ref 1) (hC (x :: r))).sat pE FF := t6' g hi k hc
    unfold T5
    show (bd (ifM _ _ _) _ (hC (x :: r))).sat _ _
    refine sat_bd ?_
    unfold ifM
    refine sat_bd ?_
    unfold cmpM
    refine take_sat rfl (show rt (iW ((4 : Nat) : Int)) (hC (x :: r)) = .ok (iW ((4 : Nat) : Int)) (hC (x :: r)) from rfl) (by omega) (by omega) fun v hv => ?_
    match v, hv with
    | 0, _ => exact no
    | 1, _ =>
      show (bd (setM _ _ _) _ (hC (x :: r))).sat _ _
      rw [bd_ok (set_at hs)]
      exact t6' g hi k (c := (x + (o.sum - i.sum) - (x :: r).sum) :: r) hc
    | 2, _ =>
      show (bd (setM _ _ _) _ (hC (x :: r))).sat _ _
      rw [bd_ok (set_at hs)]
      exact t6' g hi k (c := (x + (o.sum - i.sum) - (x :: r).sum) :: r) hc
    | 3, _ =>
      show (bd (setM _ _ _) _ (hC (x :: r))).sat _ _
      rw [bd_ok (set_at hs)]
      exact t6' g hi k (c := (x + (o.sum - i.sum) - (x :: r).sum) :: r) hc
    | v + 4, hv => exact absurd hv (by omega)
end
abbrev hS : Hs := ⟨1, [(0, .st)]⟩
def isS : Hs → Bool
  | ⟨1, [(0, .st)]⟩ => true
  | _ => false
theorem isS_eq {h : Hs} (e : isS h = true) : h = hS := by
  unfold isS at e
  split at e
  · rfl
  · cases e
def natsOf : List PyData → Option (List Nat)
  | [] => some []
  | .int (.ofNat n) :: r => (natsOf r).map (n :: ·)
  | _ => none
theorem natsOf_eq : ∀ {ds : List PyData} {ns : List Nat}, natsOf ds = some ns → ds = ns.map fun x : Nat => .int (x : Int)
  | [], ns, h => by cases h; rfl
  | d :: r, ns, h => by
    unfold natsOf at h
    split at h
    · rename_i e; cases e
    · rename_i n r' e
      cases e
      cases z : natsOf r with
      | none => rw [z] at h; cases h
      | some ms =>
        rw [z] at h
        cases h
        rw [natsOf_eq z]
        rfl
    · cases h
def pair : W → Option (List Nat × List Nat)
  | .dat (.tuple [.tuple a, .tuple b]) => (natsOf a).bind fun x => (natsOf b).map fun y => (x, y)
  | _ => none
theorem pair_eq {w : W} {p : List Nat × List Nat} (h : pair w = some p) : w = .dat (.tuple [.tuple (p.1.map fun x : Nat => .int (x : Int)), .tuple (p.2.map fun x : Nat => .int (x : Int))]) := by
  unfold pair at h
  split at h
  · rename_i a b
    cases z1 : natsOf a with
    | none => rw [z1] at h; cases h
    | some x =>
      cases z2 : natsOf b with
      | none => rw [z1, z2] at h; cases h
      | some y =>
        rw [z1, z2] at h
        cases h
        rw [natsOf_eq z1, natsOf_eq z2]
  · cases h
def pS (w : W) (h : Hs) : Bool := isS h && match pair w with | some p => PP.any fun q => eqN q.1 p.1 && eqN q.2 p.2 | none => false
theorem pS_ok {w : W} {h : Hs} (e : pS w h = true) : h = hS ∧ ∃ p ∈ PP, w = .dat (.tuple [.tuple (p.1.map fun x : Nat => .int (x : Int)), .tuple (p.2.map fun x : Nat => .int (x : Int))]) := by
  unfold pS at e
  rw [Bool.and_eq_true] at e
  obtain ⟨e1, e2⟩ := e
  refine ⟨isS_eq e1, ?_⟩
  cases z : pair w with
  | none => rw [z] at e2; cases e2
  | some p =>
    rw [z] at e2
    obtain ⟨q, hq, e3⟩ := List.any_eq_true.mp e2
    rw [Bool.and_eq_true] at e3
    obtain ⟨p1, p2⟩ := p
    obtain ⟨q1, q2⟩ := q
    have a1 : q1 = p1 := eqN_at e3.1
    have a2 : q2 = p2 := eqN_at e3.2
    subst a1 a2
    exact ⟨_, hq, pair_eq z⟩
theorem cShape : allT pS (callM 2 (apM (rt (.ref 0)) (apM (rt (.dat (.int 7))) (rt []))) m__law_shape hS) = true := by decide +kernel
theorem cPP : (PP.all fun p => Nat.ble p.2.sum p.1.sum && (Nat.ble p.1.sum 100 && eqTup p.2)) = true := by decide +kernel
theorem cS : (callM 2 (apM (rt (.ref 0)) (apM (rt (.dat (.int 7))) (rt []))) m__law_shape hS).sat (fun a h => pS a h = true) FF := sat_all cShape
end K14
set_option maxHeartbeats 1000000
set_option pp.maxSteps 300
noncomputable section
namespace K14
open PySem L2 Pd Gn PySem.Spec PyProof.Rows Zq Hx Sy
theorem fin_ok {t : Hx.T (Res W Unit)} (e : t.sat pE FF) : t.sat (fun r h' => ((match r with | .ret w => rt w | .nxt _ => rt (.dat .none) : M W) h').sat (fun w _ => w = .dat (.bool true)) FF) FF :=
  sat_mono (fun r h hr => by
    have hr : r = .ret (.dat (.bool true)) := hr
    subst hr
    exact (show W.dat (.bool true) = .dat (.bool true) from rfl)) (fun _ _ x => x) e
theorem rg_take {α : Type} {f : List W → M α} {P : α → Hs → Prop} {h : Hs} (g : h.get 0 = some .st) (s : ∀ v : Nat, v < 4 → (f ((rngD 0 (1 + v)).map .dat) h).sat P FF) : (bd (rg1 (binM (Hx.l2 pAddX) (rt (.dat (.int 1))) (callM 2 (apM (rt (.ref 0)) (apM (rt (.dat (.int 4))) (rt []))) m__law_take))) f h).sat P FF := by
  refine sat_bd ?_
  unfold rg1
  refine sat_bd ?_
  unfold binM
  rw [bd_ok (show rt (W.dat (.int 1)) h = .ok (iW 1) h from rfl)]
  refine take_sat g (show rt (iW ((4 : Nat) : Int)) h = .ok (iW ((4 : Nat) : Int)) h from rfl) (by omega) (by omega) fun v hv => ?_
  show T.sat (fun a h' => T.sat P FF (f a h')) FF (lf (gd (small (1 + (v : Int))) (some (List.map W.dat (rngD 0 (1 + (v : Int)).toNat)))) h)
  rw [show small (1 + (v : Int)) = true from inR_of (by omega) (by omega), show (1 + (v : Int)).toNat = 1 + v by omega]
  exact s v hv
theorem law_sat : (m_law [.scr] ⟨0, []⟩).sat (fun w _ => w = .dat (.bool true)) FF := by
  show (bd (g_law .scr) _ ⟨0, []⟩).sat _ _
  refine sat_bd (fin_ok ?_)
  show (bd (callM 1 (apM (rt .scr) (rt [])) m__law_state) (fun state_1 => (bd (callM 2 (apM (rt state_1) (apM (rt (.dat (.int 7))) (rt []))) m__law_shape) fun w => bd (lf ((tgT 2 (tgsC tgN (tgsC tgN tgs0))) w)) fun p_2 => (bd (binM (l2 pSub) (biM (u1 pSum) (apM (rt p_2.1) (rt []))) (biM (u1 pSum) (apM (rt p_2.2.1) (rt [])))) fun boxes_3 => (bd (ownW (lstM (rt []))) fun content_4 => (bd (rg1 (binM (l2 pAddX) (rt (.dat (.int 1))) (callM 2 (apM (rt state_1) (apM (rt (.dat (.int 4))) (rt []))) m__law_take))) fun ws => seqM (forM (stepM tgN fun x_5 (st_6 : Unit) => (CLB state_1 boxes_3 content_4 x_5 st_6)) ws ()) fun st_6 => (T5 state_1 p_2.1 p_2.2.1 boxes_3 content_4)))))) ⟨0, []⟩).sat _ _
  refine sat_bd (show (T.ok (W.ref 0) hS).sat _ _ from ?_)
  show (bd (callM 2 (apM (rt (.ref 0)) (apM (rt (.dat (.int 7))) (rt []))) m__law_shape) _ hS).sat _ _
  refine sat_bd (sat_mono (fun w h hw => ?_) (fun _ _ x => x) cS)
  obtain ⟨rfl, ⟨o, i⟩, hm, rfl⟩ := pS_ok hw
  have g : Gd o i := gAll (o, i) hm
  have k : (Nat.ble i.sum o.sum && (Nat.ble o.sum 100 && eqTup i)) = true := List.all_eq_true.mp cPP (o, i) hm
  rw [Bool.and_eq_true, Bool.and_eq_true] at k
  have hi : i.sum ≤ o.sum := Nat.le_of_ble_eq_true k.1
  have ho : o.sum ≤ 100 := Nat.le_of_ble_eq_true k.2.1
  rw [bd_ok (show lf ((tgT 2 (tgsC tgN (tgsC tgN tgs0))) (.dat (.tuple [.tuple (o.map fun x : Nat => .int (x : Int)), .tuple (i.map fun x : Nat => .int (x : Int))]))) hS = .ok (tN o, tN i, ()) hS from rfl)]
  have bx : binM (Hx.l2 pSub) (biM (u1 pSum) (apM (rt (tN o)) (rt []))) (biM (u1 pSum) (apM (rt (tN i)) (rt []))) hS = .ok (iW ((o.sum - i.sum : Nat) : Int)) hS := by
    rw [Int.ofNat_sub hi]
    exact bin_eq (sum_ev (ev_rt (tN o)) hS) (sum_ev (ev_rt (tN i)) hS) rfl
  rw [bd_ok bx, bd_ok (show ownW (lstM (rt [])) hS = .ok (.ref 1) (hC []) from rfl)]
  have key : ∀ ws : List W, ws.length ≤ 4 → 1 ≤ ws.length → (seqM (forM (stepM tgN fun x_5 (st_6 : Unit) => CLB (.ref 0) (iW ((o.sum - i.sum : Nat) : Int)) (.ref 1) x_5 st_6) ws ()) (fun st_6 => T5 (.ref 0) (tN o) (tN i) (iW ((o.sum - i.sum : Nat) : Int)) (.ref 1)) (hC [])).sat pE FF := fun ws h4 h1 => by
    show (bd _ _ (hC [])).sat _ _
    refine sat_bd (sat_mono (fun r h hr => ?_) (fun _ _ x => x) (cloop ws [] (Nat.zero_le _) (by simp; omega) (by omega)))
    obtain ⟨c, rfl, rfl, hs, hl⟩ := hr
    rw [List.length_nil, Nat.zero_add] at hl
    exact t5 g hi k.2.2 (by omega) (fun z => by rw [z] at hl; simp at hl; omega) hs
  exact rg_take rfl fun v hv => key _ (by rw [List.length_map, rngD_len]; omega) (by rw [List.length_map, rngD_len]; omega)
end K14
noncomputable section
namespace K14
open PySem L2 Pd Gn PySem.Spec PyProof.Rows Zq Hx
set_option maxHeartbeats 4000000 in
theorem all_mk {l : PySem.W.OpenLaw} {w : World} {K : PySem.W.Frag} {h : Heap} {mg : Str → Option Value} {fa f1 f2 f3 f4 f5 f6 f7 f8 f9 f10 f11 f12 f13 f14 f15 f16 T9 E9 T10 E10 : Addr} (X : K.In h) (G : h.Ns mainGlobals mg) (hfa : mg "law" = some (.ref fa))
    {tn9 en9 tn10 en10 : Nat} {od1 an1 od2 an2 od3 an3 od4 an4 od5 an5 od6 an6 od7 an7 od8 an8 od9 an9 od10 an10 od11 an11 od12 an12 od13 an13 od14 an14 od15 an15 od16 an16 tod9 eod9 tod10 eod10 : Option Addr} {sl1 sl2 sl3 sl4 sl5 sl6 sl7 sl8 sl9 sl10 sl11 sl12 sl13 sl14 sl15 sl16 tsl9 esl9 tsl10 esl10 : Array (Option Value)} {oc1 kV1 dc1 pm1 cd1 ct1 oc2 kV2 dc2 pm2 cd2 ct2 oc3 kV3 dc3 pm3 cd3 ct3 oc4 kV4 dc4 pm4 cd4 ct4 oc5 kV5 dc5 pm5 cd5 ct5 oc6 kV6 dc6 pm6 cd6 ct6 oc7 kV7 dc7 pm7 cd7 ct7 oc8 kV8 dc8 pm8 cd8 ct8 oc9 kV9 dc9 pm9 cd9 ct9 oc10 kV10 dc10 pm10 cd10 ct10 oc11 kV11 dc11 pm11 cd11 ct11 oc12 kV12 dc12 pm12 cd12 ct12 oc13 kV13 dc13 pm13 cd13 ct13 oc14 kV14 dc14 pm14 cd14 ct14 oc15 kV15 dc15 pm15 cd15 ct15 oc16 kV16 dc16 pm16 cd16 ct16 toc9 toc10 : Value}
    (a1 : PySem.W.nsIn K mainGlobals "_law_state" = some (some (.ref f1))) (l1 : K.lookup f1 = some ⟨oc1, od1, .func (PySem.W.fnOf "_law_state" "_law_state" (defArgs sState) (defBody sState) (defScope sState) .none kV1 dc1 pm1 an1 cd1 ct1), sl1⟩) (c1 : PySem.W.codeIn K cd1 "_law_state" = true) (k1 : PySem.W.keepIn K (.ref f1) = true)
    (a2 : PySem.W.nsIn K mainGlobals "_law_take" = some (some (.ref f2))) (l2 : K.lookup f2 = some ⟨oc2, od2, .func (PySem.W.fnOf "_law_take" "_law_take" (defArgs sTake) (defBody sTake) (defScope sTake) .none kV2 dc2 pm2 an2 cd2 ct2), sl2⟩) (c2 : PySem.W.codeIn K cd2 "_law_take" = true) (k2 : PySem.W.keepIn K (.ref f2) = true)
    (a3 : PySem.W.nsIn K mainGlobals "shares" = some (some (.ref f3))) (l3 : K.lookup f3 = some ⟨oc3, od3, .func (PySem.W.fnOf "shares" "shares" (defArgs s_shares) (defBody s_shares) (defScope s_shares) .none kV3 dc3 pm3 an3 cd3 ct3), sl3⟩) (c3 : PySem.W.codeIn K cd3 "shares" = true) (k3 : PySem.W.keepIn K (.ref f3) = true)
    (a4 : PySem.W.nsIn K mainGlobals "_starts" = some (some (.ref f4))) (l4 : K.lookup f4 = some ⟨oc4, od4, .func (PySem.W.fnOf "_starts" "_starts" (defArgs s__starts) (defBody s__starts) (defScope s__starts) .none kV4 dc4 pm4 an4 cd4 ct4), sl4⟩) (c4 : PySem.W.codeIn K cd4 "_starts" = true) (k4 : PySem.W.keepIn K (.ref f4) = true)
    (a5 : PySem.W.nsIn K mainGlobals "_strips_up" = some (some (.ref f5))) (l5 : K.lookup f5 = some ⟨oc5, od5, .func (PySem.W.fnOf "_strips_up" "_strips_up" (defArgs s__strips_up) (defBody s__strips_up) (defScope s__strips_up) .none kV5 dc5 pm5 an5 cd5 ct5), sl5⟩) (c5 : PySem.W.codeIn K cd5 "_strips_up" = true) (k5 : PySem.W.keepIn K (.ref f5) = true)
    (a6 : PySem.W.nsIn K mainGlobals "_is_full" = some (some (.ref f6))) (l6 : K.lookup f6 = some ⟨oc6, od6, .func (PySem.W.fnOf "_is_full" "_is_full" (defArgs s__is_full) (defBody s__is_full) (defScope s__is_full) .none kV6 dc6 pm6 an6 cd6 ct6), sl6⟩) (c6 : PySem.W.codeIn K cd6 "_is_full" = true) (k6 : PySem.W.keepIn K (.ref f6) = true)
    (a7 : PySem.W.nsIn K mainGlobals "_layers" = some (some (.ref f7))) (l7 : K.lookup f7 = some ⟨oc7, od7, .func (PySem.W.fnOf "_layers" "_layers" (defArgs s__layers) (defBody s__layers) (defScope s__layers) .none kV7 dc7 pm7 an7 cd7 ct7), sl7⟩) (c7 : PySem.W.codeIn K cd7 "_layers" = true) (k7 : PySem.W.keepIn K (.ref f7) = true)
    (a8 : PySem.W.nsIn K mainGlobals "_begun" = some (some (.ref f8))) (l8 : K.lookup f8 = some ⟨oc8, od8, .func (PySem.W.fnOf "_begun" "_begun" (defArgs s__begun) (defBody s__begun) (defScope s__begun) .none kV8 dc8 pm8 an8 cd8 ct8), sl8⟩) (c8 : PySem.W.codeIn K cd8 "_begun" = true) (k8 : PySem.W.keepIn K (.ref f8) = true)
    (a9 : PySem.W.nsIn K mainGlobals "fillings" = some (some (.ref f9))) (l9 : K.lookup f9 = some ⟨oc9, od9, .func (PySem.W.fnOf "fillings" "fillings" (defArgs s_fillings) (defBody s_fillings) (defScope s_fillings) (.ref T9) kV9 dc9 pm9 an9 cd9 ct9), sl9⟩) (c9 : PySem.W.codeIn K cd9 "fillings" = true) (k9 : PySem.W.keepIn K (.ref f9) = true)
    (t9 : K.lookup T9 = some ⟨toc9, tod9, .seq #[.ref E9] tn9, tsl9⟩) (e9 : K.lookup E9 = some ⟨.type "tuple", eod9, .seq #[] en9, esl9⟩)
    (a10 : PySem.W.nsIn K mainGlobals "count_fillings" = some (some (.ref f10))) (l10 : K.lookup f10 = some ⟨oc10, od10, .func (PySem.W.fnOf "count_fillings" "count_fillings" (defArgs s_count_fillings) (defBody s_count_fillings) (defScope s_count_fillings) (.ref T10) kV10 dc10 pm10 an10 cd10 ct10), sl10⟩) (c10 : PySem.W.codeIn K cd10 "count_fillings" = true) (k10 : PySem.W.keepIn K (.ref f10) = true)
    (t10 : K.lookup T10 = some ⟨toc10, tod10, .seq #[.ref E10] tn10, tsl10⟩) (e10 : K.lookup E10 = some ⟨.type "tuple", eod10, .seq #[] en10, esl10⟩)
    (a11 : PySem.W.nsIn K mainGlobals "_law_partitions" = some (some (.ref f11))) (l11 : K.lookup f11 = some ⟨oc11, od11, .func (PySem.W.fnOf "_law_partitions" "_law_partitions" (defArgs s__law_partitions) (defBody s__law_partitions) (defScope s__law_partitions) .none kV11 dc11 pm11 an11 cd11 ct11), sl11⟩) (c11 : PySem.W.codeIn K cd11 "_law_partitions" = true) (k11 : PySem.W.keepIn K (.ref f11) = true)
    (a12 : PySem.W.nsIn K mainGlobals "_law_drawn_partition" = some (some (.ref f12))) (l12 : K.lookup f12 = some ⟨oc12, od12, .func (PySem.W.fnOf "_law_drawn_partition" "_law_drawn_partition" (defArgs s__law_drawn_partition) (defBody s__law_drawn_partition) (defScope s__law_drawn_partition) .none kV12 dc12 pm12 an12 cd12 ct12), sl12⟩) (c12 : PySem.W.codeIn K cd12 "_law_drawn_partition" = true) (k12 : PySem.W.keepIn K (.ref f12) = true)
    (a13 : PySem.W.nsIn K mainGlobals "_law_at" = some (some (.ref f13))) (l13 : K.lookup f13 = some ⟨oc13, od13, .func (PySem.W.fnOf "_law_at" "_law_at" (defArgs s__law_at) (defBody s__law_at) (defScope s__law_at) .none kV13 dc13 pm13 an13 cd13 ct13), sl13⟩) (c13 : PySem.W.codeIn K cd13 "_law_at" = true) (k13 : PySem.W.keepIn K (.ref f13) = true)
    (a14 : PySem.W.nsIn K mainGlobals "_law_subpartitions" = some (some (.ref f14))) (l14 : K.lookup f14 = some ⟨oc14, od14, .func (PySem.W.fnOf "_law_subpartitions" "_law_subpartitions" (defArgs s__law_subpartitions) (defBody s__law_subpartitions) (defScope s__law_subpartitions) .none kV14 dc14 pm14 an14 cd14 ct14), sl14⟩) (c14 : PySem.W.codeIn K cd14 "_law_subpartitions" = true) (k14 : PySem.W.keepIn K (.ref f14) = true)
    (a15 : PySem.W.nsIn K mainGlobals "_law_shape" = some (some (.ref f15))) (l15 : K.lookup f15 = some ⟨oc15, od15, .func (PySem.W.fnOf "_law_shape" "_law_shape" (defArgs s__law_shape) (defBody s__law_shape) (defScope s__law_shape) .none kV15 dc15 pm15 an15 cd15 ct15), sl15⟩) (c15 : PySem.W.codeIn K cd15 "_law_shape" = true) (k15 : PySem.W.keepIn K (.ref f15) = true)
    (a16 : PySem.W.nsIn K mainGlobals "law" = some (some (.ref f16))) (l16 : K.lookup f16 = some ⟨oc16, od16, .func (PySem.W.fnOf "law" "law" (defArgs s_law) (defBody s_law) (defScope s_law) .none kV16 dc16 pm16 an16 cd16 ct16), sl16⟩) (c16 : PySem.W.codeIn K cd16 "law" = true) (k16 : PySem.W.keepIn K (.ref f16) = true)
    (z1 : PySem.W.nsIn K mainGlobals "len" = some none) (z2 : PySem.W.nsIn K mainGlobals "int" = some none) (z3 : PySem.W.nsIn K mainGlobals "abs" = some none) (z4 : PySem.W.nsIn K mainGlobals "min" = some none) (z5 : PySem.W.nsIn K mainGlobals "max" = some none) (z6 : PySem.W.nsIn K mainGlobals "range" = some none) (z7 : PySem.W.nsIn K mainGlobals "tuple" = some none) (z8 : PySem.W.nsIn K mainGlobals "list" = some none) (z9 : PySem.W.nsIn K mainGlobals "all" = some none) (z10 : PySem.W.nsIn K mainGlobals "any" = some none) (z11 : PySem.W.nsIn K mainGlobals "zip" = some none) (z12 : PySem.W.nsIn K mainGlobals "sum" = some none) (z13 : PySem.W.nsIn K mainGlobals "sorted" = some none) (z14 : PySem.W.nsIn K mainGlobals "isinstance" = some none) (z15 : PySem.W.nsIn K mainGlobals "bool" = some none) (z16 : PySem.W.nsIn K mainGlobals "reversed" = some none) (z17 : PySem.W.nsIn K mainGlobals "enumerate" = some none) :
    ∃ fd : FuncData, (∀ (s : Shared) (v : Value), BindsTo s fd ⟨[v], []⟩ [("script", v)]) ∧ ∀ base : Heap, K.In base → base.Ns mainGlobals mg → FnOk l.prog w K mg base CX0 13 fa fd ["script"] (spLaw K) := by
  have e := hfa.symm.trans (PySem.W.mg_of X G a16)
  cases e
  have F1 := fun_mk (st := sState) l1 c1 k1
  have F2 := fun_mk (st := sTake) l2 c2 k2
  have F3 := fun_mk (st := s_shares) l3 c3 k3
  have F4 := fun_mk (st := s__starts) l4 c4 k4
  have F5 := fun_mk (st := s__strips_up) l5 c5 k5
  have F6 := fun_mk (st := s__is_full) l6 c6 k6
  have F7 := fun_mk (st := s__layers) l7 c7 k7
  have F8 := fun_mk (st := s__begun) l8 c8 k8
  have F9 := funY_mk (st := s_fillings) l9 c9 k9
  have F10 := funY_mk (st := s_count_fillings) l10 c10 k10
  have F11 := fun_mk (st := s__law_partitions) l11 c11 k11
  have F12 := fun_mk (st := s__law_drawn_partition) l12 c12 k12
  have F13 := fun_mk (st := s__law_at) l13 c13 k13
  have F14 := fun_mk (st := s__law_subpartitions) l14 c14 k14
  have F15 := fun_mk (st := s__law_shape) l15 c15 k15
  have F16 := fun_mk (st := s_law) l16 c16 k16
  have b1 := F1.binds (ps := ["script"]) fun _ _ _ _ _ _ us hl => match us, hl with | [_], _ => rfl
  have b2 := F2.binds (ps := ["state", "m"]) fun _ _ _ _ _ _ us hl => match us, hl with | [_, _], _ => rfl
  have b3 := F3.binds (ps := ["limits", "k"]) fun _ _ _ _ _ _ us hl => match us, hl with | [_, _], _ => rfl
  have b4 := F4.binds (ps := ["inner", "many"]) fun _ _ _ _ _ _ us hl => match us, hl with | [_, _], _ => rfl
  have b5 := F5.binds (ps := ["outer", "shape", "k", "later"]) fun _ _ _ _ _ _ us hl => match us, hl with | [_, _, _, _], _ => rfl
  have b6 := F6.binds (ps := ["outer", "content", "inner"]) fun _ _ _ _ _ _ us hl => match us, hl with | [_, _, _], _ => rfl
  have b7 := F7.binds (ps := ["outer", "content", "inner"]) fun _ _ _ _ _ _ us hl => match us, hl with | [_, _, _], _ => rfl
  have b8 := F8.binds (ps := ["rows", "number", "larger", "smaller"]) fun _ _ _ _ _ _ us hl => match us, hl with | [_, _, _, _], _ => rfl
  have FD9 : FunD K "fillings" "fillings" (defArgs s_fillings) (defBody s_fillings) (defScope s_fillings) [V.ref E9] [] f9 _ := ⟨⟨_, _, .ref T9, _, _, _, _, _, _, _, rfl, l9, c9, .inr ⟨by simp, T9, _, [.ref E9], _, rfl, t9, rfl, .cons rfl .nil⟩, .inl rfl⟩, k9⟩
  obtain ⟨us9, rv9, b9⟩ := FD9.binds1 (ps := ["outer", "content", "inner"]) 3 1 (by simp) rfl fun T kV doc pm an cdv ct us its l1 l2 => match us, its, l1, l2 with | [_, _, _], [_], _, _ => ⟨_, rfl, rfl⟩
  have z9_ : us9 = [] := by cases rv9; rfl
  rw [z9_] at b9
  obtain ⟨vs9, rw9, bd9⟩ := FD9.binds1 (ps := ["outer", "content", "inner"]) 2 0 (by simp) rfl fun T kV doc pm an cdv ct us its l1 l2 => match us, its, l1, l2 with | [_, _], [_], _, _ => ⟨_, rfl, rfl⟩
  have ev9 : ∀ (wd : World) φ H, VRs K wd φ H [.dat (.tuple [])] [V.ref E9] := fun wd φ H => .cons (.dat (.tup (.inr ⟨_, #[], en9, e9, rfl, rfl, by decide, .nil⟩) .nil)) .nil
  have FD10 : FunD K "count_fillings" "count_fillings" (defArgs s_count_fillings) (defBody s_count_fillings) (defScope s_count_fillings) [V.ref E10] [] f10 _ := ⟨⟨_, _, .ref T10, _, _, _, _, _, _, _, rfl, l10, c10, .inr ⟨by simp, T10, _, [.ref E10], _, rfl, t10, rfl, .cons rfl .nil⟩, .inl rfl⟩, k10⟩
  obtain ⟨us10, rv10, b10⟩ := FD10.binds1 (ps := ["outer", "content", "inner"]) 3 1 (by simp) rfl fun T kV doc pm an cdv ct us its l1 l2 => match us, its, l1, l2 with | [_, _, _], [_], _, _ => ⟨_, rfl, rfl⟩
  have z10_ : us10 = [] := by cases rv10; rfl
  rw [z10_] at b10
  obtain ⟨vs10, rw10, bd10⟩ := FD10.binds1 (ps := ["outer", "content", "inner"]) 2 0 (by simp) rfl fun T kV doc pm an cdv ct us its l1 l2 => match us, its, l1, l2 with | [_, _], [_], _, _ => ⟨_, rfl, rfl⟩
  have ev10 : ∀ (wd : World) φ H, VRs K wd φ H [.dat (.tuple [])] [V.ref E10] := fun wd φ H => .cons (.dat (.tup (.inr ⟨_, #[], en10, e10, rfl, rfl, by decide, .nil⟩) .nil)) .nil
  have b11 := F11.binds (ps := ["n", "most"]) fun _ _ _ _ _ _ us hl => match us, hl with | [_, _], _ => rfl
  have b12 := F12.binds (ps := ["state", "n"]) fun _ _ _ _ _ _ us hl => match us, hl with | [_, _], _ => rfl
  have b13 := F13.binds (ps := ["a", "i"]) fun _ _ _ _ _ _ us hl => match us, hl with | [_, _], _ => rfl
  have b14 := F14.binds (ps := ["a"]) fun _ _ _ _ _ _ us hl => match us, hl with | [_], _ => rfl
  have b15 := F15.binds (ps := ["state", "most"]) fun _ _ _ _ _ _ us hl => match us, hl with | [_, _], _ => rfl
  have m1 := PySem.W.mg_of X G a1
  have m2 := PySem.W.mg_of X G a2
  have m3 := PySem.W.mg_of X G a3
  have m4 := PySem.W.mg_of X G a4
  have m5 := PySem.W.mg_of X G a5
  have m6 := PySem.W.mg_of X G a6
  have m7 := PySem.W.mg_of X G a7
  have m8 := PySem.W.mg_of X G a8
  have m9 := PySem.W.mg_of X G a9
  have m10 := PySem.W.mg_of X G a10
  have m11 := PySem.W.mg_of X G a11
  have m12 := PySem.W.mg_of X G a12
  have m13 := PySem.W.mg_of X G a13
  have m14 := PySem.W.mg_of X G a14
  have m15 := PySem.W.mg_of X G a15
  have n1 := PySem.W.mg_none_of X G z1
  have n2 := PySem.W.mg_none_of X G z2
  have n3 := PySem.W.mg_none_of X G z3
  have n4 := PySem.W.mg_none_of X G z4
  have n5 := PySem.W.mg_none_of X G z5
  have n6 := PySem.W.mg_none_of X G z6
  have n7 := PySem.W.mg_none_of X G z7
  have n8 := PySem.W.mg_none_of X G z8
  have n9 := PySem.W.mg_none_of X G z9
  have n10 := PySem.W.mg_none_of X G z10
  have n11 := PySem.W.mg_none_of X G z11
  have n12 := PySem.W.mg_none_of X G z12
  have n13 := PySem.W.mg_none_of X G z13
  have n14 := PySem.W.mg_none_of X G z14
  have n15 := PySem.W.mg_none_of X G z15
  have n16 := PySem.W.mg_none_of X G z16
  have n17 := PySem.W.mg_none_of X G z17
  have T : MgB mg := ⟨n1, n2, n3, n4, n5, n6, n7, n8, n9, n10, n11, n12, n13, n14, n15, n16, n17⟩
  have T0 : Mg mg := ⟨T.len, T.int, T.abs, T.min, T.range⟩
  refine ⟨PySem.W.fnOf "law" "law" (defArgs s_law) (defBody s_law) (defScope s_law) .none kV16 dc16 pm16 an16 cd16 ct16, fun s v => .of_eq rfl, fun base _ _ => ?_⟩
  have C__law_state : CalM l.prog w K mg base 1 "_law_state" ["script"] 1 m__law_state := ⟨_, _, fnState (P := l.prog) (w := w) (base := base) F1 T0, m1, k1, b1⟩
  have C__law_take : CalM l.prog w K mg base 1 "_law_take" ["state", "m"] 2 m__law_take := ⟨_, _, fnTake (P := l.prog) (w := w) (base := base) F2 T0, m2, k2, b2⟩
  have C_shares : CalM l.prog w K mg base 2 "shares" ["limits", "k"] 2 m_shares := ⟨_, _, ok_shares (P := l.prog) (w := w) (base := base) (Hx.Fun.y F3) T , m3, k3, b3⟩
  have C__starts : CalM l.prog w K mg base 2 "_starts" ["inner", "many"] 2 m__starts := ⟨_, _, ok__starts (P := l.prog) (w := w) (base := base) (Hx.Fun.y F4) T , m4, k4, b4⟩
  have C__strips_up : CalM l.prog w K mg base 3 "_strips_up" ["outer", "shape", "k", "later"] 4 m__strips_up := ⟨_, _, ok__strips_up (P := l.prog) (w := w) (base := base) (Hx.Fun.y F5) T C_shares, m5, k5, b5⟩
  have C__is_full : CalM l.prog w K mg base 2 "_is_full" ["outer", "content", "inner"] 3 m__is_full := ⟨_, _, ok__is_full (P := l.prog) (w := w) (base := base) (Hx.Fun.y F6) T , m6, k6, b6⟩
  have C__layers : CalM l.prog w K mg base 4 "_layers" ["outer", "content", "inner"] 3 m__layers := ⟨_, _, ok__layers (P := l.prog) (w := w) (base := base) (Hx.Fun.y F7) T C__starts C__strips_up, m7, k7, b7⟩
  have C__begun : CalM l.prog w K mg base 2 "_begun" ["rows", "number", "larger", "smaller"] 4 m__begun := ⟨_, _, ok__begun (P := l.prog) (w := w) (base := base) (Hx.Fun.y F8) T , m8, k8, b8⟩
  have C_fillings : CalM l.prog w K mg base 5 "fillings" ["outer", "content", "inner"] 3 m_fillings := ⟨_, _, ok_fillings (P := l.prog) (w := w) (base := base) F9 T C__is_full C__layers C__begun, m9, k9, b9⟩
  have D_fillings : CalD l.prog w K mg base 5 "fillings" ["outer", "content", "inner"] 3 [.dat (.tuple [])] m_fillings := ⟨_, _, _, _, ok_fillings (P := l.prog) (w := w) (base := base) F9 T C__is_full C__layers C__begun, m9, k9, bd9, rw9, ev9 _⟩
  have C_count_fillings : CalM l.prog w K mg base 4 "count_fillings" ["outer", "content", "inner"] 3 m_count_fillings := ⟨_, _, ok_count_fillings (P := l.prog) (w := w) (base := base) F10 T C__is_full C__starts C__strips_up, m10, k10, b10⟩
  have D_count_fillings : CalD l.prog w K mg base 4 "count_fillings" ["outer", "content", "inner"] 3 [.dat (.tuple [])] m_count_fillings := ⟨_, _, _, _, ok_count_fillings (P := l.prog) (w := w) (base := base) F10 T C__is_full C__starts C__strips_up, m10, k10, bd10, rw10, ev10 _⟩
  have C__law_partitions : CalM l.prog w K mg base 10 "_law_partitions" ["n", "most"] 2 m__law_partitions := ⟨_, _, ok__law_partitions (P := l.prog) (w := w) (base := base) (Hx.Fun.y F11) T  m11 b11 9, m11, k11, b11⟩
  have C__law_drawn_partition : CalM l.prog w K mg base 11 "_law_drawn_partition" ["state", "n"] 2 m__law_drawn_partition := ⟨_, _, ok__law_drawn_partition (P := l.prog) (w := w) (base := base) (Hx.Fun.y F12) T C__law_partitions C__law_take, m12, k12, b12⟩
  have C__law_at : CalM l.prog w K mg base 2 "_law_at" ["a", "i"] 2 m__law_at := ⟨_, _, ok__law_at (P := l.prog) (w := w) (base := base) (Hx.Fun.y F13) T , m13, k13, b13⟩
  have C__law_subpartitions : CalM l.prog w K mg base 2 "_law_subpartitions" ["a"] 1 m__law_subpartitions := ⟨_, _, ok__law_subpartitions (P := l.prog) (w := w) (base := base) (Hx.Fun.y F14) T , m14, k14, b14⟩
  have C__law_shape : CalM l.prog w K mg base 12 "_law_shape" ["state", "most"] 2 m__law_shape := ⟨_, _, ok__law_shape (P := l.prog) (w := w) (base := base) (Hx.Fun.y F15) T C__law_take C__law_drawn_partition C__law_subpartitions, m15, k15, b15⟩
  exact law_M law_sat (ok_law F16 T C__law_state C__law_shape C__law_take C_count_fillings C_fillings D_count_fillings)
end K14
end
open PySem PySem.W PyProof.Rows
set_option maxRecDepth 100000 in
set_option maxHeartbeats 0 in
theorem PySem.Challenge.cw_fivebases_k14_counts_of_fillings_holds : PySem.Challenge.rw_fivebases_k14_counts_of_fillings.Holds := by
  w_on; o_law; k_head; (case hw => w_witness2)
  k_fill
  refine L2.walk_of (l := PySem.Challenge.rw_fivebases_k14_counts_of_fillings) (n := 63) (k := 13) (x := "script") (CX := fun _ => L2.CX0) (sp := fun w => Pd.spLaw _) rfl (by decide) rfl ⟨rfl, by decide, by decide⟩ (fun w h Y => PySem.W.kIn_of Y) ?F (fun _ _ a ns hl _ hS => ⟨a, ns, rfl, hS, hl, fun _ => rfl⟩) (fun _ _ _ _ _ h => h)
  case F =>
    intro w mg fa h KX G hmg
    refine' K14.all_mk KX G hmg ?a1 ?l1 ?c1 ?k1 ?a2 ?l2 ?c2 ?k2 ?a3 ?l3 ?c3 ?k3 ?a4 ?l4 ?c4 ?k4 ?a5 ?l5 ?c5 ?k5 ?a6 ?l6 ?c6 ?k6 ?a7 ?l7 ?c7 ?k7 ?a8 ?l8 ?c8 ?k8 ?a9 ?l9 ?c9 ?k9 ?t9 ?e9 ?a10 ?l10 ?c10 ?k10 ?t10 ?e10 ?a11 ?l11 ?c11 ?k11 ?a12 ?l12 ?c12 ?k12 ?a13 ?l13 ?c13 ?k13 ?a14 ?l14 ?c14 ?k14 ?a15 ?l15 ?c15 ?k15 ?a16 ?l16 ?c16 ?k16 ?z1 ?z2 ?z3 ?z4 ?z5 ?z6 ?z7 ?z8 ?z9 ?z10 ?z11 ?z12 ?z13 ?z14 ?z15 ?z16 ?z17
    (case a1 => k_is)
    (case l1 => k_is)
    (case c1 => k_is)
    (case k1 => k_is)
    (case a2 => k_is)
    (case l2 => k_is)
    (case c2 => k_is)
    (case k2 => k_is)
    (case a3 => k_is)
    (case l3 => k_is)
    (case c3 => k_is)
    (case k3 => k_is)
    (case a4 => k_is)
    (case l4 => k_is)
    (case c4 => k_is)
    (case k4 => k_is)
    (case a5 => k_is)
    (case l5 => k_is)
    (case c5 => k_is)
    (case k5 => k_is)
    (case a6 => k_is)
    (case l6 => k_is)
    (case c6 => k_is)
    (case k6 => k_is)
    (case a7 => k_is)
    (case l7 => k_is)
    (case c7 => k_is)
    (case k7 => k_is)
    (case a8 => k_is)
    (case l8 => k_is)
    (case c8 => k_is)
    (case k8 => k_is)
    (case a9 => k_is)
    (case l9 => k_is)
    (case c9 => k_is)
    (case k9 => k_is)
    (case t9 => k_is)
    (case e9 => k_is)
    (case a10 => k_is)
    (case l10 => k_is)
    (case c10 => k_is)
    (case k10 => k_is)
    (case t10 => k_is)
    (case e10 => k_is)
    (case a11 => k_is)
    (case l11 => k_is)
    (case c11 => k_is)
    (case k11 => k_is)
    (case a12 => k_is)
    (case l12 => k_is)
    (case c12 => k_is)
    (case k12 => k_is)
    (case a13 => k_is)
    (case l13 => k_is)
    (case c13 => k_is)
    (case k13 => k_is)
    (case a14 => k_is)
    (case l14 => k_is)
    (case c14 => k_is)
    (case k14 => k_is)
    (case a15 => k_is)
    (case l15 => k_is)
    (case c15 => k_is)
    (case k15 => k_is)
    (case a16 => k_is)
    (case l16 => k_is)
    (case c16 => k_is)
    (case k16 => k_is)
    (case z1 => k_is)
    (case z2 => k_is)
    (case z3 => k_is)
    (case z4 => k_is)
    (case z5 => k_is)
    (case z6 => k_is)
    (case z7 => k_is)
    (case z8 => k_is)
    (case z9 => k_is)
    (case z10 => k_is)
    (case z11 => k_is)
    (case z12 => k_is)
    (case z13 => k_is)
    (case z14 => k_is)
    (case z15 => k_is)
    (case z16 => k_is)
    (case z17 => k_is)
