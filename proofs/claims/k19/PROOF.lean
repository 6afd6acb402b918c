import PyProof.Rows.All
import Wide.All
import OpenK.AllK
import Wide.FinOn
import HandS.ForMost
import HandS.Deep
import HandS.TupAny
import HandS.IsInst
import HandS.SortKw
import HandS.Zip
import HandS.Rev
import HandS.SetFor
import KE.KTupSum
import HandS.SortRule
import HandS.Style
import HandS.TupLe
import HandS.TupMul
import HandS.ForExc
import HandS.ExcInit
import HandS.ExcField
import KE.SortData
import HandS.ExcValue
import KE.GoesNew
import HandS.Defaults
import KE.GoesEnum
import KE.DataMinMax
import PyProof.EnumMake
import PyProof.Rows.SeqMore
import KE.KDictKeyed
import HandS.CallSlots
import HandS.Dict
import PyProof.Rows.TupDisplay
import KE.KDictDisplayH
import HandS.Flow
import HandS.Flt
import HandS.Iter
import KE.KSortTupAny
import HandS.TryOnly
import HandS.Conv
import PySem.Challenge.RW_fivebases_k19_whole_counts_by_pairs
set_option Elab.async false
set_option linter.all false
set_option maxRecDepth 100000
/-! Values as data: an expression, a block, a def is told by the data (PyData) that stands in its slots. -/
namespace Pd
open PySem L2

/-! ### semantic readings: the weakest ones -/
def sE (X : Cx) (e : Expr) : TE := fun σ H Q => ∀ pins s, Inv X pins σ H s → wpAny (model X.prog X.w) X.A (eval e X.env) (EP X pins σ Q) X.xe s
def sT (X : Cx) (e : Expr) : TT := fun σ H Q => ∀ pins s, Inv X pins σ H s → wpAny (model X.prog X.w) X.A (isTrue e X.env (eval e X.env)) (TP X pins σ Q) X.xe s
def sA (X : Cx) (es : List Expr) : TA := fun σ H Q => ∀ pos pins s, Inv X pins σ H s → wpAny (model X.prog X.w) X.A (spliced (backTo pos (starEach es X.env))) (AP X pins σ Q) X.xe s
def sS (X : Cx) (st : Stmt) : TS := fun D σ H => ∀ pins s, Inv X pins σ H s → wpAny (model X.prog X.w) X.A (exec st X.env) (SP X pins D) X.xe s
def sSs (X : Cx) (st : List Stmt) : TS := fun D σ H => ∀ pins s, Inv X pins σ H s → wpAny (model X.prog X.w) X.A (execs st X.env) (SP X pins D) X.xe s
section
variable {X : Cx} {e : Expr} {es : List Expr} {st : Stmt} {sts : List Stmt}
theorem pe_s : PE X e (sE X e) := ⟨fun pins s _ _ _ I h => h pins s I⟩
theorem pt_s : PT X e (sT X e) := ⟨fun pins s _ _ _ I h => h pins s I⟩
theorem pa_s : PA X es (sA X es) := ⟨fun pos pins s _ _ _ I h => h pos pins s I⟩
theorem ps_s : PS X st (sS X st) := ⟨fun pins s _ _ _ I h => h pins s I⟩
theorem pss_s : PSs X sts (sSs X sts) := ⟨fun pins s _ _ _ I h => h pins s I⟩
theorem sE_of {t : TE} {σ : L2.St} {H : Hp} {Q : VK} (h : PE X e t) (q : t σ H Q) : sE X e σ H Q := fun pins s I => h.run pins s σ H Q I q
theorem sT_of {t : TT} {σ : L2.St} {H : Hp} {Q : Bool → Hp → Prop} (h : PT X e t) (q : t σ H Q) : sT X e σ H Q := fun pins s I => h.run pins s σ H Q I q
theorem sA_of {t : TA} {σ : L2.St} {H : Hp} {Q : List V → Hp → Prop} (h : PA X es t) (q : t σ H Q) : sA X es σ H Q := fun pos pins s I => h.run pos pins s σ H Q I q
theorem sS_of {t : TS} {σ : L2.St} {H : Hp} {D : Ends} (h : PS X st t) (q : t D σ H) : sS X st D σ H := fun pins s I => h.run pins s σ H D I q
theorem sSs_of {t : TS} {σ : L2.St} {H : Hp} {D : Ends} (h : PSs X sts t) (q : t D σ H) : sSs X sts D σ H := fun pins s I => h.run pins s σ H D I q
end

/-! ### data in a growing heap -/
section
variable {K : PySem.W.Frag} {H H' : Hp}
theorem same_rd {a : Addr} {u : HO} (e : Same H H') (h : Rd H a u) : Rd H' a u := by
  rcases h with h | ⟨o, h⟩
  · exact .inl (e a _ h)
  · exact .inr ⟨o, e a _ h⟩
theorem same_t {a : Addr} {xs : List V} (e : Same H H') (h : SqT K H a xs) : SqT K H' a xs := by
  rcases h with h | h
  · exact .inl (same_rd e h)
  · exact .inr h
theorem same_l {a : Addr} {xs : List V} (e : Same H H') (h : SqL K H a xs) : SqL K H' a xs := by
  rcases h with h | h
  · exact .inl (same_rd e h)
  · exact .inr h
mutual
theorem Dp.mono (e : Same H H') : ∀ {v : V} (d : PyData), Dp K H v d → Dp K H' v d
  | _, .none, h => by cases h; exact .non
  | _, .bool b, h => by cases h; exact .bl b
  | _, .int i, h => by cases h; exact .int i
  | _, .str s, h => by cases h; exact .str s
  | _, .list ds, h => by
    cases h with
    | lst hs ha => exact .lst (same_l e hs) (DpAll.mono e ds ha)
  | _, .tuple ds, h => by
    cases h with
    | tup hs ha => exact .tup (same_t e hs) (DpAll.mono e ds ha)
  | _, .dict _, h => by cases h
theorem DpAll.mono (e : Same H H') : ∀ {vs : List V} (ds : List PyData), DpAll K H vs ds → DpAll K H' vs ds
  | _, [], h => by cases h; exact .nil
  | _, d :: ds, h => by
    cases h with
    | cons h1 h2 => exact .cons (Dp.mono e d h1) (DpAll.mono e ds h2)
end
theorem DpAll.len : ∀ {vs : List V} {ds : List PyData}, DpAll K H vs ds → vs.length = ds.length
  | _, [], h => by cases h; rfl
  | _, d :: ds, h => by
    cases h with
    | cons h1 h2 => simp [DpAll.len h2]
theorem DpAll.get : ∀ {vs : List V} {ds : List PyData} {i : Nat} {d : PyData}, DpAll K H vs ds → ds[i]? = some d → ∃ v, vs[i]? = some v ∧ Dp K H v d
  | _, [], i, d, h, g => by simp at g
  | _, e :: ds, 0, d, h, g => by
    cases h with
    | cons h1 h2 =>
      simp at g
      subst g
      exact ⟨_, rfl, h1⟩
  | _, e :: ds, i + 1, d, h, g => by
    cases h with
    | cons h1 h2 =>
      obtain ⟨v, q1, q2⟩ := DpAll.get h2 (by simpa using g)
      exact ⟨v, by simpa using q1, q2⟩
theorem DpAll.app : ∀ {vs ws : List V} {ds es : List PyData}, DpAll K H vs ds → DpAll K H ws es → DpAll K H (vs ++ ws) (ds ++ es)
  | _, _, [], _, h, g => by cases h; exact g
  | _, _, d :: ds, _, h, g => by
    cases h with
    | cons h1 h2 => exact .cons h1 (DpAll.app h2 g)
theorem DpAll.take : ∀ {vs : List V} {ds : List PyData} (n : Nat), DpAll K H vs ds → DpAll K H (vs.take n) (ds.take n)
  | _, [], n, h => by cases h; simp; exact .nil
  | _, d :: ds, 0, h => by simp; exact .nil
  | _, d :: ds, n + 1, h => by
    cases h with
    | cons h1 h2 => exact .cons h1 (DpAll.take n h2)
theorem DpAll.drop : ∀ {vs : List V} {ds : List PyData} (n : Nat), DpAll K H vs ds → DpAll K H (vs.drop n) (ds.drop n)
  | _, [], n, h => by cases h; simp; exact .nil
  | _, d :: ds, 0, h => h
  | _, d :: ds, n + 1, h => by
    cases h with
    | cons h1 h2 => exact DpAll.drop n h2
theorem DpAll.set : ∀ {vs : List V} {ds : List PyData} {v : V} {d : PyData} (i : Nat), DpAll K H vs ds → Dp K H v d → DpAll K H (vs.set i v) (ds.set i d)
  | _, [], _, _, i, h, g => by cases h; simp; exact .nil
  | _, e :: ds, _, _, 0, h, g => by
    cases h with
    | cons h1 h2 => exact .cons g h2
  | _, e :: ds, _, _, i + 1, h, g => by
    cases h with
    | cons h1 h2 => exact .cons h1 (DpAll.set i h2 g)
theorem DpAll.ints : ∀ {vs : List V} {ns : List Int}, DpAll K H vs (ns.map PyData.int) → vs = ns.map V.int
  | _, [], h => by cases h; rfl
  | _, n :: ns, h => by
    cases h with
    | cons h1 h2 =>
      cases h1
      simp [DpAll.ints h2]
theorem DpAll.of_ints : ∀ (ns : List Int), DpAll K H (ns.map V.int) (ns.map PyData.int)
  | [] => .nil
  | n :: ns => .cons (.int n) (DpAll.of_ints ns)
end

/-! ### slots told by data -/
/-- what stands in a slot: nothing that is known; data that never changes; a list that the def owns (only this slot names it) -/
inductive Ce where
  | dat (d : PyData) | own (ds : List PyData)
/-- a thing of one's own that other things stand in: a list, a dict (its keys: tuples, or numbers and texts) -/
inductive Bx where
  | A (c : Addr) (j : Nat) | L (c : Addr) (cs : List Ce) | T (kvs : List (List L2.Key × Ce)) | K (kvs : List (L2.Key × Ce))
inductive Sl where
  | no | val (d : PyData) | own (ds : List PyData) | box (b : Bx)
def Bx.cells : Bx → List Ce
  | .A _ _ => []
  | .L _ cs => cs
  | .T kvs => kvs.map (·.2)
  | .K kvs => kvs.map (·.2)
def Bx.ho : Bx → List V → HO
  | .A _ _, vs => .lst vs
  | .L _ _, vs => .lst vs
  | .T kvs, vs => .dT ((kvs.map (·.1)).zip vs)
  | .K kvs, vs => .dK ((kvs.map (·.1)).zip vs)
/-- a cell by its value; its own address, if it has one -/
def CeAt (K : PySem.W.Frag) (Hk Z : Hp) (v : V) : Ce → List Addr → Prop
  | .dat d, fp => Dp K Hk v d ∧ fp = []
  | .own ds, fp => ∃ b us, v = .ref b ∧ Z b = some (.lst us) ∧ DpAll K Hk us ds ∧ fp = [b]
inductive CesAt (K : PySem.W.Frag) (Hk Z : Hp) : List V → List Ce → List Addr → Prop
  | nil : CesAt K Hk Z [] [] []
  | cons {v : V} {vs : List V} {c : Ce} {cs : List Ce} {f fs : List Addr} : CeAt K Hk Z v c f → CesAt K Hk Z vs cs fs → CesAt K Hk Z (v :: vs) (c :: cs) (f ++ fs)
/-- a thing of one's own at an address that the slot names; a slot that names an item of such a thing has no cells of its own -/
def Bx.at_ : Bx → Addr → Prop
  | .A _ _, _ => False
  | .L c _, a => a = c
  | _, _ => True
def BxAt (K : PySem.W.Frag) (Hk Z : Hp) (v : V) (b : Bx) (fp : List Addr) : Prop := (∃ (a : Addr) (vs : List V) (fs : List Addr), v = .ref a ∧ Z a = some (b.ho vs) ∧ CesAt K Hk Z vs b.cells fs ∧ fp = a :: fs ∧ fp.Nodup ∧ b.at_ a) ∨ ∃ (c : Addr) (j : Nat) (vs : List V), b = .A c j ∧ Z c = some (.lst vs) ∧ vs[j]? = some v ∧ fp = []
theorem CeAt.mono {K : PySem.W.Frag} {Hk Hk' Z : Hp} (e : Same Hk Hk') {v : V} {c : Ce} {f : List Addr} (h : CeAt K Hk Z v c f) : CeAt K Hk' Z v c f := by
  cases c with
  | dat d => exact ⟨Dp.mono e d h.1, h.2⟩
  | own ds =>
    obtain ⟨b, us, h1, h2, h3, h4⟩ := h
    exact ⟨b, us, h1, h2, DpAll.mono e ds h3, h4⟩
theorem CesAt.mono {K : PySem.W.Frag} {Hk Hk' Z : Hp} (e : Same Hk Hk') {vs : List V} {cs : List Ce} {f : List Addr} (h : CesAt K Hk Z vs cs f) : CesAt K Hk' Z vs cs f := by
  induction h with
  | nil => exact .nil
  | cons a b ih => exact .cons (a.mono e) ih
theorem BxAt.mono {K : PySem.W.Frag} {Hk Hk' Z : Hp} (e : Same Hk Hk') {v : V} {b : Bx} {fp : List Addr} (h : BxAt K Hk Z v b fp) : BxAt K Hk' Z v b fp := by
  rcases h with ⟨a, vs, fs, h1, h2, h3, h4⟩ | h
  · exact .inl ⟨a, vs, fs, h1, h2, h3.mono e, h4⟩
  · exact .inr h
/-- what is not ours to change in an expression: h; of it the things of one's own that a statement may change: z -/
structure Fr where
  h : Hp
  z : Hp
/-- what was known at the entry; all that stood at the def's entry: e -/
structure Be where
  b : Hp
  e : Hp
instance : CoeFun Be (fun _ => Addr → Option HO) := ⟨Be.b⟩
instance : Coe Be Hp := ⟨Be.b⟩
def inB (h : Hp) : Be := ⟨h, fun _ => none⟩
instance : CoeFun Fr (fun _ => Addr → Option HO) := ⟨Fr.h⟩
instance : Coe Fr Hp := ⟨Fr.h⟩
def Bxs (K : PySem.W.Frag) (Z : Hp) (ρ : List Sl) (σ : L2.St) (Hk : Hp) : Prop := ∃ F : Nat → List Addr, (∀ (i : Nat) (b : Bx), ρ[i]? = some (.box b) → ∃ v, σ[i]? = some (some v) ∧ BxAt K Hk Z v b (F i)) ∧
  ∀ (i j : Nat) (b c : Bx), ρ[i]? = some (.box b) → ρ[j]? = some (.box c) → i ≠ j → ∀ a ∈ F i, a ∉ F j
theorem Bxs.sub {K : PySem.W.Frag} {Z Hk Hk' : Hp} {ρ ρ' : List Sl} {σ σ' : L2.St} (h : Bxs K Z ρ σ Hk) (e : Same Hk Hk') (s : ∀ (i : Nat) (b : Bx), ρ'[i]? = some (.box b) → ρ[i]? = some (.box b) ∧ σ'[i]? = σ[i]?) : Bxs K Z ρ' σ' Hk' := by
  obtain ⟨F, h1, h2⟩ := h
  refine ⟨F, fun i b q => ?_, fun i j b c q r => h2 i j b c (s i b q).1 (s j c r).1⟩
  obtain ⟨q1, q2⟩ := s i b q
  obtain ⟨v, q3, q4⟩ := h1 i b q1
  exact ⟨v, q2.trans q3, q4.mono e⟩
theorem Bxs.mono {K : PySem.W.Frag} {Z Hk Hk' : Hp} {ρ : List Sl} {σ : L2.St} (h : Bxs K Z ρ σ Hk) (e : Same Hk Hk') : Bxs K Z ρ σ Hk' := h.sub e fun _ _ q => ⟨q, rfl⟩
theorem set_box {ρ : List Sl} {i j : Nat} {s : Sl} {b : Bx} (hs : ∀ c, s ≠ .box c) (h : (ρ.set i s)[j]? = some (.box b)) : i ≠ j ∧ ρ[j]? = some (.box b) := by
  by_cases q : i = j
  · subst q
    have hl : i < ρ.length := by simpa using (List.getElem?_eq_some_iff.mp h).1
    rw [List.getElem?_set_self hl] at h
    exact absurd (Option.some.inj h) (hs b)
  · rw [List.getElem?_set_ne q] at h
    exact ⟨q, h⟩
/-- a slot gets what is no box -/
theorem Bxs.set {K : PySem.W.Frag} {Z Hk Hk' : Hp} {ρ : List Sl} {σ : L2.St} {i : Nat} {s : Sl} {v : Option V} (h : Bxs K Z ρ σ Hk) (e : Same Hk Hk') (hs : ∀ c, s ≠ .box c) : Bxs K Z (ρ.set i s) (σ.set i v) Hk' := h.sub e fun j b q => by
  obtain ⟨q1, q2⟩ := set_box hs q
  exact ⟨q2, List.getElem?_set_ne q1⟩
theorem Bxs.set0 {K : PySem.W.Frag} {Z Hk Hk' : Hp} {ρ : List Sl} {σ : L2.St} {i : Nat} {s : Sl} (h : Bxs K Z ρ σ Hk) (e : Same Hk Hk') (hs : ∀ c, s ≠ .box c) : Bxs K Z (ρ.set i s) σ Hk' := h.sub e fun j b q => ⟨(set_box hs q).2, rfl⟩

/-- B: what was known at the entry, H0: what stood at the entry and is not ours to change; Hk: the data known now; Hr: all that stands now -/
structure Ok (K : PySem.W.Frag) (bi : List Nat) (σ0 : L2.St) (B : Be) (H0 : Fr) (ρ : List Sl) (σ : L2.St) (Hk Hr : Hp) : Prop where
  base : Same B Hk
  real : Same H0 Hr
  kr : Same Hk Hr
  old : ∀ (b : Addr) (o : HO), Hk b = some o → H0 b ≠ none → B b = some o
  bor : ∀ i ∈ bi, σ[i]? = σ0[i]?
  len : ρ.length = σ.length
  val : ∀ (i : Nat) (d : PyData), ρ[i]? = some (Sl.val d) → ∃ v, σ[i]? = some (some v) ∧ Dp K Hk v d
  own : ∀ (i : Nat) (ds : List PyData), ρ[i]? = some (Sl.own ds) → ∃ (a : Addr) (vs : List V), σ[i]? = some (some (V.ref a)) ∧ Hr a = some (.lst vs) ∧ Hk a = none ∧ H0 a = none ∧ DpAll K Hk vs ds
  dis : ∀ (i j : Nat) (ds es : List PyData), ρ[i]? = some (Sl.own ds) → ρ[j]? = some (Sl.own es) → i ≠ j → σ[i]? ≠ σ[j]?
  zh : Same H0.z H0.h
  zb : ∀ (b : Addr) (o : HO), H0.z b = some o → B b = none
  bxs : Bxs K H0.z ρ σ Hk
  eh : Same B.e H0.h
  ze : ∀ (b : Addr) (o : HO), H0.z b = some o → B.e b = none

/-- .. whatever may be ours to change -/
def OkE (K : PySem.W.Frag) (bi : List Nat) (σ0 : L2.St) (B : Be) (ρ : List Sl) (σ : L2.St) (Hk Hr : Hp) : Prop := ∃ H0 : Fr, Ok K bi σ0 B H0 ρ σ Hk Hr
/-- known, with all that is new -/
def gro (Hk Hr H2 : Hp) : Hp := fun b => match Hr b with | none => H2 b | some _ => Hk b
theorem gro_new {Hk Hr H2 : Hp} {b : Addr} (h : Hr b = none) : gro Hk Hr H2 b = H2 b := by unfold gro; rw [h]
theorem gro_old {Hk Hr H2 : Hp} {b : Addr} {o : HO} (h : Hr b = some o) : gro Hk Hr H2 b = Hk b := by unfold gro; rw [h]
theorem gro_same {Hk Hr H2 : Hp} (kr : Same Hk Hr) : Same Hk (gro Hk Hr H2) := fun b o h => by rw [gro_old (kr _ _ h)]; exact h
theorem gro_in {Hk Hr H2 : Hp} (kr : Same Hk Hr) (e : Same Hr H2) : Same (gro Hk Hr H2) H2 := fun b o h => by
  cases q : Hr b with
  | none => rw [gro_new q] at h; exact h
  | some u =>
    rw [gro_old q] at h
    exact e _ _ (kr _ _ h)
section
variable {K : PySem.W.Frag} {bi : List Nat} {σ0 σ : L2.St} {Hk Hr : Hp} {B : Be} {H0 : Fr} {ρ : List Sl}
theorem Ok.ne0 (I : Ok K bi σ0 B H0 ρ σ Hk Hr) {p : Addr} (h : H0 p = none) : B.e p = none := by
  cases q : B.e p with
  | none => rfl
  | some u =>
    have := I.eh _ _ q
    rw [h] at this
    cases this
theorem Ok.gro (I : Ok K bi σ0 B H0 ρ σ Hk Hr) {H2 : Hp} (e : Same Hr H2) : Ok K bi σ0 B H0 ρ σ (gro Hk Hr H2) H2 where
  base := I.base.trans (gro_same I.kr)
  real := I.real.trans e
  kr := gro_in I.kr e
  old := fun b o h h0 => by
    cases q : Hr b with
    | none =>
      cases q0 : H0 b with
      | none => exact absurd q0 h0
      | some u =>
        rw [I.real _ _ q0] at q
        cases q
    | some u =>
      rw [gro_old q] at h
      exact I.old b o h h0
  bor := I.bor
  len := I.len
  val := fun i d h => by
    obtain ⟨v, q1, q2⟩ := I.val i d h
    exact ⟨v, q1, Dp.mono (gro_same I.kr) d q2⟩
  own := fun i ds h => by
    obtain ⟨a, vs, q1, q2, q3, q4, q5⟩ := I.own i ds h
    exact ⟨a, vs, q1, e _ _ q2, by rw [gro_old q2]; exact q3, q4, DpAll.mono (gro_same I.kr) ds q5⟩
  dis := I.dis
  zh := I.zh
  zb := I.zb
  bxs := I.bxs.mono (gro_same I.kr)
  eh := I.eh
  ze := I.ze
/-- a slot gets data -/
theorem Ok.set (I : Ok K bi σ0 B H0 ρ σ Hk Hr) {i : Nat} {v : V} {d : PyData} (hi : i ∉ bi) (h : Dp K Hk v d) : Ok K bi σ0 B H0 (ρ.set i (.val d)) (σ.set i (some v)) Hk Hr where
  base := I.base
  real := I.real
  kr := I.kr
  old := I.old
  bor := fun j hj => by
    have : i ≠ j := fun q => hi (q ▸ hj)
    rw [List.getElem?_set_ne this]
    exact I.bor j hj
  len := by simp [I.len]
  val := fun j e hj => by
    by_cases q : i = j
    · subst q
      have hl : i < ρ.length := by
        have := (List.getElem?_eq_some_iff.mp hj).1
        simpa using this
      rw [List.getElem?_set_self hl] at hj
      injection hj with hj; injection hj with hj; subst hj
      exact ⟨v, by rw [List.getElem?_set_self (by rw [← I.len]; exact hl)], h⟩
    · rw [List.getElem?_set_ne q] at hj ⊢
      exact I.val j e hj
  own := fun j ds hj => by
    by_cases q : i = j
    · subst q
      have hl : i < ρ.length := by
        have := (List.getElem?_eq_some_iff.mp hj).1
        simpa using this
      rw [List.getElem?_set_self hl] at hj
      cases hj
    · rw [List.getElem?_set_ne q] at hj ⊢
      exact I.own j ds hj
  zh := I.zh
  zb := I.zb
  bxs := I.bxs.set (Same.refl _) (fun _ z => nomatch z)
  eh := I.eh
  ze := I.ze
  dis := fun j l ds es hj hl n => by
    have g : ∀ {m : Nat} {zs : List PyData}, (ρ.set i (.val d))[m]? = some (.own zs) → i ≠ m ∧ ρ[m]? = some (.own zs) := fun {m zs} hm => by
      by_cases q : i = m
      · subst q
        have hl : i < ρ.length := by
          have := (List.getElem?_eq_some_iff.mp hm).1
          simpa using this
        rw [List.getElem?_set_self hl] at hm
        cases hm
      · rw [List.getElem?_set_ne q] at hm
        exact ⟨q, hm⟩
    obtain ⟨a1, a2⟩ := g hj
    obtain ⟨b1, b2⟩ := g hl
    rw [List.getElem?_set_ne a1, List.getElem?_set_ne b1]
    exact I.dis j l ds es a2 b2 n
/-- a slot is forgotten -/
theorem Ok.drop (I : Ok K bi σ0 B H0 ρ σ Hk Hr) {i : Nat} : Ok K bi σ0 B H0 (ρ.set i .no) σ Hk Hr where
  base := I.base
  real := I.real
  kr := I.kr
  old := I.old
  bor := I.bor
  len := by simp [I.len]
  val := fun j e hj => by
    by_cases q : i = j
    · subst q
      have hl : i < ρ.length := by
        have := (List.getElem?_eq_some_iff.mp hj).1
        simpa using this
      rw [List.getElem?_set_self hl] at hj
      cases hj
    · rw [List.getElem?_set_ne q] at hj
      exact I.val j e hj
  own := fun j ds hj => by
    by_cases q : i = j
    · subst q
      have hl : i < ρ.length := by
        have := (List.getElem?_eq_some_iff.mp hj).1
        simpa using this
      rw [List.getElem?_set_self hl] at hj
      cases hj
    · rw [List.getElem?_set_ne q] at hj
      exact I.own j ds hj
  zh := I.zh
  zb := I.zb
  bxs := I.bxs.set0 (Same.refl _) (fun _ z => nomatch z)
  eh := I.eh
  ze := I.ze
  dis := fun j l ds es hj hl n => by
    have g : ∀ {m : Nat} {zs : List PyData}, (ρ.set i .no)[m]? = some (.own zs) → ρ[m]? = some (.own zs) := fun {m zs} hm => by
      by_cases q : i = m
      · subst q
        have hl : i < ρ.length := by
          have := (List.getElem?_eq_some_iff.mp hm).1
          simpa using this
        rw [List.getElem?_set_self hl] at hm
        cases hm
      · rw [List.getElem?_set_ne q] at hm
        exact hm
    exact I.dis j l ds es (g hj) (g hl) n
/-- an owned list is owned no longer -/
theorem Ok.freeze (I : Ok K bi σ0 B H0 ρ σ Hk Hr) {i : Nat} {ds : List PyData} (h : ρ[i]? = some (.own ds)) : ∃ Hk', Same Hk Hk' ∧ Ok K bi σ0 B H0 (ρ.set i (.val (.list ds))) σ Hk' Hr := by
  obtain ⟨a, vs, s1, s2, s3, s4, s5⟩ := I.own i ds h
  have e : Same Hk (upd Hk a (.lst vs)) := fun b o q => by rw [upd_ne (ne_of_none q s3)]; exact q
  have hl : i < ρ.length := (List.getElem?_eq_some_iff.mp h).1
  refine ⟨upd Hk a (.lst vs), e, ?_⟩
  have g : ∀ {m : Nat} {zs : List PyData}, (ρ.set i (.val (.list ds)))[m]? = some (.own zs) → i ≠ m ∧ ρ[m]? = some (.own zs) := fun {m zs} hm => by
    by_cases q : i = m
    · subst q
      rw [List.getElem?_set_self hl] at hm
      cases hm
    · rw [List.getElem?_set_ne q] at hm
      exact ⟨q, hm⟩
  refine ⟨I.base.trans e, I.real, fun b o q => ?_, fun b o q q0 => ?_, I.bor, by simp [I.len], fun j d hj => ?_, fun j zs hj => ?_, fun j l xs ys hj hl n => I.dis j l xs ys (g hj).2 (g hl).2 n, I.zh, I.zb, I.bxs.set0 e (fun _ z => nomatch z), I.eh, I.ze⟩
  · by_cases z : b = a
    · subst z
      rw [upd_same] at q
      rw [s2]; exact q
    · rw [upd_ne z] at q
      exact I.kr _ _ q
  · by_cases z : b = a
    · subst z
      exact absurd s4 q0
    · rw [upd_ne z] at q
      exact I.old _ _ q q0
  · by_cases q : i = j
    · subst q
      rw [List.getElem?_set_self hl] at hj
      injection hj with hj; injection hj with hj; subst hj
      exact ⟨_, s1, .lst (.inl (.inl upd_same)) (DpAll.mono e ds s5)⟩
    · rw [List.getElem?_set_ne q] at hj
      obtain ⟨v, q1, q2⟩ := I.val j d hj
      exact ⟨v, q1, Dp.mono e d q2⟩
  · obtain ⟨n, hz⟩ := g hj
    obtain ⟨b, ws, t1, t2, t3, t4, t5⟩ := I.own j zs hz
    refine ⟨b, ws, t1, t2, ?_, t4, DpAll.mono e zs t5⟩
    rw [upd_ne (fun q => ?_)]
    · exact t3
    · subst q
      exact I.dis i j ds zs h hz n (s1.trans t1.symm)
/-- an owned list is changed -/
theorem Ok.mut (I : Ok K bi σ0 B H0 ρ σ Hk Hr) {i : Nat} {ds es : List PyData} {a : Addr} {ws : List V} (h : ρ[i]? = some (.own ds)) (s : σ[i]? = some (some (.ref a))) (hw : DpAll K Hk ws es) : Ok K bi σ0 B H0 (ρ.set i (.own es)) σ Hk (upd Hr a (.lst ws)) := by
  obtain ⟨a', vs, s1, s2, s3, s4, s5⟩ := I.own i ds h
  rw [s] at s1
  injection s1 with s1; injection s1 with s1; injection s1 with s1; subst s1
  have hl : i < ρ.length := (List.getElem?_eq_some_iff.mp h).1
  have g : ∀ {m : Nat} {zs : List PyData}, (ρ.set i (.own es))[m]? = some (.own zs) → ∃ us, ρ[m]? = some (.own us) := fun {m zs} hm => by
    by_cases q : i = m
    · subst q
      exact ⟨ds, h⟩
    · rw [List.getElem?_set_ne q] at hm
      exact ⟨_, hm⟩
  refine ⟨I.base, fun b o q => ?_, fun b o q => ?_, I.old, I.bor, by simp [I.len], fun j d hj => ?_, fun j zs hj => ?_, fun j l xs ys hj hl n => ?_, I.zh, I.zb, I.bxs.set0 (Same.refl _) (fun _ z => nomatch z), I.eh, I.ze⟩
  · rw [upd_ne (ne_of_none q s4)]
    exact I.real _ _ q
  · rw [upd_ne (ne_of_none q s3)]
    exact I.kr _ _ q
  · by_cases q : i = j
    · subst q
      rw [List.getElem?_set_self hl] at hj
      cases hj
    · rw [List.getElem?_set_ne q] at hj
      exact I.val j d hj
  · by_cases q : i = j
    · subst q
      rw [List.getElem?_set_self hl] at hj
      injection hj with hj; injection hj with hj; subst hj
      exact ⟨a, ws, s, upd_same, s3, s4, hw⟩
    · rw [List.getElem?_set_ne q] at hj
      obtain ⟨b, us, t1, t2, t3, t4, t5⟩ := I.own j zs hj
      refine ⟨b, us, t1, ?_, t3, t4, t5⟩
      rw [upd_ne (fun z => ?_)]
      · exact t2
      · subst z
        exact I.dis i j ds zs h hj q (s.trans t1.symm)
  · obtain ⟨us, q1⟩ := g hj
    obtain ⟨ws', q2⟩ := g hl
    exact I.dis j l us ws' q1 q2 n
/-- a slot gets a new list of its own -/
theorem Ok.own_set (I : Ok K bi σ0 B H0 ρ σ Hk Hr) {i : Nat} {H2 : Hp} {p : Addr} {vs : List V} {ds : List PyData} (hi : i ∉ bi) (np : Hr p = none) (e : Same Hr H2) (hp : H2 p = some (.lst vs)) (h : DpAll K Hk vs ds) : Ok K bi σ0 B H0 (ρ.set i (.own ds)) (σ.set i (some (.ref p))) Hk H2 := by
  have nk : Hk p = none := by
    cases q : Hk p with
    | none => rfl
    | some o => rw [I.kr _ _ q] at np; cases np
  have n0 : H0 p = none := by
    cases q : H0 p with
    | none => rfl
    | some o => rw [I.real _ _ q] at np; cases np
  have far : ∀ {m : Nat} {zs : List PyData}, ρ[m]? = some (.own zs) → σ[m]? ≠ some (some (.ref p)) := fun {m zs} hm z => by
    obtain ⟨b, us, t1, t2, _⟩ := I.own m zs hm
    rw [z] at t1
    injection t1 with t1; injection t1 with t1; injection t1 with t1; subst t1
    rw [t2] at np
    cases np
  have lt : ∀ {m : Nat} {x : Sl}, (ρ.set i (.own ds))[m]? = some x → m < ρ.length := fun {m x} hm => by
    have := (List.getElem?_eq_some_iff.mp hm).1
    simpa using this
  refine ⟨I.base, I.real.trans e, I.kr.trans e, I.old, fun j hj => ?_, by simp [I.len], fun j d hj => ?_, fun j zs hj => ?_, fun j l xs ys hj hl n => ?_, I.zh, I.zb, I.bxs.set (Same.refl _) (fun _ z => nomatch z), I.eh, I.ze⟩
  · have : i ≠ j := fun q => hi (q ▸ hj)
    rw [List.getElem?_set_ne this]
    exact I.bor j hj
  · by_cases q : i = j
    · subst q
      rw [List.getElem?_set_self (lt hj)] at hj
      cases hj
    · rw [List.getElem?_set_ne q] at hj ⊢
      exact I.val j d hj
  · by_cases q : i = j
    · subst q
      have := lt hj
      rw [List.getElem?_set_self this] at hj
      injection hj with hj; injection hj with hj; subst hj
      exact ⟨p, vs, by rw [List.getElem?_set_self (by rw [← I.len]; exact this)], hp, nk, n0, h⟩
    · rw [List.getElem?_set_ne q] at hj ⊢
      obtain ⟨b, us, t1, t2, t3, t4, t5⟩ := I.own j zs hj
      exact ⟨b, us, t1, e _ _ t2, t3, t4, t5⟩
  · by_cases q : i = j
    · subst q
      have q2 : i ≠ l := n
      have := lt hj
      rw [List.getElem?_set_self (by rw [← I.len]; exact this), List.getElem?_set_ne q2]
      rw [List.getElem?_set_ne q2] at hl
      exact fun z => far hl z.symm
    · by_cases q2 : i = l
      · subst q2
        have := lt hl
        rw [List.getElem?_set_self (by rw [← I.len]; exact this), List.getElem?_set_ne q]
        rw [List.getElem?_set_ne q] at hj
        exact far hj
      · rw [List.getElem?_set_ne q] at hj ⊢
        rw [List.getElem?_set_ne q2] at hl ⊢
        exact I.dis j l xs ys hj hl n
end
end Pd
namespace Pd
open PySem L2

/-- in slots ρ the expression gives d and leaves slots ρ' (owned lists may have changed) -/
def EE (X : Cx) (e : Expr) (ρ : List Sl) (d : PyData) (ρ' : List Sl) : Prop :=
  ∀ (bi : List Nat) (σ0 : L2.St) (B : Be) (H0 : Fr) (σ : L2.St) (Hk Hr : Hp), Ok X.K bi σ0 B H0 ρ σ Hk Hr → ∀ Q : VK, (∀ v Hk' Hr', Ok X.K bi σ0 B H0 ρ' σ Hk' Hr' → Same Hk Hk' → Dp X.K Hk' v d → Q v Hr') → sE X e σ Hr Q
def EA (X : Cx) (es : List Expr) (ρ : List Sl) (ds : List PyData) (ρ' : List Sl) : Prop :=
  ∀ (bi : List Nat) (σ0 : L2.St) (B : Be) (H0 : Fr) (σ : L2.St) (Hk Hr : Hp), Ok X.K bi σ0 B H0 ρ σ Hk Hr → ∀ Q : List V → Hp → Prop, (∀ vs Hk' Hr', Ok X.K bi σ0 B H0 ρ' σ Hk' Hr' → Same Hk Hk' → DpAll X.K Hk' vs ds → Q vs Hr') → sA X es σ Hr Q
def ET (X : Cx) (e : Expr) (ρ : List Sl) (b : Bool) (ρ' : List Sl) : Prop :=
  ∀ (bi : List Nat) (σ0 : L2.St) (B : Be) (H0 : Fr) (σ : L2.St) (Hk Hr : Hp), Ok X.K bi σ0 B H0 ρ σ Hk Hr → ∀ Q : Bool → Hp → Prop, (∀ Hk' Hr', Ok X.K bi σ0 B H0 ρ' σ Hk' Hr' → Same Hk Hk' → Q b Hr') → sT X e σ Hr Q
/-- an operation on values, on arguments -/
def RD (K : PySem.W.Frag) (r : R2) (d1 d2 d : PyData) : Prop := ∀ x y Hk Hr, Same Hk Hr → Dp K Hk x d1 → Dp K Hk y d2 → ∀ Q : VK, (∀ v H2, Same Hr H2 → Dp K (gro Hk Hr H2) v d → Q v H2) → r x y Hr Q
def RU1 (K : PySem.W.Frag) (r : V → Hp → VK → Prop) (d1 d : PyData) : Prop := ∀ x Hk Hr, Same Hk Hr → Dp K Hk x d1 → ∀ Q : VK, (∀ v H2, Same Hr H2 → Dp K (gro Hk Hr H2) v d → Q v H2) → r x Hr Q
def RA (K : PySem.W.Frag) (r : List V → Hp → VK → Prop) (ds : List PyData) (d : PyData) : Prop := ∀ vs Hk Hr, Same Hk Hr → DpAll K Hk vs ds → ∀ Q : VK, (∀ v H2, Same Hr H2 → Dp K (gro Hk Hr H2) v d → Q v H2) → r vs Hr Q

section
variable {X : Cx} {a b e : Expr} {es : List Expr} {ρ ρ1 ρ2 : List Sl} {d d1 d2 d3 : PyData} {ds : List PyData} {pos : Pos} {i j : Int}

theorem ee_var {x : Str} {n : Nat} (hN : X.N[n]? = some x) (hr : ρ[n]? = some (.val d)) (hv : Vis X.env.scope x := by first | exact Or.inl rfl | exact Or.inr (Or.inl rfl) | exact Or.inr (Or.inr rfl)) (hd : (x == ("__debug__" : Str)) = false := by decide)
    (hcd : (x == ("__classdict__" : Str)) = false := by decide) : EE X (.Name x pos) ρ d ρ := fun bi σ0 B H0 σ Hk Hr I Q q => by
  obtain ⟨v, s, h⟩ := I.val n d hr
  exact sE_of (pe_var hN hv hd hcd) ⟨v, s, q v Hk Hr I (Same.refl _) h⟩
theorem ee_c {v : V} (h : PE X e (tC v)) (hv : ∀ H, Dp X.K H v d) : EE X e ρ d ρ := fun bi σ0 B H0 σ Hk Hr I Q q =>
  sE_of h (q v Hk Hr I (Same.refl _) (hv _))
theorem ee_int {n : Nat} : EE X (.Constant (.int i) n pos) ρ (.int i) ρ := ee_c pe_int fun _ => .int i
theorem ee_bl {n : Nat} {k : Bool} : EE X (.Constant (.bool k) n pos) ρ (.bool k) ρ := ee_c pe_bl fun _ => .bl k
theorem ee_non {n : Nat} : EE X (.Constant .none n pos) ρ .none ρ := ee_c pe_non fun _ => .non
theorem ee_str {n : Nat} {z : Str} : EE X (.Constant (.str z) n pos) ρ (.str z) ρ := ee_c pe_str fun _ => .str z
theorem ee_glob {x : Str} {u : Value} (hg : Gl X x) (hm : X.mg x = some u) (r : RelV (.int i) u) (hn : x ≠ "__name__" := by decide) (hd : (x == ("__debug__" : Str)) = false := by decide) : EE X (.Name x pos) ρ (.int i) ρ := ee_c (pe_glob hg hm r hd) fun _ => .int i

theorem ea_nil : EA X [] ρ [] ρ := fun bi σ0 B H0 σ Hk Hr I Q q => sA_of pa_nil (q [] Hk Hr I (Same.refl _) .nil)
theorem ea_cons (ha : EE X e ρ d ρ1) (hr : EA X es ρ1 ds ρ2) (hs : starEach (e :: es) X.env = (false, eval e X.env) :: starEach es X.env := by rfl) : EA X (e :: es) ρ (d :: ds) ρ2 := fun bi σ0 B H0 σ Hk Hr I Q q =>
  sA_of (pa_cons pe_s pa_s hs) (ha bi σ0 B H0 σ Hk Hr I _ fun v Hk1 Hr1 I1 m1 h1 => hr bi σ0 B H0 σ Hk1 Hr1 I1 _ fun vs Hk2 Hr2 I2 m2 h2 => q (v :: vs) Hk2 Hr2 I2 (m1.trans m2) (.cons (Dp.mono m2 d h1) h2))

theorem ee_op2 {r : R2} (h : PE X e (tOp r (sE X a) (sE X b))) (ha : EE X a ρ d1 ρ1) (hb : EE X b ρ1 d2 ρ2) (hr : RD X.K r d1 d2 d) : EE X e ρ d ρ2 := fun bi σ0 B H0 σ Hk Hr I Q q =>
  sE_of h (ha bi σ0 B H0 σ Hk Hr I _ fun x Hk1 Hr1 I1 m1 h1 => hb bi σ0 B H0 σ Hk1 Hr1 I1 _ fun y Hk2 Hr2 I2 m2 h2 =>
    hr x y Hk2 Hr2 I2.kr (Dp.mono m2 _ h1) h2 Q fun v H2 e2 hv => q v _ H2 (I2.gro e2) (m1.trans (m2.trans (gro_same I2.kr))) hv)
theorem ee_op {op : Operator} {r : R2} (ho : OpR X (binaryOp op) r) (ha : EE X a ρ d1 ρ1) (hb : EE X b ρ1 d2 ρ2) (hr : RD X.K r d1 d2 d) : EE X (.BinOp a op b pos) ρ d ρ2 := ee_op2 (pe_op ho pe_s pe_s) ha hb hr
theorem ee_cmp {op : CmpOp} {r : R2} (ho : OpR X (compareOp op) r) (ha : EE X a ρ d1 ρ1) (hb : EE X b ρ1 d2 ρ2) (hr : RD X.K r d1 d2 d) (hm : behindInMarks op b = false := by rfl) : EE X (.Compare a [op] [b] pos) ρ d ρ2 := ee_op2 (pe_cmpR ho pe_s pe_s hm) ha hb hr
theorem ee_un {op : UnaryOp} {r : V → Hp → VK → Prop} (ho : UnR X (unaryOp op) r) (ha : EE X a ρ d1 ρ1) (hr : RU1 X.K r d1 d) : EE X (.UnaryOp op a pos) ρ d ρ1 := fun bi σ0 B H0 σ Hk Hr I Q q =>
  sE_of (pe_un ho pe_s) (ha bi σ0 B H0 σ Hk Hr I _ fun x Hk1 Hr1 I1 m1 h1 => hr x Hk1 Hr1 I1.kr h1 Q fun v H2 e2 hv => q v _ H2 (I1.gro e2) (m1.trans (gro_same I1.kr)) hv)
theorem ee_ix {r : R2} (hr : IxR X r) (ha : EE X a ρ d1 ρ1) (hb : EE X b ρ1 d2 ρ2) (h : RD X.K r d1 d2 d) (hs : PlainIx b := by exact fun _ _ => rfl) : EE X (.Subscript a b pos) ρ d ρ2 := ee_op2 (pe_ix hr pe_s pe_s hs) ha hb h

/-! operations -/
theorem gro_refl {K : PySem.W.Frag} {Hk Hr : Hp} {v : V} (kr : Same Hk Hr) (h : Dp K Hk v d) : Dp K (gro Hk Hr Hr) v d := Dp.mono (gro_same kr) d h
theorem rd_int {K : PySem.W.Frag} {C : Int → Int → Prop} {g : Int → Int → Int} (hc : C i j) : RD K (rI C fun i j => .int (g i j)) (.int i) (.int j) (.int (g i j)) := fun x y Hk Hr kr hx hy Q q => by
  cases hx; cases hy
  exact ⟨i, j, rfl, rfl, hc, q _ Hr (Same.refl _) (.int _)⟩
theorem rd_int0 {K : PySem.W.Frag} {g : Int → Int → Int} : RD K (rI0 fun i j => .int (g i j)) (.int i) (.int j) (.int (g i j)) := fun x y Hk Hr kr hx hy Q q => by
  cases hx; cases hy
  exact ⟨i, j, rfl, rfl, q _ Hr (Same.refl _) (.int _)⟩
theorem rd_cmp {K : PySem.W.Frag} {g : Int → Int → Bool} : RD K (rI0 fun i j => .bl (g i j)) (.int i) (.int j) (.bool (g i j)) := fun x y Hk Hr kr hx hy Q q => by
  cases hx; cases hy
  exact ⟨i, j, rfl, rfl, q _ Hr (Same.refl _) (.bl _)⟩
theorem rd_eqD {K : PySem.W.Frag} (h1 : SeqAt.shaped d1 = true) (h2 : SeqAt.shaped d2 = true) : RD K (rEqD K) d1 d2 (.bool (PyData.eqv d1 d2)) := fun x y Hk Hr kr hx hy Q q =>
  ⟨d1, d2, Dp.mono kr _ hx, Dp.mono kr _ hy, h1, h2, q _ Hr (Same.refl _) (.bl _)⟩
theorem rd_neD {K : PySem.W.Frag} (h1 : SeqAt.shaped d1 = true) (h2 : SeqAt.shaped d2 = true) : RD K (rNeD K) d1 d2 (.bool (!PyData.eqv d1 d2)) := fun x y Hk Hr kr hx hy Q q =>
  ⟨d1, d2, Dp.mono kr _ hx, Dp.mono kr _ hy, h1, h2, q _ Hr (Same.refl _) (.bl _)⟩
theorem rd_inD {K : PySem.W.Frag} (h1 : SeqAt.shaped d1 = true) (h2 : SeqAt.shaped (.list ds) = true) : RD K (rInD K) d1 (.list ds) (.bool (ds.any fun z => PyData.eqv z d1)) := fun x y Hk Hr kr hx hy Q q =>
  ⟨d1, ds, Dp.mono kr _ hx, Dp.mono kr _ hy, h1, h2, q _ Hr (Same.refl _) (.bl _)⟩
theorem rd_notInD {K : PySem.W.Frag} (h1 : SeqAt.shaped d1 = true) (h2 : SeqAt.shaped (.list ds) = true) : RD K (rNotInD K) d1 (.list ds) (.bool (!ds.any fun z => PyData.eqv z d1)) := fun x y Hk Hr kr hx hy Q q =>
  ⟨d1, ds, Dp.mono kr _ hx, Dp.mono kr _ hy, h1, h2, q _ Hr (Same.refl _) (.bl _)⟩
theorem atI_all {K : PySem.W.Frag} {H : Hp} {vs : List V} (h : DpAll K H vs ds) (g : atI ds i = some d) : ∃ v, atI vs i = some v ∧ Dp K H v d := by
  obtain ⟨j, q1, q2, q3, q4, q5⟩ := atI_get g
  have hl := DpAll.len h
  obtain ⟨v, s1, s2⟩ := DpAll.get h q2
  refine ⟨v, ?_, s2⟩
  unfold atI at g ⊢
  rw [hl]
  cases z : ixN ds.length i with
  | none => rw [z] at g; cases g
  | some m =>
    rw [z] at g
    show vs[m]? = some v
    have g' : ds[m]? = some d := g
    have : m = j := by
      unfold ixN at z
      have e1 : seqIndex? i ds.length = some j := q1
      first
        | (rw [e1] at z; exact (Option.some.inj z).symm)
        | (unfold seqIndex? at e1; split at z <;> split at e1 <;> simp_all <;> omega)
    rw [this]; exact s1
theorem rd_ixL {K : PySem.W.Frag} (h : atI ds i = some d) : RD K (rIxL K) (.list ds) (.int i) d := fun x y Hk Hr kr hx hy Q q => by
  cases hy
  cases hx with
  | lst hs ha =>
    obtain ⟨v, s1, s2⟩ := atI_all ha h
    exact ⟨_, _, i, v, rfl, rfl, same_l kr hs, s1, q _ Hr (Same.refl _) (gro_refl kr s2)⟩
theorem rd_ixT {K : PySem.W.Frag} (h : atI ds i = some d) : RD K (rIxT K) (.tuple ds) (.int i) d := fun x y Hk Hr kr hx hy Q q => by
  cases hy
  cases hx with
  | tup hs ha =>
    obtain ⟨v, s1, s2⟩ := atI_all ha h
    exact ⟨_, _, i, v, rfl, rfl, same_t kr hs, s1, q _ Hr (Same.refl _) (gro_refl kr s2)⟩
theorem new_same {H : Hp} {p : Addr} (h : H p = none) (o : HO) : Same H (upd H p o) := fun b u q => by rw [upd_ne (ne_of_none q h)]; exact q
theorem gro_tup {K : PySem.W.Frag} {Hk Hr : Hp} {p : Addr} {vs : List V} (kr : Same Hk Hr) (hp : Hr p = none) (h : DpAll K Hk vs ds) : Dp K (gro Hk Hr (upd Hr p (.tup vs))) (.ref p) (.tuple ds) :=
  .tup (.inl (.inl (by rw [gro_new hp, upd_same]))) (DpAll.mono (gro_same kr) ds h)
theorem gro_lst {K : PySem.W.Frag} {Hk Hr : Hp} {p : Addr} {vs : List V} (kr : Same Hk Hr) (hp : Hr p = none) (h : DpAll K Hk vs ds) : Dp K (gro Hk Hr (upd Hr p (.lst vs))) (.ref p) (.list ds) :=
  .lst (.inl (.inl (by rw [gro_new hp, upd_same]))) (DpAll.mono (gro_same kr) ds h)
theorem le_line {n : Nat} (h : n ≤ 100000) : n ≤ sizeLine := Nat.le_trans h (by decide)
theorem lt_line {n : Nat} (h : n < 100000) : n < sizeLine := Nat.lt_of_lt_of_le h (by decide)
theorem rd_cat {K : PySem.W.Frag} {es : List PyData} (h : ds.length + es.length ≤ 100000) : RD K (rCatA K) (.tuple ds) (.tuple es) (.tuple (ds ++ es)) := fun x y Hk Hr kr hx hy Q q => by
  cases hx with
  | tup hs ha =>
    cases hy with
    | tup ht hb =>
      have l1 := DpAll.len ha
      have l2 := DpAll.len hb
      refine ⟨_, _, _, _, rfl, rfl, same_t kr hs, same_t kr ht, by rw [l1, l2]; exact le_line h, fun e0 => ?_, fun n1 e0 => ?_, fun n1 n2 p hp => ?_⟩
      · have : ds = [] := List.length_eq_zero_iff.mp (by rw [← l1, e0]; rfl)
        subst this
        exact q _ Hr (Same.refl _) (gro_refl kr (.tup ht hb))
      · have : es = [] := List.length_eq_zero_iff.mp (by rw [← l2, e0]; rfl)
        subst this
        rw [List.append_nil] at q
        exact q _ Hr (Same.refl _) (gro_refl kr (.tup hs ha))
      · exact q _ _ (new_same hp _) (gro_tup kr hp (DpAll.app ha hb))

/-! displays -/
theorem ee_tup {n} (h : EA X es ρ ds ρ1) (hl : ds.length ≤ 100000 := by first | decide | simp) : EE X (.Tuple es n pos) ρ (.tuple ds) ρ1 := fun bi σ0 B H0 σ Hk Hr I Q q =>
  sE_of (pe_tup pa_s) (h bi σ0 B H0 σ Hk Hr I _ fun vs Hk1 Hr1 I1 m1 h1 => ⟨by rw [DpAll.len h1]; exact le_line hl, fun p hp =>
    q _ _ _ (I1.gro (new_same hp _)) (m1.trans (gro_same I1.kr)) (gro_tup I1.kr hp h1)⟩)
theorem ee_lst (h : EA X es ρ ds ρ1) (hl : ds.length ≤ 100000 := by first | decide | simp) : EE X (.List es pos) ρ (.list ds) ρ1 := fun bi σ0 B H0 σ Hk Hr I Q q =>
  sE_of (pe_lst pa_s) (h bi σ0 B H0 σ Hk Hr I _ fun vs Hk1 Hr1 I1 m1 h1 => ⟨by rw [DpAll.len h1]; exact le_line hl, fun p hp =>
    q _ _ _ (I1.gro (new_same hp _)) (m1.trans (gro_same I1.kr)) (gro_lst I1.kr hp h1)⟩)

/-! and, or, not, if-else on bools -/
theorem ee_one {op : BoolOp} {k : Bool} (ha : EE X a ρ (.bool k) ρ1) : EE X (.BoolOp op [a] pos) ρ (.bool k) ρ1 := fun bi σ0 B H0 σ Hk Hr I Q q => sE_of (pe_one pe_s) (ha bi σ0 B H0 σ Hk Hr I Q q)
theorem ee_andF {rest : List Expr} (ha : EE X a ρ (.bool false) ρ1) : EE X (.BoolOp .And (a :: b :: rest) pos) ρ (.bool false) ρ1 := fun bi σ0 B H0 σ Hk Hr I Q q =>
  sE_of (pe_and pe_s pe_s) (ha bi σ0 B H0 σ Hk Hr I _ fun v Hk1 Hr1 I1 m1 h1 => by
    cases h1
    exact ⟨false, rfl, iteF (q _ _ _ I1 m1 (.bl _))⟩)
theorem ee_andT {rest : List Expr} {k : Bool} (ha : EE X a ρ (.bool true) ρ1) (hb : EE X (.BoolOp .And (b :: rest) pos) ρ1 (.bool k) ρ2) : EE X (.BoolOp .And (a :: b :: rest) pos) ρ (.bool k) ρ2 := fun bi σ0 B H0 σ Hk Hr I Q q =>
  sE_of (pe_and pe_s pe_s) (ha bi σ0 B H0 σ Hk Hr I _ fun v Hk1 Hr1 I1 m1 h1 => by
    cases h1
    exact ⟨true, rfl, iteT (hb bi σ0 B H0 σ Hk1 Hr1 I1 Q fun v Hk2 Hr2 I2 m2 h2 => q v Hk2 Hr2 I2 (m1.trans m2) h2)⟩)
theorem ee_and {rest : List Expr} {k m : Bool} (ha : EE X a ρ (.bool m) ρ1) (hb : m = true → EE X (.BoolOp .And (b :: rest) pos) ρ1 (.bool k) ρ1) : EE X (.BoolOp .And (a :: b :: rest) pos) ρ (.bool (m && k)) ρ1 := by
  cases m with
  | true => exact ee_andT ha (hb rfl)
  | false => exact ee_andF ha
theorem ee_orT {rest : List Expr} (ha : EE X a ρ (.bool true) ρ1) : EE X (.BoolOp .Or (a :: b :: rest) pos) ρ (.bool true) ρ1 := fun bi σ0 B H0 σ Hk Hr I Q q =>
  sE_of (pe_or pe_s pe_s) (ha bi σ0 B H0 σ Hk Hr I _ fun v Hk1 Hr1 I1 m1 h1 => by
    cases h1
    exact ⟨true, rfl, iteT (q _ _ _ I1 m1 (.bl _))⟩)
theorem ee_orF {rest : List Expr} {k : Bool} (ha : EE X a ρ (.bool false) ρ1) (hb : EE X (.BoolOp .Or (b :: rest) pos) ρ1 (.bool k) ρ2) : EE X (.BoolOp .Or (a :: b :: rest) pos) ρ (.bool k) ρ2 := fun bi σ0 B H0 σ Hk Hr I Q q =>
  sE_of (pe_or pe_s pe_s) (ha bi σ0 B H0 σ Hk Hr I _ fun v Hk1 Hr1 I1 m1 h1 => by
    cases h1
    exact ⟨false, rfl, iteF (hb bi σ0 B H0 σ Hk1 Hr1 I1 Q fun v Hk2 Hr2 I2 m2 h2 => q v Hk2 Hr2 I2 (m1.trans m2) h2)⟩)
theorem ee_or {rest : List Expr} {k m : Bool} (ha : EE X a ρ (.bool m) ρ1) (hb : m = false → EE X (.BoolOp .Or (b :: rest) pos) ρ1 (.bool k) ρ1) : EE X (.BoolOp .Or (a :: b :: rest) pos) ρ (.bool (m || k)) ρ1 := by
  cases m with
  | false => exact ee_orF ha (hb rfl)
  | true => exact ee_orT ha
theorem ee_not {k : Bool} (ha : EE X a ρ (.bool k) ρ1) : EE X (.UnaryOp .Not a pos) ρ (.bool (!k)) ρ1 := fun bi σ0 B H0 σ Hk Hr I Q q =>
  sE_of (pe_not pe_s) (ha bi σ0 B H0 σ Hk Hr I _ fun v Hk1 Hr1 I1 m1 h1 => by
    cases h1
    exact ⟨k, rfl, q _ _ _ I1 m1 (.bl _)⟩)
/-! tests -/
theorem et_cmp {op : CmpOp} {r : R2} {k : Bool} (ho : OpR X (compareOp op) r) (ha : EE X a ρ d1 ρ1) (hb : EE X b ρ1 d2 ρ2) (hr : RD X.K r d1 d2 (.bool k)) (hm : behindInMarks op b = false := by rfl) : ET X (.Compare a [op] [b] pos) ρ k ρ2 := fun bi σ0 B H0 σ Hk Hr I Q q =>
  sT_of (pt_cmpR ho pe_s pe_s hm) (ha bi σ0 B H0 σ Hk Hr I _ fun x Hk1 Hr1 I1 m1 h1 => hb bi σ0 B H0 σ Hk1 Hr1 I1 _ fun y Hk2 Hr2 I2 m2 h2 =>
    hr x y Hk2 Hr2 I2.kr (Dp.mono m2 _ h1) h2 _ fun v H2 e2 hv => by
      cases hv
      exact ⟨k, rfl, q _ H2 (I2.gro e2) (m1.trans (m2.trans (gro_same I2.kr)))⟩)
/-- a test that is no comparison, no and, or, not: by its value -/
theorem et_val {k : Bool} (ha : EE X a ρ (.bool k) ρ1) (he : ∀ whole, isTrue a X.env whole = (do let v ← whole; standAt a.pos; holding [v] (truthy v)) := by intro _; rfl) : ET X a ρ k ρ1 := fun bi σ0 B H0 σ Hk Hr I Q q =>
  sT_of (pt_val pe_s he) (ha bi σ0 B H0 σ Hk Hr I _ fun v Hk1 Hr1 I1 m1 h1 => by
    cases h1
    exact ⟨k, rfl, q _ _ I1 m1⟩)
theorem et_not {k : Bool} (ha : ET X a ρ k ρ1) : ET X (.UnaryOp .Not a pos) ρ (!k) ρ1 := fun bi σ0 B H0 σ Hk Hr I Q q =>
  sT_of (pt_not pt_s) (ha bi σ0 B H0 σ Hk Hr I _ fun Hk1 Hr1 I1 m1 => q _ _ I1 m1)
end
/-- a test whatever its whole is -/
def sW (X : Cx) (e : Expr) : TT := fun σ H Q => ∀ whole pins s, Inv X pins σ H s → wpAny (model X.prog X.w) X.A (isTrue e X.env whole) (TP X pins σ Q) X.xe s
def EW (X : Cx) (e : Expr) (ρ : List Sl) (b : Bool) (ρ' : List Sl) : Prop :=
  ∀ (bi : List Nat) (σ0 : L2.St) (B : Be) (H0 : Fr) (σ : L2.St) (Hk Hr : Hp), Ok X.K bi σ0 B H0 ρ σ Hk Hr → ∀ Q : Bool → Hp → Prop, (∀ Hk' Hr', Ok X.K bi σ0 B H0 ρ' σ Hk' Hr' → Same Hk Hk' → Q b Hr') → sW X e σ Hr Q
section
variable {X : Cx} {a b e : Expr} {rest : List Expr} {ρ ρ1 ρ2 : List Sl} {k m : Bool} {pos : Pos}
theorem pw_s : PW X e (sW X e) := ⟨fun whole pins s _ _ _ I h => h whole pins s I⟩
theorem ew_pt (h : EW X e ρ k ρ1) : ET X e ρ k ρ1 := fun bi σ0 B H0 σ Hk Hr I Q q pins s I' => (pw_s (X := X) (e := e)).pt.run pins s σ Hr Q I' (h bi σ0 B H0 σ Hk Hr I Q q)
theorem ew_and1 (ha : ET X a ρ k ρ1) : EW X (.BoolOp .And [a] pos) ρ k ρ1 := fun bi σ0 B H0 σ Hk Hr I Q q whole pins s I' => (pw_and1 pt_s).run whole pins s σ Hr Q I' (ha bi σ0 B H0 σ Hk Hr I Q q)
theorem ew_or1 (ha : ET X a ρ k ρ1) : EW X (.BoolOp .Or [a] pos) ρ k ρ1 := fun bi σ0 B H0 σ Hk Hr I Q q whole pins s I' => (pw_or1 pt_s).run whole pins s σ Hr Q I' (ha bi σ0 B H0 σ Hk Hr I Q q)
theorem ew_and (ha : ET X a ρ m ρ1) (hb : m = true → EW X (.BoolOp .And (b :: rest) pos) ρ1 k ρ1) : EW X (.BoolOp .And (a :: b :: rest) pos) ρ (m && k) ρ1 := fun bi σ0 B H0 σ Hk Hr I Q q whole pins s I' =>
  (pw_and pt_s pw_s).run whole pins s σ Hr Q I' (ha bi σ0 B H0 σ Hk Hr I _ fun Hk1 Hr1 I1 m1 => by
    cases m with
    | true => exact iteT (hb rfl bi σ0 B H0 σ Hk1 Hr1 I1 Q fun Hk2 Hr2 I2 m2 => q Hk2 Hr2 I2 (m1.trans m2))
    | false => exact iteF (q Hk1 Hr1 I1 m1))
theorem ew_or (ha : ET X a ρ m ρ1) (hb : m = false → EW X (.BoolOp .Or (b :: rest) pos) ρ1 k ρ1) : EW X (.BoolOp .Or (a :: b :: rest) pos) ρ (m || k) ρ1 := fun bi σ0 B H0 σ Hk Hr I Q q whole pins s I' =>
  (pw_or pt_s pw_s).run whole pins s σ Hr Q I' (ha bi σ0 B H0 σ Hk Hr I _ fun Hk1 Hr1 I1 m1 => by
    cases m with
    | false => exact iteF (hb rfl bi σ0 B H0 σ Hk1 Hr1 I1 Q fun Hk2 Hr2 I2 m2 => q Hk2 Hr2 I2 (m1.trans m2))
    | true => exact iteT (q Hk1 Hr1 I1 m1))
end
section
variable {X : Cx} {a b e c : Expr} {es : List Expr} {ρ ρ1 ρ2 : List Sl} {d d1 d2 : PyData} {ds cs : List PyData} {pos p0 : Pos} {i j : Int} {x : Str}
theorem ee_ifT (hc : ET X c ρ true ρ1) (ha : EE X a ρ1 d ρ2) : EE X (.IfExp c a b pos) ρ d ρ2 := fun bi σ0 B H0 σ Hk Hr I Q q =>
  sE_of (pe_ifExp pt_s pe_s pe_s) (hc bi σ0 B H0 σ Hk Hr I _ fun Hk1 Hr1 I1 m1 => iteT (ha bi σ0 B H0 σ Hk1 Hr1 I1 Q fun v Hk2 Hr2 I2 m2 h2 => q v Hk2 Hr2 I2 (m1.trans m2) h2))
theorem ee_ifF (hc : ET X c ρ false ρ1) (hb : EE X b ρ1 d ρ2) : EE X (.IfExp c a b pos) ρ d ρ2 := fun bi σ0 B H0 σ Hk Hr I Q q =>
  sE_of (pe_ifExp pt_s pe_s pe_s) (hc bi σ0 B H0 σ Hk Hr I _ fun Hk1 Hr1 I1 m1 => iteF (hb bi σ0 B H0 σ Hk1 Hr1 I1 Q fun v Hk2 Hr2 I2 m2 h2 => q v Hk2 Hr2 I2 (m1.trans m2) h2))
/-! built-in calls -/
theorem ee_callB {id : String} {r : List V → Hp → VK → Prop} (hc : CallR X (.builtin id) r) (hm : X.mg x = none) (hv : bootBuiltins x = some (.builtin id)) (ha : EA X (e :: es) ρ ds ρ1) (hr : RA X.K r ds d) (hg : Gl X x := by rfl)
    (hn : x ≠ "__name__" := by decide) (hdb : (x == ("__debug__" : Str)) = false := by decide) (h : PE X (.Call (.Name x p0) (e :: es) [] pos) (tCB r (sA X (e :: es))) := by exact pe_callB ‹_› ‹_› ‹_› ‹_› pa_s) : EE X (.Call (.Name x p0) (e :: es) [] pos) ρ d ρ1 := fun bi σ0 B H0 σ Hk Hr I Q q =>
  sE_of h (ha bi σ0 B H0 σ Hk Hr I _ fun vs Hk1 Hr1 I1 m1 h1 => hr vs Hk1 Hr1 I1.kr h1 Q fun v H2 e2 hv => q v _ H2 (I1.gro e2) (m1.trans (gro_same I1.kr)) hv)
theorem ee_tCB {r : List V → Hp → VK → Prop} (h : PE X c (tCB r (sA X es))) (ha : EA X es ρ ds ρ1) (hr : RA X.K r ds d) : EE X c ρ d ρ1 := fun bi σ0 B H0 σ Hk Hr I Q q =>
  sE_of h (ha bi σ0 B H0 σ Hk Hr I _ fun vs Hk1 Hr1 I1 m1 h1 => hr vs Hk1 Hr1 I1.kr h1 Q fun v H2 e2 hv => q v _ H2 (I1.gro e2) (m1.trans (gro_same I1.kr)) hv)
end
end Pd
namespace Pd
open PySem L2 PySem.Spec PyProof.Rows

/-- a block in slots ρ: falls through with slots of which N, or hands back d with slots ρ' of which R d ρ' -/
abbrev RTy := Hp → V → List Sl → Hp → Hp → Prop
/-- the answer by its data -/
def RDt (K : PySem.W.Frag) (R : PyData → List Sl → Prop) : RTy := fun _ v ρ' Hk' _ => ∃ d, R d ρ' ∧ Dp K Hk' v d
/-- a new list of ints -/
def RNew (P : List Int → Prop) : RTy := fun H0 v _ _ Hr' => ∃ p ns, v = .ref p ∧ H0 p = none ∧ Hr' p = some (.lst (ns.map V.int)) ∧ P ns
def SS (X : Cx) (bi : List Nat) (sts : List Stmt) (ρ : List Sl) (N : List Sl → Prop) (R : RTy) : Prop :=
  ∀ (σ0 : L2.St) (B : Be) (H0 : Fr), (bi = [] → Same X.H_0 B.e) → ∀ (σ : L2.St) (Hk Hr : Hp) (D : Ends), Ok X.K bi σ0 B H0 ρ σ Hk Hr →
    (∀ ρ' σ' Hk' Hr', N ρ' → OkE X.K bi σ0 B ρ' σ' Hk' Hr' → Same Hk Hk' → D.nx σ' Hr') →
    (∀ v ρ' σ' Hk' Hr', R B.e v ρ' Hk' Hr' → OkE X.K bi σ0 B ρ' σ' Hk' Hr' → D.rt v Hr') → sSs X sts D σ Hr
/-- what is walked: the items ds -/
def Wk (K : PySem.W.Frag) (J : It) (ds : List PyData) (Hk : Hp) : Prop := ∀ i Hr, Same Hk Hr →
  (i < ds.length → J.go i Hr) ∧ (i = ds.length → J.stop i Hr) ∧ ∀ x H', J.yld i Hr x H' → Same Hr H' ∧ ∀ d, ds[i]? = some d → Dp K (gro Hk Hr H') x d
theorem Wk.of {K : PySem.W.Frag} {J : It} {ds : List PyData} {Hk : Hp} (h : ∀ i Hr, Same Hk Hr → (i < ds.length → J.go i Hr) ∧ (ds.length ≤ i → J.stop i Hr) ∧ ∀ x H', J.yld i Hr x H' → Same Hr H' ∧ ∀ d, ds[i]? = some d → Dp K (gro Hk Hr H') x d) : Wk K J ds Hk := fun i Hr e => ⟨(h i Hr e).1, fun q => (h i Hr e).2.1 (Nat.le_of_eq q.symm), (h i Hr e).2.2⟩
def EI (X : Cx) (tg iter : Expr) (ρ : List Sl) (ds : List PyData) (ρ' : List Sl) : Prop := ∃ wi, PI X tg iter wi ∧
  ∀ (bi : List Nat) (σ0 : L2.St) (B : Be) (H0 : Fr) (σ : L2.St) (Hk Hr : Hp), Ok X.K bi σ0 B H0 ρ σ Hk Hr → ∀ R : It → Hp → Prop, (∀ J Hk' Hr', Ok X.K bi σ0 B H0 ρ' σ Hk' Hr' → Same Hk Hk' → Wk X.K J ds Hk' → R J Hr') → wi σ Hr R
/-- a target's reading -/
def EG (K : PySem.W.Frag) (bi : List Nat) (g : TG) (ρ : List Sl) (d : PyData) (ρ' : List Sl) : Prop :=
  ∀ (σ0 : L2.St) (B : Be) (H0 : Fr) (σ : L2.St) (Hk Hr : Hp) (v : V), Ok K bi σ0 B H0 ρ σ Hk Hr → Dp K Hk v d → ∀ Q : L2.St → Hp → Prop, (∀ σ', Ok K bi σ0 B H0 ρ' σ' Hk Hr → Q σ' Hr) → g v σ Hr Q

theorem gro_le {Hk Hk' Hr H2 : Hp} (e : Same Hk Hk') : Same (gro Hk Hr H2) (gro Hk' Hr H2) := fun b o h => by
  cases q : Hr b with
  | none => rw [gro_new q] at h ⊢; exact h
  | some u => rw [gro_old q] at h ⊢; exact e _ _ h

section
variable {X : Cx} {bi : List Nat} {a b e c tg iter : Expr} {es : List Expr} {rest body sts : List Stmt} {ρ ρ1 ρ2 : List Sl} {N : List Sl → Prop} {R : RTy} {d d1 d2 : PyData} {ds : List PyData} {pos p0 p1 : Pos} {x y : Str} {n m : Nat} {k : Bool}
theorem ss_nil (h : N ρ) : SS X bi [] ρ N R := fun σ0 B H0 hz σ Hk Hr D I nx rt => sSs_of pss_nil (nx ρ σ Hk Hr h ⟨H0, I⟩ (Same.refl _))
/-- name = e -/
theorem ss_set (hN : X.N.Nodup) (hi : X.N[n]? = some x) (hb : n ∉ bi) (he : EE X e ρ d ρ1) (hr : SS X bi rest (ρ1.set n (.val d)) N R) (hx : Loc X.env.scope x := by first | exact Or.inl rfl | exact Or.inr rfl)
    (hs : swapsWith e (some (.Name x p0)) pos.line X.env = pure false := by rfl) (hf : X.fn x = true ∨ X.env.scope.names.lookup x = some .local := by first | exact .inl rfl | exact .inr rfl) : SS X bi (.Assign [.Name x p0] e pos :: rest) ρ N R := fun σ0 B H0 hz σ Hk Hr D I nx rt =>
  sSs_of (pss_cons (ps_set hN hi hx pe_s hs hf) pss_s) (he bi σ0 B H0 σ Hk Hr I _ fun v Hk1 Hr1 I1 m1 h1 =>
    hr σ0 B H0 hz _ Hk1 Hr1 D (I1.set hb h1) (fun ρ' σ' Hk' Hr' q I' m' => nx ρ' σ' Hk' Hr' q I' (m1.trans m')) rt)
/-- name = [..], a list of one's own -/
theorem ss_own (hN : X.N.Nodup) (hi : X.N[n]? = some x) (hb : n ∉ bi) (he : EA X es ρ ds ρ1) (hr : SS X bi rest (ρ1.set n (.own ds)) N R) (hl : ds.length ≤ 100000 := by first | decide | simp) (hx : Loc X.env.scope x := by first | exact Or.inl rfl | exact Or.inr rfl)
    (hs : swapsWith (.List es p1) (some (.Name x p0)) pos.line X.env = pure false := by rfl) (hf : X.fn x = true ∨ X.env.scope.names.lookup x = some .local := by first | exact .inl rfl | exact .inr rfl) : SS X bi (.Assign [.Name x p0] (.List es p1) pos :: rest) ρ N R := fun σ0 B H0 hz σ Hk Hr D I nx rt =>
  sSs_of (pss_cons (ps_set hN hi hx (pe_lst pa_s) hs hf) pss_s) (he bi σ0 B H0 σ Hk Hr I _ fun vs Hk1 Hr1 I1 m1 h1 => ⟨by rw [DpAll.len h1]; exact le_line hl, fun p hp =>
    hr σ0 B H0 hz _ Hk1 _ D (I1.own_set hb hp (new_same hp _) upd_same h1) (fun ρ' σ' Hk' Hr' q I' m' => nx ρ' σ' Hk' Hr' q I' (m1.trans m')) rt⟩)
/-- from here on the list in slot n is not changed any more -/
theorem ss_freeze (h : ρ[n]? = some (.own ds)) (hr : SS X bi sts (ρ.set n (.val (.list ds))) N R) : SS X bi sts ρ N R := fun σ0 B H0 hz σ Hk Hr D I nx rt => by
  obtain ⟨Hk', m1, I1⟩ := I.freeze h
  exact hr σ0 B H0 hz σ Hk' Hr D I1 (fun ρ' σ' Hk2 Hr2 q I' m' => nx ρ' σ' Hk2 Hr2 q I' (m1.trans m')) rt
/-- name.append(e) -/
theorem ss_append (hi : X.N[n]? = some x) (h : ρ1[n]? = some (.own ds)) (he : EE X e ρ d ρ1) (hr : SS X bi rest (ρ1.set n (.own (ds ++ [d]))) N R) (h0 : ∃ es, ρ[n]? = some (.own es)) (hl : ds.length < 100000)
    (hp : PE X (.Call (.Attribute (.Name x p0) "append" p1) [e] [] pos) (tBM X.K "list" rAppend (tVar n) (tCons (sE X e) tNil))) (hs : swapsWith (.Call (.Attribute (.Name x p0) "append" p1) [e] [] pos) none pos.line X.env = pure false := by rfl) :
    SS X bi (.Expr (.Call (.Attribute (.Name x p0) "append" p1) [e] [] pos) pos :: rest) ρ N R := fun σ0 B H0 hz σ Hk Hr D I nx rt => by
  obtain ⟨es0, h0⟩ := h0
  obtain ⟨a0, vs0, t1, t2, t3, t4, t5⟩ := I.own n es0 h0
  refine sSs_of (pss_cons (ps_expr hp hs) pss_s) ⟨.ref a0, t1, .inl ⟨rfl, _, .inl (.inl t2)⟩, he bi σ0 B H0 σ Hk Hr I _ fun v Hk1 Hr1 I1 m1 h1 => ?_⟩
  obtain ⟨a1, vs1, u1, u2, u3, u4, u5⟩ := I1.own n ds h
  have ea : a0 = a1 := by
    rw [t1] at u1
    injection u1 with u1; injection u1 with u1; injection u1
  subst ea
  refine ⟨a0, vs1, v, rfl, rfl, u2, by rw [DpAll.len u5]; exact lt_line hl, ?_⟩
  exact hr σ0 B H0 hz σ Hk1 _ D (I1.mut h u1 (DpAll.app u5 (.cons h1 .nil))) (fun ρ' σ' Hk' Hr' q I' m' => nx ρ' σ' Hk' Hr' q I' (m1.trans m')) rt
/-- name[i] = e, the list one's own -/
theorem ss_put {ix : Expr} {j : Int} {w : Nat} (hi : X.N[n]? = some x) (h : ρ1[n]? = some (.own ds)) (he : EE X e ρ d ρ1) (hj : EE X ix ρ1 (.int j) ρ1) (hw : ixN ds.length j = some w) (hr : SS X bi rest (ρ1.set n (.own (ds.set w d))) N R)
    (hp : PS X (.Assign [.Subscript (.Name x p0) ix p1] e pos) (tAsg (sE X e) (gSub (tVar n) (sE X ix) rSetL))) : SS X bi (.Assign [.Subscript (.Name x p0) ix p1] e pos :: rest) ρ N R := fun σ0 B H0 hz σ Hk Hr D I nx rt => by
  refine sSs_of (pss_cons hp pss_s) (he bi σ0 B H0 σ Hk Hr I _ fun v Hk1 Hr1 I1 m1 h1 => ?_)
  obtain ⟨a0, vs0, t1, t2, t3, t4, t5⟩ := I1.own n ds h
  refine ⟨.ref a0, t1, hj bi σ0 B H0 σ Hk1 Hr1 I1 _ fun w2 Hk2 Hr2 I2 m2 h2 => ?_⟩
  cases h2
  obtain ⟨a1, vs1, u1, u2, u3, u4, u5⟩ := I2.own n ds h
  have ea : a0 = a1 := by
    rw [t1] at u1
    injection u1 with u1; injection u1 with u1; injection u1
  subst ea
  refine ⟨a0, vs1, j, w, rfl, rfl, u2, by rw [DpAll.len u5]; exact hw, ?_⟩
  exact hr σ0 B H0 hz σ Hk2 _ D (I2.mut h u1 (DpAll.set w u5 (Dp.mono m2 d h1))) (fun ρ' σ' Hk' Hr' q I' m' => nx ρ' σ' Hk' Hr' q I' (m1.trans (m2.trans m'))) rt
theorem ss_if {N1 : List Sl → Prop} {tb eb : List Stmt} (hc : ET X c ρ k ρ1) (ha : k = true → SS X bi tb ρ1 N1 R) (hb : k = false → SS X bi eb ρ1 N1 R) (hr : ∀ ρ2, N1 ρ2 → SS X bi rest ρ2 N R) : SS X bi (.If c tb eb pos :: rest) ρ N R := fun σ0 B H0 hz σ Hk Hr D I nx rt =>
  sSs_of (pss_cons (ps_if pt_s pss_s pss_s) pss_s) (hc bi σ0 B H0 σ Hk Hr I _ fun Hk1 Hr1 I1 m1 => by
    cases k with
    | true => exact iteT (ha rfl σ0 B H0 hz σ Hk1 Hr1 _ I1 (fun ρ' σ' Hk' Hr' q ⟨H1, I'⟩ m' => hr ρ' q σ0 B H1 hz σ' Hk' Hr' D I' (fun ρ2 σ2 Hk2 Hr2 q2 I2 m2 => nx ρ2 σ2 Hk2 Hr2 q2 I2 (m1.trans (m'.trans m2))) rt) rt)
    | false => exact iteF (hb rfl σ0 B H0 hz σ Hk1 Hr1 _ I1 (fun ρ' σ' Hk' Hr' q ⟨H1, I'⟩ m' => hr ρ' q σ0 B H1 hz σ' Hk' Hr' D I' (fun ρ2 σ2 Hk2 Hr2 q2 I2 m2 => nx ρ2 σ2 Hk2 Hr2 q2 I2 (m1.trans (m'.trans m2))) rt) rt))
/-- an if without else whose suite hands back -/
theorem ss_ifR {tb : List Stmt} (hc : ET X c ρ k ρ1) (ha : k = true → SS X bi tb ρ1 (fun _ => False) R) (hr : k = false → SS X bi rest ρ1 N R) : SS X bi (.If c tb [] pos :: rest) ρ N R :=
  ss_if (N1 := fun ρ2 => k = false ∧ ρ2 = ρ1) hc (fun h σ0 B H0 hz σ Hk Hr D I nx rt => ha h σ0 B H0 hz σ Hk Hr D I (fun _ _ _ _ q _ _ => q.elim) rt) (fun h => ss_nil ⟨h, rfl⟩) (fun ρ2 q => by obtain ⟨q1, q2⟩ := q; subst q2; exact hr q1)
theorem ss_ret {R : PyData → List Sl → Prop} (he : EE X e ρ d ρ1) (h : R d ρ1) : SS X bi (.Return (some e) pos :: rest) ρ N (RDt X.K R) := fun σ0 B H0 hz σ Hk Hr D I nx rt =>
  sSs_of (pss_cons (ps_ret pe_s) pss_s) (he bi σ0 B H0 σ Hk Hr I _ fun v Hk1 Hr1 I1 m1 h1 => rt v ρ1 σ Hk1 Hr1 ⟨d, h, h1⟩ ⟨H0, I1⟩)
theorem ss_retNew {ns : List Int} {P : List Int → Prop} (he : EA X es ρ (ns.map PyData.int) ρ1) (h : P ns) (hl : ns.length ≤ 100000 := by first | decide | simp) : SS X bi (.Return (some (.List es p0)) pos :: rest) ρ N (RNew P) := fun σ0 B H0 hz σ Hk Hr D I nx rt =>
  sSs_of (pss_cons (ps_ret (pe_lst pa_s)) pss_s) (he bi σ0 B H0 σ Hk Hr I _ fun vs Hk1 Hr1 I1 m1 h1 => by
    have e := DpAll.ints h1
    subst e
    refine ⟨by rw [List.length_map]; exact le_line hl, fun p hp => rt (.ref p) ρ1 σ _ _ ⟨p, ns, rfl, ?_, upd_same, h⟩ ⟨H0, I1.gro (new_same hp _)⟩⟩
    cases z : B.e p with
    | none => rfl
    | some u =>
      rw [I1.real _ _ (I1.eh _ _ z)] at hp
      cases hp)
theorem ss_expr (he : EE X e ρ d ρ1) (hr : SS X bi rest ρ1 N R) (hs : swapsWith e none pos.line X.env = pure false := by rfl) : SS X bi (.Expr e pos :: rest) ρ N R := fun σ0 B H0 hz σ Hk Hr D I nx rt =>
  sSs_of (pss_cons (ps_expr pe_s hs) pss_s) (he bi σ0 B H0 σ Hk Hr I _ fun v Hk1 Hr1 I1 m1 h1 => hr σ0 B H0 hz _ Hk1 Hr1 D I1 (fun ρ' σ' Hk' Hr' q I' m' => nx ρ' σ' Hk' Hr' q I' (m1.trans m')) rt)
/-! ### what is walked -/
theorem ei_list (he : EE X iter ρ (.list ds) ρ1) : EI X tg iter ρ ds ρ1 := ⟨_, pi_list pe_s, fun bi σ0 B H0 σ Hk Hr I R q => he bi σ0 B H0 σ Hk Hr I _ fun v Hk1 Hr1 I1 m1 h1 => by
  cases h1 with
  | lst hs ha =>
    refine ⟨_, rfl, ⟨_, same_l I1.kr hs⟩, q _ Hk1 Hr1 I1 m1 fun i Hr2 e2 => ⟨fun hi => ?_, fun hi => ⟨_, same_l e2 hs, by rw [DpAll.len ha]; exact Nat.le_of_eq hi.symm⟩, fun x H' hy => ?_⟩⟩
    · obtain ⟨v, s1, s2⟩ := DpAll.get ha (List.getElem?_eq_getElem hi)
      exact ⟨_, v, same_l e2 hs, s1⟩
    · obtain ⟨rfl, f⟩ := hy
      refine ⟨Same.refl _, fun d hd => ?_⟩
      obtain ⟨v, s1, s2⟩ := DpAll.get ha hd
      have := f _ (same_l e2 hs)
      rw [s1] at this
      injection this with this; subst this
      exact Dp.mono (gro_same e2) d s2⟩
theorem ei_tup (he : EE X iter ρ (.tuple ds) ρ1) : EI X tg iter ρ ds ρ1 := ⟨_, pi_tup pe_s, fun bi σ0 B H0 σ Hk Hr I R q => he bi σ0 B H0 σ Hk Hr I _ fun v Hk1 Hr1 I1 m1 h1 => by
  cases h1 with
  | tup hs ha =>
    refine ⟨_, rfl, ⟨_, same_t I1.kr hs⟩, q _ Hk1 Hr1 I1 m1 fun i Hr2 e2 => ⟨fun hi => ?_, fun hi => ⟨_, same_t e2 hs, by rw [DpAll.len ha]; exact Nat.le_of_eq hi.symm⟩, fun x H' hy => ?_⟩⟩
    · obtain ⟨v, s1, s2⟩ := DpAll.get ha (List.getElem?_eq_getElem hi)
      exact ⟨_, v, same_t e2 hs, s1⟩
    · obtain ⟨rfl, f⟩ := hy
      refine ⟨Same.refl _, fun d hd => ?_⟩
      obtain ⟨v, s1, s2⟩ := DpAll.get ha hd
      have := f _ (same_t e2 hs)
      rw [s1] at this
      injection this with this; subst this
      exact Dp.mono (gro_same e2) d s2⟩
/-- lo, lo + 1, .. : n ints -/
def rngD (lo : Int) (n : Nat) : List PyData := (List.range n).map fun i => .int (lo + (i : Nat))
theorem rngD_len {lo : Int} {n : Nat} : (rngD lo n).length = n := by unfold rngD; simp
theorem rngD_get {lo : Int} {n i : Nat} {d : PyData} (h : (rngD lo n)[i]? = some d) : i < n ∧ d = .int (lo + (i : Nat)) := by
  unfold rngD at h
  rw [List.getElem?_map] at h
  by_cases q : i < n
  · rw [List.getElem?_range q] at h
    exact ⟨q, (Option.some.inj h).symm⟩
  · rw [List.getElem?_eq_none (by simp; omega)] at h
    cases h
theorem wk_rng {K : PySem.W.Frag} {Hk : Hp} {lo : Int} {n : Nat} : Wk K (Itr lo n) (rngD lo n) Hk := Wk.of fun i Hr e => ⟨fun hi => by rw [rngD_len] at hi; exact hi, fun hi => by rw [rngD_len] at hi; exact hi, fun x H' hy => by
  obtain ⟨rfl, rfl⟩ := hy
  refine ⟨Same.refl _, fun d hd => ?_⟩
  obtain ⟨_, rfl⟩ := rngD_get hd
  exact .int _⟩
theorem ei_range1 {j : Int} (hm : X.mg "range" = none) (ha : EA X [a] ρ [.int j] ρ1) (hj : -(2 ^ 62) ≤ j ∧ j < 2 ^ 62) (hg : Gl X "range" := by rfl) (hs : starEach [a] X.env = [(false, eval a X.env)] := by rfl) : EI X tg (.Call (.Name "range" p0) [a] [] pos) ρ (rngD 0 j.toNat) ρ1 :=
  ⟨_, pi_range1 hg hm pa_s hs, fun bi σ0 B H0 σ Hk Hr I R q => ha bi σ0 B H0 σ Hk Hr I _ fun vs Hk1 Hr1 I1 m1 h1 => by
    cases h1 with
    | cons h1 h2 =>
      cases h1; cases h2
      exact ⟨j, rfl, hj.1, hj.2, q _ Hk1 Hr1 I1 m1 wk_rng⟩⟩
theorem ei_range2 {i j : Int} (hm : X.mg "range" = none) (ha : EA X [a, b] ρ [.int i, .int j] ρ1) (hj : -(2 ^ 62) ≤ i ∧ i < 2 ^ 62 ∧ -(2 ^ 62) ≤ j ∧ j < 2 ^ 62) (hg : Gl X "range" := by rfl) (hs : starEach [a, b] X.env = [(false, eval a X.env), (false, eval b X.env)] := by rfl)
    (hs2 : starEach [b] X.env = [(false, eval b X.env)] := by rfl) : EI X tg (.Call (.Name "range" p0) [a, b] [] pos) ρ (rngD i (j - i).toNat) ρ1 :=
  ⟨_, pi_range2 hg hm pa_s hs hs2, fun bi σ0 B H0 σ Hk Hr I R q => ha bi σ0 B H0 σ Hk Hr I _ fun vs Hk1 Hr1 I1 m1 h1 => by
    cases h1 with
    | cons h1 h2 =>
      cases h1
      cases h2 with
      | cons h2 h3 =>
        cases h2; cases h3
        exact ⟨i, j, rfl, hj, q _ Hk1 Hr1 I1 m1 wk_rng⟩⟩
/-! ### targets -/
theorem eg_name {K : PySem.W.Frag} (hb : n ∉ bi) : EG K bi (gName n) ρ d (ρ.set n (.val d)) := fun σ0 B H0 σ Hk Hr v I h Q q => q _ (I.set hb h)
theorem eg_pair {K : PySem.W.Frag} {i j : Nat} {d1 d2 : PyData} (hi : i ∉ bi) (hj : j ∉ bi) : EG K bi (gTup K 2 (gCons (gName i) (gCons (gName j) gNil))) ρ (.tuple [d1, d2]) ((ρ.set i (.val d1)).set j (.val d2)) := fun σ0 B H0 σ Hk Hr v I h Q q => by
  cases h with
  | tup hs ha =>
    cases ha with
    | cons h1 h2 =>
      cases h2 with
      | cons h2 h3 =>
        cases h3
        exact ⟨_, _, rfl, same_t I.kr hs, rfl, _, _, rfl, _, _, rfl, rfl, q _ ((I.set hi h1).set hj h2)⟩
/-! ### for -/
theorem ss_for {g : TG} (J : Nat → List Sl → Prop) (hi : EI X tg iter ρ ds ρ1) (hg : PG X tg g) (h0 : J 0 ρ1)
    (ht : ∀ i d ρi, ds[i]? = some d → J i ρi → ∃ ρj, EG X.K bi g ρi d ρj ∧ SS X bi body ρj (J (i + 1)) R) (hr : ∀ ρ', J ds.length ρ' → SS X bi rest ρ' N R)
    (hp : PassesOwn (model X.prog X.w) X.A X.env X.xe := by exact PassesOwn.never) (hc : X.calm = true := by rfl) (hs : ∀ x, foldedSetIterable iter X.env x = pure x := by intro _; rfl) : SS X bi (.For tg iter body [] pos :: rest) ρ N R := fun σ0 B H0 hz σ Hk Hr D I nx rt => by
  obtain ⟨wi, pi, q⟩ := hi
  refine sSs_of (pss_cons (ps_for hp hc pi hg pss_s hs) pss_s) (q bi σ0 B H0 σ Hk Hr I _ fun Jt Hk1 Hr1 I1 m1 wk => ?_)
  refine ⟨fun i m σ' Hr' => i + m = ds.length ∧ ∃ ρ' Hk', J i ρ' ∧ OkE X.K bi σ0 B ρ' σ' Hk' Hr' ∧ Same Hk1 Hk', ⟨ds.length, by omega, ρ1, Hk1, h0, ⟨H0, I1⟩, Same.refl _⟩, fun i m σ' Hr' hW => ?_⟩
  obtain ⟨em, ρ', Hk', jj, ⟨H1, I'⟩, m'⟩ := hW
  obtain ⟨w1, w2, w3⟩ := wk i Hr' (m'.trans I'.kr)
  by_cases hi : i < ds.length
  · refine .inr ⟨w1 hi, fun σ2 H2 => ∃ ρ2 Hk2, J (i + 1) ρ2 ∧ OkE X.K bi σ0 B ρ2 σ2 Hk2 H2 ∧ Same Hk1 Hk2, fun σ2 H2 hN => ⟨m - 1, by omega, by omega, hN⟩, fun xv H2 hy => ?_⟩
    obtain ⟨e2, fd⟩ := w3 xv H2 hy
    have hd := List.getElem?_eq_getElem hi
    obtain ⟨ρj, eg, ss⟩ := ht i _ ρ' hd jj
    have I2 := I'.gro e2
    refine eg σ0 B H1 σ' _ H2 xv I2 (Dp.mono (gro_le m') _ (fd _ hd)) _ fun σ3 I3 => ?_
    exact ss σ0 B H1 hz σ3 _ H2 _ I3 (fun ρ4 σ4 Hk4 Hr4 q4 I4 m4 => ⟨ρ4, Hk4, q4, I4, m'.trans ((gro_same I'.kr).trans m4)⟩) rt
  · have : i = ds.length := by omega
    subst this
    refine .inl ⟨w2 rfl, hr ρ' jj σ0 B H1 hz σ' Hk' Hr' D I' (fun ρ2 σ2 Hk2 Hr2 q2 I2 m2 => nx ρ2 σ2 Hk2 Hr2 q2 I2 (m1.trans (m'.trans m2))) rt⟩
/-- while: J with a measure -/
theorem ss_while (J : Nat → List Sl → Prop) {m0 : Nat} (h0 : J m0 ρ)
    (ht : ∀ m ρi, J m ρi → ∃ k ρj, ET X c ρi k ρj ∧ (k = true → SS X bi body ρj (fun ρ' => ∃ m', m' < m ∧ J m' ρ') R) ∧ (k = false → SS X bi rest ρj N R))
    (hp : PassesOwn (model X.prog X.w) X.A X.env X.xe := by exact PassesOwn.never) : SS X bi (.While c body [] pos :: rest) ρ N R := fun σ0 B H0 hz σ Hk Hr D I nx rt => by
  refine sSs_of (pss_cons (ps_while hp pt_s pss_s) pss_s) ?_
  refine ⟨fun m σ' Hr' => ∃ ρ' Hk', J m ρ' ∧ OkE X.K bi σ0 B ρ' σ' Hk' Hr' ∧ Same Hk Hk', ⟨m0, ρ, Hk, h0, ⟨H0, I⟩, Same.refl _⟩, fun m σ' Hr' hW => ?_⟩
  obtain ⟨ρ', Hk', jj, ⟨H1, I'⟩, m'⟩ := hW
  obtain ⟨k, ρj, et, hT, hF⟩ := ht m ρ' jj
  refine et bi σ0 B H1 σ' Hk' Hr' I' _ fun Hk1 Hr1 I1 m1 => ?_
  cases k with
  | true =>
    refine iteT ⟨fun σ2 H2 => ∃ m', m' < m ∧ ∃ ρ2 Hk2, J m' ρ2 ∧ OkE X.K bi σ0 B ρ2 σ2 Hk2 H2 ∧ Same Hk Hk2, fun σ2 H2 hN => hN, ?_⟩
    exact hT rfl σ0 B H1 hz σ' Hk1 Hr1 _ I1 (fun ρ4 σ4 Hk4 Hr4 ⟨m4, l4, q4⟩ I4 e4 => ⟨m4, l4, ρ4, Hk4, q4, I4, m'.trans (m1.trans e4)⟩) rt
  | false => exact iteF (hF rfl σ0 B H1 hz σ' Hk1 Hr1 D I1 (fun ρ2 σ2 Hk2 Hr2 q2 I2 m2 => nx ρ2 σ2 Hk2 Hr2 q2 I2 (m'.trans (m1.trans m2))) rt)
end

/-! ### defs -/
/-- a def on data: n arguments, φ: arguments, answer -/
def spD (K : PySem.W.Frag) (n : Nat) (φ : List PyData → PyData → Prop) : Sp := fun vs H Q _ => ∃ (B : Hp) (ds : List PyData) (d : PyData), φ ds d ∧ ds.length = n ∧ Same B H ∧ DpAll K B vs ds ∧ ∀ v H', Same H H' → Dp K (gro B H H') v d → Q v H'
/-- .. that may change the list which is its first argument: what it holds before, the other arguments, the answer, what it holds behind -/
def spB (K : PySem.W.Frag) (n : Nat) (φ : List PyData → List PyData → PyData → List PyData → Prop) : Sp := fun vs H Q _ => ∃ (B : Hp) (a : Addr) (ws us : List V) (cs ds : List PyData) (d : PyData) (cs' : List PyData), φ cs ds d cs' ∧ ds.length = n ∧ vs = .ref a :: ws ∧ H a = some (.lst us) ∧ B a = none ∧
  Same B H ∧ DpAll K B us cs ∧ DpAll K B ws ds ∧ ∀ v H' us', (∀ b o, b ≠ a → H b = some o → H' b = some o) → H' a = some (.lst us') → DpAll K (gro B H H') us' cs' → Dp K (gro B H H') v d → Q v H'
/-- .. that hands back a new list of ints -/
def spN (K : PySem.W.Frag) (n : Nat) (φ : List PyData → List Int → Prop) : Sp := fun vs H Q _ => ∃ (B : Hp) (ds : List PyData) (ns : List Int), φ ds ns ∧ ds.length = n ∧ Same B H ∧ DpAll K B vs ds ∧ ∀ p H', Same H H' → H p = none → H' p = some (.lst (ns.map V.int)) → Q (.ref p) H'
/-- the slots at a def's entry -/
def rho (ds : List PyData) (m : Nat) : List Sl := ds.map Sl.val ++ List.replicate m .no
theorem Bxs.none {K : PySem.W.Frag} {Z Hk : Hp} {ρ : List Sl} {σ : L2.St} (h : ∀ (i : Nat) (b : Bx), ρ[i]? ≠ some (.box b)) : Bxs K Z ρ σ Hk := ⟨fun _ => [], fun i b q => absurd q (h i b), fun i j b c q _ _ => absurd q (h i b)⟩
theorem rho_nobox {ds : List PyData} {m : Nat} : ∀ (i : Nat) (b : Bx), (rho ds m)[i]? ≠ some (.box b) := fun i b h => by
  have := List.mem_of_getElem? h
  unfold rho at this
  rcases List.mem_append.mp this with q | q
  · obtain ⟨d, _, e⟩ := List.mem_map.mp q
    cases e
  · have := List.eq_of_mem_replicate q
    cases this
theorem rho_nobox1 {cs ds : List PyData} {m : Nat} : ∀ (i : Nat) (b : Bx), (Sl.own cs :: rho ds m)[i]? ≠ some (.box b) := fun i b h => by
  cases i with
  | zero => cases h
  | succ i => exact rho_nobox i b (by simpa using h)
section
variable {P : Program} {w : World} {K : PySem.W.Frag} {mg : Str → Option Value} {base : Heap} {x qual : Str} {st : Stmt} {f : Addr} {fd : FuncData} {N ps : List Str} {k : Nat}
theorem start_get {vs : List V} {i : Nat} {v : V} (h : vs[i]? = some v) : (L2.start N vs)[i]? = some (some v) := by
  unfold L2.start
  rw [List.getElem?_append_left (by have := (List.getElem?_eq_some_iff.mp h).1; simpa using this), List.getElem?_map, h]
  rfl
theorem fd_of {φ : List PyData → PyData → Prop} (F : Fun K x qual st f fd) (S : FnScope N ps (defScope st)) (hl : ps.length ≤ N.length)
    (body : ∀ (cdv : Value) (A : Around) (outer : List Env) (s : Shared) (H : Hp) (E : XK), Room k (A.deeper (envOfC qual (defScope st) s.heap.objs.size f cdv)) → ∀ ds d, φ ds d → ds.length = ps.length →
      SS (cxOf CX0 P w K mg base N qual (defScope st) f cdv A outer s H E).nox [] (defBody st) (rho ds (N.length - ps.length)) (fun _ => d = .none) (RDt K fun d' _ => d' = d)) :
    FnOk P w K mg base CX0 (k + 1) f fd ps (spD K ps.length φ) := by
  refine F.ok S (fun vs H Q E h => ?_) (fun cdv A outer s H vs Q E hr h => ?_)
  · obtain ⟨B, ds, d, _, h1, _, h2, _⟩ := h
    rw [DpAll.len h2, h1]
  · obtain ⟨B, ds, d, hφ, h1, kr, ha, q⟩ := h
    have lv : vs.length = ps.length := by rw [DpAll.len ha, h1]
    refine ⟨_, pss_s, body cdv A outer s H E hr ds d hφ h1 (L2.start N vs) ⟨B, H⟩ ⟨H, fun _ => none⟩ (fun _ _ _ h => h) (L2.start N vs) B H _ ?_ ?_ ?_⟩
    · refine ⟨Same.refl _, Same.refl _, kr, fun b o h _ => h, fun i hi => (nomatch hi), ?_, fun i e hi => ?_, fun i e hi => ?_, fun i j e1 e2 hi _ => ?_, (fun _ _ z => nomatch z), (fun _ _ z => nomatch z), Bxs.none rho_nobox, Same.refl _, (fun _ _ z => nomatch z)⟩
      · unfold rho L2.start
        simp [h1, lv]
      · unfold rho at hi
        by_cases q : i < ds.length
        · rw [List.getElem?_append_left (by simpa using q), List.getElem?_map, List.getElem?_eq_getElem q] at hi
          have hi := Option.some.inj hi
          injection hi with hi
          obtain ⟨v, s1, s2⟩ := DpAll.get ha (List.getElem?_eq_getElem q)
          subst hi
          exact ⟨v, start_get s1, s2⟩
        · rw [List.getElem?_append_right (by simpa using q), List.getElem?_replicate] at hi
          split at hi
          · cases Option.some.inj hi
          · cases hi
      all_goals
        exfalso
        unfold rho at hi
        by_cases q : i < ds.length
        · rw [List.getElem?_append_left (by simpa using q), List.getElem?_map, List.getElem?_eq_getElem q] at hi
          cases Option.some.inj hi
        · rw [List.getElem?_append_right (by simpa using q), List.getElem?_replicate] at hi
          split at hi
          · cases Option.some.inj hi
          · cases hi
    · intro ρ' σ' Hk' Hr' e ⟨H1, I'⟩ _
      subst e
      exact q .non Hr' (I'.eh.trans I'.real) .non
    · rintro v ρ' σ' Hk' Hr' ⟨d', e, hv⟩ ⟨H1, I'⟩
      subst e
      refine q v Hr' (I'.eh.trans I'.real) (Dp.mono (fun b o h => ?_) _ hv)
      cases z : H b with
      | none => rw [gro_new z]; exact I'.kr _ _ h
      | some u => rw [gro_old z]; exact I'.old b o h (by rw [I'.eh b _ z]; exact fun z => nomatch z)
theorem fdN_of {φ : List PyData → List Int → Prop} (F : Fun K x qual st f fd) (S : FnScope N ps (defScope st)) (hl : ps.length ≤ N.length)
    (body : ∀ (cdv : Value) (A : Around) (outer : List Env) (s : Shared) (H : Hp) (E : XK), Room k (A.deeper (envOfC qual (defScope st) s.heap.objs.size f cdv)) → ∀ ds ns, φ ds ns → ds.length = ps.length →
      SS (cxOf CX0 P w K mg base N qual (defScope st) f cdv A outer s H E).nox [] (defBody st) (rho ds (N.length - ps.length)) (fun _ => False) (RNew fun ms => ms = ns)) :
    FnOk P w K mg base CX0 (k + 1) f fd ps (spN K ps.length φ) := by
  refine F.ok S (fun vs H Q E h => ?_) (fun cdv A outer s H vs Q E hr h => ?_)
  · obtain ⟨B, ds, ns, _, h1, _, h2, _⟩ := h
    rw [DpAll.len h2, h1]
  · obtain ⟨B, ds, ns, hφ, h1, kr, ha, q⟩ := h
    have lv : vs.length = ps.length := by rw [DpAll.len ha, h1]
    refine ⟨_, pss_s, body cdv A outer s H E hr ds ns hφ h1 (L2.start N vs) ⟨B, H⟩ ⟨H, fun _ => none⟩ (fun _ _ _ h => h) (L2.start N vs) B H _ ?_ ?_ ?_⟩
    · refine ⟨Same.refl _, Same.refl _, kr, fun b o h _ => h, fun i hi => (nomatch hi), ?_, fun i e hi => ?_, fun i e hi => ?_, fun i j e1 e2 hi _ => ?_, (fun _ _ z => nomatch z), (fun _ _ z => nomatch z), Bxs.none rho_nobox, Same.refl _, (fun _ _ z => nomatch z)⟩
      · unfold rho L2.start
        simp [h1, lv]
      · unfold rho at hi
        by_cases q : i < ds.length
        · rw [List.getElem?_append_left (by simpa using q), List.getElem?_map, List.getElem?_eq_getElem q] at hi
          have hi := Option.some.inj hi
          injection hi with hi
          obtain ⟨v, s1, s2⟩ := DpAll.get ha (List.getElem?_eq_getElem q)
          subst hi
          exact ⟨v, start_get s1, s2⟩
        · rw [List.getElem?_append_right (by simpa using q), List.getElem?_replicate] at hi
          split at hi
          · cases Option.some.inj hi
          · cases hi
      all_goals
        exfalso
        unfold rho at hi
        by_cases q : i < ds.length
        · rw [List.getElem?_append_left (by simpa using q), List.getElem?_map, List.getElem?_eq_getElem q] at hi
          cases Option.some.inj hi
        · rw [List.getElem?_append_right (by simpa using q), List.getElem?_replicate] at hi
          split at hi
          · cases Option.some.inj hi
          · cases hi
    · intro ρ' σ' Hk' Hr' e I' _
      exact e.elim
    · rintro v ρ' σ' Hk' Hr' ⟨p, ms, rfl, hp, hl, rfl⟩ ⟨H1, I'⟩
      exact q p Hr' (I'.eh.trans I'.real) hp hl
theorem fdB_of {n : Nat} {φ : List PyData → List PyData → PyData → List PyData → Prop} (F : Fun K x qual st f fd) (S : FnScope N ps (defScope st)) (hn : ps.length = n + 1) (hl : ps.length ≤ N.length)
    (body : ∀ (cdv : Value) (A : Around) (outer : List Env) (s : Shared) (H : Hp) (E : XK), Room k (A.deeper (envOfC qual (defScope st) s.heap.objs.size f cdv)) → ∀ cs ds d cs', φ cs ds d cs' → ds.length = n →
      SS (cxOf CX0 P w K mg base N qual (defScope st) f cdv A outer s H E).nox [0] (defBody st) (.own cs :: rho ds (N.length - ps.length)) (fun ρ' => d = .none ∧ ρ'[0]? = some (.own cs')) (RDt K fun d' ρ' => d' = d ∧ ρ'[0]? = some (.own cs'))) :
    FnOk P w K mg base CX0 (k + 1) f fd ps (spB K n φ) := by
  refine F.ok S (fun vs H Q E h => ?_) (fun cdv A outer s H vs Q E hr h => ?_)
  · obtain ⟨B, a, ws, us, cs, ds, d, cs', _, h1, rfl, _, _, _, _, h2, _⟩ := h
    rw [List.length_cons, DpAll.len h2, h1, hn]
  · obtain ⟨B, a, ws, us, cs, ds, d, cs', hφ, h1, rfl, ua, ba, kr, hcs, ha, q⟩ := h
    have lv : ws.length = n := by rw [DpAll.len ha, h1]
    have fin : ∀ ρ' σ' Hk' Hr' v, ρ'[0]? = some (.own cs') → OkE K [0] (L2.start N (.ref a :: ws)) ⟨B, fun b => if b = a then none else H b⟩ ρ' σ' Hk' Hr' → Dp K Hk' v d → Q v Hr' := fun ρ' σ' Hk' Hr' v e ⟨H1, I'⟩ hv => by
      obtain ⟨a', us', t1, t2, t3, t4, t5⟩ := I'.own 0 cs' e
      have b0 := I'.bor 0 (by simp)
      rw [t1, start_get (v := .ref a) rfl] at b0
      injection b0 with b0; injection b0 with b0; injection b0 with b0; subst b0
      have up : Same Hk' (gro B H Hr') := fun b o h => by
        cases z : H b with
        | none => rw [gro_new z]; exact I'.kr _ _ h
        | some u =>
          rw [gro_old z]
          refine I'.old b o h ?_
          by_cases ba : b = a'
          · subst ba
            rw [t3] at h
            cases h
          · have : H1.h b = some u := I'.eh b u (by show (if b = a' then none else H b) = some u; rw [if_neg ba]; exact z)
            rw [this]
            exact fun z => nomatch z
      refine q v Hr' us' (fun b o hb h => I'.real b o (I'.eh b o ?_)) t2 (DpAll.mono up _ t5) (Dp.mono up _ hv)
      show (if b = a' then none else H b) = some o
      rw [if_neg hb]
      exact h
    refine ⟨_, pss_s, body cdv A outer s H E hr cs ds d cs' hφ h1 (L2.start N (.ref a :: ws)) ⟨B, fun b => if b = a then none else H b⟩ ⟨fun b => if b = a then none else H b, fun _ => none⟩ (fun h => nomatch h) (L2.start N (.ref a :: ws)) B H _ ?_ ?_ ?_⟩
    · refine ⟨Same.refl _, fun b o h => ?_, kr, fun b o h _ => h, fun i hi => rfl, ?_, fun i e hi => ?_, fun i e hi => ?_, fun i j e1 e2 hi hj hn => ?_, (fun _ _ z => nomatch z), (fun _ _ z => nomatch z), Bxs.none rho_nobox1, (fun _ _ h => h), (fun _ _ z => nomatch z)⟩
      · have h' : (if b = a then none else H b) = some o := h
        split at h'
        · cases h'
        · exact h'
      · unfold rho L2.start
        simp [h1, lv, hn]
      · cases i with
        | zero => cases hi
        | succ i =>
          have hi : (rho ds (N.length - ps.length))[i]? = some (.val e) := by simpa using hi
          unfold rho at hi
          by_cases q : i < ds.length
          · rw [List.getElem?_append_left (by simpa using q), List.getElem?_map, List.getElem?_eq_getElem q] at hi
            have hi := Option.some.inj hi
            injection hi with hi
            obtain ⟨v, s1, s2⟩ := DpAll.get ha (List.getElem?_eq_getElem q)
            subst hi
            exact ⟨v, start_get (by simpa using s1), s2⟩
          · rw [List.getElem?_append_right (by simpa using q), List.getElem?_replicate] at hi
            split at hi
            · cases Option.some.inj hi
            · cases hi
      · cases i with
        | zero =>
          have hi := Option.some.inj hi
          injection hi with hi
          subst hi
          exact ⟨a, us, start_get rfl, ua, ba, if_pos rfl, hcs⟩
        | succ i =>
          exfalso
          have hi : (rho ds (N.length - ps.length))[i]? = some (.own e) := by simpa using hi
          unfold rho at hi
          by_cases q : i < ds.length
          · rw [List.getElem?_append_left (by simpa using q), List.getElem?_map, List.getElem?_eq_getElem q] at hi
            cases Option.some.inj hi
          · rw [List.getElem?_append_right (by simpa using q), List.getElem?_replicate] at hi
            split at hi
            · cases Option.some.inj hi
            · cases hi
      · exfalso
        have key : ∀ {i : Nat} {e : List PyData}, (Sl.own cs :: rho ds (N.length - ps.length))[i + 1]? = some (.own e) → False := fun {i e} hi => by
          have hi : (rho ds (N.length - ps.length))[i]? = some (.own e) := by simpa using hi
          unfold rho at hi
          by_cases q : i < ds.length
          · rw [List.getElem?_append_left (by simpa using q), List.getElem?_map, List.getElem?_eq_getElem q] at hi
            cases Option.some.inj hi
          · rw [List.getElem?_append_right (by simpa using q), List.getElem?_replicate] at hi
            split at hi
            · cases Option.some.inj hi
            · cases hi
        cases i with
        | zero =>
          cases j with
          | zero => exact hn rfl
          | succ j => exact key hj
        | succ i => exact key hi
    · intro ρ' σ' Hk' Hr' e I' _
      obtain ⟨e1, e2⟩ := e
      subst e1
      exact fin ρ' σ' Hk' Hr' .non e2 I' .non
    · rintro v ρ' σ' Hk' Hr' ⟨d', ⟨e1, e2⟩, hv⟩ I'
      subst e1
      exact fin ρ' σ' Hk' Hr' v e2 I' hv
end
/-! ### calls -/
section
variable {X : Cx} {bi : List Nat} {e : Expr} {es : List Expr} {rest : List Stmt} {ρ ρ1 : List Sl} {N : List Sl → Prop} {R : RTy} {ds : List PyData} {pos cpos p0 p1 : Pos} {x y : Str} {f : Addr} {fd : FuncData} {ps : List Str} {k n m : Nat} {ns : List Int}
theorem ss_callN {φ : List PyData → List Int → Prop} (F : FnOk X.prog X.w X.K X.mg X.base CX0 k f fd ps (spN X.K n φ)) (hr : Room k X.A) (hm : X.mg x = some (.ref f)) (hk : PySem.W.keepIn X.K (.ref f) = true) (hb : Binds X.K fd ps []) (ha : EA X (e :: es) ρ ds ρ1) (h : φ ds ns) (hl : ds.length = n)
    (hN : X.N.Nodup) (hi : X.N[m]? = some y) (hmb : m ∉ bi) (hrest : SS X bi rest (ρ1.set m (.own (ns.map PyData.int))) N R) (hg : Gl X x := by rfl) (hdb : (x == ("__debug__" : Str)) = false := by decide) (he : starEach (e :: es) X.env = (false, eval e X.env) :: starEach es X.env := by rfl) (hpl : (backTo cpos (starEach es X.env)).any (·.1) = false := by rfl)
    (hx : Loc X.env.scope y := by first | exact Or.inl rfl | exact Or.inr rfl) (hs : swapsWith (.Call (.Name x p0) (e :: es) [] cpos) (some (.Name y p1)) pos.line X.env = pure false := by rfl) (hf : X.fn y = true ∨ X.env.scope.names.lookup y = some .local := by first | exact .inl rfl | exact .inr rfl) :
    SS X bi (.Assign [.Name y p1] (.Call (.Name x p0) (e :: es) [] cpos) pos :: rest) ρ N R := fun σ0 B H0 hz σ Hk Hr D I nx rt =>
  sSs_of (pss_cons (ps_set hN hi hx (pe_call (E := E0) F hr hg hm hk hb .nil pass0 pa_s hdb he hpl) hs hf) pss_s) (ha bi σ0 B H0 σ Hk Hr I _ fun vs Hk1 Hr1 I1 m1 h1 => by
    show spN X.K n φ (vs ++ []) Hr1 _ E0
    rw [List.append_nil]
    exact ⟨Hk1, ds, ns, h, hl, I1.kr, h1, fun p H' e' hp hH => hrest σ0 B H0 hz _ Hk1 H' D (I1.own_set hmb hp e' hH (DpAll.of_ints ns)) (fun ρ' σ' Hk' Hr' q I' m' => nx ρ' σ' Hk' Hr' q I' (m1.trans m')) rt⟩)
end
section
variable {X : Cx} {e : Expr} {es : List Expr} {ρ ρ1 : List Sl} {d : PyData} {ds cs cs1 cs2 : List PyData} {pos p0 p1 : Pos} {x y : Str} {f : Addr} {fd : FuncData} {ps : List Str} {k n i : Nat}
theorem ee_call {φ : List PyData → PyData → Prop} (F : FnOk X.prog X.w X.K X.mg X.base CX0 k f fd ps (spD X.K n φ)) (hr : Room k X.A) (hm : X.mg x = some (.ref f)) (hk : PySem.W.keepIn X.K (.ref f) = true) (hb : Binds X.K fd ps []) (ha : EA X (e :: es) ρ ds ρ1) (h : φ ds d) (hn : ds.length = n := by rfl)
    (hg : Gl X x := by rfl) (hdb : (x == ("__debug__" : Str)) = false := by decide) (he : starEach (e :: es) X.env = (false, eval e X.env) :: starEach es X.env := by rfl) (hpl : (backTo pos (starEach es X.env)).any (·.1) = false := by rfl) : EE X (.Call (.Name x p0) (e :: es) [] pos) ρ d ρ1 := fun bi σ0 B H0 σ Hk Hr I Q q =>
  sE_of (pe_call (E := E0) F hr hg hm hk hb .nil pass0 pa_s hdb he hpl) (ha bi σ0 B H0 σ Hk Hr I _ fun vs Hk1 Hr1 I1 m1 h1 => by
    rw [List.append_nil]
    exact ⟨Hk1, ds, d, h, hn, I1.kr, h1, fun v H' e' hv => q v _ H' (I1.gro e') (m1.trans (gro_same I1.kr)) hv⟩)
theorem ee_callS {φ : List PyData → List PyData → PyData → List PyData → Prop} (F : FnOk X.prog X.w X.K X.mg X.base CX0 k f fd ps (spB X.K n φ)) (hr : Room k X.A) (hm : X.mg x = some (.ref f)) (hk : PySem.W.keepIn X.K (.ref f) = true) (hb : Binds X.K fd ps []) (hN : X.N[i]? = some y) (hi : ρ[i]? = some (.own cs))
    (ha : EA X es ρ ds ρ1) (hi1 : ρ1[i]? = some (.own cs1)) (h : φ cs1 ds d cs2) (hn : ds.length = n := by rfl) (hv : Vis X.env.scope y := by first | exact Or.inl rfl | exact Or.inr (Or.inl rfl) | exact Or.inr (Or.inr rfl)) (hd : (y == ("__debug__" : Str)) = false := by decide)
    (hcd : (y == ("__classdict__" : Str)) = false := by decide) (hg : Gl X x := by rfl) (hdb : (x == ("__debug__" : Str)) = false := by decide) (he : starEach (.Name y p1 :: es) X.env = (false, eval (.Name y p1) X.env) :: starEach es X.env := by rfl) (hpl : (backTo pos (starEach es X.env)).any (·.1) = false := by rfl) :
    EE X (.Call (.Name x p0) (.Name y p1 :: es) [] pos) ρ d (ρ1.set i (.own cs2)) := fun bi σ0 B H0 σ Hk Hr I Q q => by
  obtain ⟨a0, vs0, t1, t2, t3, t4, t5⟩ := I.own i cs hi
  refine sE_of (pe_call (E := E0) F hr hg hm hk hb .nil pass0 (pa_cons (pe_var hN hv hd hcd) pa_s he) hdb he hpl) ⟨.ref a0, t1, ha bi σ0 B H0 σ Hk Hr I _ fun vs Hk1 Hr1 I1 m1 h1 => ?_⟩
  show spB X.K n φ ((V.ref a0 :: vs) ++ []) Hr1 Q E0
  rw [List.append_nil]
  obtain ⟨a1, vs1, u1, u2, u3, u4, u5⟩ := I1.own i cs1 hi1
  have ea : a0 = a1 := by
    rw [t1] at u1
    injection u1 with u1; injection u1 with u1; injection u1
  subst ea
  have hli : i < ρ1.length := (List.getElem?_eq_some_iff.mp hi1).1
  refine ⟨Hk1, a0, vs, vs1, cs1, ds, d, cs2, h, hn, rfl, u2, u3, I1.kr, u5, h1, fun v H' us' far ha' hus hv => ?_⟩
  have kr' : Same (gro Hk1 Hr1 H') H' := fun b o hb => by
    cases z : Hr1 b with
    | none => rw [gro_new z] at hb; exact hb
    | some u =>
      rw [gro_old z] at hb
      exact far b o (ne_of_none hb u3) (I1.kr _ _ hb)
  refine q v (gro Hk1 Hr1 H') H' ⟨I1.base.trans (gro_same I1.kr), fun b o hb => far b o (ne_of_none hb u4) (I1.real _ _ hb), kr', fun b o hb h0 => ?_, I1.bor, by simp [I1.len], fun j e hj => ?_, fun j zs hj => ?_, fun j l es1 es2 hj hl2 hne => ?_, I1.zh, I1.zb, I1.bxs.set0 (gro_same I1.kr) (fun _ z => nomatch z), I1.eh, I1.ze⟩ (m1.trans (gro_same I1.kr)) hv
  · cases z : Hr1 b with
    | none =>
      cases z0 : H0 b with
      | none => exact absurd z0 h0
      | some u =>
        rw [I1.real _ _ z0] at z
        cases z
    | some u =>
      rw [gro_old z] at hb
      exact I1.old b o hb h0
  · by_cases qq : i = j
    · subst qq
      rw [List.getElem?_set_self hli] at hj
      cases hj
    · rw [List.getElem?_set_ne qq] at hj
      obtain ⟨v1, s1, s2⟩ := I1.val j e hj
      exact ⟨v1, s1, Dp.mono (gro_same I1.kr) _ s2⟩
  · by_cases qq : i = j
    · subst qq
      rw [List.getElem?_set_self hli] at hj
      have hj := Option.some.inj hj
      injection hj with hj
      subst hj
      exact ⟨a0, us', u1, ha', by rw [gro_old u2]; exact u3, u4, hus⟩
    · rw [List.getElem?_set_ne qq] at hj
      obtain ⟨b, us, s1, s2, s3, s4, s5⟩ := I1.own j zs hj
      refine ⟨b, us, s1, far b _ (fun z => ?_) s2, by rw [gro_old s2]; exact s3, s4, DpAll.mono (gro_same I1.kr) _ s5⟩
      subst z
      exact I1.dis i j cs1 zs hi1 hj qq (u1.trans s1.symm)
  · have g : ∀ {m : Nat} {zs : List PyData}, (ρ1.set i (.own cs2))[m]? = some (.own zs) → ∃ us, ρ1[m]? = some (.own us) := fun {m zs} hm => by
      by_cases qq : i = m
      · subst qq
        exact ⟨_, hi1⟩
      · rw [List.getElem?_set_ne qq] at hm
        exact ⟨_, hm⟩
    obtain ⟨z1, g1⟩ := g hj
    obtain ⟨z2, g2⟩ := g hl2
    exact I1.dis j l z1 z2 g1 g2 hne
end
end Pd
namespace Pd
open PySem L2 PySem.Spec PyProof.Rows

def GE (K : PySem.W.Frag) (te : TE) (ρ : List Sl) (d : PyData) (ρ' : List Sl) : Prop :=
  ∀ (bi : List Nat) (σ0 : L2.St) (B : Be) (H0 : Fr) (σ : L2.St) (Hk Hr : Hp), Ok K bi σ0 B H0 ρ σ Hk Hr → ∀ Q : VK, (∀ v Hk' Hr', Ok K bi σ0 B H0 ρ' σ Hk' Hr' → Same Hk Hk' → Dp K Hk' v d → Q v Hr') → te σ Hr Q
def GT (K : PySem.W.Frag) (tt : TT) (ρ : List Sl) (b : Bool) (ρ' : List Sl) : Prop :=
  ∀ (bi : List Nat) (σ0 : L2.St) (B : Be) (H0 : Fr) (σ : L2.St) (Hk Hr : Hp), Ok K bi σ0 B H0 ρ σ Hk Hr → ∀ Q : Bool → Hp → Prop, (∀ Hk' Hr', Ok K bi σ0 B H0 ρ' σ Hk' Hr' → Same Hk Hk' → Q b Hr') → tt σ Hr Q
def wipeS (ρ : List Sl) : List Nat → List Sl
  | [] => ρ
  | v :: vs => (wipeS ρ vs).set v .no
/-- a target that writes the slots vs alone -/
def GW (g : TG) (vs : List Nat) : Prop := ∀ v σ H (Q : L2.St → Hp → Prop), (g v (wipe σ vs) H fun σ2 H2 => wipe σ2 vs = wipe σ vs → Q σ2 H2) → g v (wipe σ vs) H fun σ2 H2 => wipe σ2 vs = wipe σ vs ∧ Q σ2 H2
theorem gw_name {n : Nat} : GW (gName n) [n] := fun v σ H Q h => by
  have z : wipe ((wipe σ [n]).set n (some v)) [n] = wipe σ [n] := by show ((σ.set n none).set n (some v)).set n none = σ.set n none; rw [List.set_set, List.set_set]
  exact ⟨z, h z⟩
theorem gw_pair {K : PySem.W.Frag} {i j : Nat} (h : i ≠ j) : GW (gTup K 2 (gCons (gName i) (gCons (gName j) gNil))) [i, j] := fun v σ H Q q => by
  obtain ⟨a, xs, rfl, hs, hl, x, r, rfl, y, r2, rfl, rfl, q⟩ := q
  have z : wipe (((wipe σ [i, j]).set i (some x)).set j (some y)) [i, j] = wipe σ [i, j] := ?_
  · exact ⟨a, _, rfl, hs, hl, x, _, rfl, y, _, rfl, rfl, z, q z⟩
  show (((((σ.set j none).set i none).set i (some x)).set j (some y)).set j none).set i none = (σ.set j none).set i none
  rw [List.set_set, List.set_set, List.set_comm _ _ h, List.set_set, List.set_set]

section
variable {K : PySem.W.Frag} {bi bi' : List Nat} {σ0 σ0' σ σ' : L2.St} {Hk Hr : Hp} {B : Be} {H0 : Fr} {ρ ρ' : List Sl}
/-- other slots' values -/
theorem Ok.swap (I : Ok K bi σ0 B H0 ρ σ Hk Hr) (hb : ∀ i ∈ bi', σ'[i]? = σ0'[i]?) (hl : ρ'.length = σ'.length) (h : ∀ (i : Nat) (x : Sl), ρ'[i]? = some x → x = .no ∨ (ρ[i]? = some x ∧ σ'[i]? = σ[i]?)) : Ok K bi' σ0' B H0 ρ' σ' Hk Hr where
  base := I.base
  real := I.real
  kr := I.kr
  old := I.old
  bor := hb
  len := hl
  val := fun i d hi => by
    rcases h i _ hi with e | ⟨e1, e2⟩
    · cases e
    · rw [e2]; exact I.val i d e1
  own := fun i ds hi => by
    rcases h i _ hi with e | ⟨e1, e2⟩
    · cases e
    · rw [e2]; exact I.own i ds e1
  dis := fun i j ds es hi hj n => by
    rcases h i _ hi with e | ⟨e1, e2⟩
    · cases e
    · rcases h j _ hj with e | ⟨e3, e4⟩
      · cases e
      · rw [e2, e4]; exact I.dis i j ds es e1 e3 n
  zh := I.zh
  zb := I.zb
  bxs := I.bxs.sub (Same.refl _) fun i b q => by
    rcases h i _ q with e | e
    · cases e
    · exact e
  eh := I.eh
  ze := I.ze
/-- an address of a list of the def's own -/
def Ow (ρ : List Sl) (σ : L2.St) (b : Addr) : Prop := ∃ (i : Nat) (ds : List PyData), ρ[i]? = some (Sl.own ds) ∧ σ[i]? = some (some (V.ref b))
/-- what stands, the def's own lists left out -/
noncomputable def fen (ρ : List Sl) (σ : L2.St) (Hr : Hp) : Hp := by
  classical
  exact fun b => if Ow ρ σ b then none else Hr b
noncomputable def fenF (H0 : Fr) (ρ : List Sl) (σ : L2.St) (Hr : Hp) : Fr := ⟨fen ρ σ Hr, H0.z⟩
theorem fen_own {b : Addr} {i : Nat} {ds : List PyData} (h : ρ[i]? = some (Sl.own ds)) (s : σ[i]? = some (some (V.ref b))) : fen ρ σ Hr b = none := by
  unfold fen
  exact if_pos ⟨i, ds, h, s⟩
theorem fen_not {b : Addr} (h : ¬ Ow ρ σ b) : fen ρ σ Hr b = Hr b := by
  unfold fen
  exact if_neg h
theorem fen_sub {b : Addr} {o : HO} (h : fen ρ σ Hr b = some o) : Hr b = some o ∧ ¬ Ow ρ σ b := by
  unfold fen at h
  split at h
  · cases h
  · rename_i q
    exact ⟨h, q⟩
theorem Ok.inner (I : Ok K bi σ0 B H0 ρ σ Hk Hr) : Ok K [] σ (inB Hk) (fenF H0 ρ σ Hr) ρ σ Hk Hr where
  base := Same.refl _
  real := fun b o h => (fen_sub h).1
  kr := I.kr
  old := fun b o h _ => h
  bor := fun i hi => nomatch hi
  len := I.len
  val := I.val
  own := fun i ds h => by
    obtain ⟨a, vs, q1, q2, q3, q4, q5⟩ := I.own i ds h
    exact ⟨a, vs, q1, q2, q3, fen_own h q1, q5⟩
  dis := I.dis
  zh := fun b o h => by
    have h0 := I.zh b o h
    show fen ρ σ Hr b = some o
    rw [fen_not]
    · exact I.real b o h0
    · rintro ⟨i, ds, q1, q2⟩
      obtain ⟨a, vs, s1, s2, s3, s4, s5⟩ := I.own i ds q1
      rw [q2] at s1
      cases s1
      rw [h0] at s4
      cases s4
  zb := fun b o h => by
    cases q : Hk b with
    | none => exact q
    | some u =>
      have := I.old b u q (by rw [I.zh b o h]; exact fun z => nomatch z)
      rw [I.zb b o h] at this
      cases this
  bxs := I.bxs
  eh := fun _ _ z => nomatch z
  ze := fun _ _ _ => rfl
theorem Ok.outer {Hk' Hr' : Hp} {bi2 : List Nat} {σ02 : L2.St} (I : Ok K bi σ0 B H0 ρ σ Hk Hr) (I' : Ok K bi2 σ02 (inB Hk) (fenF H0 ρ σ Hr) ρ' σ' Hk' Hr') : Ok K bi2 σ02 B H0 ρ' σ' Hk' Hr' where
  base := I.base.trans I'.base
  real := fun b o h => by
    have h1 := I.real b o h
    refine I'.real b o ?_
    show fen ρ σ Hr b = some o
    rw [fen_not]
    · exact h1
    · rintro ⟨i, ds, q1, q2⟩
      obtain ⟨a, vs, s1, s2, s3, s4, s5⟩ := I.own i ds q1
      rw [q2] at s1
      injection s1 with s1; injection s1 with s1; injection s1 with s1; subst s1
      rw [h] at s4
      cases s4
  kr := I'.kr
  old := fun b o h h0 => by
    have h1 : Hk b = some o := by
      refine I'.old b o h ?_
      cases z : H0 b with
      | none => exact absurd z h0
      | some u =>
        show fen ρ σ Hr b ≠ none
        rw [fen_not]
        · rw [I.real _ _ z]; exact fun z => nomatch z
        · rintro ⟨i, ds, q1, q2⟩
          obtain ⟨a, vs, s1, s2, s3, s4, s5⟩ := I.own i ds q1
          rw [q2] at s1
          injection s1 with s1; injection s1 with s1; injection s1 with s1; subst s1
          rw [z] at s4
          cases s4
    exact I.old b o h1 h0
  bor := I'.bor
  len := I'.len
  val := I'.val
  own := fun i ds h => by
    obtain ⟨a, vs, q1, q2, q3, q4, q5⟩ := I'.own i ds h
    refine ⟨a, vs, q1, q2, q3, ?_, q5⟩
    cases z : H0 a with
    | none => rfl
    | some u =>
      have h1 := I.real _ _ z
      by_cases w : Ow ρ σ a
      · obtain ⟨i2, ds2, r1, r2⟩ := w
        obtain ⟨a2, vs2, s1, s2, s3, s4, s5⟩ := I.own i2 ds2 r1
        rw [r2] at s1
        injection s1 with s1; injection s1 with s1; injection s1 with s1; subst s1
        rw [z] at s4
        cases s4
      · have q4 : fen ρ σ Hr a = none := q4
        rw [fen_not w, h1] at q4
        cases q4
  dis := I'.dis
  zh := I.zh
  zb := I.zb
  bxs := I'.bxs
  eh := I.eh
  ze := I.ze
theorem Ok.put (I : Ok K bi σ0 B H0 ρ σ Hk Hr) {D : Addr} {o : HO} (hk : Hk D = none) (h0 : H0 D = none) (hn : ¬ Ow ρ σ D) : Ok K bi σ0 B H0 ρ σ Hk (upd Hr D o) where
  base := I.base
  real := fun b u h => by rw [upd_ne (ne_of_none h h0)]; exact I.real _ _ h
  kr := fun b u h => by rw [upd_ne (ne_of_none h hk)]; exact I.kr _ _ h
  old := I.old
  bor := I.bor
  len := I.len
  val := I.val
  own := fun i ds h => by
    obtain ⟨a, vs, q1, q2, q3, q4, q5⟩ := I.own i ds h
    refine ⟨a, vs, q1, ?_, q3, q4, q5⟩
    rw [upd_ne (show a ≠ D from fun z => hn ⟨i, ds, h, by rw [← z]; exact q1⟩)]
    exact q2
  dis := I.dis
  zh := I.zh
  zb := I.zb
  bxs := I.bxs
  eh := I.eh
  ze := I.ze
theorem Ok.learn (I : Ok K bi σ0 B H0 ρ σ Hk Hr) {D : Addr} {o : HO} (hk : Hk D = none) (h0 : H0 D = none) (hr : Hr D = some o) (hn : ¬ Ow ρ σ D) : Ok K bi σ0 B H0 ρ σ (upd Hk D o) Hr := by
  have e : Same Hk (upd Hk D o) := new_same hk o
  refine ⟨I.base.trans e, I.real, fun b u h => ?_, fun b u h hb => ?_, I.bor, I.len, fun i d h => ?_, fun i ds h => ?_, I.dis, I.zh, I.zb, I.bxs.mono e, I.eh, I.ze⟩
  · by_cases z : b = D
    · subst z
      rw [upd_same] at h
      rw [hr]; exact h
    · rw [upd_ne z] at h
      exact I.kr _ _ h
  · by_cases z : b = D
    · subst z
      exact absurd h0 hb
    · rw [upd_ne z] at h
      exact I.old _ _ h hb
  · obtain ⟨v, q1, q2⟩ := I.val i d h
    exact ⟨v, q1, Dp.mono e d q2⟩
  · obtain ⟨a, vs, q1, q2, q3, q4, q5⟩ := I.own i ds h
    refine ⟨a, vs, q1, q2, ?_, q4, DpAll.mono e ds q5⟩
    rw [upd_ne (show a ≠ D from fun z => hn ⟨i, ds, h, by rw [← z]; exact q1⟩)]
    exact q3
end
theorem wipeS_len (ρ : List Sl) : ∀ vs, (wipeS ρ vs).length = ρ.length
  | [] => rfl
  | v :: vs => by unfold wipeS; rw [List.length_set, wipeS_len ρ vs]
theorem wipeS_get {ρ : List Sl} {i : Nat} {x : Sl} : ∀ {vs : List Nat}, (wipeS ρ vs)[i]? = some x → x = .no ∨ (i ∉ vs ∧ ρ[i]? = some x)
  | [], h => .inr ⟨by simp, h⟩
  | v :: vs, h => by
    unfold wipeS at h
    by_cases q : v = i
    · subst q
      have hl : v < (wipeS ρ vs).length := by
        have := (List.getElem?_eq_some_iff.mp h).1
        simpa using this
      rw [List.getElem?_set_self hl] at h
      exact .inl (Option.some.inj h).symm
    · rw [List.getElem?_set_ne q] at h
      rcases wipeS_get h with e | ⟨e1, e2⟩
      · exact .inl e
      · exact .inr ⟨by simp [e1, Ne.symm q], e2⟩
/-- a list comprehension: J (turn, what is made, slots) -/
theorem lc_raw {K : PySem.W.Frag} {wi : TI} {g : TG} {tt : TT} {te : TE} {vs : List Nat} {ρ ρ1 : List Sl} {ds : List PyData}
    (hi : ∀ (bi : List Nat) (σ0 : L2.St) (B : Be) (H0 : Fr) (σ : L2.St) (Hk Hr : Hp), Ok K bi σ0 B H0 ρ σ Hk Hr → ∀ R : It → Hp → Prop, (∀ J Hk' Hr', Ok K bi σ0 B H0 ρ1 σ Hk' Hr' → Same Hk Hk' → Wk K J ds Hk' → R J Hr') → wi σ Hr R)
    (hw : GW g vs) (J : Nat → List PyData → List Sl → Prop) (h0 : J 0 [] ρ1) (hv : ∀ j acc ρj, J j acc ρj → ∀ i ∈ vs, ρj[i]? = some .no)
    (ht : ∀ j d acc ρj, ds[j]? = some d → J j acc ρj → acc.length < 100000 ∧ ∃ ρd b ρb, EG K [] g ρj d ρd ∧ GT K tt ρd b ρb ∧ (b = true → ∃ e ρe, GE K te ρb e ρe ∧ J (j + 1) (acc ++ [e]) (wipeS ρe vs)) ∧ (b = false → J (j + 1) acc (wipeS ρb vs)))
    (bi : List Nat) (σ0 : L2.St) (B : Be) (H0 : Fr) (σ : L2.St) (Hk Hr : Hp) (I : Ok K bi σ0 B H0 ρ σ Hk Hr) (Q : VK)
    (q : ∀ D avs Hk' Hr' acc ρ', J ds.length acc ρ' → Ok K bi σ0 B H0 ρ' σ Hk' Hr' → Same Hk Hk' → Hr' D = some (.lst avs) → Hk' D = none → H0 D = none → ¬ Ow ρ' σ D → DpAll K Hk' avs acc → Q (.ref D) Hr') : tLc wi g tt te vs σ Hr Q := by
  refine hi bi σ0 B H0 σ Hk Hr I _ fun Jt Hk1 Hr1 I1 m1 wk D nD => ?_
  have nk1 : Hk1 D = none := by
    cases z : Hk1 D with
    | none => rfl
    | some u => rw [I1.kr _ _ z] at nD; cases nD
  have n01 : H0 D = none := by
    cases z : H0 D with
    | none => rfl
    | some u => rw [I1.real _ _ z] at nD; cases nD
  have no1 : ¬ Ow ρ1 σ D := by
    rintro ⟨i, ds, q1, q2⟩
    obtain ⟨a, vs, s1, s2, _⟩ := I1.own i ds q1
    rw [q2] at s1
    injection s1 with s1; injection s1 with s1; injection s1 with s1; subst s1
    rw [nD] at s2
    cases s2
  refine ⟨fun i m H => i + m = ds.length ∧ ∃ acc avs ρ' Hk', J i acc ρ' ∧ Ok K bi σ0 B H0 ρ' σ Hk' H ∧ Same Hk1 Hk' ∧ Hk' D = none ∧ H D = some (.lst avs) ∧ DpAll K Hk' avs acc ∧ ¬ Ow ρ' σ D,
    ⟨ds.length, by omega, [], [], ρ1, Hk1, h0, I1.put nk1 n01 no1, Same.refl _, nk1, upd_same, .nil, no1⟩, fun i m H hW => ?_⟩
  obtain ⟨em, acc, avs, ρ', Hk', jj, I', m', nk, hD, hacc, no⟩ := hW
  obtain ⟨w1, w2, w3⟩ := wk i H (m'.trans I'.kr)
  by_cases hi : i < ds.length
  · refine .inr ⟨w1 hi, fun H2 => ∃ acc avs ρ' Hk', J (i + 1) acc ρ' ∧ Ok K bi σ0 B H0 ρ' σ Hk' H2 ∧ Same Hk1 Hk' ∧ Hk' D = none ∧ H2 D = some (.lst avs) ∧ DpAll K Hk' avs acc ∧ ¬ Ow ρ' σ D,
      fun H2 hN => ⟨m - 1, by omega, by omega, hN⟩, fun xv H2 hy => ?_⟩
    obtain ⟨e2, fd⟩ := w3 xv H2 hy
    have hd := List.getElem?_eq_getElem hi
    obtain ⟨hlen, ρd, b, ρb, eg, gt, hT, hF⟩ := ht i _ acc ρ' hd jj
    have I2 := I'.gro e2
    have s2 : Same Hk' (gro Hk' H H2) := gro_same I'.kr
    -- the slots of the block
    have Iw : Ok K [] (wipe σ vs) B H0 ρ' (wipe σ vs) (gro Hk' H H2) H2 := by
      refine I2.swap (fun i hi => nomatch hi) (by rw [wipe_length]; exact I'.len) fun i x hx => ?_
      by_cases z : i ∈ vs
      · have := hv _ _ _ jj i z
        rw [hx] at this
        exact .inl (Option.some.inj this)
      · exact .inr ⟨hx, wipe_out z⟩
    have hD2 : H2 D = some (.lst avs) := e2 _ _ hD
    have nk2 : gro Hk' H H2 D = none := by rw [gro_old hD]; exact nk
    have noW : ¬ Ow ρ' (wipe σ vs) D := by
      rintro ⟨i, ds, q1, q2⟩
      exact no ⟨i, ds, q1, (wipe_some q2).1⟩
    have Ii := Iw.inner
    have D0 : (fenF H0 ρ' (wipe σ vs) H2).h D = some (.lst avs) := by show fen ρ' (wipe σ vs) H2 D = _; rw [fen_not noW]; exact hD2
    -- what a turn leaves, for the slots outside
    have back : ∀ ρe σ3 Hk3 Hr3, wipe σ3 vs = wipe σ vs → Ok K [] (wipe σ vs) (inB (gro Hk' H H2)) (fenF H0 ρ' (wipe σ vs) H2) ρe σ3 Hk3 Hr3 → Ok K bi σ0 B H0 (wipeS ρe vs) σ Hk3 Hr3 ∧ Hk3 D = none ∧ Hr3 D = some (.lst avs) ∧ ¬ Ow (wipeS ρe vs) σ D := fun ρe σ3 Hk3 Hr3 wz I3 => by
      have key : ∀ (i : Nat) (x : Sl), (wipeS ρe vs)[i]? = some x → x = .no ∨ (ρe[i]? = some x ∧ σ[i]? = σ3[i]?) := fun i x hx => by
        rcases wipeS_get hx with e | ⟨e1, e2⟩
        · exact .inl e
        · refine .inr ⟨e2, ?_⟩
          rw [← wipe_out (σ := σ) e1, ← wipe_out (σ := σ3) e1, wz]
      have I4 := Iw.outer I3
      refine ⟨I4.swap I'.bor ?_ key, ?_, I3.real _ _ D0, ?_⟩
      · rw [wipeS_len, I3.len, ← wipe_length σ3 vs, wz, wipe_length]
      · cases z : Hk3 D with
        | none => rfl
        | some u =>
          have := I3.old D u z (by rw [D0]; exact fun z => nomatch z)
          simp only [inB] at this
          rw [nk2] at this
          cases this
      · rintro ⟨i, ds, q1, q2⟩
        rcases key i _ q1 with e | ⟨e1, e2⟩
        · cases e
        · obtain ⟨a, us, s1, s2, s3, s4, s5⟩ := I3.own i ds e1
          rw [← e2, q2] at s1
          injection s1 with s1; injection s1 with s1; injection s1 with s1; subst s1
          rw [D0] at s4
          cases s4
    refine hw _ _ _ _ (eg _ _ _ _ _ _ xv Ii (Dp.mono (gro_le m') _ (fd _ hd)) _ fun σ3 I3 wz => ?_)
    refine gt _ _ _ _ _ _ _ I3 _ fun Hk4 Hr4 I4 m4 => ?_
    cases b with
    | true =>
      obtain ⟨e, ρe, ge, jn⟩ := hT rfl
      refine iteT (ge _ _ _ _ _ _ _ I4 _ fun v Hk5 Hr5 I5 m5 hv5 => ?_)
      obtain ⟨b1, b2, b3, b4⟩ := back ρe σ3 Hk5 Hr5 wz I5
      have mm : Same Hk' Hk5 := s2.trans (m4.trans m5)
      refine ⟨avs, b3, by rw [DpAll.len hacc]; exact lt_line hlen, acc ++ [e], avs ++ [v], wipeS ρe vs, Hk5, jn, b1.put b2 n01 b4, m'.trans mm, b2, upd_same, DpAll.app (DpAll.mono mm _ hacc) (.cons hv5 .nil), b4⟩
    | false =>
      obtain ⟨b1, b2, b3, b4⟩ := back ρb σ3 Hk4 Hr4 wz I4
      have mm : Same Hk' Hk4 := s2.trans m4
      exact iteF ⟨acc, avs, wipeS ρb vs, Hk4, hF rfl, b1, m'.trans mm, b2, b3, DpAll.mono mm _ hacc, b4⟩
  · have : i = ds.length := by omega
    subst this
    exact .inl ⟨w2 rfl, q D avs Hk' H acc ρ' jj I' (m1.trans m') hD nk n01 no hacc⟩
/-- a list comprehension: J (turn, what is made, slots) -/
theorem lc_ok {K : PySem.W.Frag} {wi : TI} {g : TG} {tt : TT} {te : TE} {vs : List Nat} {ρ ρ1 : List Sl} {ds : List PyData}
    (hi : ∀ (bi : List Nat) (σ0 : L2.St) (B : Be) (H0 : Fr) (σ : L2.St) (Hk Hr : Hp), Ok K bi σ0 B H0 ρ σ Hk Hr → ∀ R : It → Hp → Prop, (∀ J Hk' Hr', Ok K bi σ0 B H0 ρ1 σ Hk' Hr' → Same Hk Hk' → Wk K J ds Hk' → R J Hr') → wi σ Hr R)
    (hw : GW g vs) (J : Nat → List PyData → List Sl → Prop) (h0 : J 0 [] ρ1) (hv : ∀ j acc ρj, J j acc ρj → ∀ i ∈ vs, ρj[i]? = some .no)
    (ht : ∀ j d acc ρj, ds[j]? = some d → J j acc ρj → acc.length < 100000 ∧ ∃ ρd b ρb, EG K [] g ρj d ρd ∧ GT K tt ρd b ρb ∧ (b = true → ∃ e ρe, GE K te ρb e ρe ∧ J (j + 1) (acc ++ [e]) (wipeS ρe vs)) ∧ (b = false → J (j + 1) acc (wipeS ρb vs)))
    (bi : List Nat) (σ0 : L2.St) (B : Be) (H0 : Fr) (σ : L2.St) (Hk Hr : Hp) (I : Ok K bi σ0 B H0 ρ σ Hk Hr) (Q : VK)
    (q : ∀ v Hk' Hr' acc ρ', J ds.length acc ρ' → Ok K bi σ0 B H0 ρ' σ Hk' Hr' → Same Hk Hk' → Dp K Hk' v (.list acc) → Q v Hr') : tLc wi g tt te vs σ Hr Q := by
  exact lc_raw hi hw J h0 hv ht bi σ0 B H0 σ Hk Hr I Q fun D avs Hk' H acc ρ' jj I' m' hD nk n01 no hacc =>
    q (.ref D) (upd Hk' D (.lst avs)) H acc ρ' jj (I'.learn nk n01 hD no) (m'.trans (new_same nk _)) (.lst (.inl (.inl upd_same)) (DpAll.mono (new_same nk _) _ hacc))
/-! ### comprehensions as expressions -/
section
variable {X : Cx} {elt tg iter c : Expr} {scope : Scope} {own : List (Str × Nat)} {ρ ρ1 : List Sl} {ds : List PyData} {pos : Pos}
def bE (X : Cx) (scope : Scope) (e : Expr) : TE := fun σ H Q => ∀ (s : Shared) (H1 : Hp) (C : Addr) (cl : List (Str × Addr)) (fp : List Addr), sE (X.blk s H1 scope (compEnvC scope cl C X.env) fp) e σ H Q
def bT (X : Cx) (scope : Scope) (e : Expr) : TT := fun σ H Q => ∀ (s : Shared) (H1 : Hp) (C : Addr) (cl : List (Str × Addr)) (fp : List Addr), sT (X.blk s H1 scope (compEnvC scope cl C X.env) fp) e σ H Q
theorem pe_b (s : Shared) (H : Hp) (C : Addr) (cl : List (Str × Addr)) (fp : List Addr) : PE (X.blk s H scope (compEnvC scope cl C X.env) fp) elt (bE X scope elt) := ⟨fun pins s' _ _ _ I h => h s H C cl fp pins s' I⟩
theorem pt_b (s : Shared) (H : Hp) (C : Addr) (cl : List (Str × Addr)) (fp : List Addr) : PT (X.blk s H scope (compEnvC scope cl C X.env) fp) c (bT X scope c) := ⟨fun pins s' _ _ _ I h => h s H C cl fp pins s' I⟩
/-- in each block of the comprehension -/
def BE (X : Cx) (scope : Scope) (e : Expr) (ρ : List Sl) (d : PyData) (ρ' : List Sl) : Prop := ∀ (s : Shared) (H : Hp) (C : Addr) (cl : List (Str × Addr)) (fp : List Addr), EE (X.blk s H scope (compEnvC scope cl C X.env) fp) e ρ d ρ'
def BT (X : Cx) (scope : Scope) (e : Expr) (ρ : List Sl) (b : Bool) (ρ' : List Sl) : Prop := ∀ (s : Shared) (H : Hp) (C : Addr) (cl : List (Str × Addr)) (fp : List Addr), ET (X.blk s H scope (compEnvC scope cl C X.env) fp) e ρ b ρ'
theorem BE.ge {e : Expr} {d : PyData} (h : BE X scope e ρ d ρ1) : GE X.K (bE X scope e) ρ d ρ1 := fun bi σ0 B H0 σ Hk Hr I Q q s H C cl fp => h s H C cl fp bi σ0 B H0 σ Hk Hr I Q q
theorem BT.gt {e : Expr} {b : Bool} (h : BT X scope e ρ b ρ1) : GT X.K (bT X scope e) ρ b ρ1 := fun bi σ0 B H0 σ Hk Hr I Q q s H C cl fp => h s H C cl fp bi σ0 B H0 σ Hk Hr I Q q
theorem gt_yes {K : PySem.W.Frag} : GT K tYes ρ true ρ := fun bi σ0 B H0 σ Hk Hr I Q q => q Hk Hr I (Same.refl _)
/-- [elt for tg in iter], slots and lists as they were -/
theorem ee_lc {g : TG} (hi : EI X tg iter ρ ds ρ1) (hw : GW g (own.map (·.2))) (hv : ∀ i ∈ own.map (·.2), ρ1[i]? = some .no) (F : Nat → PyData) (hn : ds.length ≤ 100000)
    (ht : ∀ j d, ds[j]? = some d → ∃ ρd, EG X.K [] g ρ1 d ρd ∧ wipeS ρd (own.map (·.2)) = ρ1 ∧ BE X scope elt ρd (F j) ρd)
    (hN : X.N.Nodup) (ok : BlkOk X.N X.env.scope scope own) (hg : ∀ (s : Shared) (H : Hp) (C : Addr) (cl : List (Str × Addr)) (fp : List Addr), PG (X.blk s H scope (compEnvC scope cl C X.env) fp) tg g)
    (hc : X.calm = true := by rfl) (hs : ∀ x, foldedSetIterable iter X.env x = pure x := by intro _; rfl) : EE X (.ListComp elt [⟨tg, iter, [], 0⟩] scope pos) ρ (.list ((List.range ds.length).map F)) ρ1 := fun bi σ0 B H0 σ Hk Hr I Q q => by
  obtain ⟨wi, pi, hi⟩ := hi
  refine sE_of (pe_lc hc hN pi ok hg (fun _ _ _ _ _ => pts_nil) pe_b hs) (lc_ok hi hw (fun j acc ρ' => acc = (List.range j).map F ∧ ρ' = ρ1) ⟨rfl, rfl⟩ (fun j acc ρj h i hi => by rw [h.2]; exact hv i hi) (fun j d acc ρj hd h => ?_) bi σ0 B H0 σ Hk Hr I Q fun v Hk' Hr' acc ρ' h I' m' hvd => ?_)
  · obtain ⟨rfl, rfl⟩ := h
    obtain ⟨ρd, eg, ew, be⟩ := ht j d hd
    have hj := (List.getElem?_eq_some_iff.mp hd).1
    refine ⟨by simp; omega, ρd, true, ρd, eg, gt_yes, fun _ => ⟨F j, ρd, be.ge, ?_, ew⟩, fun z => nomatch z⟩
    rw [List.range_succ, List.map_append]
    rfl
  · obtain ⟨rfl, rfl⟩ := h
    exact q v Hk' Hr' I' m' hvd
/-- [elt for tg in iter if c] -/
theorem ee_lcIf {g : TG} (hi : EI X tg iter ρ ds ρ1) (hw : GW g (own.map (·.2))) (hv : ∀ i ∈ own.map (·.2), ρ1[i]? = some .no) (F : Nat → PyData) (G : Nat → Bool) (hn : ds.length ≤ 100000)
    (ht : ∀ j d, ds[j]? = some d → ∃ ρd, EG X.K [] g ρ1 d ρd ∧ wipeS ρd (own.map (·.2)) = ρ1 ∧ BT X scope c ρd (G j) ρd ∧ (G j = true → BE X scope elt ρd (F j) ρd))
    (hN : X.N.Nodup) (ok : BlkOk X.N X.env.scope scope own) (hg : ∀ (s : Shared) (H : Hp) (C : Addr) (cl : List (Str × Addr)) (fp : List Addr), PG (X.blk s H scope (compEnvC scope cl C X.env) fp) tg g)
    (hc : X.calm = true := by rfl) (hs : ∀ x, foldedSetIterable iter X.env x = pure x := by intro _; rfl) : EE X (.ListComp elt [⟨tg, iter, [c], 0⟩] scope pos) ρ (.list (((List.range ds.length).filter G).map F)) ρ1 := fun bi σ0 B H0 σ Hk Hr I Q q => by
  obtain ⟨wi, pi, hi⟩ := hi
  refine sE_of (pe_lc hc hN pi ok hg (fun s H C cl fp => pts_one (pt_b s H C cl fp)) pe_b hs) (lc_ok hi hw (fun j acc ρ' => acc = ((List.range j).filter G).map F ∧ ρ' = ρ1) ⟨rfl, rfl⟩ (fun j acc ρj h i hi => by rw [h.2]; exact hv i hi) (fun j d acc ρj hd h => ?_) bi σ0 B H0 σ Hk Hr I Q fun v Hk' Hr' acc ρ' h I' m' hvd => ?_)
  · obtain ⟨rfl, rfl⟩ := h
    obtain ⟨ρd, eg, ew, bt, be⟩ := ht j d hd
    have hj := (List.getElem?_eq_some_iff.mp hd).1
    have hle : ((List.range j).filter G).length ≤ j := by
      have := List.length_filter_le G (List.range j)
      simpa using this
    refine ⟨by rw [List.length_map]; omega, ρd, G j, ρd, eg, bt.gt, fun z => ⟨F j, ρd, (be z).ge, ?_, ew⟩, fun z => ⟨?_, ew⟩⟩
    · rw [List.range_succ, List.filter_append, List.map_append]
      simp [z]
    · rw [List.range_succ, List.filter_append, List.map_append]
      simp [z]
  · obtain ⟨rfl, rfl⟩ := h
    exact q v Hk' Hr' I' m' hvd
end
/-! ### reading a list of one's own -/
section
variable {X : Cx} {a b e : Expr} {ρ ρ1 : List Sl} {d : PyData} {ds : List PyData} {pos p0 p1 : Pos} {x : Str} {n : Nat}
theorem own_ix {j : Int} (hN : X.N[n]? = some x) (ho : ρ[n]? = some (.own ds)) (hb : EE X b ρ (.int j) ρ) (h : atI ds j = some d) (hs : PlainIx b := by exact fun _ _ => rfl) (hv : Vis X.env.scope x := by first | exact Or.inl rfl | exact Or.inr (Or.inl rfl) | exact Or.inr (Or.inr rfl)) (hd : (x == ("__debug__" : Str)) = false := by decide)
    (hcd : (x == ("__classdict__" : Str)) = false := by decide) : EE X (.Subscript (.Name x p0) b pos) ρ d ρ := fun bi σ0 B H0 σ Hk Hr I Q q => by
  obtain ⟨a0, vs0, t1, t2, t3, t4, t5⟩ := I.own n ds ho
  refine sE_of (pe_ix ix_list (pe_var hN hv hd hcd) pe_s hs) ⟨.ref a0, t1, hb bi σ0 B H0 σ Hk Hr I _ fun y Hk1 Hr1 I1 m1 h1 => ?_⟩
  cases h1
  obtain ⟨a1, vs1, u1, u2, u3, u4, u5⟩ := I1.own n ds ho
  have ea : a0 = a1 := by
    rw [t1] at u1
    injection u1 with u1; injection u1 with u1; injection u1
  subst ea
  obtain ⟨v, s1, s2⟩ := atI_all u5 h
  exact ⟨a0, vs1, j, v, rfl, rfl, .inl (.inl u2), s1, q v Hk1 Hr1 I1 m1 s2⟩
/-- an operation whose second operand is the list, its answer a bool -/
def RB (K : PySem.W.Frag) (r : R2) (d1 d2 : PyData) (k : Bool) : Prop := ∀ x y Hr, Dp K Hr x d1 → Dp K Hr y d2 → ∀ Q : VK, Q (.bl k) Hr → r x y Hr Q
theorem rb_in {K : PySem.W.Frag} {d1 : PyData} (h1 : SeqAt.shaped d1 = true) (h2 : SeqAt.shaped (.list ds) = true) : RB K (rInD K) d1 (.list ds) (ds.any fun z => PyData.eqv z d1) := fun x y Hr hx hy Q q => ⟨d1, ds, hx, hy, h1, h2, q⟩
theorem rb_notIn {K : PySem.W.Frag} {d1 : PyData} (h1 : SeqAt.shaped d1 = true) (h2 : SeqAt.shaped (.list ds) = true) : RB K (rNotInD K) d1 (.list ds) (!ds.any fun z => PyData.eqv z d1) := fun x y Hr hx hy Q q => ⟨d1, ds, hx, hy, h1, h2, q⟩
theorem own_cmpT {op : CmpOp} {r : R2} {d1 : PyData} {k : Bool} (ho : OpR X (compareOp op) r) (hN : X.N[n]? = some x) (ha : EE X a ρ d1 ρ1) (hw : ρ1[n]? = some (.own ds)) (hr : RB X.K r d1 (.list ds) k) (hm : behindInMarks op (.Name x p0) = false := by rfl) (hv : Vis X.env.scope x := by first | exact Or.inl rfl | exact Or.inr (Or.inl rfl) | exact Or.inr (Or.inr rfl)) (hd : (x == ("__debug__" : Str)) = false := by decide)
    (hcd : (x == ("__classdict__" : Str)) = false := by decide) : ET X (.Compare a [op] [.Name x p0] pos) ρ k ρ1 := fun bi σ0 B H0 σ Hk Hr I Q q =>
  sT_of (pt_cmpR ho pe_s (pe_var hN hv hd hcd) hm) (ha bi σ0 B H0 σ Hk Hr I _ fun xv Hk1 Hr1 I1 m1 h1 => by
    obtain ⟨a0, vs0, t1, t2, t3, t4, t5⟩ := I1.own n ds hw
    exact ⟨.ref a0, t1, hr xv (.ref a0) Hr1 (Dp.mono I1.kr _ h1) (.lst (.inl (.inl t2)) (DpAll.mono I1.kr _ t5)) _ ⟨k, rfl, q Hk1 Hr1 I1 m1⟩⟩)
theorem own_len (hl : X.mg "len" = none) (hN : X.N[n]? = some x) (ho : ρ[n]? = some (.own ds)) (h : PE X (.Call (.Name "len" p0) [.Name x p1] [] pos) (tCB (fun xs H Q => ∃ p ys, xs = [.ref p] ∧ (SqL X.K H p ys ∨ SqT X.K H p ys) ∧ Q (.int ys.length) H) (tCons (tVar n) tNil))) : EE X (.Call (.Name "len" p0) [.Name x p1] [] pos) ρ (.int (ds.length : Nat)) ρ := fun bi σ0 B H0 σ Hk Hr I Q q => by
  obtain ⟨a0, vs0, t1, t2, t3, t4, t5⟩ := I.own n ds ho
  refine sE_of h ⟨.ref a0, t1, a0, vs0, rfl, .inl (.inl (.inl t2)), ?_⟩
  rw [DpAll.len t5]
  exact q _ Hk Hr I (Same.refl _) (.int _)
theorem own_truth (hN : X.N[n]? = some x) (ho : ρ[n]? = some (.own ds)) (he : ∀ whole, isTrue (.Name x p0) X.env whole = (do let v ← whole; standAt (Expr.Name x p0).pos; holding [v] (truthy v)) := by intro _; rfl) (hv : Vis X.env.scope x := by first | exact Or.inl rfl | exact Or.inr (Or.inl rfl) | exact Or.inr (Or.inr rfl)) (hd : (x == ("__debug__" : Str)) = false := by decide)
    (hcd : (x == ("__classdict__" : Str)) = false := by decide) : ET X (.Name x p0) ρ (!ds.isEmpty) ρ := fun bi σ0 B H0 σ Hk Hr I Q q => by
  obtain ⟨a0, vs0, t1, t2, t3, t4, t5⟩ := I.own n ds ho
  refine sT_of (pt_truth (pe_var hN hv hd hcd) he) ⟨.ref a0, t1, !ds.isEmpty, .inl ⟨vs0, .inl (.inl t2), ?_⟩, q Hk Hr I (Same.refl _)⟩
  have := DpAll.len t5
  cases vs0 <;> cases ds <;> simp_all
end
/-! ### built-in functions -/
section
variable {K : PySem.W.Frag} {ds : List PyData} {d : PyData} {i j : Int} {X : Cx}
theorem ra_lenL : RA K (fun xs H Q => ∃ p ys, xs = [.ref p] ∧ (SqL K H p ys ∨ SqT K H p ys) ∧ Q (.int ys.length) H) [.list ds] (.int (ds.length : Nat)) := fun vs Hk Hr kr h Q q => by
  cases h with
  | cons h1 h2 =>
    cases h2
    cases h1 with
    | lst hs ha => exact ⟨_, _, rfl, .inl (same_l kr hs), by rw [DpAll.len ha]; exact q _ Hr (Same.refl _) (.int _)⟩
theorem ra_lenT : RA K (fun xs H Q => ∃ p ys, xs = [.ref p] ∧ (SqL K H p ys ∨ SqT K H p ys) ∧ Q (.int ys.length) H) [.tuple ds] (.int (ds.length : Nat)) := fun vs Hk Hr kr h Q q => by
  cases h with
  | cons h1 h2 =>
    cases h2
    cases h1 with
    | tup hs ha => exact ⟨_, _, rfl, .inr (same_t kr hs), by rw [DpAll.len ha]; exact q _ Hr (Same.refl _) (.int _)⟩
theorem ra_abs : RA K (fun xs H Q => ∃ i, xs = [.int i] ∧ Q (.int (if i < 0 then -i else i)) H) [.int i] (.int (if i < 0 then -i else i)) := fun vs Hk Hr kr h Q q => by
  cases h with
  | cons h1 h2 =>
    cases h2
    cases h1
    exact ⟨i, rfl, q _ Hr (Same.refl _) (.int _)⟩
theorem ra_int : RA K (fun xs H Q => (∃ i, xs = [.int i] ∧ Q (.int i) H) ∨ ∃ k, xs = [.bl k] ∧ Q (.int (if k then 1 else 0)) H) [.int i] (.int i) := fun vs Hk Hr kr h Q q => by
  cases h with
  | cons h1 h2 =>
    cases h2
    cases h1
    exact .inl ⟨i, rfl, q _ Hr (Same.refl _) (.int _)⟩
theorem ra_min2 : RA K (fun xs H Q => ∃ i j, xs = [.int i, .int j] ∧ Q (.int (if j < i then j else i)) H) [.int i, .int j] (.int (if j < i then j else i)) := fun vs Hk Hr kr h Q q => by
  cases h with
  | cons h1 h2 =>
    cases h1
    cases h2 with
    | cons h2 h3 =>
      cases h2; cases h3
      exact ⟨i, j, rfl, q _ Hr (Same.refl _) (.int _)⟩
theorem ra_list {xs : PyData} (hx : xs = .list ds ∨ xs = .tuple ds) : RA K (fun xs H Q => ∃ p ys, xs = [.ref p] ∧ (SqL K H p ys ∨ SqT K H p ys) ∧ ∀ l, H l = none → Q (.ref l) (upd H l (.lst ys))) [xs] (.list ds) := fun vs Hk Hr kr h Q q => by
  cases h with
  | cons h1 h2 =>
    cases h2
    rcases hx with rfl | rfl
    · cases h1 with
      | lst hs ha => exact ⟨_, _, rfl, .inl (same_l kr hs), fun l hl => q _ _ (new_same hl _) (gro_lst kr hl ha)⟩
    · cases h1 with
      | tup hs ha => exact ⟨_, _, rfl, .inr (same_t kr hs), fun l hl => q _ _ (new_same hl _) (gro_lst kr hl ha)⟩
theorem ra_tuple {xs : PyData} (hx : xs = .list ds ∨ xs = .tuple ds) : RA K (fun xs H Q => ∃ p ys, xs = [.ref p] ∧ ((SqL K H p ys ∧ ∀ l, H l = none → Q (.ref l) (upd H l (.tup ys))) ∨ (SqT K H p ys ∧ Q (.ref p) H))) [xs] (.tuple ds) := fun vs Hk Hr kr h Q q => by
  cases h with
  | cons h1 h2 =>
    cases h2
    rcases hx with rfl | rfl
    · cases h1 with
      | lst hs ha => exact ⟨_, _, rfl, .inl ⟨same_l kr hs, fun l hl => q _ _ (new_same hl _) (gro_tup kr hl ha)⟩⟩
    · cases h1 with
      | tup hs ha => exact ⟨_, _, rfl, .inr ⟨same_t kr hs, q _ Hr (Same.refl _) (gro_refl kr (.tup hs ha))⟩⟩
end
/-! ### slices -/
def cutD (ds : List PyData) (lo hi : Option Int) : List PyData := (ds.drop (HT.sIx ds.length 0 lo)).take (HT.sIx ds.length ds.length hi - HT.sIx ds.length 0 lo)
def EO (X : Cx) (e : Option Expr) (ρ : List Sl) (o : Option Int) (ρ' : List Sl) : Prop := ∃ t, PO X e t ∧
  ∀ (bi : List Nat) (σ0 : L2.St) (B : Be) (H0 : Fr) (σ : L2.St) (Hk Hr : Hp), Ok X.K bi σ0 B H0 ρ σ Hk Hr → ∀ Q : Option Int → Hp → Prop, (∀ Hk' Hr', Ok X.K bi σ0 B H0 ρ' σ Hk' Hr' → Same Hk Hk' → Q o Hr') → t σ Hr Q
section
variable {X : Cx} {e : Expr} {lo hi : Option Expr} {ρ ρ1 ρ2 ρ3 : List Sl} {ds : List PyData} {pos p2 : Pos} {l u : Option Int} {i : Int}
theorem eo_none : EO X none ρ none ρ := ⟨_, po_none, fun bi σ0 B H0 σ Hk Hr I Q q => q Hk Hr I (Same.refl _)⟩
theorem eo_some (h : EE X e ρ (.int i) ρ1) : EO X (some e) ρ (some i) ρ1 := ⟨_, po_some pe_s, fun bi σ0 B H0 σ Hk Hr I Q q => h bi σ0 B H0 σ Hk Hr I _ fun v Hk1 Hr1 I1 m1 h1 => by
  cases h1
  exact ⟨i, rfl, q Hk1 Hr1 I1 m1⟩⟩
theorem cut_all {K : PySem.W.Frag} {H : Hp} {vs : List V} (h : DpAll K H vs ds) : DpAll K H (cutV vs l u) (cutD ds l u) := by
  unfold cutV cutD
  rw [DpAll.len h]
  exact DpAll.take _ (DpAll.drop _ h)
theorem ee_sliceL (he : EE X e ρ (.list ds) ρ1) (hl : EO X lo ρ1 l ρ2) (hu : EO X hi ρ2 u ρ3) : EE X (.Subscript e (.Slice lo hi none p2) pos) ρ (.list (cutD ds l u)) ρ3 := fun bi σ0 B H0 σ Hk Hr I Q q => by
  obtain ⟨tl, pl, hl⟩ := hl
  obtain ⟨tu, pu, hu⟩ := hu
  refine sE_of (pe_slice sl_list pe_s pl pu) (he bi σ0 B H0 σ Hk Hr I _ fun v Hk1 Hr1 I1 m1 h1 => hl bi σ0 B H0 σ Hk1 Hr1 I1 _ fun Hk2 Hr2 I2 m2 => hu bi σ0 B H0 σ Hk2 Hr2 I2 _ fun Hk3 Hr3 I3 m3 => ?_)
  cases h1 with
  | lst hs ha =>
    have m := m2.trans m3
    exact ⟨_, _, rfl, same_l I3.kr (same_l m hs), fun p hp => q _ _ _ (I3.gro (new_same hp _)) ((m1.trans m).trans (gro_same I3.kr)) (gro_lst I3.kr hp (cut_all (DpAll.mono m _ ha)))⟩
theorem ee_sliceT (he : EE X e ρ (.tuple ds) ρ1) (hl : EO X lo ρ1 l ρ2) (hu : EO X hi ρ2 u ρ3) : EE X (.Subscript e (.Slice lo hi none p2) pos) ρ (.tuple (cutD ds l u)) ρ3 := fun bi σ0 B H0 σ Hk Hr I Q q => by
  obtain ⟨tl, pl, hl⟩ := hl
  obtain ⟨tu, pu, hu⟩ := hu
  refine sE_of (pe_slice sl_tupA pe_s pl pu) (he bi σ0 B H0 σ Hk Hr I _ fun v Hk1 Hr1 I1 m1 h1 => hl bi σ0 B H0 σ Hk1 Hr1 I1 _ fun Hk2 Hr2 I2 m2 => hu bi σ0 B H0 σ Hk2 Hr2 I2 _ fun Hk3 Hr3 I3 m3 => ?_)
  cases h1 with
  | tup hs ha =>
    have m := m2.trans m3
    have ha3 := DpAll.mono m _ ha
    refine ⟨_, _, rfl, same_t I3.kr (same_t m hs), fun hz => ?_, fun _ p hp => q _ _ _ (I3.gro (new_same hp _)) ((m1.trans m).trans (gro_same I3.kr)) (gro_tup I3.kr hp (cut_all ha3))⟩
    have : cutD ds l u = ds := by
      unfold cutD
      rw [DpAll.len ha] at hz
      rw [hz.1, hz.2]
      simp
    refine q _ Hk3 Hr3 I3 (m1.trans m) ?_
    rw [this]
    exact .tup (same_t m hs) ha3
end
end Pd
namespace Pd
open PySem L2 PySem.Spec PyProof.Rows

section
variable {X : Cx} {e a b : Expr} {es : List Expr} {ρ ρ1 : List Sl} {ds : List PyData} {d : PyData} {p0 p1 pos : Pos} {i j : Int}
theorem ee_lenL (hm : X.mg "len" = none) (ha : EE X e ρ (.list ds) ρ1) (hg : Gl X "len" := by rfl) (he : starEach [e] X.env = [(false, eval e X.env)] := by rfl) (hpl : (backTo pos (starEach ([] : List Expr) X.env)).any (·.1) = false := by rfl) : EE X (.Call (.Name "len" p0) [e] [] pos) ρ (.int (ds.length : Nat)) ρ1 :=
  ee_tCB (pe_callB call_len_seq hg hm PySem.boot_len pa_s (by decide) (by decide) he hpl) (ea_cons ha ea_nil he) ra_lenL
theorem ee_lenT (hm : X.mg "len" = none) (ha : EE X e ρ (.tuple ds) ρ1) (hg : Gl X "len" := by rfl) (he : starEach [e] X.env = [(false, eval e X.env)] := by rfl) (hpl : (backTo pos (starEach ([] : List Expr) X.env)).any (·.1) = false := by rfl) : EE X (.Call (.Name "len" p0) [e] [] pos) ρ (.int (ds.length : Nat)) ρ1 :=
  ee_tCB (pe_callB call_len_seq hg hm PySem.boot_len pa_s (by decide) (by decide) he hpl) (ea_cons ha ea_nil he) ra_lenT
theorem ee_abs (hm : X.mg "abs" = none) (ha : EE X e ρ (.int i) ρ1) (hg : Gl X "abs" := by rfl) (he : starEach [e] X.env = [(false, eval e X.env)] := by rfl) (hpl : (backTo pos (starEach ([] : List Expr) X.env)).any (·.1) = false := by rfl) : EE X (.Call (.Name "abs" p0) [e] [] pos) ρ (.int (if i < 0 then -i else i)) ρ1 :=
  ee_tCB (pe_callB call_abs hg hm (by decide +kernel) pa_s (by decide) (by decide) he hpl) (ea_cons ha ea_nil he) ra_abs
theorem ee_toInt (hm : X.mg "int" = none) (ha : EE X e ρ (.int i) ρ1) (hg : Gl X "int" := by rfl) (he : starEach [e] X.env = [(false, eval e X.env)] := by rfl) (hpl : (backTo pos (starEach ([] : List Expr) X.env)).any (·.1) = false := by rfl) : EE X (.Call (.Name "int" p0) [e] [] pos) ρ (.int i) ρ1 :=
  ee_tCB (pe_callTy call_int1 hg hm (by decide +kernel) pa_s (by decide) (by decide) he hpl) (ea_cons ha ea_nil he) ra_int
theorem ee_min2 {ρ2 : List Sl} (hm : X.mg "min" = none) (ha : EE X a ρ (.int i) ρ1) (hb : EE X b ρ1 (.int j) ρ2) (hg : Gl X "min" := by rfl) (hc : X.calm = true := by rfl) (he : starEach [a, b] X.env = (false, eval a X.env) :: starEach [b] X.env := by rfl) (he2 : starEach [b] X.env = [(false, eval b X.env)] := by rfl) (hpl : (backTo pos (starEach [b] X.env)).any (·.1) = false := by rfl) : EE X (.Call (.Name "min" p0) [a, b] [] pos) ρ (.int (if j < i then j else i)) ρ2 :=
  ee_tCB (pe_callB (call_min2 hc) hg hm (by decide +kernel) pa_s (by decide) (by decide) he hpl) (ea_cons ha (ea_cons hb ea_nil he2) he) ra_min2
theorem ee_listOf {xs : PyData} (hx : xs = .list ds ∨ xs = .tuple ds) (hm : X.mg "list" = none) (ha : EE X e ρ xs ρ1) (hg : Gl X "list" := by rfl) (he : starEach [e] X.env = [(false, eval e X.env)] := by rfl) (hpl : (backTo pos (starEach ([] : List Expr) X.env)).any (·.1) = false := by rfl) : EE X (.Call (.Name "list" p0) [e] [] pos) ρ (.list ds) ρ1 :=
  ee_tCB (pe_callTy call_list_of hg hm (by decide +kernel) pa_s (by decide) (by decide) he hpl) (ea_cons ha ea_nil he) (ra_list hx)
theorem ee_tupleOf {xs : PyData} (hx : xs = .list ds ∨ xs = .tuple ds) (hm : X.mg "tuple" = none) (ha : EE X e ρ xs ρ1) (hg : Gl X "tuple" := by rfl) (he : starEach [e] X.env = [(false, eval e X.env)] := by rfl) (hpl : (backTo pos (starEach ([] : List Expr) X.env)).any (·.1) = false := by rfl) : EE X (.Call (.Name "tuple" p0) [e] [] pos) ρ (.tuple ds) ρ1 :=
  ee_tCB (pe_callTy call_tuple_of hg hm (by decide +kernel) pa_s (by decide) (by decide) he hpl) (ea_cons ha ea_nil he) (ra_tuple hx)
end

/-! ### sorted(.., reverse=True) of ints -/
def insD (x : Int) : List Int → List Int
  | [] => [x]
  | y :: r => if y ≤ x then x :: y :: r else y :: insD x r
def sortD : List Int → List Int
  | [] => []
  | x :: r => insD x (sortD r)
theorem insD_perm (x : Int) : ∀ l, (insD x l).Perm (x :: l)
  | [] => .refl _
  | y :: r => by
    unfold insD
    split
    · exact .refl _
    · exact ((insD_perm x r).cons y).trans (List.Perm.swap x y r)
theorem sortD_perm : ∀ l, (sortD l).Perm l
  | [] => .refl _
  | x :: r => (insD_perm x _).trans ((sortD_perm r).cons x)
theorem insD_sorted (x : Int) : ∀ l : List Int, l.Pairwise (· ≥ ·) → (insD x l).Pairwise (· ≥ ·)
  | [], _ => by unfold insD; simp
  | y :: r, h => by
    unfold insD
    rw [List.pairwise_cons] at h
    split
    · rename_i hy
      rw [List.pairwise_cons, List.pairwise_cons]
      refine ⟨fun z hz => ?_, h⟩
      rcases List.mem_cons.mp hz with rfl | hz
      · exact hy
      · exact Int.le_trans (h.1 z hz) hy
    · rename_i hy
      rw [List.pairwise_cons]
      refine ⟨fun z hz => ?_, insD_sorted x r h.2⟩
      rcases List.mem_cons.mp ((insD_perm x r).mem_iff.mp hz) with rfl | hz
      · show z ≤ y
        omega
      · exact h.1 z hz
theorem sortD_sorted : ∀ l, (sortD l).Pairwise (· ≥ ·)
  | [] => .nil
  | x :: r => insD_sorted x _ (sortD_sorted r)
theorem sorted_uniq : ∀ {l m : List Int}, l.Perm m → l.Pairwise (· ≥ ·) → m.Pairwise (· ≥ ·) → l = m
  | [], m, h, _, _ => (List.nil_perm.mp h).symm ▸ rfl
  | x :: l, [], h, _, _ => by
    have := h.length_eq
    simp at this
  | x :: l, y :: m, h, hl, hm => by
    rw [List.pairwise_cons] at hl hm
    have e : x = y := by
      have h1 : x ∈ y :: m := h.mem_iff.mp (by simp)
      have h2 : y ∈ x :: l := h.mem_iff.mpr (by simp)
      rcases List.mem_cons.mp h1 with rfl | h1
      · rfl
      · rcases List.mem_cons.mp h2 with rfl | h2
        · rfl
        · have := hl.1 y h2
          have := hm.1 x h1
          omega
    subst e
    rw [sorted_uniq (List.Perm.cons_inv h) hl.2 hm.2]
section
variable {X : Cx} {e : Expr} {ρ ρ1 : List Sl} {ns : List Int} {p0 p1 pos kp : Pos} {kn : Nat}
theorem ee_sortedRev (hm : X.mg "sorted" = none) (ha : EE X e ρ (.list (ns.map .int)) ρ1) (h : PE X (.Call (.Name "sorted" p0) [e] [⟨some "reverse", .Constant (.bool true) kn p1, kp⟩] pos) (tCKw (rSortedKw X.K true [.bl true]) (tCons (sE X e) tNil) (tCons (tC (.bl true)) tNil))) :
    EE X (.Call (.Name "sorted" p0) [e] [⟨some "reverse", .Constant (.bool true) kn p1, kp⟩] pos) ρ (.list ((sortD ns).map .int)) ρ1 := fun bi σ0 B H0 σ Hk Hr I Q q => by
  refine sE_of h (ha bi σ0 B H0 σ Hk Hr I _ fun v Hk1 Hr1 I1 m1 h1 => ?_)
  cases h1 with
  | lst hs ha =>
    have e1 := DpAll.ints ha
    subst e1
    refine ⟨_, ns, rfl, rfl, same_l I1.kr hs, fun ns' p hp ho hf => ?_⟩
    have : ns' = sortD ns := sorted_uniq (hp.trans (sortD_perm ns).symm) ho (sortD_sorted ns)
    subst this
    exact q _ _ _ (I1.gro (new_same hf _)) (m1.trans (gro_same I1.kr)) (gro_lst I1.kr hf (DpAll.of_ints _))
/-! ### isinstance of a scalar -/
def tyN : PyData → String
  | .none => "NoneType" | .bool _ => "bool" | .int _ => "int" | .str _ => "str" | .list _ => "list" | .tuple _ => "tuple" | .dict _ => "dict"
def isScal : PyData → Bool
  | .none | .bool _ | .int _ | .str _ => true
  | _ => false
theorem ty_scal {K : PySem.W.Frag} {H : Hp} {v : V} {d : PyData} (h : Dp K H v d) (s : isScal d = true) : TyX K H v (.type (tyN d)) := by
  cases h with
  | non => exact .base .non
  | bl b => exact .base (.bl b)
  | int i => exact .base (.int i)
  | str x => exact .base (.str x)
  | lst _ _ => cases s
  | tup _ _ => cases s
theorem ee_isS {T : String} {t : Expr} {d : PyData} {k : Bool} (ha : EE X e ρ d ρ1) (hs : isScal d = true) (hk : kitB (tyN d) T = some k) (h : PE X (.Call (.Name "isinstance" p0) [e, t] [] pos) (tCB (rIsi X.K) (tCons (sE X e) (tCons (tC (.ty T)) tNil)))) : EE X (.Call (.Name "isinstance" p0) [e, t] [] pos) ρ (.bool k) ρ1 := fun bi σ0 B H0 σ Hk Hr I Q q => by
  refine sE_of h (ha bi σ0 B H0 σ Hk Hr I _ fun v Hk1 Hr1 I1 m1 h1 => ?_)
  exact ⟨v, .ty T, .type (tyN d), .type T, k, rfl, .ty T, ty_scal (Dp.mono I1.kr _ h1) hs, kit_ty hk, q _ Hk1 Hr1 I1 m1 (.bl _)⟩
end
/-! ### equality of tuples and lists of ints -/
theorem eqvAll_ints : ∀ xs ys : List Int, PyData.eqvAll (xs.map .int) (ys.map .int) = decide (xs = ys)
  | [], [] => by simp [PyData.eqvAll]
  | [], _ :: _ => by simp [PyData.eqvAll]
  | _ :: _, [] => by simp [PyData.eqvAll]
  | x :: xs, y :: ys => by
    simp only [List.map_cons, PyData.eqvAll, PyData.eqv, eqvAll_ints xs ys]
    by_cases h : x = y
    · subst h
      by_cases h2 : xs = ys
      · simp [h2]
      · simp [h2]
    · simp [h]
theorem eqv_tup (xs ys : List Int) : PyData.eqv (.tuple (xs.map .int)) (.tuple (ys.map .int)) = decide (xs = ys) := by
  simp only [PyData.eqv, eqvAll_ints]
theorem canLay_ints : ∀ xs : List Int, PyData.canLayAll0 (xs.map .int) = true
  | [] => by simp [PyData.canLayAll0]
  | x :: xs => by simp [PyData.canLayAll0, PyData.canLay0, canLay_ints xs]
theorem depth_ints : ∀ xs : List Int, PyData.depthAll (xs.map .int) = 0
  | [] => by simp [PyData.depthAll]
  | x :: xs => by simp [PyData.depthAll, PyData.depth, depth_ints xs]
theorem shaped_int (i : Int) : SeqAt.shaped (.int i) = true := by simp [SeqAt.shaped, PyData.canLay0, PyData.depth]
theorem shaped_bool (i : Bool) : SeqAt.shaped (.bool i) = true := by simp [SeqAt.shaped, PyData.canLay0, PyData.depth]
theorem shaped_none : SeqAt.shaped .none = true := by simp [SeqAt.shaped, PyData.canLay0, PyData.depth]
theorem shaped_tup (xs : List Int) : SeqAt.shaped (.tuple (xs.map .int)) = true := by simp [SeqAt.shaped, PyData.canLay0, PyData.depth, canLay_ints, depth_ints]
theorem shaped_lst (xs : List Int) : SeqAt.shaped (.list (xs.map .int)) = true := by simp [SeqAt.shaped, PyData.canLay0, PyData.depth, canLay_ints, depth_ints]
/-- lists of tuples of ints -/
def dT (xs : List Int) : PyData := .tuple (xs.map .int)
theorem canLay_tups : ∀ xs : List (List Int), PyData.canLayAll0 (xs.map dT) = true
  | [] => by simp [PyData.canLayAll0]
  | x :: xs => by simp [PyData.canLayAll0, dT, PyData.canLay0, canLay_ints, canLay_tups xs]
theorem depth_tups : ∀ xs : List (List Int), PyData.depthAll (xs.map dT) ≤ 1
  | [] => by simp [PyData.depthAll]
  | x :: xs => by
    have := depth_tups xs
    simp [PyData.depthAll, dT, PyData.depth, depth_ints]
    omega
theorem shaped_lstT (xs : List (List Int)) : SeqAt.shaped (.list (xs.map dT)) = true := by
  have := depth_tups xs
  simp [SeqAt.shaped, PyData.canLay0, PyData.depth, canLay_tups]
  omega
theorem shaped_tupT (xs : List (List Int)) : SeqAt.shaped (.tuple (xs.map dT)) = true := by
  have := depth_tups xs
  simp [SeqAt.shaped, PyData.canLay0, PyData.depth, canLay_tups]
  omega
theorem eqvAll_tups : ∀ xs ys : List (List Int), PyData.eqvAll (xs.map dT) (ys.map dT) = decide (xs = ys)
  | [], [] => by simp [PyData.eqvAll]
  | [], _ :: _ => by simp [PyData.eqvAll]
  | _ :: _, [] => by simp [PyData.eqvAll]
  | x :: xs, y :: ys => by
    have h0 : PyData.eqv (dT x) (dT y) = decide (x = y) := eqv_tup x y
    simp only [List.map_cons, PyData.eqvAll, h0, eqvAll_tups xs ys]
    by_cases h : x = y
    · subst h
      by_cases h2 : xs = ys
      · simp [h2]
      · simp [h2]
    · simp [h]
end Pd
namespace Pd
open PySem L2 PySem.Spec PyProof.Rows RZ RT

/-- hi, hi - 1, .. : n ints -/
def dwnD (hi : Int) (n : Nat) : List PyData := (List.range n).map fun i => .int (hi + (i : Nat) * (-1))
theorem dwnD_len {lo : Int} {n : Nat} : (dwnD lo n).length = n := by unfold dwnD; simp
theorem dwnD_get {lo : Int} {n i : Nat} {d : PyData} (h : (dwnD lo n)[i]? = some d) : i < n ∧ d = .int (lo + (i : Nat) * (-1)) := by
  unfold dwnD at h
  rw [List.getElem?_map] at h
  by_cases q : i < n
  · rw [List.getElem?_range q] at h
    exact ⟨q, (Option.some.inj h).symm⟩
  · rw [List.getElem?_eq_none (by simp; omega)] at h
    cases h
theorem wk_dwn {K : PySem.W.Frag} {Hk : Hp} {lo : Int} {n : Nat} : Wk K (Itc lo (-1) n) (dwnD lo n) Hk := Wk.of fun i Hr e => ⟨fun hi => by rw [dwnD_len] at hi; exact hi, fun hi => by rw [dwnD_len] at hi; exact hi, fun x H' hy => by
  obtain ⟨rfl, rfl⟩ := hy
  refine ⟨Same.refl _, fun d hd => ?_⟩
  obtain ⟨_, rfl⟩ := dwnD_get hd
  exact .int _⟩
section
variable {X : Cx} {tg a b c e : Expr} {ρ ρ1 ρ2 ρ3 : List Sl} {i j : Int} {ds es : List PyData} {p0 pos tpos : Pos} {kk : Nat} {elts : List Expr}
/-- range(i, j, -1) -/
theorem ei_down (hm : X.mg "range" = none) (ha : EA X [a, b, c] ρ [.int i, .int j, .int (-1)] ρ1) (hj : -(2 ^ 62) ≤ i ∧ i < 2 ^ 62 ∧ -(2 ^ 62) ≤ j ∧ j < 2 ^ 62) (hg : Gl X "range" := by rfl)
    (hs : starEach [a, b, c] X.env = (false, eval a X.env) :: starEach [b, c] X.env := by rfl) (hpl : (backTo pos (starEach [b, c] X.env)).any (·.1) = false := by rfl) : EI X tg (.Call (.Name "range" p0) [a, b, c] [] pos) ρ (dwnD i (i - j).toNat) ρ1 :=
  ⟨_, pi_range3 hg hm pa_s hs hpl, fun bi σ0 B H0 σ Hk Hr I R q => ha bi σ0 B H0 σ Hk Hr I _ fun vs Hk1 Hr1 I1 m1 h1 => by
    cases h1 with
    | cons h1 h2 =>
      cases h1
      cases h2 with
      | cons h2 h3 =>
        cases h2
        cases h3 with
        | cons h3 h4 =>
          cases h3; cases h4
          exact ⟨i, j, -1, (i - j).toNat, rfl, RgC.neg hj.1 hj.2.1 hj.2.2.1 hj.2.2.2, q _ Hk1 Hr1 I1 m1 wk_dwn⟩⟩
/-- the pairs of two rows -/
def zipD (ds es : List PyData) : List PyData := List.zipWith (fun x y => .tuple [x, y]) ds es
theorem zipD_len : (zipD ds es).length = min ds.length es.length := by unfold zipD; simp
theorem zipD_get {d : PyData} {n : Nat} (h : (zipD ds es)[n]? = some d) : ∃ x y, ds[n]? = some x ∧ es[n]? = some y ∧ d = .tuple [x, y] := by
  unfold zipD at h
  rw [List.getElem?_zipWith] at h
  cases h1 : ds[n]? with
  | none => rw [h1] at h; cases h
  | some x =>
    cases h2 : es[n]? with
    | none => rw [h1, h2] at h; cases h
    | some y =>
      rw [h1, h2] at h
      exact ⟨x, y, rfl, rfl, (Option.some.inj h).symm⟩
theorem wk_zipT {K : PySem.W.Frag} {Hk : Hp} {a b : Addr} {xs ys : List V} (hs : SqT K Hk a xs) (ht : SqT K Hk b ys) (hx : DpAll K Hk xs ds) (hy : DpAll K Hk ys es) : Wk K (ItzT K a b) (zipD ds es) Hk := Wk.of fun i Hr e => by
  have l1 := DpAll.len hx
  have l2 := DpAll.len hy
  refine ⟨fun hi => ?_, fun hi => ?_, fun x H' h => ?_⟩
  · rw [zipD_len] at hi
    exact ⟨xs, ys, _, _, same_t e hs, same_t e ht, List.getElem?_eq_getElem (by omega), List.getElem?_eq_getElem (by omega)⟩
  · rw [zipD_len] at hi
    exact ⟨xs, ys, same_t e hs, same_t e ht, by omega⟩
  · obtain ⟨T, x1, y1, rfl, hT, rfl, f1, f2⟩ := h
    refine ⟨new_same hT _, fun d hd => ?_⟩
    obtain ⟨dx, dy, g1, g2, rfl⟩ := zipD_get hd
    obtain ⟨v1, s1, s2⟩ := DpAll.get hx g1
    obtain ⟨v2, t1, t2⟩ := DpAll.get hy g2
    have e1 := f1 _ (same_t e hs)
    have e2 := f2 _ (same_t e ht)
    rw [s1] at e1
    rw [t1] at e2
    have e1 := Option.some.inj e1
    have e2 := Option.some.inj e2
    subst e1; subst e2
    exact gro_tup e hT (.cons s2 (.cons t2 .nil))
theorem wk_zipL {K : PySem.W.Frag} {Hk : Hp} {a b : Addr} {xs ys : List V} (hs : SqL K Hk a xs) (ht : SqL K Hk b ys) (hx : DpAll K Hk xs ds) (hy : DpAll K Hk ys es) : Wk K (Itz K a b) (zipD ds es) Hk := Wk.of fun i Hr e => by
  have l1 := DpAll.len hx
  have l2 := DpAll.len hy
  refine ⟨fun hi => ?_, fun hi => ?_, fun x H' h => ?_⟩
  · rw [zipD_len] at hi
    exact ⟨xs, ys, _, _, same_l e hs, same_l e ht, List.getElem?_eq_getElem (by omega), List.getElem?_eq_getElem (by omega)⟩
  · rw [zipD_len] at hi
    exact ⟨xs, ys, same_l e hs, same_l e ht, by omega⟩
  · obtain ⟨T, x1, y1, rfl, hT, rfl, f1, f2⟩ := h
    refine ⟨new_same hT _, fun d hd => ?_⟩
    obtain ⟨dx, dy, g1, g2, rfl⟩ := zipD_get hd
    obtain ⟨v1, s1, s2⟩ := DpAll.get hx g1
    obtain ⟨v2, t1, t2⟩ := DpAll.get hy g2
    have e1 := f1 _ (same_l e hs)
    have e2 := f2 _ (same_l e ht)
    rw [s1] at e1
    rw [t1] at e2
    have e1 := Option.some.inj e1
    have e2 := Option.some.inj e2
    subst e1; subst e2
    exact gro_tup e hT (.cons s2 (.cons t2 .nil))
theorem ei_zipT {e2 : Expr} (hm : X.mg "zip" = none) (ha : EA X [e, e2] ρ [.tuple ds, .tuple es] ρ1) (hg : Gl X "zip" := by rfl) (hs : starEach [e, e2] X.env = (false, eval e X.env) :: starEach [e2] X.env := by rfl) (hpl : (backTo pos (starEach [e2] X.env)).any (·.1) = false := by rfl) :
    EI X (.Tuple elts kk tpos) (.Call (.Name "zip" p0) [e, e2] [] pos) ρ (zipD ds es) ρ1 := ⟨_, pi_zipA hg hm pa_s hs hpl, fun bi σ0 B H0 σ Hk Hr I R q => ha bi σ0 B H0 σ Hk Hr I _ fun vs Hk1 Hr1 I1 m1 h1 => by
  cases h1 with
  | cons h1 h2 =>
    cases h2 with
    | cons h2 h3 =>
      cases h3
      cases h1 with
      | tup hs hx =>
        cases h2 with
        | tup ht hy => exact ⟨_, _, _, _, rfl, .inr ⟨same_t I1.kr hs, same_t I1.kr ht, q _ Hk1 Hr1 I1 m1 (wk_zipT hs ht hx hy)⟩⟩⟩
theorem ei_zipL {e2 : Expr} (hm : X.mg "zip" = none) (ha : EA X [e, e2] ρ [.list ds, .list es] ρ1) (hg : Gl X "zip" := by rfl) (hs : starEach [e, e2] X.env = (false, eval e X.env) :: starEach [e2] X.env := by rfl) (hpl : (backTo pos (starEach [e2] X.env)).any (·.1) = false := by rfl) :
    EI X (.Tuple elts kk tpos) (.Call (.Name "zip" p0) [e, e2] [] pos) ρ (zipD ds es) ρ1 := ⟨_, pi_zipA hg hm pa_s hs hpl, fun bi σ0 B H0 σ Hk Hr I R q => ha bi σ0 B H0 σ Hk Hr I _ fun vs Hk1 Hr1 I1 m1 h1 => by
  cases h1 with
  | cons h1 h2 =>
    cases h2 with
    | cons h2 h3 =>
      cases h3
      cases h1 with
      | lst hs hx =>
        cases h2 with
        | lst ht hy => exact ⟨_, _, _, _, rfl, .inl ⟨same_l I1.kr hs, same_l I1.kr ht, q _ Hk1 Hr1 I1 m1 (wk_zipL hs ht hx hy)⟩⟩⟩
/-- reversed(a list) -/
theorem ei_rev (hm : X.mg "reversed" = none) (ha : EE X e ρ (.list ds) ρ1) (hg : Gl X "reversed" := by rfl) (hs : starEach [e] X.env = (false, eval e X.env) :: starEach [] X.env := by rfl) : EI X tg (.Call (.Name "reversed" p0) [e] [] pos) ρ ds.reverse ρ1 :=
  ⟨_, pi_revA hg hm pe_s hs, fun bi σ0 B H0 σ Hk Hr I R q => ha bi σ0 B H0 σ Hk Hr I _ fun v Hk1 Hr1 I1 m1 h1 => by
    cases h1 with
    | lst hs hx =>
      rename_i xs
      have l1 := DpAll.len hx
      refine ⟨_, _, rfl, .inl ⟨same_l I1.kr hs, q _ Hk1 Hr1 I1 m1 <| Wk.of fun i Hr2 e2 => ⟨fun hi => ?_, fun hi => ?_, fun x H' hy => ?_⟩⟩⟩
      · rw [List.length_reverse] at hi
        exact ⟨by omega, _, _, same_l e2 hs, List.getElem?_eq_getElem (by omega)⟩
      · rw [List.length_reverse] at hi
        show xs.length ≤ i
        omega
      · obtain ⟨rfl, f⟩ := hy
        refine ⟨Same.refl _, fun d hd => ?_⟩
        have hlt : i < ds.length := by
          have := (List.getElem?_eq_some_iff.mp hd).1
          simpa using this
        rw [List.getElem?_reverse hlt] at hd
        obtain ⟨v, s1, s2⟩ := DpAll.get hx hd
        have := f _ (same_l e2 hs)
        rw [l1, s1] at this
        have := Option.some.inj this
        subst this
        exact Dp.mono (gro_same e2) d s2⟩
end

end Pd
namespace Pd
open PySem L2 PySem.Spec PyProof.Rows

section
variable {X : Cx}
def rSumT (K : PySem.W.Frag) : List V → Hp → VK → Prop := fun vs H Q => ∃ (a : Addr) (ns : List Int), vs = [V.ref a] ∧ SqT K H a (ns.map V.int) ∧ Q (.int ns.sum) H
theorem cr_sumT (hc : X.calm = true) : CallR X (.builtin "sum") (rSumT X.K) := by
  intro pins s σ H vs us Q I r h
  obtain ⟨t, nums, rfl, ht, goal⟩ := h
  obtain ⟨conc, rel, ist, _⟩ := I.tuple ht
  rw [Vals.ref1 r]
  have allI := rel.ints
  obtain ⟨pairs, ep⟩ := allI.allInts.items
  have en : numsOf (intItems pairs).toList = nums := ep ▸ allI.numsOf
  rw [ep] at ist
  refine PySem.W.ktm_sumG (I.ok.hd hc) ist fun h' tk t' more => ?_
  rw [nums_intItems] at en
  rw [preSum_eq, List.take_of_length_le (Nat.le_of_eq (by rw [List.length_map, Array.length_toList])), en]
  exact ⟨.int _, H, I.kept more, ⟨_, rfl⟩, goal⟩
end
section
variable {X : Cx} {e a b : Expr} {es : List Expr} {ρ ρ1 ρ2 : List Sl} {ds : List PyData} {d : PyData} {p0 p1 pos : Pos} {ns ms : List Int} {bs : List Bool} {k m : Bool}
theorem ee_sumT (hm : X.mg "sum" = none) (ha : EE X e ρ (.tuple (ns.map .int)) ρ1) (hg : Gl X "sum" := by rfl) (hc : X.calm = true := by rfl) (he : starEach [e] X.env = [(false, eval e X.env)] := by rfl) (hpl : (backTo pos (starEach ([] : List Expr) X.env)).any (·.1) = false := by rfl) : EE X (.Call (.Name "sum" p0) [e] [] pos) ρ (.int ns.sum) ρ1 :=
  ee_tCB (pe_callB (cr_sumT hc) hg hm (by decide +kernel) pa_s (by decide) (by decide) he hpl) (ea_cons ha ea_nil he) (fun vs Hk Hr kr h Q q => by
    cases h with
    | cons h1 h2 =>
      cases h2
      cases h1 with
      | tup hs ha =>
        have := DpAll.ints ha
        subst this
        exact ⟨_, ns, rfl, same_t kr hs, q _ Hr (Same.refl _) (.int _)⟩)
theorem ee_sumL (hm : X.mg "sum" = none) (ha : EE X e ρ (.list (ns.map .int)) ρ1) (hg : Gl X "sum" := by rfl) (hc : X.calm = true := by rfl) (he : starEach [e] X.env = [(false, eval e X.env)] := by rfl) (hpl : (backTo pos (starEach ([] : List Expr) X.env)).any (·.1) = false := by rfl) : EE X (.Call (.Name "sum" p0) [e] [] pos) ρ (.int ns.sum) ρ1 :=
  ee_tCB (pe_callB (cr_sum hc) hg hm (by decide +kernel) pa_s (by decide) (by decide) he hpl) (ea_cons ha ea_nil he) (fun vs Hk Hr kr h Q q => by
    cases h with
    | cons h1 h2 =>
      cases h2
      cases h1 with
      | lst hs ha =>
        have := DpAll.ints ha
        subst this
        exact ⟨_, ns, rfl, same_l kr hs, q _ Hr (Same.refl _) (.int _)⟩)
theorem DpAll.bools {K : PySem.W.Frag} {H : Hp} : ∀ {vs : List V} {bs : List Bool}, DpAll K H vs (bs.map PyData.bool) → vs = bs.map V.bl
  | _, [], h => by cases h; rfl
  | _, n :: ns, h => by
    cases h with
    | cons h1 h2 =>
      cases h1
      simp [DpAll.bools h2]
theorem ee_all (hm : X.mg "all" = none) (ha : EE X e ρ (.list (bs.map .bool)) ρ1) (hg : Gl X "all" := by rfl) (hc : X.calm = true := by rfl) (he : starEach [e] X.env = [(false, eval e X.env)] := by rfl) (hpl : (backTo pos (starEach ([] : List Expr) X.env)).any (·.1) = false := by rfl) : EE X (.Call (.Name "all" p0) [e] [] pos) ρ (.bool (bs.all id)) ρ1 :=
  ee_tCB (pe_callB (cr_all hc) hg hm (by decide +kernel) pa_s (by decide) (by decide) he hpl) (ea_cons ha ea_nil he) (fun vs Hk Hr kr h Q q => by
    cases h with
    | cons h1 h2 =>
      cases h2
      cases h1 with
      | lst hs ha =>
        have := DpAll.bools ha
        subst this
        exact ⟨_, bs, rfl, same_l kr hs, q _ Hr (Same.refl _) (.bl _)⟩)
/-- x < y, tuples of ints -/
theorem rd_ltT {K : PySem.W.Frag} : RD K (rLtT K) (.tuple (ns.map .int)) (.tuple (ms.map .int)) (.bool (HT.lexLt ns ms)) := fun x y Hk Hr kr hx hy Q q => by
  cases hx with
  | tup hs ha =>
    cases hy with
    | tup ht hb =>
      have := DpAll.ints ha
      subst this
      have := DpAll.ints hb
      subst this
      exact ⟨_, _, ns, ms, rfl, rfl, same_t kr hs, same_t kr ht, q _ Hr (Same.refl _) (.bl _)⟩
/-- x is True -/
theorem rd_isB {K : PySem.W.Frag} : RD K rIsB (.bool k) (.bool m) (.bool (decide (k = m))) := fun x y Hk Hr kr hx hy Q q => by
  cases hx; cases hy
  exact ⟨k, m, rfl, rfl, q _ Hr (Same.refl _) (.bl _)⟩
theorem rd_notB {K : PySem.W.Frag} : RD K rNotB (.bool k) (.bool m) (.bool (!decide (k = m))) := fun x y Hk Hr kr hx hy Q q => by
  cases hx; cases hy
  exact ⟨k, m, rfl, rfl, q _ Hr (Same.refl _) (.bl _)⟩
/-- isinstance(a tuple, T) -/
theorem ty_tup {K : PySem.W.Frag} {H : Hp} {v : V} (h : Dp K H v (.tuple ds)) : TyX K H v (.type "tuple") := by
  cases h with
  | tup hs ha =>
    rcases hs with (h | ⟨o, h⟩) | h
    · exact .base (.tup h)
    · exact .fTuple h
    · obtain ⟨o, its, n, ho, hc, _⟩ := h
      exact .kTuple ho hc
theorem ee_isT {T : String} {t : Expr} (ha : EE X e ρ (.tuple ds) ρ1) (hk : kitB "tuple" T = some k) (h : PE X (.Call (.Name "isinstance" p0) [e, t] [] pos) (tCB (rIsi X.K) (tCons (sE X e) (tCons (tC (.ty T)) tNil)))) : EE X (.Call (.Name "isinstance" p0) [e, t] [] pos) ρ (.bool k) ρ1 := fun bi σ0 B H0 σ Hk Hr I Q q => by
  refine sE_of h (ha bi σ0 B H0 σ Hk Hr I _ fun v Hk1 Hr1 I1 m1 h1 => ?_)
  exact ⟨v, .ty T, .type "tuple", .type T, k, rfl, .ty T, ty_tup (Dp.mono I1.kr _ h1), kit_ty hk, q _ Hk1 Hr1 I1 m1 (.bl _)⟩
end
/-! ### x.extend([..] * k); x, y = .. -/
section
variable {X : Cx} {bi : List Nat} {a b e : Expr} {es : List Expr} {rest : List Stmt} {ρ ρ1 ρ2 : List Sl} {N : List Sl → Prop} {R : RTy} {d1 d2 : PyData} {ds cs : List PyData} {pos epos bpos lpos p0 p1 p2 p3 p4 : Pos} {x y : Str} {n i j : Nat} {k : Int} {kk k2 : Nat}
theorem rep_all {K : PySem.W.Frag} {H : Hp} {vs : List V} (h : DpAll K H vs ds) : ∀ m : Nat, DpAll K H (List.replicate m vs).flatten (List.replicate m ds).flatten
  | 0 => .nil
  | m + 1 => by
    rw [List.replicate_succ, List.replicate_succ, List.flatten_cons, List.flatten_cons]
    exact DpAll.app h (rep_all h m)
theorem ss_par (hN : X.N.Nodup) (hi : X.N[i]? = some x) (hj : X.N[j]? = some y) (hbi : i ∉ bi) (hbj : j ∉ bi) (hes : EA X [a, b] ρ [d1, d2] ρ1) (hr : SS X bi rest ((ρ1.set i (.val d1)).set j (.val d2)) N R)
    (hp : PS X (.Assign [.Tuple [.Name x p0, .Name y p1] kk p2] (.Tuple [a, b] k2 p3) pos) (tPar i j (sA X [a, b]))) : SS X bi (.Assign [.Tuple [.Name x p0, .Name y p1] kk p2] (.Tuple [a, b] k2 p3) pos :: rest) ρ N R := fun σ0 B H0 hz σ Hk Hr D I nx rt =>
  sSs_of (pss_cons hp pss_s) (hes bi σ0 B H0 σ Hk Hr I _ fun vs Hk1 Hr1 I1 m1 h1 => by
    cases h1 with
    | cons h1 h2 =>
      cases h2 with
      | cons h2 h3 =>
        cases h3
        exact ⟨_, _, rfl, hr σ0 B H0 hz _ Hk1 Hr1 D ((I1.set hbi h1).set hbj h2) (fun ρ' σ' Hk' Hr' q I' m' => nx ρ' σ' Hk' Hr' q I' (m1.trans m')) rt⟩)
end
end Pd
namespace L2
open PySem PySem.Spec PyProof.Rows
def rSortedPT (K : PySem.W.Frag) : List V → Hp → VK → Prop := fun vs H Q => ∃ (a : Addr) (xs : List V) (k : V → Int × Int), vs = [V.ref a] ∧ SqL K H a xs ∧ (∀ x ∈ xs, ∃ t, x = V.ref t ∧ SqT K H t [.int (k x).1, .int (k x).2]) ∧
  ∀ ys p, SrtO.Srtd (ltP k) ys → SrtO.Stb (ltP k) ys xs → H p = none → Q (.ref p) (upd H p (.lst ys))
section
variable {X : Cx}
theorem cr_sortedPT : CallR X (.builtin "sorted") (rSortedPT X.K) := by
  intro pins s σ H vs us Q I r h
  obtain ⟨lst, vals, key, rfl, hlst, hpair, goal⟩ := h
  obtain ⟨w, rfl, rw0⟩ := vals1 r
  obtain rfl : w = Value.ref lst := rw0
  obtain ⟨conc, rel, isl, fit⟩ := I.list hlst
  have back := refs_back rel fun x m => Exists.elim (hpair x m) fun t e => ⟨t, e.1⟩
  have fit2 : conc.length ≤ sizeLine := rel.length ▸ fit
  refine SrtO.sorted_pairsO (k := fun u => key (backV u)) isl.isList fit2 (fun v hv => ?_) fun h' dst out o1 o2 kp fresh laidAt => ?_
  · obtain ⟨t, rfl⟩ := back.2 v hv
    have inV : V.ref t ∈ vals := back.1 ▸ List.mem_map.mpr ⟨_, hv, rfl⟩
    obtain ⟨t', e, ht⟩ := hpair _ inV
    cases e
    obtain ⟨cells, rc, ⟨ob, g1, g2, cap, g3⟩, _⟩ := I.tuple ht
    obtain ⟨c1, c2, rfl, ⟨k1, q1⟩, ⟨k2, q2⟩⟩ := vals2 rc
    subst q1; subst q2
    exact ⟨t, ob, k1, k2, cap, rfl, g1, g2, g3⟩
  · obtain ⟨cap, held⟩ := laidAt
    have refs : ∀ u ∈ out, ∃ z, u = Value.ref z := fun u hu => back.2 u (o2.perm.mem_iff.mp hu)
    have stab : SrtO.Stb (ltP key) (out.map backV) vals := back.1 ▸ SrtO.Stb.map (ltP_swo key) backV o2
    have fit3 : (out.map backV).length ≤ sizeLine := stab.len ▸ fit
    exact ⟨.ref dst, upd H dst (.lst (out.map backV)), I.laid (t' := s.toks) kp fresh ⟨fit3, out, cap, vals_back refs, held⟩, rfl, goal _ dst (SrtO.srtd_map o1) stab (I.hok.fresh fresh)⟩
end
end L2
namespace Pd
open PySem L2 PySem.Spec PyProof.Rows
/-- sorted pairs -/
def insP (x : Int × Int) : List (Int × Int) → List (Int × Int)
  | [] => [x]
  | y :: r => if SrtO.lexB y x then y :: insP x r else x :: y :: r
def sortP : List (Int × Int) → List (Int × Int)
  | [] => []
  | x :: r => insP x (sortP r)
theorem insP_perm (x : Int × Int) : ∀ l, (insP x l).Perm (x :: l)
  | [] => .refl _
  | y :: r => by
    unfold insP
    split
    · exact ((insP_perm x r).cons y).trans (List.Perm.swap x y r)
    · exact .refl _
theorem sortP_perm : ∀ l, (sortP l).Perm l
  | [] => .refl _
  | x :: r => (insP_perm x _).trans ((sortP_perm r).cons x)
abbrev SrP (l : List (Int × Int)) : Prop := l.Pairwise fun x y => SrtO.lexB y x = false
theorem insP_sorted (x : Int × Int) : ∀ l, SrP l → SrP (insP x l)
  | [], _ => by unfold insP; exact List.pairwise_singleton _ _
  | y :: r, h => by
    have h0 := List.pairwise_cons.mp h
    unfold insP
    split
    · rename_i hy
      refine List.pairwise_cons.mpr ⟨fun z hz => ?_, insP_sorted x r h0.2⟩
      rcases List.mem_cons.mp ((insP_perm x r).mem_iff.mp hz) with rfl | hz
      · have := SrtO.lexB_iff.mp hy
        refine SrtO.lexB_no.mpr ?_
        omega
      · exact h0.1 z hz
    · rename_i hy
      have hy : SrtO.lexB y x = false := by simpa using hy
      refine List.pairwise_cons.mpr ⟨fun z hz => ?_, h⟩
      rcases List.mem_cons.mp hz with rfl | hz
      · exact hy
      · have a := SrtO.lexB_no.mp hy
        have b := SrtO.lexB_no.mp (h0.1 z hz)
        refine SrtO.lexB_no.mpr ?_
        omega
theorem sortP_sorted : ∀ l, SrP (sortP l)
  | [] => .nil
  | x :: r => insP_sorted x _ (sortP_sorted r)
theorem srP_uniq : ∀ {l m : List (Int × Int)}, l.Perm m → SrP l → SrP m → l = m
  | [], m, h, _, _ => (List.nil_perm.mp h).symm ▸ rfl
  | x :: l, [], h, _, _ => by
    have := h.length_eq
    simp at this
  | x :: l, y :: m, h, hl, hm => by
    have hl := List.pairwise_cons.mp hl
    have hm := List.pairwise_cons.mp hm
    have e : x = y := by
      have h1 : x ∈ y :: m := h.mem_iff.mp (by simp)
      have h2 : y ∈ x :: l := h.mem_iff.mpr (by simp)
      rcases List.mem_cons.mp h1 with rfl | h1
      · rfl
      · rcases List.mem_cons.mp h2 with rfl | h2
        · rfl
        · have a := SrtO.lexB_no.mp (hl.1 y h2)
          have b := SrtO.lexB_no.mp (hm.1 x h1)
          obtain ⟨x1, x2⟩ := x
          obtain ⟨y1, y2⟩ := y
          simp only at a b
          have : x1 = y1 := by omega
          have : x2 = y2 := by omega
          simp [*]
    subst e
    rw [srP_uniq (List.Perm.cons_inv h) hl.2 hm.2]
/-- a list of pairs -/
def dP (p : Int × Int) : PyData := .tuple [.int p.1, .int p.2]
/-- sorted(xs), xs pairs of ints -/
def rSortedPD (K : PySem.W.Frag) : List V → Hp → VK → Prop := fun vs H Q => ∃ (a : Addr) (xs : List V) (ps : List (Int × Int)), vs = [V.ref a] ∧ SqL K H a xs ∧ DpAll K H xs (ps.map dP) ∧
  ∀ (ys : List V) (p : Addr), ys.length = ps.length → (∀ z, z ∈ ys.zip (sortP ps) → z ∈ xs.zip ps) → H p = none → Q (.ref p) (upd H p (.lst ys))
theorem pair_key {X : Cx} {pins : List (Addr × Obj)} {s : Shared} {σ : L2.St} {H : Hp} (I : Inv X pins σ H s) : ∀ {vs : List V} {ps : List (Int × Int)}, DpAll X.K H vs (ps.map dP) → ∃ k : V → Int × Int, vs.map k = ps ∧ ∀ v ∈ vs, ∃ t, v = .ref t ∧ SqT X.K H t [.int (k v).1, .int (k v).2] := fun {vs ps} h => by
  classical
  have tu : ∀ {v : V} {p : Int × Int}, Dp X.K H v (dP p) → ∃ t, v = .ref t ∧ SqT X.K H t [.int p.1, .int p.2] := fun {v p} h1 => by
    cases h1 with
    | tup hs ha =>
      cases ha with
      | cons a1 a2 =>
        cases a2 with
        | cons a2 a3 =>
          cases a1; cases a2; cases a3
          exact ⟨_, rfl, hs⟩
  have uniq : ∀ {v : V} {p q : Int × Int}, Dp X.K H v (dP p) → Dp X.K H v (dP q) → p = q := fun {v p q} h1 h2 => by
    obtain ⟨t, e1, s1⟩ := tu h1
    obtain ⟨t2, e2, s2⟩ := tu h2
    rw [e1] at e2
    cases e2
    obtain ⟨its, r, ⟨o, ho, _, n, hd⟩, _⟩ := I.tuple s1
    obtain ⟨its2, r2, ⟨o2, ho2, _, n2, hd2⟩, _⟩ := I.tuple s2
    rw [ho] at ho2
    have ho2 := Option.some.inj ho2
    subst ho2
    rw [hd] at hd2
    injection hd2 with hd2
    have e : its = its2 := by simpa using hd2
    subst e
    obtain ⟨u1, u2, rfl, ⟨t1, i1⟩, ⟨t2, i2⟩⟩ := vals2 r
    obtain ⟨w1, w2, ew, ⟨t3, j1⟩, ⟨t4, j2⟩⟩ := vals2 r2
    injection ew with ew1 ew2
    injection ew2 with ew2 _
    subst ew1; subst ew2
    rw [i1] at j1
    rw [i2] at j2
    injection j1 with j1 _
    injection j2 with j2 _
    obtain ⟨p1, p2⟩ := p
    obtain ⟨q1, q2⟩ := q
    simp only at j1 j2
    rw [j1, j2]
  have kk : ∀ {v : V} {p : Int × Int}, Dp X.K H v (dP p) → (if hv : ∃ p, Dp X.K H v (dP p) then hv.choose else (0, 0)) = p := fun {v p} h1 => by
    have ex : ∃ p, Dp X.K H v (dP p) := ⟨p, h1⟩
    rw [dif_pos ex]
    exact uniq ex.choose_spec h1
  refine ⟨fun v => if hv : ∃ p, Dp X.K H v (dP p) then hv.choose else (0, 0), ?_, ?_⟩
  · induction ps generalizing vs with
    | nil => cases h; rfl
    | cons p ps ih =>
      cases h with
      | cons h1 h2 =>
        rw [List.map_cons, ih h2, kk h1]
  · induction ps generalizing vs with
    | nil => cases h; intro v hv; cases hv
    | cons p ps ih =>
      cases h with
      | cons h1 h2 =>
        intro v hv
        rcases List.mem_cons.mp hv with rfl | hv
        · show ∃ t, v = V.ref t ∧ SqT X.K H t [.int (if hv : ∃ p, Dp X.K H v (dP p) then hv.choose else (0, 0)).1, .int (if hv : ∃ p, Dp X.K H v (dP p) then hv.choose else (0, 0)).2]
          rw [kk h1]
          exact tu h1
        · exact ih h2 v hv
theorem cr_sortedPD {X : Cx} : CallR X (.builtin "sorted") (rSortedPD X.K) := by
  intro pins s σ H vs us Q I r h
  obtain ⟨a, xs, ps, rfl, hs, hd, q⟩ := h
  obtain ⟨k, hk, hall⟩ := pair_key I hd
  refine cr_sortedPT pins s σ H _ us Q I r ⟨a, xs, k, rfl, hs, hall, fun ys p h1 h2 hp => ?_⟩
  have e : ys.map k = sortP ps := by
    refine srP_uniq (((h2.perm.map k).trans (by rw [hk])).trans (sortP_perm ps).symm) ?_ (sortP_sorted ps)
    exact List.pairwise_map.mpr h1
  refine q ys p ?_ (fun z hz => ?_) hp
  · rw [h2.perm.length_eq, ← hk, List.length_map]
  · rw [← e] at hz
    rw [← hk]
    have zz : ∀ l : List V, l.zip (l.map k) = l.map fun v => (v, k v) := fun l => by
      induction l with
      | nil => rfl
      | cons x l ih => simp [ih]
    rw [zz] at hz ⊢
    exact (h2.perm.map _).mem_iff.mp hz
theorem zip_all {K : PySem.W.Frag} {H : Hp} : ∀ {vs : List V} {ps : List (Int × Int)}, vs.length = ps.length → (∀ z, z ∈ vs.zip ps → Dp K H z.1 (dP z.2)) → DpAll K H vs (ps.map dP)
  | [], [], _, _ => .nil
  | [], _ :: _, h, _ => by simp at h
  | _ :: _, [], h, _ => by simp at h
  | v :: vs, p :: ps, h, g => .cons (g (v, p) (by simp)) (zip_all (by simpa using h) fun z hz => g z (by simp [hz]))
theorem all_zip {K : PySem.W.Frag} {H : Hp} : ∀ {vs : List V} {ps : List (Int × Int)}, DpAll K H vs (ps.map dP) → ∀ z, z ∈ vs.zip ps → Dp K H z.1 (dP z.2)
  | [], _, _, z, hz => by simp at hz
  | _ :: _, [], _, z, hz => by simp at hz
  | v :: vs, p :: ps, h, z, hz => by
    cases h with
    | cons h1 h2 =>
      rw [List.zip_cons_cons] at hz
      rcases List.mem_cons.mp hz with rfl | hz
      · exact h1
      · exact all_zip h2 z hz
section
variable {X : Cx} {e : Expr} {ρ ρ1 : List Sl} {ps : List (Int × Int)} {p0 pos : Pos}
theorem ee_sortedP (hm : X.mg "sorted" = none) (ha : EE X e ρ (.list (ps.map dP)) ρ1) (hg : Gl X "sorted" := by rfl) (he : starEach [e] X.env = [(false, eval e X.env)] := by rfl) (hpl : (backTo pos (starEach ([] : List Expr) X.env)).any (·.1) = false := by rfl) : EE X (.Call (.Name "sorted" p0) [e] [] pos) ρ (.list ((sortP ps).map dP)) ρ1 :=
  ee_tCB (pe_callB cr_sortedPD hg hm (by decide +kernel) pa_s (by decide) (by decide) he hpl) (ea_cons ha ea_nil he) (fun vs Hk Hr kr h Q q => by
    cases h with
    | cons h1 h2 =>
      cases h2
      cases h1 with
      | lst hs ha =>
        rename_i xs
        refine ⟨_, xs, ps, rfl, same_l kr hs, DpAll.mono kr _ ha, fun ys p hl hz hp => ?_⟩
        have hy : DpAll X.K Hk ys ((sortP ps).map dP) := zip_all (by rw [hl, (sortP_perm ps).length_eq]) fun z h => all_zip ha z (hz z h)
        exact q _ _ (new_same hp _) (gro_lst kr hp hy))
end
end Pd
namespace Pd
open PySem L2 PySem.Spec PyProof.Rows
theorem no1 {ρ : List Sl} {i : Nat} (h : ρ[i]? = some .no) : ∀ k ∈ [i], ρ[k]? = some .no := fun k hk => by
  rw [List.mem_singleton.mp hk]; exact h
theorem no2 {ρ : List Sl} {i j : Nat} (h : ρ[i]? = some .no) (h' : ρ[j]? = some .no) : ∀ k ∈ [i, j], ρ[k]? = some .no := fun k hk => by
  rcases List.mem_cons.mp hk with rfl | hk
  · exact h
  · rw [List.mem_singleton.mp hk]; exact h'
theorem ee_neg {X : Cx} {e : Expr} {ρ ρ1 : List Sl} {i : Int} {pos : Pos} (h : EE X e ρ (.int i) ρ1) : EE X (.UnaryOp .USub e pos) ρ (.int (-i)) ρ1 := ee_un un_neg h (fun x Hk Hr kr hx Q q => by cases hx; exact ⟨i, rfl, q _ Hr (Same.refl _) (.int _)⟩)
theorem ee_eq {X : Cx} {a b : Expr} {ρ ρ1 ρ2 : List Sl} {d1 d2 : PyData} {k : Nat} {pos : Pos} (hr : Room k X.A) (ha : EE X a ρ d1 ρ1) (hb : EE X b ρ1 d2 ρ2) (h1 : SeqAt.shaped d1 = true) (h2 : SeqAt.shaped d2 = true) (hm : behindInMarks .Eq b = false := by rfl) : EE X (.Compare a [.Eq] [b] pos) ρ (.bool (PyData.eqv d1 d2)) ρ2 :=
  ee_cmp (op_eqD hr.units) ha hb (rd_eqD h1 h2) hm
theorem et_eq {X : Cx} {a b : Expr} {ρ ρ1 ρ2 : List Sl} {d1 d2 : PyData} {k : Nat} {pos : Pos} (hr : Room k X.A) (ha : EE X a ρ d1 ρ1) (hb : EE X b ρ1 d2 ρ2) (h1 : SeqAt.shaped d1 = true) (h2 : SeqAt.shaped d2 = true) (hm : behindInMarks .Eq b = false := by rfl) : ET X (.Compare a [.Eq] [b] pos) ρ (PyData.eqv d1 d2) ρ2 :=
  et_cmp (op_eqD hr.units) ha hb (rd_eqD h1 h2) hm
theorem et_ne {X : Cx} {a b : Expr} {ρ ρ1 ρ2 : List Sl} {d1 d2 : PyData} {k : Nat} {pos : Pos} (hr : Room k X.A) (ha : EE X a ρ d1 ρ1) (hb : EE X b ρ1 d2 ρ2) (h1 : SeqAt.shaped d1 = true) (h2 : SeqAt.shaped d2 = true) (hm : behindInMarks .NotEq b = false := by rfl) : ET X (.Compare a [.NotEq] [b] pos) ρ (!PyData.eqv d1 d2) ρ2 :=
  et_cmp (op_neD hr.units) ha hb (rd_neD h1 h2) hm
theorem eqv_int (i j : Int) : PyData.eqv (.int i) (.int j) = decide (i = j) := by
  show (i == j) = _
  exact Bool.beq_eq_decide_eq i j
theorem eqv_bool (i j : Bool) : PyData.eqv (.bool i) (.bool j) = decide (i = j) := by
  cases i <;> cases j <;> rfl
theorem ee_cast {X : Cx} {e : Expr} {ρ ρ1 : List Sl} {d d' : PyData} (h : EE X e ρ d ρ1) (he : d = d') : EE X e ρ d' ρ1 := he ▸ h
/-- an expression that gives a new list -/
def EL (X : Cx) (e : Expr) (ρ ρ' : List Sl) (ds : List PyData) : Prop :=
  ∀ (bi : List Nat) (σ0 : L2.St) (B : Be) (H0 : Fr) (σ : L2.St) (Hk Hr : Hp), Ok X.K bi σ0 B H0 ρ σ Hk Hr → ∀ Q : VK, (∀ p vs Hk' Hr', Ok X.K bi σ0 B H0 ρ' σ Hk' Hr' → Same Hk Hk' → Hr' p = some (.lst vs) → Hk' p = none → H0 p = none → ¬ Ow ρ' σ p → DpAll X.K Hk' vs ds → Q (.ref p) Hr') → sE X e σ Hr Q
/-! comprehensions over l.map f -/
section
variable {X : Cx} {elt tg iter c : Expr} {scope : Scope} {own : List (Str × Nat)} {ρ ρ1 : List Sl} {pos : Pos} {α : Type} {l : List α} {f g : α → PyData} {p : α → Bool}
theorem take_map_at {j : Nat} {d : PyData} (h : (l.map f)[j]? = some d) : ∃ x, x ∈ l ∧ d = f x ∧ l.take (j + 1) = l.take j ++ [x] := by
  rw [List.getElem?_map] at h
  cases q : l[j]? with
  | none => rw [q] at h; cases h
  | some x =>
    rw [q] at h
    refine ⟨x, List.mem_of_getElem? q, (Option.some.inj h).symm, ?_⟩
    rw [List.take_add_one, q]
    rfl
theorem ee_lcM {gt : TG} (hi : EI X tg iter ρ (l.map f) ρ1) (hw : GW gt (own.map (·.2))) (hv : ∀ i ∈ own.map (·.2), ρ1[i]? = some .no) (hn : l.length ≤ 100000)
    (ht : ∀ x, x ∈ l → ∃ ρd, EG X.K [] gt ρ1 (f x) ρd ∧ wipeS ρd (own.map (·.2)) = ρ1 ∧ BE X scope elt ρd (g x) ρd)
    (hN : X.N.Nodup) (ok : BlkOk X.N X.env.scope scope own) (hg : ∀ (s : Shared) (H : Hp) (C : Addr) (cl : List (Str × Addr)) (fp : List Addr), PG (X.blk s H scope (compEnvC scope cl C X.env) fp) tg gt)
    (hc : X.calm = true := by rfl) (hs : ∀ x, foldedSetIterable iter X.env x = pure x := by intro _; rfl) : EE X (.ListComp elt [⟨tg, iter, [], 0⟩] scope pos) ρ (.list (l.map g)) ρ1 := fun bi σ0 B H0 σ Hk Hr I Q q => by
  obtain ⟨wi, pi, hi⟩ := hi
  refine sE_of (pe_lc hc hN pi ok hg (fun _ _ _ _ _ => pts_nil) pe_b hs) (lc_ok hi hw (fun j acc ρ' => acc = (l.take j).map g ∧ ρ' = ρ1) ⟨rfl, rfl⟩ (fun j acc ρj h i hi => by rw [h.2]; exact hv i hi) (fun j d acc ρj hd h => ?_) bi σ0 B H0 σ Hk Hr I Q fun v Hk' Hr' acc ρ' h I' m' hvd => ?_)
  · obtain ⟨rfl, rfl⟩ := h
    obtain ⟨x, hx, rfl, ht1⟩ := take_map_at hd
    obtain ⟨ρd, eg, ew, be⟩ := ht x hx
    have hj := (List.getElem?_eq_some_iff.mp hd).1
    rw [List.length_map] at hj
    refine ⟨by rw [List.length_map, List.length_take]; omega, ρd, true, ρd, eg, gt_yes, fun _ => ⟨g x, ρd, be.ge, ?_, ew⟩, fun z => nomatch z⟩
    rw [ht1, List.map_append]
    rfl
  · obtain ⟨rfl, rfl⟩ := h
    rw [List.length_map, List.take_length] at hvd
    exact q v Hk' Hr' I' m' hvd
theorem ee_lcMIf {gt : TG} (hi : EI X tg iter ρ (l.map f) ρ1) (hw : GW gt (own.map (·.2))) (hv : ∀ i ∈ own.map (·.2), ρ1[i]? = some .no) (hn : l.length ≤ 100000)
    (ht : ∀ x, x ∈ l → ∃ ρd, EG X.K [] gt ρ1 (f x) ρd ∧ wipeS ρd (own.map (·.2)) = ρ1 ∧ BT X scope c ρd (p x) ρd ∧ (p x = true → BE X scope elt ρd (g x) ρd))
    (hN : X.N.Nodup) (ok : BlkOk X.N X.env.scope scope own) (hg : ∀ (s : Shared) (H : Hp) (C : Addr) (cl : List (Str × Addr)) (fp : List Addr), PG (X.blk s H scope (compEnvC scope cl C X.env) fp) tg gt)
    (hc : X.calm = true := by rfl) (hs : ∀ x, foldedSetIterable iter X.env x = pure x := by intro _; rfl) : EE X (.ListComp elt [⟨tg, iter, [c], 0⟩] scope pos) ρ (.list ((l.filter p).map g)) ρ1 := fun bi σ0 B H0 σ Hk Hr I Q q => by
  obtain ⟨wi, pi, hi⟩ := hi
  refine sE_of (pe_lc hc hN pi ok hg (fun s H C cl fp => pts_one (pt_b s H C cl fp)) pe_b hs) (lc_ok hi hw (fun j acc ρ' => acc = ((l.take j).filter p).map g ∧ ρ' = ρ1) ⟨rfl, rfl⟩ (fun j acc ρj h i hi => by rw [h.2]; exact hv i hi) (fun j d acc ρj hd h => ?_) bi σ0 B H0 σ Hk Hr I Q fun v Hk' Hr' acc ρ' h I' m' hvd => ?_)
  · obtain ⟨rfl, rfl⟩ := h
    obtain ⟨x, hx, rfl, ht1⟩ := take_map_at hd
    obtain ⟨ρd, eg, ew, bt, be⟩ := ht x hx
    have hj := (List.getElem?_eq_some_iff.mp hd).1
    rw [List.length_map] at hj
    have hle : ((l.take j).filter p).length ≤ j := by
      have h1 := List.length_filter_le p (l.take j)
      have h2 := List.length_take_le j l
      omega
    refine ⟨by rw [List.length_map]; omega, ρd, p x, ρd, eg, bt.gt, fun z => ⟨g x, ρd, (be z).ge, ?_, ew⟩, fun z => ⟨?_, ew⟩⟩
    · rw [ht1, List.filter_append, List.map_append]
      simp [z]
    · rw [ht1, List.filter_append, List.map_append]
      simp [z]
  · obtain ⟨rfl, rfl⟩ := h
    rw [List.length_map, List.take_length] at hvd
    exact q v Hk' Hr' I' m' hvd
theorem el_lcM {gt : TG} (hi : EI X tg iter ρ (l.map f) ρ1) (hw : GW gt (own.map (·.2))) (hv : ∀ i ∈ own.map (·.2), ρ1[i]? = some .no) (hn : l.length ≤ 100000)
    (ht : ∀ x, x ∈ l → ∃ ρd, EG X.K [] gt ρ1 (f x) ρd ∧ wipeS ρd (own.map (·.2)) = ρ1 ∧ BE X scope elt ρd (g x) ρd)
    (hN : X.N.Nodup) (ok : BlkOk X.N X.env.scope scope own) (hg : ∀ (s : Shared) (H : Hp) (C : Addr) (cl : List (Str × Addr)) (fp : List Addr), PG (X.blk s H scope (compEnvC scope cl C X.env) fp) tg gt)
    (hc : X.calm = true := by rfl) (hs : ∀ x, foldedSetIterable iter X.env x = pure x := by intro _; rfl) : EL X (.ListComp elt [⟨tg, iter, [], 0⟩] scope pos) ρ ρ1 (l.map g) := fun bi σ0 B H0 σ Hk Hr I Q q => by
  obtain ⟨wi, pi, hi⟩ := hi
  refine sE_of (pe_lc hc hN pi ok hg (fun _ _ _ _ _ => pts_nil) pe_b hs) (lc_raw hi hw (fun j acc ρ' => acc = (l.take j).map g ∧ ρ' = ρ1) ⟨rfl, rfl⟩ (fun j acc ρj h i hi => by rw [h.2]; exact hv i hi) (fun j d acc ρj hd h => ?_) bi σ0 B H0 σ Hk Hr I Q fun D avs Hk' Hr' acc ρ' h I' m' hD nk n0 no hacc => ?_)
  · obtain ⟨rfl, rfl⟩ := h
    obtain ⟨x, hx, rfl, ht1⟩ := take_map_at hd
    obtain ⟨ρd, eg, ew, be⟩ := ht x hx
    have hj := (List.getElem?_eq_some_iff.mp hd).1
    rw [List.length_map] at hj
    refine ⟨by rw [List.length_map, List.length_take]; omega, ρd, true, ρd, eg, gt_yes, fun _ => ⟨g x, ρd, be.ge, ?_, ew⟩, fun z => nomatch z⟩
    rw [ht1, List.map_append]
    rfl
  · obtain ⟨rfl, rfl⟩ := h
    rw [List.length_map, List.take_length] at hacc
    exact q D avs Hk' Hr' I' m' hD nk n0 no hacc
theorem el_lcMIf {gt : TG} (hi : EI X tg iter ρ (l.map f) ρ1) (hw : GW gt (own.map (·.2))) (hv : ∀ i ∈ own.map (·.2), ρ1[i]? = some .no) (hn : l.length ≤ 100000)
    (ht : ∀ x, x ∈ l → ∃ ρd, EG X.K [] gt ρ1 (f x) ρd ∧ wipeS ρd (own.map (·.2)) = ρ1 ∧ BT X scope c ρd (p x) ρd ∧ (p x = true → BE X scope elt ρd (g x) ρd))
    (hN : X.N.Nodup) (ok : BlkOk X.N X.env.scope scope own) (hg : ∀ (s : Shared) (H : Hp) (C : Addr) (cl : List (Str × Addr)) (fp : List Addr), PG (X.blk s H scope (compEnvC scope cl C X.env) fp) tg gt)
    (hc : X.calm = true := by rfl) (hs : ∀ x, foldedSetIterable iter X.env x = pure x := by intro _; rfl) : EL X (.ListComp elt [⟨tg, iter, [c], 0⟩] scope pos) ρ ρ1 ((l.filter p).map g) := fun bi σ0 B H0 σ Hk Hr I Q q => by
  obtain ⟨wi, pi, hi⟩ := hi
  refine sE_of (pe_lc hc hN pi ok hg (fun s H C cl fp => pts_one (pt_b s H C cl fp)) pe_b hs) (lc_raw hi hw (fun j acc ρ' => acc = ((l.take j).filter p).map g ∧ ρ' = ρ1) ⟨rfl, rfl⟩ (fun j acc ρj h i hi => by rw [h.2]; exact hv i hi) (fun j d acc ρj hd h => ?_) bi σ0 B H0 σ Hk Hr I Q fun D avs Hk' Hr' acc ρ' h I' m' hD nk n0 no hacc => ?_)
  · obtain ⟨rfl, rfl⟩ := h
    obtain ⟨x, hx, rfl, ht1⟩ := take_map_at hd
    obtain ⟨ρd, eg, ew, bt, be⟩ := ht x hx
    have hj := (List.getElem?_eq_some_iff.mp hd).1
    rw [List.length_map] at hj
    have hle : ((l.take j).filter p).length ≤ j := by
      have h1 := List.length_filter_le p (l.take j)
      have h2 := List.length_take_le j l
      omega
    refine ⟨by rw [List.length_map]; omega, ρd, p x, ρd, eg, bt.gt, fun z => ⟨g x, ρd, (be z).ge, ?_, ew⟩, fun z => ⟨?_, ew⟩⟩
    · rw [ht1, List.filter_append, List.map_append]
      simp [z]
    · rw [ht1, List.filter_append, List.map_append]
      simp [z]
  · obtain ⟨rfl, rfl⟩ := h
    rw [List.length_map, List.take_length] at hacc
    exact q D avs Hk' Hr' I' m' hD nk n0 no hacc
end
/-- a def that is called by its name -/
structure Cal (P : Program) (w : World) (K : PySem.W.Frag) (mg : Str → Option Value) (base : Heap) (k : Nat) (x : Str) (ps : List Str) (sp : Sp) : Prop where
  ex : ∃ (f : Addr) (fd : FuncData), FnOk P w K mg base CX0 k f fd ps sp ∧ mg x = some (.ref f) ∧ PySem.W.keepIn K (.ref f) = true ∧ Binds K fd ps []
section
variable {X : Cx} {e : Expr} {es : List Expr} {ρ ρ1 : List Sl} {d : PyData} {ds cs cs1 cs2 : List PyData} {pos p0 p1 : Pos} {x y : Str} {ps : List Str} {k n i : Nat}
theorem ee_callC {φ : List PyData → PyData → Prop} (c : Cal X.prog X.w X.K X.mg X.base k x ps (spD X.K n φ)) (hr : Room k X.A) (ha : EA X (e :: es) ρ ds ρ1) (h : φ ds d) (hn : ds.length = n := by rfl)
    (hg : Gl X x := by rfl) (hdb : (x == ("__debug__" : Str)) = false := by decide) (he : starEach (e :: es) X.env = (false, eval e X.env) :: starEach es X.env := by rfl) (hpl : (backTo pos (starEach es X.env)).any (·.1) = false := by rfl) : EE X (.Call (.Name x p0) (e :: es) [] pos) ρ d ρ1 := by
  obtain ⟨f, fd, F, hm, hk, hb⟩ := c.ex
  exact ee_call F hr hm hk hb ha h hn hg hdb he hpl
theorem ee_callSC {φ : List PyData → List PyData → PyData → List PyData → Prop} (c : Cal X.prog X.w X.K X.mg X.base k x ps (spB X.K n φ)) (hr : Room k X.A) (hN : X.N[i]? = some y) (hi : ρ[i]? = some (.own cs))
    (ha : EA X es ρ ds ρ1) (hi1 : ρ1[i]? = some (.own cs1)) (h : φ cs1 ds d cs2) (hn : ds.length = n := by rfl) (hv : Vis X.env.scope y := by first | exact Or.inl rfl | exact Or.inr (Or.inl rfl) | exact Or.inr (Or.inr rfl)) (hd : (y == ("__debug__" : Str)) = false := by decide)
    (hcd : (y == ("__classdict__" : Str)) = false := by decide) (hg : Gl X x := by rfl) (hdb : (x == ("__debug__" : Str)) = false := by decide) (he : starEach (.Name y p1 :: es) X.env = (false, eval (.Name y p1) X.env) :: starEach es X.env := by rfl) (hpl : (backTo pos (starEach es X.env)).any (·.1) = false := by rfl) :
    EE X (.Call (.Name x p0) (.Name y p1 :: es) [] pos) ρ d (ρ1.set i (.own cs2)) := by
  obtain ⟨f, fd, F, hm, hk, hb⟩ := c.ex
  exact ee_callS F hr hm hk hb hN hi ha hi1 h hn hv hd hcd hg hdb he hpl
end
section
variable {X : Cx} {bi : List Nat} {e : Expr} {es : List Expr} {rest : List Stmt} {ρ ρ1 : List Sl} {N : List Sl → Prop} {R : RTy} {ds : List PyData} {pos cpos p0 p1 : Pos} {x y : Str} {ps : List Str} {k n m : Nat} {ns : List Int}
theorem ss_callNC {φ : List PyData → List Int → Prop} (c : Cal X.prog X.w X.K X.mg X.base k x ps (spN X.K n φ)) (hr : Room k X.A) (ha : EA X (e :: es) ρ ds ρ1) (h : φ ds ns) (hl : ds.length = n)
    (hN : X.N.Nodup) (hi : X.N[m]? = some y) (hmb : m ∉ bi) (hrest : SS X bi rest (ρ1.set m (.own (ns.map PyData.int))) N R) (hg : Gl X x := by rfl) (hdb : (x == ("__debug__" : Str)) = false := by decide) (he : starEach (e :: es) X.env = (false, eval e X.env) :: starEach es X.env := by rfl) (hpl : (backTo cpos (starEach es X.env)).any (·.1) = false := by rfl)
    (hx : Loc X.env.scope y := by first | exact Or.inl rfl | exact Or.inr rfl) (hs : swapsWith (.Call (.Name x p0) (e :: es) [] cpos) (some (.Name y p1)) pos.line X.env = pure false := by rfl) (hf : X.fn y = true ∨ X.env.scope.names.lookup y = some .local := by first | exact .inl rfl | exact .inr rfl) :
    SS X bi (.Assign [.Name y p1] (.Call (.Name x p0) (e :: es) [] cpos) pos :: rest) ρ N R := by
  obtain ⟨f, fd, F, hm, hk, hb⟩ := c.ex
  exact ss_callN F hr hm hk hb ha h hl hN hi hmb hrest hg hdb he hpl hx hs hf
end
theorem hu65 {k : Nat} {A : Around} (hr : Room k A) : A.units + 65 < cLine := by have := hr.un; omega
theorem eqv_dT (xs ys : List Int) : PyData.eqv (dT xs) (dT ys) = decide (xs = ys) := eqv_tup xs ys
/-! pairs -/
theorem eqv_P (p q : Int × Int) : PyData.eqv (dP p) (dP q) = decide (p = q) := by
  have := eqv_tup [p.1, p.2] [q.1, q.2]
  show PyData.eqv (.tuple ([p.1, p.2].map .int)) (.tuple ([q.1, q.2].map .int)) = _
  rw [this]
  obtain ⟨p1, p2⟩ := p
  obtain ⟨q1, q2⟩ := q
  simp
theorem map_dP (ps : List (Int × Int)) : ps.map dP = (ps.map fun p => [p.1, p.2]).map dT := by
  rw [List.map_map]; rfl
theorem shaped_P (p : Int × Int) : SeqAt.shaped (dP p) = true := shaped_tup [p.1, p.2]
theorem shaped_lstP (ps : List (Int × Int)) : SeqAt.shaped (.list (ps.map dP)) = true := by rw [map_dP]; exact shaped_lstT _
theorem eqv_lstP (ps qs : List (Int × Int)) : PyData.eqv (.list (ps.map dP)) (.list (qs.map dP)) = decide (ps = qs) := by
  rw [map_dP, map_dP]
  show PyData.eqvAll _ _ = _
  rw [eqvAll_tups]
  have inj : ∀ a b : List (Int × Int), (a.map fun p => [p.1, p.2]) = (b.map fun p => [p.1, p.2]) ↔ a = b := fun a => by
    induction a with
    | nil => intro b; cases b <;> simp
    | cons x a ih =>
      intro b
      cases b with
      | nil => simp
      | cons y b =>
        obtain ⟨x1, x2⟩ := x
        obtain ⟨y1, y2⟩ := y
        simp [ih b]
  simp [inj]
theorem any_P (ps : List (Int × Int)) (p : Int × Int) : ((ps.map dP).any fun z => PyData.eqv z (dP p)) = ps.any fun q => decide (q = p) := by
  rw [List.any_map]
  congr 1
  funext q
  exact eqv_P q p
/-- the law's promise, from a promise on data -/
def spLaw (K : PySem.W.Frag) : Sp := fun vs H Q _ => ∃ (a : Addr) (ns : List Int), vs = [.ref a] ∧ SqL K H a (ns.map V.int) ∧ ns.length ≤ 63 ∧ ∀ H', Q (.bl true) H'
def phLaw : List PyData → PyData → Prop := fun ds d => (∃ ns : List Int, ds = [.list (ns.map .int)] ∧ ns.length ≤ 63) ∧ d = .bool true
theorem law_of {P : Program} {w : World} {K : PySem.W.Frag} {mg : Str → Option Value} {base : Heap} {k : Nat} {f : Addr} {fd : FuncData} (F : FnOk P w K mg base CX0 k f fd ["script"] (spD K 1 phLaw)) : FnOk P w K mg base CX0 k f fd ["script"] (spLaw K) := by
  have imp : ∀ vs H Q E, spLaw K vs H Q E → spD K 1 phLaw vs H Q E := fun vs H Q E h => by
    obtain ⟨a, ns, rfl, hs, hl, q⟩ := h
    refine ⟨H, [.list (ns.map .int)], .bool true, ⟨⟨ns, rfl, hl⟩, rfl⟩, rfl, Same.refl _, .cons (.lst hs (DpAll.of_ints ns)) .nil, fun v H' _ hv => ?_⟩
    cases hv
    exact q H'
  exact ⟨fun vs H Q E h => F.len vs H Q E (imp vs H Q E h), fun A outer s H args us vs Q E hr e0 hb hv h => F.run A outer s H args us vs Q E hr e0 hb hv (imp vs H Q E h)⟩
end Pd
namespace L2
open PySem PySem.Spec PyProof.Rows
/-- a tuple once: the tuple itself -/
theorem mul_once (l : Addr) (items : Array Value) (n : Nat) (dd : Option Addr) (sl : Array (Option Value)) (u : Tok) :
    Meets (Builtin.«tuple.__mul__» ⟨[.ref l, .int 1 u], []⟩) (fun _ R s => s.heap.get? l = some { cls := .type "tuple", dict := dd, data := .seq items n, slots := sl } ∧ R (.ok (.ret (Value.ref l))) s) :=
  .of_wp fun prog w A R s h => by
    obtain ⟨hp, g, d, tk, os⟩ := s
    obtain ⟨hl, h⟩ := h
    have f1 := AutoSeq1.idx_int
    wp_walk using wpAny_loadPart' hl
    repeat (first
      | (refine wpAny_ite_false (by decide) ?_; wp_walk using wpAny_loadPart' hl)
      | (refine wpAny_ite_true (by simp) ?_; wp_walk using wpAny_loadPart' hl))
    exact ⟨_, rfl, h⟩
/-- a tuple with items, not at all: the empty one -/
theorem mul_none (l : Addr) (items : Array Value) (n : Nat) (dd : Option Addr) (sl : Array (Option Value)) (x : Int) (u : Tok) (h0 : (decide (x < -(2 ^ 63)) || decide (x ≥ 2 ^ 63)) = false) (h1 : (items.isEmpty || x == 1) = false) (h2 : (decide (x ≤ 0) || items.isEmpty) = true) :
    Meets (Builtin.«tuple.__mul__» ⟨[.ref l, .int x u], []⟩) (fun _ R s => s.heap.get? l = some { cls := .type "tuple", dict := dd, data := .seq items n, slots := sl } ∧
      R (.ok (.ret (Value.ref s.heap.objs.size))) { s with heap := s.heap.push { cls := Value.type "tuple", data := Data.seq #[] }, toks := s.toks }) :=
  .of_wp fun prog w A R s h => by
    obtain ⟨hp, g, d, tk, os⟩ := s
    obtain ⟨hl, h⟩ := h
    have f1 := AutoSeq1.idx_int
    wp_walk using wpAny_loadPart' hl
    repeat (first
      | (refine wpAny_ite_false (decide_eq_false (by rw [h0]; exact Bool.false_ne_true)) ?_; wp_walk using wpAny_loadPart' hl)
      | (refine wpAny_ite_false (decide_eq_false (by rw [h1]; exact Bool.false_ne_true)) ?_; wp_walk using wpAny_loadPart' hl)
      | (refine wpAny_ite_true (decide_eq_true h2) ?_; wp_walk using wpAny_loadPart' hl))
    exact ⟨_, rfl, h⟩
def rTimes (K : PySem.W.Frag) : R2 := fun x y H Q => ∃ (l : Addr) (k : Int) (xs : List V), x = .ref l ∧ y = .int k ∧ SqT K H l xs ∧ xs ≠ [] ∧ -1000 ≤ k ∧ k ≤ 1 ∧ (k ≤ 0 → ∀ p, H p = none → Q (.ref p) (upd H p (.tup []))) ∧ (k = 1 → Q (.ref l) H)
theorem op_times {X : Cx} : OpR X (binaryOp .Mult) (rTimes X.K) := by
  intro pins s σ H x y v u Q I rx ry h
  obtain ⟨l, k, vals, rfl, rfl, ht, ne, lo, hi, q0, q1⟩ := h
  cases rx
  obtain ⟨tk, rfl⟩ := ry
  obtain ⟨conc, rel, ⟨⟨cls, dd, data, sl⟩, g1, g2, cap, g3⟩, fit⟩ := I.tuple ht
  simp only at g2 g3
  subst g2 g3
  have ne2 : conc.toArray.isEmpty = false := by
    cases conc with
    | nil =>
      have := rel.length
      exact absurd (List.eq_nil_of_length_eq_zero this) ne
    | cons a b => rfl
  by_cases k1 : k = 1
  · subst k1
    refine wpAny_binaryOp_repeat_ref (T := "tuple") (U := "int") (by decide) ⟨_, g1, rfl⟩ (fun s' => typeIs_int s' 1 tk) noFill_tuple_mul F.fills_int_mul F.slot_int_rmul repeat_tuple F.slot_int_index.lookup
      (call_meets F.slot_int_rmul (typeIs_int s 1 tk) F.entry_int_rmul (F.args_int_rmul_2 _ _) (int_rmul_tuple 1 tk l conc.toArray cap dd sl)
        ⟨g1, rfl, ⟨_, g1, rfl⟩, call_meets F.slot_tuple_mul ⟨_, g1, rfl⟩ F.entry_tuple_mul (F.args_tuple_mul_2 _ _) (mul_once l conc.toArray cap dd sl tk) ⟨g1, ?_⟩⟩)
    exact ⟨.ref l, H, I, rfl, q1 rfl⟩
  · have k0 : k ≤ 0 := by omega
    have e1 : (k == 1) = false := beq_eq_false_iff_ne.mpr k1
    refine wpAny_binaryOp_repeat_ref (T := "tuple") (U := "int") (by decide) ⟨_, g1, rfl⟩ (fun s' => typeIs_int s' k tk) noFill_tuple_mul F.fills_int_mul F.slot_int_rmul repeat_tuple F.slot_int_index.lookup
      (call_meets F.slot_int_rmul (typeIs_int s k tk) F.entry_int_rmul (F.args_int_rmul_2 _ _) (int_rmul_tuple k tk l conc.toArray cap dd sl)
        ⟨g1, rfl, ⟨_, g1, rfl⟩, call_meets F.slot_tuple_mul ⟨_, g1, rfl⟩ F.entry_tuple_mul (F.args_tuple_mul_2 _ _) (mul_none l conc.toArray cap dd sl k tk
          (by rw [decide_eq_false (by omega), decide_eq_false (by omega)] <;> rfl) (by rw [ne2, e1] <;> rfl) (by rw [decide_eq_true k0] <;> rfl)) ⟨g1, ?_⟩⟩)
    refine ⟨.ref s.heap.objs.size, _, I.laid (t' := s.toks) (o := .tup []) (fun b ob q => Heap.get?_push_of_some _ q) (Nat.le_refl _) ⟨Nat.zero_le _, [], .nil, IsTup.new _ _⟩, rfl, q0 k0 _ (I.hok.fresh (Nat.le_refl _))⟩
end L2
namespace Pd
open PySem L2 PySem.Spec PyProof.Rows
section
variable {K : PySem.W.Frag} {ds : List PyData} {k : Int}
theorem rd_times (hn : ds ≠ []) (h : -1000 ≤ k ∧ k ≤ 1) : RD K (rTimes K) (.tuple ds) (.int k) (.tuple (List.replicate k.toNat ds).flatten) := fun x y Hk Hr kr hx hy Q q => by
  cases hy
  cases hx with
  | tup hs ha =>
    have l1 := DpAll.len ha
    refine ⟨_, k, _, rfl, rfl, same_t kr hs, fun z => hn (List.length_eq_zero_iff.mp (by rw [← l1, z]; rfl)), h.1, h.2, fun k0 p hp => q _ _ (new_same hp _) ?_, fun k1 => q _ Hr (Same.refl _) ?_⟩
    · have : k.toNat = 0 := by omega
      rw [this]
      exact gro_tup kr hp .nil
    · subst k1
      have : (List.replicate (1 : Int).toNat ds).flatten = ds := by simp
      rw [this]
      exact gro_refl kr (.tup hs ha)
theorem rd_rep (hn : ds ≠ []) (h : 2 ≤ k ∧ k ≤ 1000 ∧ ds.length ≤ 1000) : RD K (rRepT K) (.tuple ds) (.int k) (.tuple (List.replicate k.toNat ds).flatten) := fun x y Hk Hr kr hx hy Q q => by
  cases hy
  cases hx with
  | tup hs ha =>
    have l1 := DpAll.len ha
    exact ⟨_, k, _, rfl, rfl, same_t kr hs, fun z => hn (List.length_eq_zero_iff.mp (by rw [← l1, z]; rfl)), h.1, h.2.1, by rw [l1]; exact h.2.2, fun p hp => q _ _ (new_same hp _) (gro_tup kr hp (rep_all ha _))⟩
end
theorem ee_rep {X : Cx} {a b : Expr} {ρ ρ1 ρ2 : List Sl} {ds : List PyData} {k : Int} {pos : Pos} (ha : EE X a ρ (.tuple ds) ρ1) (hb : EE X b ρ1 (.int k) ρ2) (hn : ds ≠ []) (h : -1000 ≤ k ∧ k ≤ 1000 ∧ ds.length ≤ 1000) : EE X (.BinOp a .Mult b pos) ρ (.tuple (List.replicate k.toNat ds).flatten) ρ2 := by
  by_cases hk : k ≤ 1
  · exact ee_op op_times ha hb (rd_times hn ⟨h.1, hk⟩)
  · exact ee_op op_repT ha hb (rd_rep hn ⟨by omega, h.2⟩)
end Pd
namespace Pd
open PySem L2 PySem.Spec PyProof.Rows
section
variable {K : PySem.W.Frag} {bi : List Nat} {σ0 σ : L2.St} {Hk Hr : Hp} {B : Be} {H0 : Fr} {ρ : List Sl}
theorem Ok.nk (I : Ok K bi σ0 B H0 ρ σ Hk Hr) {p : Addr} (h : Hr p = none) : Hk p = none := by
  cases z : Hk p with
  | none => rfl
  | some u => rw [I.kr _ _ z] at h; cases h
theorem Ok.n0 (I : Ok K bi σ0 B H0 ρ σ Hk Hr) {p : Addr} (h : Hr p = none) : H0 p = none := by
  cases z : H0 p with
  | none => rfl
  | some u => rw [I.real _ _ z] at h; cases h
theorem Ok.no (I : Ok K bi σ0 B H0 ρ σ Hk Hr) {p : Addr} (h : Hr p = none) : ¬ Ow ρ σ p := by
  rintro ⟨i, ds, q1, q2⟩
  obtain ⟨a, vs, s1, s2, _⟩ := I.own i ds q1
  rw [q2] at s1
  injection s1 with s1; injection s1 with s1; injection s1 with s1; subst s1
  rw [h] at s2
  cases s2
theorem Ok.bors (I : Ok K bi σ0 B H0 ρ σ Hk Hr) {Hk' Hr' : Hp} {ρ' : List Sl} (I' : Ok K [] σ (inB Hk) (fenF H0 ρ σ Hr) ρ' σ Hk' Hr') : Ok K bi σ0 B H0 ρ' σ Hk' Hr' := { I.outer I' with bor := I.bor }
/-- what is not the def's list stays through an expression -/
theorem Ok.stay (I : Ok K bi σ0 B H0 ρ σ Hk Hr) {Hk' Hr' : Hp} {ρ' : List Sl} (I' : Ok K [] σ (inB Hk) (fenF H0 ρ σ Hr) ρ' σ Hk' Hr') {p : Addr} {o : HO} (hp : Hr p = some o) (hk : Hk p = none) (no : ¬ Ow ρ σ p) : Hr' p = some o ∧ Hk' p = none ∧ ¬ Ow ρ' σ p := by
  have f : (fenF H0 ρ σ Hr).h p = some o := by show fen ρ σ Hr p = _; rw [fen_not no]; exact hp
  refine ⟨I'.real _ _ f, ?_, ?_⟩
  · cases z : Hk' p with
    | none => rfl
    | some u =>
      have := I'.old p u z (by rw [f]; exact fun z => nomatch z)
      simp only [inB] at this
      rw [hk] at this
      cases this
  · rintro ⟨i, ds, q1, q2⟩
    obtain ⟨a, vs, s1, s2, s3, s4, s5⟩ := I'.own i ds q1
    rw [q2] at s1
    injection s1 with s1; injection s1 with s1; injection s1 with s1; subst s1
    rw [f] at s4
    cases s4
end
section
variable {X : Cx} {a b e : Expr} {es : List Expr} {ρ ρ1 ρ2 : List Sl} {d : PyData} {ds ds2 : List PyData} {pos p0 p1 : Pos} {k : Int}
/-- a new list as data -/
theorem EL.ee (h : EL X e ρ ρ1 ds) : EE X e ρ (.list ds) ρ1 := fun bi σ0 B H0 σ Hk Hr I Q q =>
  h bi σ0 B H0 σ Hk Hr I Q fun p vs Hk' Hr' I' m' hp nk n0 no ha => q (.ref p) _ Hr' (I'.learn nk n0 hp no) (m'.trans (new_same nk _)) (.lst (.inl (.inl upd_same)) (DpAll.mono (new_same nk _) _ ha))
theorem el_cast (h : EL X e ρ ρ1 ds) (he : ds = ds2) : EL X e ρ ρ1 ds2 := he ▸ h
theorem el_lst (h : EA X es ρ ds ρ1) (hl : ds.length ≤ 100000 := by first | decide | simp) : EL X (.List es pos) ρ ρ1 ds := fun bi σ0 B H0 σ Hk Hr I Q q =>
  sE_of (pe_lst pa_s) (h bi σ0 B H0 σ Hk Hr I _ fun vs Hk1 Hr1 I1 m1 h1 => ⟨by rw [DpAll.len h1]; exact le_line hl, fun p hp =>
    q p vs Hk1 _ (I1.put (I1.nk hp) (I1.n0 hp) (I1.no hp)) m1 upd_same (I1.nk hp) (I1.n0 hp) (I1.no hp) h1⟩)
theorem el_cat (ha : EL X a ρ ρ1 ds) (hb : EL X b ρ1 ρ2 ds2) (hl : ds.length + ds2.length ≤ 100000) : EL X (.BinOp a .Add b pos) ρ ρ2 (ds ++ ds2) := fun bi σ0 B H0 σ Hk Hr I Q q => by
  refine sE_of (pe_op op_cat pe_s pe_s) (ha bi σ0 B H0 σ Hk Hr I _ fun p vs Hk1 Hr1 I1 m1 hp nk n0 no h1 => ?_)
  refine hb _ _ _ _ σ Hk1 Hr1 I1.inner _ fun p2 vs2 Hk2 Hr2 I2 m2 hp2 nk2 n02 no2 h2 => ?_
  obtain ⟨s1, s2, s3⟩ := I1.stay I2 hp nk no
  have I3 := I1.bors I2
  refine ⟨p, p2, vs, vs2, rfl, rfl, s1, hp2, by rw [DpAll.len h1, DpAll.len h2]; exact le_line hl, fun r hr => ?_⟩
  exact q r _ Hk2 _ (I3.put (I3.nk hr) (I3.n0 hr) (I3.no hr)) (m1.trans m2) upd_same (I3.nk hr) (I3.n0 hr) (I3.no hr) (DpAll.app (DpAll.mono m2 _ h1) h2)
theorem el_rep (ha : EL X a ρ ρ1 ds) (hb : EE X b ρ1 (.int k) ρ2) (hk : -1000 ≤ k ∧ k ≤ 1000 ∧ ds.length ≤ 50) : EL X (.BinOp a .Mult b pos) ρ ρ2 (List.replicate k.toNat ds).flatten := fun bi σ0 B H0 σ Hk Hr I Q q => by
  refine sE_of (pe_op op_rep pe_s pe_s) (ha bi σ0 B H0 σ Hk Hr I _ fun p vs Hk1 Hr1 I1 m1 hp nk n0 no h1 => ?_)
  refine hb _ _ _ _ σ Hk1 Hr1 I1.inner _ fun y Hk2 Hr2 I2 m2 h2 => ?_
  cases h2
  obtain ⟨s1, s2, s3⟩ := I1.stay I2 hp nk no
  have I3 := I1.bors I2
  refine ⟨p, k, vs, rfl, rfl, s1, by omega, by omega, ?_, fun r hr => ?_⟩
  · rw [DpAll.len h1]
    have z : ds.length * k.toNat ≤ 50 * 1000 := Nat.mul_le_mul hk.2.2 (by omega)
    exact le_line (by omega)
  · exact q r _ Hk2 _ (I3.put (I3.nk hr) (I3.n0 hr) (I3.no hr)) (m1.trans m2) upd_same (I3.nk hr) (I3.n0 hr) (I3.no hr) (rep_all (DpAll.mono m2 _ h1) _)
end
/-! ### defs that hand back a new list -/
/-- a new list -/
def RNewD (K : PySem.W.Frag) (P : List PyData → Prop) : RTy := fun H0 v ρ' Hk' Hr' => ∃ p vs ds, v = .ref p ∧ H0 p = none ∧ Hr' p = some (.lst vs) ∧ Hk' p = none ∧ DpAll K Hk' vs ds ∧ P ds
def spL (K : PySem.W.Frag) (n : Nat) (φ : List PyData → List PyData → Prop) : Sp := fun vs H Q _ => ∃ (B : Hp) (ds es : List PyData), φ ds es ∧ ds.length = n ∧ Same B H ∧ DpAll K B vs ds ∧ ∀ p H' us, Same H H' → H p = none → H' p = some (.lst us) → DpAll K (fun b => if b = p then none else gro B H H' b) us es → Q (.ref p) H'
section
variable {X : Cx} {bi : List Nat} {e : Expr} {rest : List Stmt} {ρ ρ1 : List Sl} {N : List Sl → Prop} {ds cs : List PyData} {pos epos p0 p1 : Pos} {x : Str} {n : Nat} {R : RTy}
theorem ss_retL {P : List PyData → Prop} (he : EL X e ρ ρ1 ds) (h : P ds) : SS X bi (.Return (some e) pos :: rest) ρ N (RNewD X.K P) := fun σ0 B H0 hz σ Hk Hr D I nx rt =>
  sSs_of (pss_cons (ps_ret pe_s) pss_s) (he bi σ0 B H0 σ Hk Hr I _ fun p vs Hk1 Hr1 I1 m1 hp nk n0 no h1 => rt (.ref p) ρ1 σ Hk1 Hr1 ⟨p, vs, ds, rfl, I1.ne0 n0, hp, nk, h1, h⟩ ⟨H0, I1⟩)
theorem ss_retOwn {P : List PyData → Prop} (hN : X.N[n]? = some x) (ho : ρ[n]? = some (.own ds)) (h : P ds) (hv : Vis X.env.scope x := by first | exact Or.inl rfl | exact Or.inr (Or.inl rfl) | exact Or.inr (Or.inr rfl)) (hd : (x == ("__debug__" : Str)) = false := by decide)
    (hcd : (x == ("__classdict__" : Str)) = false := by decide) : SS X bi (.Return (some (.Name x p0)) pos :: rest) ρ N (RNewD X.K P) := fun σ0 B H0 hz σ Hk Hr D I nx rt => by
  obtain ⟨a, vs, s1, s2, s3, s4, s5⟩ := I.own n ds ho
  exact sSs_of (pss_cons (ps_ret (pe_var hN hv hd hcd)) pss_s) ⟨.ref a, s1, rt (.ref a) ρ σ Hk Hr ⟨a, vs, ds, rfl, I.ne0 s4, s2, s3, s5, h⟩ ⟨H0, I⟩⟩
/-- x.extend(a new list) -/
theorem ss_extendL (h0 : ρ[n]? = some (.own cs)) (he : EL X e ρ ρ ds) (hl : cs.length + ds.length ≤ 100000) (hr : SS X bi rest (ρ.set n (.own (cs ++ ds))) N R)
    (hp : PE X (.Call (.Attribute (.Name x p0) "extend" p1) [e] [] epos) (tBM X.K "list" rExtend (tVar n) (tCons (sE X e) tNil))) (hs : swapsWith (.Call (.Attribute (.Name x p0) "extend" p1) [e] [] epos) none pos.line X.env = pure false := by rfl) :
    SS X bi (.Expr (.Call (.Attribute (.Name x p0) "extend" p1) [e] [] epos) pos :: rest) ρ N R := fun σ0 B H0 hz σ Hk Hr D I nx rt => by
  obtain ⟨a0, vs0, t1, t2, t3, t4, t5⟩ := I.own n cs h0
  refine sSs_of (pss_cons (ps_expr hp hs) pss_s) ⟨.ref a0, t1, .inl ⟨rfl, _, .inl (.inl t2)⟩, he bi σ0 B H0 σ Hk Hr I _ fun p vs Hk1 Hr1 I1 m1 hp nk n0 no h1 => ?_⟩
  obtain ⟨a1, vs1, u1, u2, u3, u4, u5⟩ := I1.own n cs h0
  have ea : a0 = a1 := by
    rw [t1] at u1
    injection u1 with u1; injection u1 with u1; injection u1
  subst ea
  refine ⟨a0, p, vs1, vs, rfl, rfl, u2, hp, by rw [DpAll.len u5, DpAll.len h1]; exact le_line hl, ?_⟩
  exact hr σ0 B H0 hz σ Hk1 _ D (I1.mut h0 u1 (DpAll.app u5 h1)) (fun ρ' σ' Hk' Hr' q I' m' => nx ρ' σ' Hk' Hr' q I' (m1.trans m')) rt
end
section
variable {P : Program} {w : World} {K : PySem.W.Frag} {mg : Str → Option Value} {base : Heap} {x qual : Str} {st : Stmt} {f : Addr} {fd : FuncData} {N ps : List Str} {k : Nat}
theorem entry_ok {A0 : L2.St} {vs : List V} {ds : List PyData} {B H : Hp} (kr : Same B H) (ha : DpAll K B vs ds) (h1 : ds.length = ps.length) (hl : ps.length ≤ N.length) : Ok K [] A0 ⟨B, H⟩ ⟨H, fun _ => none⟩ (rho ds (N.length - ps.length)) (L2.start N vs) B H := by
  have lv : vs.length = ps.length := by rw [DpAll.len ha, h1]
  have noOwn : ∀ {i : Nat} {e : List PyData}, (rho ds (N.length - ps.length))[i]? = some (.own e) → False := fun {i e} hi => by
    unfold rho at hi
    by_cases q : i < ds.length
    · rw [List.getElem?_append_left (by simpa using q), List.getElem?_map, List.getElem?_eq_getElem q] at hi
      cases Option.some.inj hi
    · rw [List.getElem?_append_right (by simpa using q), List.getElem?_replicate] at hi
      split at hi
      · cases Option.some.inj hi
      · cases hi
  refine ⟨Same.refl _, Same.refl _, kr, fun b o h _ => h, (fun i hi => nomatch hi), ?_, fun i e hi => ?_, fun i e hi => (noOwn hi).elim, fun i j e1 e2 hi _ => (noOwn hi).elim, (fun _ _ z => nomatch z), (fun _ _ z => nomatch z), Bxs.none rho_nobox, Same.refl _, (fun _ _ z => nomatch z)⟩
  · unfold rho L2.start
    simp [h1, lv]
  · unfold rho at hi
    by_cases q : i < ds.length
    · rw [List.getElem?_append_left (by simpa using q), List.getElem?_map, List.getElem?_eq_getElem q] at hi
      have hi := Option.some.inj hi
      injection hi with hi
      obtain ⟨v, s1, s2⟩ := DpAll.get ha (List.getElem?_eq_getElem q)
      subst hi
      exact ⟨v, start_get s1, s2⟩
    · rw [List.getElem?_append_right (by simpa using q), List.getElem?_replicate] at hi
      split at hi
      · cases Option.some.inj hi
      · cases hi
theorem fdL_of {φ : List PyData → List PyData → Prop} (F : Fun K x qual st f fd) (S : FnScope N ps (defScope st)) (hl : ps.length ≤ N.length)
    (body : ∀ (cdv : Value) (A : Around) (outer : List Env) (s : Shared) (H : Hp) (E : XK), Room k (A.deeper (envOfC qual (defScope st) s.heap.objs.size f cdv)) → ∀ ds es, φ ds es → ds.length = ps.length →
      SS (cxOf CX0 P w K mg base N qual (defScope st) f cdv A outer s H E).nox [] (defBody st) (rho ds (N.length - ps.length)) (fun _ => False) (RNewD K fun es' => es' = es)) :
    FnOk P w K mg base CX0 (k + 1) f fd ps (spL K ps.length φ) := by
  refine F.ok S (fun vs H Q E h => ?_) (fun cdv A outer s H vs Q E hr h => ?_)
  · obtain ⟨B, ds, es, _, h1, _, h2, _⟩ := h
    rw [DpAll.len h2, h1]
  · obtain ⟨B, ds, es, hφ, h1, kr, ha, q⟩ := h
    refine ⟨_, pss_s, body cdv A outer s H E hr ds es hφ h1 (L2.start N vs) ⟨B, H⟩ ⟨H, fun _ => none⟩ (fun _ _ _ h => h) (L2.start N vs) B H _ (entry_ok kr ha h1 hl) (fun _ _ _ _ e _ _ => e.elim) ?_⟩
    rintro v ρ' σ' Hk' Hr' ⟨p, us, es', rfl, hp, hu, nk, hall, rfl⟩ ⟨H1, I'⟩
    refine q p Hr' us (I'.eh.trans I'.real) hp hu (DpAll.mono (fun b o h => ?_) _ hall)
    have nb : b ≠ p := fun z => by rw [z, nk] at h; cases h
    rw [if_neg nb]
    cases z : H b with
    | none => rw [gro_new z]; exact I'.kr _ _ h
    | some u => rw [gro_old z]; exact I'.old b o h (by rw [I'.eh b _ z]; exact fun z => nomatch z)
end
section
variable {X : Cx} {e : Expr} {es : List Expr} {ρ ρ1 : List Sl} {ds cs : List PyData} {pos p0 : Pos} {x : Str} {ps : List Str} {k n : Nat}
theorem el_callC {φ : List PyData → List PyData → Prop} (c : Cal X.prog X.w X.K X.mg X.base k x ps (spL X.K n φ)) (hr : Room k X.A) (ha : EA X (e :: es) ρ ds ρ1) (h : φ ds cs) (hn : ds.length = n := by rfl)
    (hg : Gl X x := by rfl) (hdb : (x == ("__debug__" : Str)) = false := by decide) (he : starEach (e :: es) X.env = (false, eval e X.env) :: starEach es X.env := by rfl) (hpl : (backTo pos (starEach es X.env)).any (·.1) = false := by rfl) : EL X (.Call (.Name x p0) (e :: es) [] pos) ρ ρ1 cs := fun bi σ0 B H0 σ Hk Hr I Q q => by
  obtain ⟨f, fd, F, hm, hk, hb⟩ := c.ex
  refine sE_of (pe_call (E := E0) F hr hg hm hk hb .nil pass0 pa_s hdb he hpl) (ha bi σ0 B H0 σ Hk Hr I _ fun vs Hk1 Hr1 I1 m1 h1 => ?_)
  rw [List.append_nil]
  refine ⟨Hk1, ds, cs, h, hn, I1.kr, h1, fun p H' us e' hp hu hall => ?_⟩
  have Ig := I1.gro e'
  have nkp : gro Hk1 Hr1 H' p = some (.lst us) := by rw [gro_new hp]; exact hu
  -- all that is new but p
  let G : Hp := fun b => if b = p then none else gro Hk1 Hr1 H' b
  have sG : Same Hk1 G := fun b o hb => by
    have nb : b ≠ p := ne_of_none hb (I1.nk hp)
    show (if b = p then none else gro Hk1 Hr1 H' b) = some o
    rw [if_neg nb]
    exact gro_same I1.kr _ _ hb
  have sub : ∀ b o, G b = some o → gro Hk1 Hr1 H' b = some o := fun b o hb => by
    have hb : (if b = p then none else gro Hk1 Hr1 H' b) = some o := hb
    split at hb
    · cases hb
    · exact hb
  have I2 : Ok X.K bi σ0 B H0 ρ1 σ G H' := ⟨I1.base.trans sG, Ig.real, fun b o hb => Ig.kr _ _ (sub b o hb), fun b o hb h0 => Ig.old _ _ (sub b o hb) h0, Ig.bor, Ig.len, fun i d hi => by
    obtain ⟨v, s1, s2⟩ := I1.val i d hi
    exact ⟨v, s1, Dp.mono sG _ s2⟩, fun i zs hi => by
    obtain ⟨a, ws, s1, s2, s3, s4, s5⟩ := I1.own i zs hi
    refine ⟨a, ws, s1, e' _ _ s2, ?_, s4, DpAll.mono sG _ s5⟩
    show (if a = p then none else gro Hk1 Hr1 H' a) = none
    split
    · rfl
    · rw [gro_old s2]; exact s3, Ig.dis, I1.zh, I1.zb, I1.bxs.mono sG, I1.eh, I1.ze⟩
  exact q p us G H' I2 (m1.trans sG) hu (if_pos rfl) (I1.n0 hp) (I1.no hp) hall
end
end Pd
namespace Pd
open PySem L2 PySem.Spec PyProof.Rows
theorem wipe_set {σ : L2.St} {i : Nat} {x : Option V} : ∀ {vs : List Nat}, i ∈ vs → wipe (σ.set i x) vs = wipe σ vs
  | [], h => by cases h
  | v :: vs, h => by
    unfold wipe
    by_cases q : i ∈ vs
    · rw [wipe_set q]
    · have e : i = v := by
        rcases List.mem_cons.mp h with e | e
        · exact e
        · exact absurd e q
      subst e
      have aux : ∀ (ws : List Nat) (τ : L2.St), i ∉ ws → wipe (τ.set i x) ws = (wipe τ ws).set i x := fun ws => by
        induction ws with
        | nil => intro τ _; rfl
        | cons w ws ih =>
          intro τ hw
          have hw : ¬ i = w ∧ i ∉ ws := ⟨fun e => hw (by simp [e]), fun e => hw (by simp [e])⟩
          unfold wipe
          rw [ih τ hw.2, List.set_comm _ _ hw.1]
      rw [aux vs σ q, List.set_set]
theorem wipe_twice {σ : L2.St} {vs : List Nat} : wipe (wipe σ vs) vs = wipe σ vs := by
  have : ∀ ws : List Nat, (∀ i ∈ ws, i ∈ vs) → wipe (wipe σ ws) vs = wipe σ vs := fun ws => by
    induction ws with
    | nil => intro _; rfl
    | cons w ws ih =>
      intro h
      show wipe ((wipe σ ws).set w none) vs = _
      rw [wipe_set (h w (by simp)), ih fun i hi => h i (by simp [hi])]
  exact this vs fun i hi => hi
theorem gw_in {n : Nat} {vs : List Nat} (h : n ∈ vs) : GW (gName n) vs := fun v σ H Q q => by
  have z : wipe ((wipe σ vs).set n (some v)) vs = wipe σ vs := by rw [wipe_set h, wipe_twice]
  exact ⟨z, q z⟩
theorem gw_pairIn {K : PySem.W.Frag} {i j : Nat} {vs : List Nat} (hi : i ∈ vs) (hj : j ∈ vs) : GW (gTup K 2 (gCons (gName i) (gCons (gName j) gNil))) vs := fun v σ H Q q => by
  obtain ⟨a, xs, rfl, hs, hl, x, r, rfl, y, r2, rfl, rfl, q⟩ := q
  have z : wipe (((wipe σ vs).set i (some x)).set j (some y)) vs = wipe σ vs := by rw [wipe_set hj, wipe_set hi, wipe_twice]
  exact ⟨a, _, rfl, hs, hl, x, _, rfl, y, _, rfl, rfl, z, q z⟩
/-- ((x, y), z) = .. -/
theorem eg_nest {K : PySem.W.Frag} {bi : List Nat} {ρ : List Sl} {i j k : Nat} {d1 d2 d3 : PyData} (hi : i ∉ bi) (hj : j ∉ bi) (hk : k ∉ bi) : EG K bi (gTup K 2 (gCons (gTup K 2 (gCons (gName i) (gCons (gName j) gNil))) (gCons (gName k) gNil))) ρ (.tuple [.tuple [d1, d2], d3]) (((ρ.set i (.val d1)).set j (.val d2)).set k (.val d3)) := fun σ0 B H0 σ Hk Hr v I h Q q => by
  cases h with
  | tup hs ha =>
    cases ha with
    | cons h1 h2 =>
      cases h2 with
      | cons h2 h3 =>
        cases h3
        cases h1 with
        | tup hs1 ha1 =>
          cases ha1 with
          | cons g1 g2 =>
            cases g2 with
            | cons g2 g3 =>
              cases g3
              exact ⟨_, _, rfl, same_t I.kr hs, rfl, _, _, rfl, ⟨_, _, rfl, same_t I.kr hs1, rfl, _, _, rfl, _, _, rfl, rfl, _, _, rfl, rfl, q _ (((I.set hi g1).set hj g2).set hk h2)⟩⟩
/-- what an iterable's reading asks at the least -/
def sI (X : Cx) (tg iter : Expr) : TI := fun σ H R => ∀ pins s, Inv X pins σ H s → wpAny (model X.prog X.w) X.A (eval iter X.env) (fun v s1 => wpAny (model X.prog X.w) X.A (pyIter v) (PIE X pins σ tg R) X.xe s1) X.xe s
def bI (X : Cx) (scope : Scope) (tg iter : Expr) : TI := fun σ H R => ∀ (s : Shared) (H1 : Hp) (C : Addr) (cl : List (Str × Addr)) (fp : List Addr), sI (X.blk s H1 scope (compEnvC scope cl C X.env) fp) tg iter σ H R
def GI (K : PySem.W.Frag) (wi : TI) (ρ : List Sl) (ds : List PyData) (ρ1 : List Sl) : Prop := ∀ (bi : List Nat) (σ0 : L2.St) (B : Be) (H0 : Fr) (σ : L2.St) (Hk Hr : Hp), Ok K bi σ0 B H0 ρ σ Hk Hr → ∀ R : It → Hp → Prop, (∀ J Hk' Hr', Ok K bi σ0 B H0 ρ1 σ Hk' Hr' → Same Hk Hk' → Wk K J ds Hk' → R J Hr') → wi σ Hr R
def BI (X : Cx) (scope : Scope) (tg iter : Expr) (ρ : List Sl) (ds : List PyData) (ρ' : List Sl) : Prop := ∀ (s : Shared) (H : Hp) (C : Addr) (cl : List (Str × Addr)) (fp : List Addr), EI (X.blk s H scope (compEnvC scope cl C X.env) fp) tg iter ρ ds ρ'
section
variable {X : Cx} {scope : Scope} {tg iter : Expr} {ρ ρ1 : List Sl} {ds : List PyData}
theorem pi_b (s : Shared) (H : Hp) (C : Addr) (cl : List (Str × Addr)) (fp : List Addr) : PI (X.blk s H scope (compEnvC scope cl C X.env) fp) tg iter (bI X scope tg iter) := ⟨fun pins s' σ H' R I h => h s H C cl fp pins s' I⟩
theorem BI.gi (h : BI X scope tg iter ρ ds ρ1) : GI X.K (bI X scope tg iter) ρ ds ρ1 := fun bi σ0 B H0 σ Hk Hr I R q s H C cl fp => by
  obtain ⟨wi, pi, hw⟩ := h s H C cl fp
  exact fun pins s' I' => pi.run pins s' σ Hr R I' (hw bi σ0 B H0 σ Hk Hr I R q)
end
theorem len_le_flat {α β : Type} {l : List α} {F : α → List β} {i : Nat} {x : α} {m : Nat} (hx : l[i]? = some x) (hm : m ≤ (F x).length) : ((l.take i).flatMap F).length + m ≤ (l.flatMap F).length := by
  have e : l = l.take i ++ x :: l.drop (i + 1) := by
    have h := (List.getElem?_eq_some_iff.mp hx)
    obtain ⟨h1, h2⟩ := h
    rw [← h2, List.getElem_cons_drop]
    exact (List.take_append_drop i l).symm
  have : (l.flatMap F).length = ((l.take i).flatMap F).length + ((F x).length + ((l.drop (i + 1)).flatMap F).length) := by
    conv => lhs; rw [e]
    rw [List.flatMap_append, List.flatMap_cons, List.length_append, List.length_append]
  omega
theorem yes_of {σ : L2.St} {H : Hp} {Q : Bool → Hp → Prop} (q : Q true H) : tYes σ H Q := q
/-- [.. for tg in iter for tg1 in iter1] -/
theorem lc2_raw {K : PySem.W.Frag} {α β : Type} {wi wi1 : TI} {g g1 : TG} {te : TE} {vs vs1 : List Nat} {ρ ρ1 : List Sl} {l : List α} {f : α → PyData} {l1 : α → List β} {f1 : α → β → PyData} {gg : α → β → PyData}
    (hi : GI K wi ρ (l.map f) ρ1) (hw : GW g vs) (hw1 : GW g1 vs1) (hv : ∀ i ∈ vs, ρ1[i]? = some .no) (hlen : (l.flatMap fun x => (l1 x).map (gg x)).length ≤ 100000)
    (ht : ∀ x ∈ l, ∃ ρd, EG K [] g ρ1 (f x) ρd ∧ wipeS ρd vs = ρ1 ∧ (∀ i ∈ vs1, ρd[i]? = some .no) ∧ GI K wi1 ρd ((l1 x).map (f1 x)) ρd ∧ ∀ y ∈ l1 x, ∃ ρe, EG K [] g1 ρd (f1 x y) ρe ∧ wipeS ρe vs1 = ρd ∧ GE K te ρe (gg x y) ρe)
    (bi : List Nat) (σ0 : L2.St) (B : Be) (H0 : Fr) (σ : L2.St) (Hk Hr : Hp) (I : Ok K bi σ0 B H0 ρ σ Hk Hr) (Q : VK)
    (q : ∀ D avs Hk' Hr', Ok K bi σ0 B H0 ρ1 σ Hk' Hr' → Same Hk Hk' → Hr' D = some (.lst avs) → Hk' D = none → H0 D = none → ¬ Ow ρ1 σ D → DpAll K Hk' avs (l.flatMap fun x => (l1 x).map (gg x)) → Q (.ref D) Hr') : tLc2 wi g tYes wi1 g1 tYes te vs vs1 σ Hr Q := by
  refine hi bi σ0 B H0 σ Hk Hr I _ fun Jt Hk1 Hr1 I1 m1 wk D nD => ?_
  refine ⟨fun i m H => i + m = l.length ∧ ∃ avs Hk', Ok K bi σ0 B H0 ρ1 σ Hk' H ∧ Same Hk1 Hk' ∧ Hk' D = none ∧ H D = some (.lst avs) ∧ DpAll K Hk' avs ((l.take i).flatMap fun x => (l1 x).map (gg x)) ∧ ¬ Ow ρ1 σ D,
    ⟨l.length, by omega, [], Hk1, I1.put (I1.nk nD) (I1.n0 nD) (I1.no nD), Same.refl _, I1.nk nD, upd_same, .nil, I1.no nD⟩, fun i m H hW => ?_⟩
  obtain ⟨em, avs, Hk', I', m', nk, hD, hacc, no⟩ := hW
  have n0 := I1.n0 nD
  obtain ⟨w1, w2, w3⟩ := wk i H (m'.trans I'.kr)
  rw [List.length_map] at w1 w2
  by_cases hil : i < l.length
  · refine .inr ⟨w1 hil, fun H2 => ∃ avs Hk', Ok K bi σ0 B H0 ρ1 σ Hk' H2 ∧ Same Hk1 Hk' ∧ Hk' D = none ∧ H2 D = some (.lst avs) ∧ DpAll K Hk' avs ((l.take (i + 1)).flatMap fun x => (l1 x).map (gg x)) ∧ ¬ Ow ρ1 σ D,
      fun H2 hN => ⟨m - 1, by omega, by omega, hN⟩, fun xv H2 hy => ?_⟩
    obtain ⟨e2, fd⟩ := w3 xv H2 hy
    have hx := List.getElem?_eq_getElem hil
    have hxm : l[i] ∈ l := List.getElem_mem hil
    revert hx hxm
    generalize l[i] = x
    intro hx hxm
    have hd : (l.map f)[i]? = some (f x) := by rw [List.getElem?_map, hx]; rfl
    have htk : l.take (i + 1) = l.take i ++ [x] := by rw [List.take_add_one, hx]; rfl
    obtain ⟨ρd, eg, ew, nv1, gi, inner⟩ := ht x hxm
    have I2 := I'.gro e2
    have hD2 : H2 D = some (.lst avs) := e2 _ _ hD
    have nk2 : gro Hk' H H2 D = none := by rw [gro_old hD]; exact nk
    have Iw : Ok K [] (wipe σ vs) B H0 ρ1 (wipe σ vs) (gro Hk' H H2) H2 := by
      refine I2.swap (fun i hi => nomatch hi) (by rw [wipe_length]; exact I'.len) fun i x hx => ?_
      by_cases z : i ∈ vs
      · have := hv i z
        rw [hx] at this
        exact .inl (Option.some.inj this)
      · exact .inr ⟨hx, wipe_out z⟩
    have noW : ¬ Ow ρ1 (wipe σ vs) D := by
      rintro ⟨i, ds, q1, q2⟩
      exact no ⟨i, ds, q1, (wipe_some q2).1⟩
    have D0 : (fenF H0 ρ1 (wipe σ vs) H2).h D = some (.lst avs) := by show fen ρ1 (wipe σ vs) H2 D = _; rw [fen_not noW]; exact hD2
    refine hw _ _ _ _ (eg _ _ _ _ _ _ xv Iw.inner (Dp.mono (gro_le m') _ (fd _ hd)) _ fun σ2 I3i wz => yes_of (iteT ?_))
    have I3 := Iw.outer I3i
    have no2 : ¬ Ow ρd σ2 D := by
      rintro ⟨i, zs, q1, q2⟩
      obtain ⟨a, us, s1, s2, s3, s4, s5⟩ := I3i.own i zs q1
      rw [q2] at s1
      injection s1 with s1; injection s1 with s1; injection s1 with s1; subst s1
      rw [D0] at s4
      cases s4
    have keyS : ∀ (i : Nat) (y : Sl), ρ1[i]? = some y → y = .no ∨ (ρd[i]? = some y ∧ σ[i]? = σ2[i]?) := fun i y hy => by
      rw [← ew] at hy
      rcases wipeS_get hy with e | ⟨q1, q2⟩
      · exact .inl e
      · refine .inr ⟨q2, ?_⟩
        rw [← wipe_out (σ := σ) q1, ← wipe_out (σ := σ2) q1, wz]
    refine gi _ _ _ _ σ2 _ H2 I3.inner _ fun J1 Hk4 Hr4 I4 m4 wk1 => ?_
    obtain ⟨hD4, nk4, _⟩ := I3.stay I4 hD2 nk2 no2
    have I4' := I3.bors I4
    have s14 : Same Hk' Hk4 := (gro_same I'.kr).trans m4
    refine ⟨fun j k H => j + k = (l1 x).length ∧ ∃ avs Hk5, Ok K [] σ2 B H0 ρd σ2 Hk5 H ∧ Same Hk4 Hk5 ∧ Hk5 D = none ∧ H D = some (.lst avs) ∧ DpAll K Hk5 avs (((l.take i).flatMap fun x => (l1 x).map (gg x)) ++ ((l1 x).take j).map (gg x)),
      ⟨(l1 x).length, by omega, avs, Hk4, { I4' with bor := fun _ hi => nomatch hi }, Same.refl _, nk4, hD4, by
        rw [List.take_zero, List.map_nil, List.append_nil]
        exact DpAll.mono s14 _ hacc⟩, fun j k H5 hW1 => ?_⟩
    obtain ⟨ek, avs5, Hk5, I5, m5, nk5, hD5, hacc5⟩ := hW1
    obtain ⟨v1, v2, v3⟩ := wk1 j H5 (m5.trans I5.kr)
    rw [List.length_map] at v1 v2
    by_cases hjl : j < (l1 x).length
    · refine .inr ⟨v1 hjl, fun H6 => ∃ avs Hk6, Ok K [] σ2 B H0 ρd σ2 Hk6 H6 ∧ Same Hk4 Hk6 ∧ Hk6 D = none ∧ H6 D = some (.lst avs) ∧ DpAll K Hk6 avs (((l.take i).flatMap fun x => (l1 x).map (gg x)) ++ ((l1 x).take (j + 1)).map (gg x)),
        fun H6 hN => ⟨k - 1, by omega, by omega, hN⟩, fun yv H6 hy1 => ?_⟩
      obtain ⟨e6, fd6⟩ := v3 yv H6 hy1
      have hyj := List.getElem?_eq_getElem hjl
      have hym : (l1 x)[j] ∈ l1 x := List.getElem_mem hjl
      revert hyj hym
      generalize (l1 x)[j] = y
      intro hyj hym
      have hd6 : ((l1 x).map (f1 x))[j]? = some (f1 x y) := by rw [List.getElem?_map, hyj]; rfl
      have htk6 : (l1 x).take (j + 1) = (l1 x).take j ++ [y] := by rw [List.take_add_one, hyj]; rfl
      obtain ⟨ρe, eg1, ew1, ge⟩ := inner y hym
      have I6 := I5.gro e6
      have hD6 : H6 D = some (.lst avs5) := e6 _ _ hD5
      have nk6 : gro Hk5 H5 H6 D = none := by rw [gro_old hD5]; exact nk5
      have Iw1 : Ok K [] (wipe σ2 vs1) B H0 ρd (wipe σ2 vs1) (gro Hk5 H5 H6) H6 := by
        refine I6.swap (fun i hi => nomatch hi) (by rw [wipe_length]; exact I5.len) fun i x hx => ?_
        by_cases z : i ∈ vs1
        · have := nv1 i z
          rw [hx] at this
          exact .inl (Option.some.inj this)
        · exact .inr ⟨hx, wipe_out z⟩
      have noW1 : ¬ Ow ρd (wipe σ2 vs1) D := by
        rintro ⟨i, ds, q1, q2⟩
        exact no2 ⟨i, ds, q1, (wipe_some q2).1⟩
      have D6 : (fenF H0 ρd (wipe σ2 vs1) H6).h D = some (.lst avs5) := by show fen ρd (wipe σ2 vs1) H6 D = _; rw [fen_not noW1]; exact hD6
      refine hw1 _ _ _ _ (eg1 _ _ _ _ _ _ yv Iw1.inner (Dp.mono (gro_le m5) _ (fd6 _ hd6)) _ fun σ3 I7i wz1 => yes_of (iteT ?_))
      have I7 := Iw1.outer I7i
      have no3 : ¬ Ow ρe σ3 D := by
        rintro ⟨i, zs, q1, q2⟩
        obtain ⟨a, us, s1, s2, s3, s4, s5⟩ := I7i.own i zs q1
        rw [q2] at s1
        injection s1 with s1; injection s1 with s1; injection s1 with s1; subst s1
        rw [D6] at s4
        cases s4
      have keyE : ∀ (i : Nat) (y : Sl), ρd[i]? = some y → y = .no ∨ (ρe[i]? = some y ∧ σ2[i]? = σ3[i]?) := fun i y hy => by
        rw [← ew1] at hy
        rcases wipeS_get hy with e | ⟨q1, q2⟩
        · exact .inl e
        · refine .inr ⟨q2, ?_⟩
          rw [← wipe_out (σ := σ2) q1, ← wipe_out (σ := σ3) q1, wz1]
      refine ge _ _ _ _ σ3 _ H6 I7.inner _ fun v Hk8 Hr8 I8 m8 hv8 => ?_
      obtain ⟨hD8, nk8, _⟩ := I7.stay I8 hD6 nk6 no3
      have I8' := (I7.bors I8).swap (bi' := []) (σ0' := σ2) (fun i hi => nomatch hi) I5.len keyE
      have mm : Same Hk5 Hk8 := (gro_same I5.kr).trans m8
      have hl1 : (((l.take i).flatMap fun x => (l1 x).map (gg x)) ++ ((l1 x).take j).map (gg x)).length < 100000 := by
        have := len_le_flat (F := fun x => (l1 x).map (gg x)) hx (m := j + 1) (by rw [List.length_map]; omega)
        rw [List.length_append, List.length_map, List.length_take]
        omega
      refine ⟨avs5, hD8, by rw [DpAll.len hacc5]; exact lt_line hl1, avs5 ++ [v], Hk8, I8'.put nk8 n0 no2, m5.trans mm, nk8, upd_same, ?_⟩
      rw [htk6, List.map_append, ← List.append_assoc]
      exact DpAll.app (DpAll.mono mm _ hacc5) (.cons hv8 .nil)
    · have ej : j = (l1 x).length := by omega
      refine .inl ⟨v2 (by omega), avs5, Hk5, I5.swap I'.bor I'.len keyS, m'.trans (s14.trans m5), nk5, hD5, ?_, no⟩
      rw [htk, List.flatMap_append]
      rw [ej, List.take_length] at hacc5
      simpa using hacc5
  · have : i = l.length := by omega
    subst this
    rw [List.take_length] at hacc
    exact .inl ⟨w2 rfl, q D avs Hk' H I' (m1.trans m') hD nk n0 no hacc⟩
section
variable {X : Cx} {elt tg iter tg1 iter1 : Expr} {scope : Scope} {own : List (Str × Nat)} {vs1 : List Nat} {ρ ρ1 : List Sl} {pos : Pos} {α β : Type} {l : List α} {f : α → PyData} {l1 : α → List β} {f1 : α → β → PyData} {gg : α → β → PyData} {g g1 : TG}
theorem el_lc2 (hi : EI X tg iter ρ (l.map f) ρ1) (hw : GW g (own.map (·.2))) (hw1 : GW g1 vs1) (hv : ∀ i ∈ own.map (·.2), ρ1[i]? = some .no) (hlen : (l.flatMap fun x => (l1 x).map (gg x)).length ≤ 100000)
    (ht : ∀ x ∈ l, ∃ ρd, EG X.K [] g ρ1 (f x) ρd ∧ wipeS ρd (own.map (·.2)) = ρ1 ∧ (∀ i ∈ vs1, ρd[i]? = some .no) ∧ BI X scope tg1 iter1 ρd ((l1 x).map (f1 x)) ρd ∧ ∀ y ∈ l1 x, ∃ ρe, EG X.K [] g1 ρd (f1 x y) ρe ∧ wipeS ρe vs1 = ρd ∧ BE X scope elt ρe (gg x y) ρe)
    (hN : X.N.Nodup) (ok : BlkOk X.N X.env.scope scope own) (hsub : ∀ i ∈ vs1, i ∈ own.map (·.2)) (hg : ∀ (s : Shared) (H : Hp) (C : Addr) (cl : List (Str × Addr)) (fp : List Addr), PG (X.blk s H scope (compEnvC scope cl C X.env) fp) tg g)
    (hg1 : ∀ (s : Shared) (H : Hp) (C : Addr) (cl : List (Str × Addr)) (fp : List Addr), PG (X.blk s H scope (compEnvC scope cl C X.env) fp) tg1 g1)
    (hc : X.calm = true := by rfl) (hs : ∀ x, foldedSetIterable iter X.env x = pure x := by intro _; rfl) (hs1 : ∀ env x, foldedSetIterable iter1 env x = pure x := by intro _ _; rfl) : EL X (.ListComp elt [⟨tg, iter, [], 0⟩, ⟨tg1, iter1, [], 0⟩] scope pos) ρ ρ1 (l.flatMap fun x => (l1 x).map (gg x)) := fun bi σ0 B H0 σ Hk Hr I Q q => by
  obtain ⟨wi, pi, hi⟩ := hi
  exact sE_of (pe_lc2 hc hN pi ok hsub hg (fun _ _ _ _ _ => pts_nil) pi_b hg1 (fun _ _ _ _ _ => pts_nil) pe_b hs hs1) (lc2_raw hi hw hw1 hv hlen (fun x hx => by
    obtain ⟨ρd, h1, h2, h3, h4, h5⟩ := ht x hx
    exact ⟨ρd, h1, h2, h3, h4.gi, fun y hy => by
      obtain ⟨ρe, k1, k2, k3⟩ := h5 y hy
      exact ⟨ρe, k1, k2, k3.ge⟩⟩) bi σ0 B H0 σ Hk Hr I Q q)
end
end Pd
namespace Pd
open PySem L2 PySem.Spec PyProof.Rows
/-- an exception class of the program's own with an __init__ that stores its one argument as fld -/
structure XCls (K : PySem.W.Frag) (mg : Str → Option Value) (x fld : Str) (C fI : Addr) : Prop where
  T : OexC K C
  xf : XfC K C
  noN : PySem.W.findIn K (.ref C) fld = some none
  iC : PySem.W.findIn K (.ref C) "__init__" = some (some (.ref fI))
  tI : PySem.W.typeIn K (.ref fI) = some (.type "function")
  gC : mg x = some (.ref C)
  te : PySem.W.exmOne K (.ref C) (.ref C) = some true
def spI (K : PySem.W.Frag) (C : Addr) (fld : Str) : Sp := fun vs H Q _ => ∃ (a : Addr) (v : V), vs = [.ref a, v] ∧ H a = some (exo a C none) ∧ ∀ dx, H dx = none → dx ≠ a → Q .non (upd (upd H dx (exd dx [(fld, v)])) a (exo a C (some dx)))
section
variable {P : Program} {w : World} {K : PySem.W.Frag} {mg : Str → Option Value} {base : Heap} {qual p fld : Str} {st : Stmt} {f C : Addr} {fd : FuncData} {q1 q2 q3 q4 : Pos}
theorem init_ok (F : Fun K "__init__" qual st f fd) (S : FnScope [Str.ofString "self", p] [Str.ofString "self", p] (defScope st)) (T : OexC K C) (noN : PySem.W.findIn K (.ref C) fld = some none)
    (hb : ∀ X : Cx, X.N = [Str.ofString "self", p] → X.env.scope = defScope st → PSs X (defBody st) (tOst X.K fld (tVar 0) (tVar 1))) : FnOk P w K mg base CX0 1 f fd [Str.ofString "self", p] (spI K C fld) := by
  refine F.ok S (fun vs H Q E h => ?_) (fun cdv A outer s H vs Q E hr h => ?_)
  · obtain ⟨a, v, rfl, _⟩ := h
    rfl
  · obtain ⟨a, v, rfl, ha, k⟩ := h
    exact ⟨_, hb _ rfl rfl, v, rfl, .ref a, rfl, a, C, rfl, T, noN, .inl ⟨ha, fun dx n ne => k dx n ne⟩⟩
end
section
variable {X : Cx} {bi : List Nat} {e : Expr} {rest : List Stmt} {ρ ρ1 : List Sl} {N : List Sl → Prop} {R : RTy} {d : PyData} {pos cpos p0 : Pos} {x fld p : Str} {C fI : Addr} {fd : FuncData} {k : Nat} {W : WX}
theorem ss_raise (T : XCls X.K X.mg x fld C fI) (F1 : FnOk X.prog X.w X.K X.mg X.base CX0 k fI fd [Str.ofString "self", p] (spI X.K C fld)) (hr : Room (k + 1) X.A) (hb : Binds X.K fd [Str.ofString "self", p] []) (tk : Takes X W) (he : EE X e ρ d ρ1) (hbi : bi = [])
    (hW : ∀ σ v dd H', Same X.H_0 H' → H' dd = some (.xd [(fld, v)]) → Dp X.K H' v d → W (.ref C) (some dd) σ H') (hc : X.calm = true := by rfl) (hg : Gl X x := by rfl) (hdb : (x == ("__debug__" : Str)) = false := by decide) (hs : starEach [e] X.env = (false, eval e X.env) :: starEach [] X.env := by rfl) (hpl : (backTo cpos (starEach [] X.env)).any (·.1) = false := by rfl) :
    SS X bi (.Raise (some (.Call (.Name x p0) [e] [] cpos)) none pos :: rest) ρ N R := fun σ0 B H0 hz σ Hk Hr D I nx rt =>
  sSs_of (pss_cons (ps_raise hc tk (pmk_oex T.T T.iC T.tI F1 hr hb .nil pass0 hg T.gC pa_s hdb hs hpl)) pss_s) ((ea_cons he ea_nil hs) bi σ0 B H0 σ Hk Hr I _ fun vs Hk1 Hr1 I1 m1 h1 => by
    cases h1 with
    | cons h1 h2 =>
      rename_i v vs'
      cases h2
      refine ⟨by show 1 ≤ 1000; decide, fun a ha => ⟨a, v, rfl, upd_same, fun dx n ne => ⟨rfl, dx, [(fld, v)], upd_same, by rw [upd_ne ne, upd_same], ?_, ?_⟩⟩⟩
      · rw [upd_ne ne] at n
        exact n
      · rw [upd_ne ne] at n
        have far : ∀ b o, Hr1 b = some o → upd (del (upd (upd (upd Hr1 a (exo a C none)) dx (exd dx [(fld, v)])) a (exo a C (some dx))) a) dx (.xd [(fld, v)]) b = some o := fun b o hb' => by
          have n1 : b ≠ a := ne_of_none hb' ha
          have n2 : b ≠ dx := ne_of_none hb' n
          rw [upd_ne n2, del_ne n1, upd_ne n1, upd_ne n2, upd_ne n1]
          exact hb'
        exact hW σ v dx _ (fun b o hb' => far b o (I1.real _ _ (I1.eh b o (hz hbi b o hb')))) upd_same (Dp.mono (fun b o hb' => far b o (I1.kr _ _ hb')) _ h1))
end
/-- a def that gives d, or raises C with d in fld -/
def spX (K : PySem.W.Frag) (n : Nat) (C : Addr) (fld : Str) (φ ψ : List PyData → PyData → Prop) : Sp := fun vs H Q E => ∃ (B : Hp) (ds : List PyData), ds.length = n ∧ Same B H ∧ DpAll K B vs ds ∧
  ((∃ d, φ ds d ∧ ∀ v H', Same H H' → Dp K (gro B H H') v d → Q v H') ∨ ∃ d, ψ ds d ∧ ∀ v dd H', Same H H' → H' dd = some (.xd [(fld, v)]) → Dp K H' v d → E (.ref C) (some dd) H')
section
variable {P : Program} {w : World} {K : PySem.W.Frag} {mg : Str → Option Value} {base : Heap} {x qual fld : Str} {st : Stmt} {f C : Addr} {fd : FuncData} {N ps : List Str} {k : Nat}
theorem fdX_of {φ ψ : List PyData → PyData → Prop} (F : Fun K x qual st f fd) (S : FnScope N ps (defScope st)) (hl : ps.length ≤ N.length)
    (body : ∀ (cdv : Value) (A : Around) (outer : List Env) (s : Shared) (H : Hp) (E : XK), Room k (A.deeper (envOfC qual (defScope st) s.heap.objs.size f cdv)) →
      (∀ ds d, φ ds d → ds.length = ps.length → SS (cxOf (L2.CX P w) P w K mg base N qual (defScope st) f cdv A outer s H E) [] (defBody st) (rho ds (N.length - ps.length)) (fun _ => d = .none) (RDt K fun d' _ => d' = d)) ∧
      (∀ ds d, ψ ds d → ds.length = ps.length → (∀ v dd H', Same H H' → H' dd = some (.xd [(fld, v)]) → Dp K H' v d → E (.ref C) (some dd) H') →
        SS (cxOf (L2.CX P w) P w K mg base N qual (defScope st) f cdv A outer s H E) [] (defBody st) (rho ds (N.length - ps.length)) (fun _ => False) (fun _ _ _ _ _ => False))) :
    FnOk P w K mg base (L2.CX P w) (k + 1) f fd ps (spX K ps.length C fld φ ψ) := by
  refine F.okX S (fun vs H Q E h => ?_) (fun cdv A outer s H vs Q E hr h => ?_)
  · obtain ⟨B, ds, h1, _, h2, _⟩ := h
    rw [DpAll.len h2, h1]
  · obtain ⟨B, ds, h1, kr, ha, h⟩ := h
    obtain ⟨b1, b2⟩ := body cdv A outer s H E hr
    rcases h with ⟨d, hφ, q⟩ | ⟨d, hψ, q⟩
    · refine ⟨_, pss_s, b1 ds d hφ h1 (L2.start N vs) ⟨B, H⟩ ⟨H, fun _ => none⟩ (fun _ _ _ h => h) (L2.start N vs) B H _ (entry_ok kr ha h1 hl) ?_ ?_⟩
      · intro ρ' σ' Hk' Hr' e ⟨H1, I'⟩ _
        subst e
        exact q .non Hr' (I'.eh.trans I'.real) .non
      · rintro v ρ' σ' Hk' Hr' ⟨d', e, hv⟩ ⟨H1, I'⟩
        subst e
        refine q v Hr' (I'.eh.trans I'.real) (Dp.mono (fun b o h => ?_) _ hv)
        cases z : H b with
        | none => rw [gro_new z]; exact I'.kr _ _ h
        | some u => rw [gro_old z]; exact I'.old b o h (by rw [I'.eh b _ z]; exact fun z => nomatch z)
    · exact ⟨_, pss_s, b2 ds d hψ h1 q (L2.start N vs) ⟨B, H⟩ ⟨H, fun _ => none⟩ (fun _ _ _ h => h) (L2.start N vs) B H _ (entry_ok kr ha h1 hl) (fun _ _ _ _ e _ _ => e.elim) (fun _ _ _ _ _ e _ => e.elim)⟩
end
/-- a def that may raise, called by its name -/
structure CalX (P : Program) (w : World) (K : PySem.W.Frag) (mg : Str → Option Value) (base : Heap) (k : Nat) (x : Str) (ps : List Str) (sp : Sp) : Prop where
  ex : ∃ (f : Addr) (fd : FuncData), FnOk P w K mg base (L2.CX P w) k f fd ps sp ∧ mg x = some (.ref f) ∧ PySem.W.keepIn K (.ref f) = true ∧ Binds K fd ps []
section
variable {X : Cx} {e : Expr} {es : List Expr} {ρ ρ1 : List Sl} {d : PyData} {ds : List PyData} {pos p0 : Pos} {x fld : Str} {ps : List Str} {k n : Nat} {C : Addr} {φ ψ : List PyData → PyData → Prop}
/-- where it does not raise -/
theorem ee_callX (c : CalX X.prog X.w X.K X.mg X.base k x ps (spX X.K n C fld φ ψ)) (hr : Room k X.A) (ha : EA X (e :: es) ρ ds ρ1) (h : φ ds d) (hn : ds.length = n := by rfl)
    (hg : Gl X x := by rfl) (hdb : (x == ("__debug__" : Str)) = false := by decide) (he : starEach (e :: es) X.env = (false, eval e X.env) :: starEach es X.env := by rfl) (hpl : (backTo pos (starEach es X.env)).any (·.1) = false := by rfl) : EE X (.Call (.Name x p0) (e :: es) [] pos) ρ d ρ1 := fun bi σ0 B H0 σ Hk Hr I Q q => by
  obtain ⟨f, fd, F, hm, hk, hb⟩ := c.ex
  refine sE_of (pe_call (E := E0) F hr hg hm hk hb .nil passL pa_s hdb he hpl) (ha bi σ0 B H0 σ Hk Hr I _ fun vs Hk1 Hr1 I1 m1 h1 => ?_)
  rw [List.append_nil]
  exact ⟨Hk1, ds, hn, I1.kr, h1, .inl ⟨d, h, fun v H' e' hv => q v _ H' (I1.gro e') (m1.trans (gro_same I1.kr)) hv⟩⟩
end
section
variable {X : Cx} {e : Expr} {es : List Expr} {rest : List Stmt} {ρ ρ1 : List Sl} {N : List Sl → Prop} {d : PyData} {ds : List PyData} {pos cpos ep p0 np pos' a1 a2 cp rp sp0 : Pos} {x xn vn fld : Str} {ps : List Str} {k n i kk : Nat} {C fI : Addr} {φ ψ : List PyData → PyData → Prop} {y z : Str} {R : PyData → List Sl → Prop}
/-- try: f(..) except C as e: return e.fld == 'z', where f raises -/
theorem ss_tryEq (T : XCls X.K X.mg xn fld C fI) (c : CalX X.prog X.w X.K X.mg X.base k x ps (spX X.K n C fld φ ψ)) (hr : Room k X.A) (hxe : X.xe = fun _ _ => False) (ha : ∀ pn xe, EA (X.tr pn xe) (e :: es) ρ ds ρ1) (h : ψ ds (.str y)) (hn : ds.length = n)
    (hil : i < ρ1.length) (hR : R (.bool (decide (V.str y = V.str z))) (ρ1.set i .no)) (hN : X.N.Nodup) (hi : X.N[i]? = some vn) (hln : X.env.kindOf vn = some .local) (hs : X.stack = X.env :: X.outer) (hf : X.env.frame = some X.env.locals) (hgn : Names X xn (.ref C))
    (hcall : ∀ (W : WX) (pn : List (Addr × Obj)) (xe : Value → Shared → Prop), Takes (X.tr pn xe) W → ∀ (f : Addr) (fd : FuncData), FnOk X.prog X.w X.K X.mg X.base (L2.CX X.prog X.w) k f fd ps (spX X.K n C fld φ ψ) → X.mg x = some (.ref f) → PySem.W.keepIn X.K (.ref f) = true → Binds X.K fd ps [] →
      PSs (X.tr pn xe) [.Expr (.Call (.Name x p0) (e :: es) [] cpos) ep] (tDrop (tCallS (spX X.K n C fld φ ψ) (WE W) (sA (X.tr pn xe) (e :: es)))))
    (hsuite : ∀ (a : Addr) (oe : Obj) (cls : Value) (dd : Option Addr) (pn : List (Addr × Obj)), Zc cls dd oe → (∃ vs, oe.data = .fields vs) →
      PSs (X.suite a ((a, oe) :: pn)) [.Return (some (.Compare (.Attribute (.Name vn a1) fld a2) [.Eq] [.Constant (.str z) kk sp0] cp)) rp] (tRet (tOp rEq (tXf a cls dd C fld (tVar i)) (tC (.str z))))) :
    SS X [] (.Try [.Expr (.Call (.Name x p0) (e :: es) [] cpos) ep] [.ExceptHandler (some (.Name xn np)) (some vn) [.Return (some (.Compare (.Attribute (.Name vn a1) fld a2) [.Eq] [.Constant (.str z) kk sp0] cp)) rp] pos'] [] [] pos :: rest) ρ N (RDt X.K R) := fun σ0 B H0 hz σ Hk Hr D I nx rt => by
  obtain ⟨f, fd, F, hm, hk, hb⟩ := c.ex
  have tk0 : Takes X (fun _ _ _ _ => False) := takes0
  refine sSs_of (pss_cons (ps_try_as (tb := fun W D σ H => ∀ pn xe, Takes (X.tr pn xe) W → sSs (X.tr pn xe) [.Expr (.Call (.Name x p0) (e :: es) [] cpos) ep] D σ H) hs hf hN hi hln hgn tk0 (fun W pn xe tk _ => ⟨fun pins s σ H D I h => h pn xe tk pins s I⟩) hsuite) pss_s) ?_
  intro pn xe tk
  refine sSs_of (hcall _ pn xe tk f fd F hm hk hb) (ha pn xe [] σ0 B H0 σ Hk Hr I _ fun vs Hk1 Hr1 I1 m1 h1 => ?_)
  refine ⟨Hk1, ds, hn, I1.kr, h1, .inr ⟨.str y, h, fun v dd H' same hx hv => ?_⟩⟩
  cases hv
  refine ⟨true, T.te, fun _ a na => ?_, fun q => nomatch q⟩
  have hli : i < σ.length := by rw [← I1.len]; exact hil
  refine ⟨.ref a, by rw [List.getElem?_set_self hli], rfl, rfl, dd, [(fld, .str y)], .str y, rfl, hx, by simp [List.lookup], rfl, ?_⟩
  have I2 := I1.gro same
  refine rt (.bl (decide (V.str y = V.str z))) (ρ1.set i .no) (σ.set i (some (.ref a))) (gro Hk1 Hr1 H') H' ⟨.bool _, hR, .bl _⟩ ?_
  refine ⟨H0, I2.swap (fun i hi => nomatch hi) (by simp [I2.len]) fun j q hj => ?_⟩
  by_cases e : i = j
  · subst e
    have hl2 : i < ρ1.length := by rw [I1.len]; exact hli
    rw [List.getElem?_set_self hl2] at hj
    exact .inl (Option.some.inj hj).symm
  · rw [List.getElem?_set_ne e] at hj
    exact .inr ⟨hj, by rw [List.getElem?_set_ne e]⟩
end
end Pd
namespace Pd
open PySem L2 PySem.Spec PyProof.Rows
/-! ### sorted(t, reverse=True), t a tuple of tuples of ints that stands in that order -/
abbrev dTu (xs : List Int) : PyData := .tuple (xs.map .int)
theorem reads_ints {h : Heap} : ∀ {ns : List Int} {us : List Value}, Vals (ns.map V.int) us → ReadsAll h us (ns.map PyData.int) []
  | [], _, .nil => .nil
  | n :: ns, _ :: us, .cons r t => by
    have h2 := reads_ints (h := h) t
    obtain ⟨tk, e⟩ := r
    subst e
    exact ReadsAll.cons (as := []) (bs := []) (.int _ _) h2
theorem dT_reads {X : Cx} {pins : List (Addr × Obj)} {σ : L2.St} {H : Hp} {s : Shared} (I : Inv X pins σ H s) {B : Hp} (sm : Same B H) {v : V} {u : Value} {d : List Int} (hd0 : Dp X.K B v (dTu d)) (r : RelV v u) : (∃ a, u = .ref a ∧ Dp X.K B (.ref a) (dTu d)) ∧ Reads s.heap u (dTu d) [] := by
  have hd : Dp X.K H v (dTu d) := Dp.mono sm _ hd0
  cases hd with
  | tup hs ha =>
    have e1 := DpAll.ints ha
    subst e1
    obtain ⟨its, rv, ⟨o, ho, hc, n, hdt⟩, _⟩ := I.tuple hs
    obtain rfl := r
    exact ⟨⟨_, rfl, hd0⟩, .tuple ho hc hdt (by simpa using reads_ints (h := s.heap) rv)⟩
theorem each_data {X : Cx} {pins : List (Addr × Obj)} {σ : L2.St} {H : Hp} {s : Shared} (I : Inv X pins σ H s) {B : Hp} (sm : Same B H) : ∀ {vs : List V} {us : List Value} {ds : List (List Int)}, DpAll X.K B vs (ds.map dTu) → Vals vs us →
    PySem.W.EachIs (fun u d => ∃ a, u = Value.ref a ∧ Dp X.K B (.ref a) (dTu d)) us ds ∧ PySem.W.EachIs (fun u d => Reads s.heap u (dTu d) []) us ds
  | [], _, [], _, .nil => ⟨.nil, .nil⟩
  | _ :: _, _, [], h, _ => by cases h
  | [], _, _ :: _, h, _ => by cases h
  | v :: vs, _ :: us, d :: ds, h, .cons r t => by
    cases h with
    | cons h1 h2 =>
      obtain ⟨e1, e2⟩ := each_data I sm h2 t
      obtain ⟨f1, f2⟩ := dT_reads I sm h1 r
      exact ⟨.cons f1 e1, .cons f2 e2⟩
theorem dT_depth (d : List Int) : (dTu d).depth ≤ 1 := by
  show (PyData.tuple (d.map .int)).depth ≤ 1
  rw [PyData.depth, PySem.W.depth_ints]
  omega
theorem each_refs {R : Value → List Int → Prop} (hR : ∀ u d, R u d → ∃ a, u = Value.ref a) : ∀ {us : List Value} {ds : List (List Int)}, PySem.W.EachIs R us ds → ∀ u ∈ us, ∃ a, u = Value.ref a
  | _, _, .nil, u, hu => by cases hu
  | _, _, .cons h t, u, hu => by
    rcases List.mem_cons.mp hu with rfl | hu
    · exact hR _ _ h
    · exact each_refs hR t u hu
theorem each_dp {K : PySem.W.Frag} {H : Hp} : ∀ {us : List Value} {ds : List (List Int)}, PySem.W.EachIs (fun u d => ∃ a, u = Value.ref a ∧ Dp K H (.ref a) (dTu d)) us ds → DpAll K H (us.map backV) (ds.map dTu)
  | _, _, .nil => .nil
  | _, _, .cons h t => by
    obtain ⟨a, e, h⟩ := h
    subst e
    exact .cons h (each_dp t)
theorem alike_dT (x y : List Int) : PySem.W.alike (dTu x) (dTu y) = true := by
  show PySem.W.alike (.tuple (x.map .int)) (.tuple (y.map .int)) = true
  rw [PySem.W.alike, PySem.W.alike_ints]
theorem swo_none : SrtO.Swo fun (_ _ : Value) => false := ⟨fun _ _ h => (nomatch h), fun _ _ _ _ _ => rfl⟩
theorem sorted_tupR {X : Cx} {pins : List (Addr × Obj)} {σ : L2.St} {H : Hp} {s : Shared} {t : Addr} {vs : List V} {ds : List (List Int)} {Q : VK} (I : Inv X pins σ H s) (hs : SqT X.K H t vs) {B : Hp} (sm : Same B H) (hd : DpAll X.K B vs (ds.map dTu)) (hz : ds.length ≤ sizeLine)
    (hne : ds.length ≤ 1 ∨ ∀ d ∈ ds, d ≠ []) (ho : ds.Pairwise fun a b => PySem.W.dataLe true dTu a b = true) (hu : X.A.units + 100 < cLine)
    (q : ∀ (ys : List V) (p : Addr), DpAll X.K B ys (ds.map dTu) → H p = none → Q (.ref p) (upd H p (.lst ys))) :
    wpAny (model X.prog X.w) X.A (call (.builtin "sorted") [.ref t] [(Str.ofString "reverse", .bool true)]) (EP X pins σ Q) X.xe s := by
  obtain ⟨its, r, ⟨o, hob, hc, n, hdt⟩, hzt⟩ := I.tuple hs
  obtain ⟨e1, e2⟩ := each_data I sm hd r
  have hl : its.length = ds.length := e1.length
  refine call_function_entry_kw kind_sorted plain_sorted entry_sorted (args_sorted_rev _ _) ?_
  unfold Builtin.«sorted»
  refine wpAny_bind (m := checkCount "sorted" 1 1 _) (wpAny_pure (wpAny_bind (wpAny_collect_seq t (.inr rfl) hob hc hdt (fun h' hk => ?_) (by rw [List.size_toArray]; omega))))
  refine wpAny_bind (wpAny_newList ?_ (by simpa [hl] using hz))
  have hat : (h'.push (seqObj "list" its.toArray 0)).get? h'.objs.size = some (seqObj "list" its.toArray 0) := Heap.get?_push_size _ rfl
  have keep : ∀ b o, s.heap.get? b = some o → b < h'.objs.size ∧ (h'.push (seqObj "list" its.toArray 0)).get? b = some o := fun b o e => ⟨Heap.lt_size (hk b o e), Heap.get?_push_of_some _ (hk b o e)⟩
  have fr : s.heap.get? h'.objs.size = none := by
    cases z : s.heap.get? h'.objs.size with
    | none => rfl
    | some o => exact absurd (keep _ _ z).1 (Nat.lt_irrefl _)
  have fin : ∀ out : List Value, out.length = ds.length → PySem.W.EachIs (fun u d => ∃ a, u = Value.ref a ∧ Dp X.K B (.ref a) (dTu d)) out ds → EP X pins σ Q (.ref h'.objs.size) { s with heap := sortedHeap (h'.push (seqObj "list" its.toArray 0)) h'.objs.size its out.toArray } := fun out ol oe => by
    obtain ⟨ep, hat2⟩ := sortedHeap_at (out := out.toArray) hat
    have hn := I.hok.gone fr
    refine ⟨.ref h'.objs.size, upd H h'.objs.size (.lst (out.map backV)), I.laidN (t' := s.toks) (fun b u e => ?_) fr hn ⟨by rw [List.length_map, ol]; exact hz, out, ep, vals_back (each_refs (fun u d h => ⟨h.choose, h.choose_spec.1⟩) oe), hat2⟩, rfl, q _ _ (each_dp oe) hn⟩
    obtain ⟨k1, k2⟩ := keep b u e
    rw [sortedHeap_old (Nat.ne_of_lt k1) (Heap.lt_size k2)]
    exact k2
  have hzi : its.length ≤ sizeLine := by rw [hl]; exact hz
  rcases hne with h1 | h1
  · refine wpAny_bind (wpAny_holding (wpAny_call_entry_kw slot_list_sort ⟨_, hat, rfl⟩ entry_list_sort (SrtR.list_sort_ordR swo_none hat hzi (fun h2 => absurd h2 (by omega)) fun out _ hb => ⟨_, rfl, wpAny_pure ⟨_, rfl, ?_⟩⟩) (args_list_sort_rev _ _)))
    have hp : out.Perm its := hb.perm.trans (List.reverse_perm its)
    have e : out.toArray.reverse = its.toArray := by
      match its, hl, hp with
      | [], _, hp => rw [hp.eq_nil]; rfl
      | [x], _, hp => rw [List.perm_singleton.mp hp]; rfl
      | _ :: _ :: _, hl, _ => simp only [List.length_cons] at hl; omega
    simp only [if_true, e]
    exact fin its hl e1
  · refine wpAny_bind (wpAny_holding (PySem.W.list_sort_rev_data (enc := dTu) hat e1 (e2.mono fun u d h => ⟨[], PyProof.Rows.Reads.keeps (fun b o e => (keep b o e).2) h, fun z => nomatch z⟩) (PySem.W.AllAlike.of alike_dT) (.inl fun d hd => ?_) hz (fun d _ => ?_) fun out ol oe => wpAny_pure ⟨_, rfl, ?_⟩))
    · obtain ⟨d, hm, rfl⟩ := List.mem_map.mp hd
      cases d with
      | nil => exact absurd rfl (h1 _ hm)
      | cons x r => exact ⟨_, _, rfl⟩
    · have := dT_depth d
      show X.A.units + 1 + 1 + (dTu d).depth < cLine
      omega
    · rw [List.mergeSort_of_pairwise ho] at oe
      exact fin out ol oe
def rSortTR (K : PySem.W.Frag) : List V → List V → Hp → VK → Prop := fun vs zs H Q => ∃ (t : Addr) (xs : List V) (ds : List (List Int)) (B : Hp), vs = [V.ref t] ∧ zs = [.bl true] ∧ SqT K H t xs ∧ Same B H ∧ DpAll K B xs (ds.map dTu) ∧ ds.length ≤ sizeLine ∧ (ds.length ≤ 1 ∨ ∀ d ∈ ds, d ≠ []) ∧ (ds.Pairwise fun a b => PySem.W.dataLe true dTu a b = true) ∧
  ∀ (ys : List V) (p : Addr), DpAll K B ys (ds.map dTu) → H p = none → Q (.ref p) (upd H p (.lst ys))
theorem cr_sortTR {X : Cx} (hu : X.A.units + 100 < cLine) : CallRK X (.builtin "sorted") [Str.ofString "reverse"] (rSortTR X.K) := by
  intro pins s σ H vs zs us ws Q I r rz h
  obtain ⟨t, xs, ds, B, rfl, rfl, h1, sm, h2, h3, h4, h5, q⟩ := h
  obtain rfl := Vals.ref1 r
  obtain ⟨w1, rfl, e1⟩ := vals1 rz
  obtain rfl : w1 = Value.bool true := e1
  exact sorted_tupR I h1 sm h2 h3 h4 h5 hu q
section
variable {X : Cx} {e : Expr} {ρ ρ1 : List Sl} {ds : List (List Int)} {p0 p1 pos kp : Pos} {kn k : Nat}
theorem ee_sortTR (hr : Room k X.A) (hm : X.mg "sorted" = none) (ha : EE X e ρ (.tuple (ds.map dTu)) ρ1) (h3 : ds.length ≤ sizeLine) (h4 : ds.length ≤ 1 ∨ ∀ d ∈ ds, d ≠ []) (h5 : ds.Pairwise fun a b => PySem.W.dataLe true dTu a b = true)
    (h : PE X (.Call (.Name "sorted" p0) [e] [⟨some "reverse", .Constant (.bool true) kn p1, kp⟩] pos) (tCKw (rSortTR X.K) (tCons (sE X e) tNil) (tCons (tC (.bl true)) tNil))) :
    EE X (.Call (.Name "sorted" p0) [e] [⟨some "reverse", .Constant (.bool true) kn p1, kp⟩] pos) ρ (.list (ds.map dTu)) ρ1 := fun bi σ0 B H0 σ Hk Hr I Q q => by
  refine sE_of h (ha bi σ0 B H0 σ Hk Hr I _ fun v Hk1 Hr1 I1 m1 h1 => ?_)
  cases h1 with
  | tup hs ha =>
    refine ⟨_, _, ds, Hk1, rfl, rfl, same_t I1.kr hs, I1.kr, ha, h3, h4, h5, fun ys p hy hf => ?_⟩
    exact q _ _ _ (I1.gro (new_same hf _)) (m1.trans (gro_same I1.kr)) (gro_lst I1.kr hf hy)
end
end Pd
namespace Pd
open PySem L2 PySem.Spec PyProof.Rows
/-! isinstance of a list; a comprehension whose turns change the slots -/
theorem ty_lst {K : PySem.W.Frag} {H : Hp} {v : V} {ds : List PyData} (h : Dp K H v (.list ds)) : TyX K H v (.type "list") := by
  cases h with
  | lst hs ha =>
    rcases hs with (h | ⟨o, h⟩) | h
    · exact .base (.lst h)
    · exact .base (.frz h)
    · obtain ⟨o, its, n, ho, hc, _⟩ := h
      exact .kList ho hc
section
variable {X : Cx} {e elt tg iter : Expr} {scope : Scope} {own : List (Str × Nat)} {ρ ρ1 : List Sl} {ds : List PyData} {pos p0 : Pos} {k : Bool}
theorem ee_isL {T : String} {t : Expr} (ha : EE X e ρ (.list ds) ρ1) (hk : kitB "list" T = some k) (h : PE X (.Call (.Name "isinstance" p0) [e, t] [] pos) (tCB (rIsi X.K) (tCons (sE X e) (tCons (tC (.ty T)) tNil)))) : EE X (.Call (.Name "isinstance" p0) [e, t] [] pos) ρ (.bool k) ρ1 := fun bi σ0 B H0 σ Hk Hr I Q q => by
  refine sE_of h (ha bi σ0 B H0 σ Hk Hr I _ fun v Hk1 Hr1 I1 m1 h1 => ?_)
  exact ⟨v, .ty T, .type "list", .type T, k, rfl, .ty T, ty_lst (Dp.mono I1.kr _ h1), kit_ty hk, q _ Hk1 Hr1 I1 m1 (.bl _)⟩
theorem ee_lcS {g : TG} (S : Nat → List Sl) (F : Nat → PyData) (hi : EI X tg iter ρ ds (S 0)) (hw : GW g (own.map (·.2))) (hv : ∀ j, ∀ i ∈ own.map (·.2), (S j)[i]? = some .no) (hn : ds.length ≤ 100000)
    (ht : ∀ j d, ds[j]? = some d → ∃ ρd ρe, EG X.K [] g (S j) d ρd ∧ wipeS ρe (own.map (·.2)) = S (j + 1) ∧ ∀ (s : Shared) (H : Hp) (C : Addr) (cl : List (Str × Addr)) (fp : List Addr), EE (X.blk s H scope (compEnvC scope cl C X.env) fp) elt ρd (F j) ρe)
    (hN : X.N.Nodup) (ok : BlkOk X.N X.env.scope scope own) (hg : ∀ (s : Shared) (H : Hp) (C : Addr) (cl : List (Str × Addr)) (fp : List Addr), PG (X.blk s H scope (compEnvC scope cl C X.env) fp) tg g)
    (hc : X.calm = true := by rfl) (hs : ∀ x, foldedSetIterable iter X.env x = pure x := by intro _; rfl) : EE X (.ListComp elt [⟨tg, iter, [], 0⟩] scope pos) ρ (.list ((List.range ds.length).map F)) (S ds.length) := fun bi σ0 B H0 σ Hk Hr I Q q => by
  obtain ⟨wi, pi, hi⟩ := hi
  refine sE_of (pe_lc hc hN pi ok hg (fun _ _ _ _ _ => pts_nil) pe_b hs) (lc_ok hi hw (fun j acc ρ' => acc = (List.range j).map F ∧ ρ' = S j) ⟨rfl, rfl⟩ (fun j acc ρj h i hi => by rw [h.2]; exact hv j i hi) (fun j d acc ρj hd h => ?_) bi σ0 B H0 σ Hk Hr I Q fun v Hk' Hr' acc ρ' h I' m' hvd => ?_)
  · obtain ⟨rfl, rfl⟩ := h
    obtain ⟨ρd, ρe, eg, ew, be⟩ := ht j d hd
    have hj := (List.getElem?_eq_some_iff.mp hd).1
    have be2 : GE X.K (bE X scope elt) ρd (F j) ρe := fun bi σ0 B H0 σ Hk Hr I Q q s H C cl fp => be s H C cl fp bi σ0 B H0 σ Hk Hr I Q q
    refine ⟨by simp; omega, ρd, true, ρd, eg, gt_yes, fun _ => ⟨F j, ρe, be2, ?_, ew⟩, fun z => nomatch z⟩
    rw [List.range_succ, List.map_append]
    rfl
  · obtain ⟨rfl, rfl⟩ := h
    exact q v Hk' Hr' I' m' hvd
end
end Pd
/-! What an expression, a block gives, as a value that may be none (then nothing is said). -/
namespace Gn
open PySem L2 Pd PySem.Spec PyProof.Rows

inductive Res (β α : Type) where
  | ret (b : β) | nxt (a : α)

def VO (X : Cx) (e : Expr) (ρ : List Sl) (o : Option PyData) : Prop := ∀ d, o = some d → EE X e ρ d ρ
def TO (X : Cx) (e : Expr) (ρ : List Sl) (o : Option Bool) : Prop := ∀ b, o = some b → ET X e ρ b ρ
def WO (X : Cx) (e : Expr) (ρ : List Sl) (o : Option Bool) : Prop := ∀ b, o = some b → EW X e ρ b ρ
def AO (X : Cx) (es : List Expr) (ρ : List Sl) (o : Option (List PyData)) : Prop := ∀ ds, o = some ds → EA X es ρ ds ρ
def IO (X : Cx) (tg iter : Expr) (ρ : List Sl) (o : Option (List PyData)) : Prop := ∀ ds, o = some ds → EI X tg iter ρ ds ρ
/-- a new list -/
def LO (X : Cx) (e : Expr) (ρ : List Sl) (o : Option (List PyData)) : Prop := ∀ ds, o = some ds → EL X e ρ ρ ds
def OO (X : Cx) (e : Option Expr) (ρ : List Sl) (o : Option (Option Int)) : Prop := ∀ i, o = some i → EO X e ρ i ρ

theorem bnd {α β : Type} {o : Option α} {k : α → Option β} {b : β} (h : o.bind k = some b) : ∃ a, o = some a ∧ k a = some b := Option.bind_eq_some_iff.mp h
theorem mpd {α β : Type} {o : Option α} {k : α → β} {b : β} (h : o.map k = some b) : ∃ a, o = some a ∧ k a = b := Option.map_eq_some_iff.mp h

/-! ### operations on data -/
def intsOf : List PyData → Option (List Int)
  | [] => some []
  | .int i :: r => (intsOf r).map (i :: ·)
  | _ :: _ => none
theorem intsOf_eq : ∀ {ds : List PyData} {ns : List Int}, intsOf ds = some ns → ds = ns.map .int
  | [], ns, h => by cases h; rfl
  | d :: r, ns, h => by
    cases d <;> simp only [intsOf, reduceCtorEq] at h
    obtain ⟨m, h1, h2⟩ := mpd h
    subst h2
    rw [intsOf_eq h1]
    rfl
def boolsOf : List PyData → Option (List Bool)
  | [] => some []
  | .bool i :: r => (boolsOf r).map (i :: ·)
  | _ :: _ => none
theorem boolsOf_eq : ∀ {ds : List PyData} {ns : List Bool}, boolsOf ds = some ns → ds = ns.map .bool
  | [], ns, h => by cases h; rfl
  | d :: r, ns, h => by
    cases d <;> simp only [boolsOf, reduceCtorEq] at h
    obtain ⟨m, h1, h2⟩ := mpd h
    subst h2
    rw [boolsOf_eq h1]
    rfl
def asB : PyData → Option Bool
  | .bool b => some b
  | _ => none
def asI : PyData → Option Int
  | .int b => some b
  | _ => none
def asS : PyData → Option (List PyData)
  | .list b => some b
  | .tuple b => some b
  | _ => none
theorem asB_eq {d : PyData} {b : Bool} (h : asB d = some b) : d = .bool b := by cases d <;> simp only [asB, reduceCtorEq] at h; cases h; rfl
theorem asI_eq {d : PyData} {b : Int} (h : asI d = some b) : d = .int b := by cases d <;> simp only [asI, reduceCtorEq] at h; cases h; rfl
theorem asS_eq {d : PyData} {b : List PyData} (h : asS d = some b) : d = .list b ∨ d = .tuple b := by
  cases d <;> simp only [asS, reduceCtorEq] at h <;> cases h
  · exact .inl rfl
  · exact .inr rfl
def short (n : Nat) : Bool := Nat.ble n 100000
theorem short_le {n : Nat} (h : short n = true) : n ≤ 100000 := Nat.le_of_ble_eq_true h
def gd {α : Type} (b : Bool) (o : Option α) : Option α := match b with | true => o | false => none
theorem gd_some {α : Type} {b : Bool} {o : Option α} {a : α} (h : gd b o = some a) : b = true ∧ o = some a := by
  cases b
  · cases h
  · exact ⟨rfl, h⟩
def pAdd : PyData → PyData → Option PyData
  | .int i, .int j => some (.int (i + j))
  | .tuple a, .tuple b => gd (short (a.length + b.length)) (some (.tuple (a ++ b)))
  | _, _ => none
def pSub : PyData → PyData → Option PyData
  | .int i, .int j => some (.int (i - j))
  | _, _ => none
def inR (lo hi i : Int) : Bool := decide (lo ≤ i) && decide (i ≤ hi)
theorem inR_at {lo hi i : Int} (h : inR lo hi i = true) : lo ≤ i ∧ i ≤ hi := by
  unfold inR at h
  rw [Bool.and_eq_true] at h
  exact ⟨of_decide_eq_true h.1, of_decide_eq_true h.2⟩
def pMul : PyData → PyData → Option PyData
  | .int i, .int j => gd (inR (-18446744073709551615) 18446744073709551615 i) (some (.int (i * j)))
  | .tuple ds, .int k => gd (!ds.isEmpty && inR (-1000) 1000 k && Nat.ble ds.length 1000) (some (.tuple (List.replicate k.toNat ds).flatten))
  | _, _ => none
/-- comparisons of numbers, of tuples of numbers -/
def cLt : PyData → PyData → Option Bool
  | .int i, .int j => some (decide (i < j))
  | .tuple a, .tuple b => (intsOf a).bind fun ns => (intsOf b).bind fun ms => some (HT.lexLt ns ms)
  | _, _ => none
def cLe : PyData → PyData → Option Bool
  | .int i, .int j => some (decide (i ≤ j))
  | _, _ => none
def cGt : PyData → PyData → Option Bool
  | .int i, .int j => some (decide (i > j))
  | _, _ => none
def cGe : PyData → PyData → Option Bool
  | .int i, .int j => some (decide (i ≥ j))
  | _, _ => none
def cEq (a b : PyData) : Option Bool := match a, b with
  | .int i, .int j => some (decide (i = j))
  | a, b => gd (SeqAt.shaped a && SeqAt.shaped b) (some (PyData.eqv a b))
def cIs : PyData → PyData → Option Bool
  | .bool a, .bool b => some (decide (a = b))
  | _, _ => none
def cIn (a : PyData) : PyData → Option Bool
  | .list ds => gd (SeqAt.shaped a && SeqAt.shaped (.list ds)) (some (ds.any fun z => PyData.eqv z a))
  | _ => none
theorem cEq_eqv {a b : PyData} {k : Bool} (h : cEq a b = some k) : SeqAt.shaped a = true ∧ SeqAt.shaped b = true ∧ k = PyData.eqv a b := by
  unfold cEq at h
  split at h
  · injection h with h
    exact ⟨shaped_int _, shaped_int _, by rw [eqv_int]; exact h.symm⟩
  · obtain ⟨h1, h2⟩ := gd_some h
    rw [Bool.and_eq_true] at h1
    injection h2 with h2
    exact ⟨h1.1, h1.2, h2.symm⟩

section
variable {X : Cx} {a b e c elt tg iter : Expr} {es : List Expr} {ρ ρ1 : List Sl} {o o1 o2 : Option PyData} {n k : Nat} {pos p0 p1 p2 : Pos} {x y : Str} {d : PyData}
/-! ### names, numbers -/
theorem vo_var (hN : X.N[n]? = some x) (hr : ρ[n]? = some (.val d)) (hv : Vis X.env.scope x := by first | exact Or.inl rfl | exact Or.inr (Or.inl rfl) | exact Or.inr (Or.inr rfl)) (hd : (x == ("__debug__" : Str)) = false := by decide)
    (hcd : (x == ("__classdict__" : Str)) = false := by decide) : VO X (.Name x pos) ρ (some d) := fun d' h => by
  cases h
  exact ee_var hN hr hv hd hcd
theorem vo_int {i : Int} : VO X (.Constant (.int i) n pos) ρ (some (.int i)) := fun d h => by cases h; exact ee_int
theorem vo_bl {i : Bool} : VO X (.Constant (.bool i) n pos) ρ (some (.bool i)) := fun d h => by cases h; exact ee_bl
theorem vo_non : VO X (.Constant .none n pos) ρ (some .none) := fun d h => by cases h; exact ee_non
theorem vo_str {z : Str} : VO X (.Constant (.str z) n pos) ρ (some (.str z)) := fun d h => by cases h; exact ee_str
theorem vo_glob {u : Value} {i : Int} (hg : Gl X x) (hm : X.mg x = some u) (r : RelV (.int i) u) (hn : x ≠ "__name__" := by decide) (hd : (x == ("__debug__" : Str)) = false := by decide) : VO X (.Name x pos) ρ (some (.int i)) := fun d h => by cases h; exact ee_glob hg hm r hn hd
theorem ao_nil : AO X [] ρ (some []) := fun ds h => by cases h; exact ea_nil
theorem ao_cons {oe : Option PyData} {or : Option (List PyData)} (ha : VO X e ρ oe) (hr : AO X es ρ or) (hs : starEach (e :: es) X.env = (false, eval e X.env) :: starEach es X.env := by rfl) : AO X (e :: es) ρ (oe.bind fun d => or.bind fun ds => some (d :: ds)) := fun ds h => by
  obtain ⟨d, h1, h⟩ := bnd h
  obtain ⟨r, h2, h⟩ := bnd h
  cases h
  exact ea_cons (ha _ h1) (hr _ h2) hs
/-! ### operators -/
theorem vo_add (ha : VO X a ρ o1) (hb : VO X b ρ o2) : VO X (.BinOp a .Add b pos) ρ (o1.bind fun x => o2.bind fun y => pAdd x y) := fun d h => by
  obtain ⟨x, h1, h⟩ := bnd h
  obtain ⟨y, h2, h⟩ := bnd h
  cases x <;> cases y <;> simp only [pAdd, reduceCtorEq] at h
  · cases h; exact ee_op op_add (ha _ h1) (hb _ h2) rd_int0
  · obtain ⟨g1, g2⟩ := gd_some h
    cases g2; exact ee_op op_catA (ha _ h1) (hb _ h2) (rd_cat (short_le g1))
theorem vo_sub (ha : VO X a ρ o1) (hb : VO X b ρ o2) : VO X (.BinOp a .Sub b pos) ρ (o1.bind fun x => o2.bind fun y => pSub x y) := fun d h => by
  obtain ⟨x, h1, h⟩ := bnd h
  obtain ⟨y, h2, h⟩ := bnd h
  cases x <;> cases y <;> simp only [pSub, reduceCtorEq] at h
  cases h; exact ee_op op_sub (ha _ h1) (hb _ h2) rd_int0
theorem vo_mul (ha : VO X a ρ o1) (hb : VO X b ρ o2) : VO X (.BinOp a .Mult b pos) ρ (o1.bind fun x => o2.bind fun y => pMul x y) := fun d h => by
  obtain ⟨x, h1, h⟩ := bnd h
  obtain ⟨y, h2, h⟩ := bnd h
  cases x <;> cases y <;> simp only [pMul, reduceCtorEq] at h
  · obtain ⟨g1, g2⟩ := gd_some h
    obtain ⟨g3, g4⟩ := inR_at g1
    cases g2; exact ee_op op_mul (ha _ h1) (hb _ h2) (rd_int (.inl ⟨by omega, by omega⟩))
  · obtain ⟨g1, g2⟩ := gd_some h
    rw [Bool.and_eq_true, Bool.and_eq_true] at g1
    obtain ⟨⟨q1, q2⟩, q3⟩ := g1
    obtain ⟨g3, g4⟩ := inR_at q2
    cases g2; exact ee_rep (ha _ h1) (hb _ h2) (by intro z; subst z; cases q1) ⟨g3, g4, Nat.le_of_ble_eq_true q3⟩
theorem vo_neg (ha : VO X a ρ o1) : VO X (.UnaryOp .USub a pos) ρ (o1.bind fun x => (asI x).map fun i => .int (-i)) := fun d h => by
  obtain ⟨x, h1, h⟩ := bnd h
  obtain ⟨i, h2, h⟩ := mpd h
  subst h
  rw [asI_eq h2] at h1
  exact ee_neg (ha _ h1)
end
end Gn
namespace Gn
open PySem L2 Pd PySem.Spec PyProof.Rows
def pLen : PyData → Option PyData
  | .list ds => some (.int (ds.length : Nat))
  | .tuple ds => some (.int (ds.length : Nat))
  | _ => none
def pIx : PyData → PyData → Option PyData
  | .list ds, .int i => atI ds i
  | .tuple ds, .int i => atI ds i
  | _, _ => none
def pCut (l u : Option Int) : PyData → Option PyData
  | .list ds => some (.list (cutD ds l u))
  | .tuple ds => some (.tuple (cutD ds l u))
  | _ => none
def truth : PyData → Option Bool
  | .bool b => some b
  | .list ds => some (!ds.isEmpty)
  | .tuple ds => some (!ds.isEmpty)
  | .int i => some (i != 0)
  | .none => some false
  | _ => none
def pSum : PyData → Option PyData
  | .list ds => (intsOf ds).map fun ns => .int ns.sum
  | .tuple ds => (intsOf ds).map fun ns => .int ns.sum
  | _ => none
def pAll : PyData → Option Bool
  | .list ds => (boolsOf ds).map fun ns => ns.all id
  | _ => none
section
variable {X : Cx} {a b e c elt tg iter : Expr} {es : List Expr} {ρ ρ1 : List Sl} {o o1 o2 : Option PyData} {oc ob : Option Bool} {n k : Nat} {pos p0 p1 p2 : Pos} {x y : Str} {d : PyData}
/-! ### comparisons -/
theorem cmp_core {op : CmpOp} {f : PyData → PyData → Option Bool} {rr : PyData → PyData → R2} (hf : ∀ d1 d2 r, f d1 d2 = some r → ∃ q : R2, OpR X (compareOp op) q ∧ RD X.K q d1 d2 (.bool r)) (ha : VO X a ρ o1) (hb : VO X b ρ o2) (hm : behindInMarks op b = false) :
    (VO X (.Compare a [op] [b] pos) ρ (o1.bind fun x => o2.bind fun y => (f x y).map .bool)) ∧ TO X (.Compare a [op] [b] pos) ρ (o1.bind fun x => o2.bind fun y => f x y) := by
  constructor
  · intro d h
    obtain ⟨x, h1, h⟩ := bnd h
    obtain ⟨y, h2, h⟩ := bnd h
    obtain ⟨r, h3, h⟩ := mpd h
    subst h
    obtain ⟨q, q1, q2⟩ := hf _ _ _ h3
    exact ee_cmp q1 (ha _ h1) (hb _ h2) q2 hm
  · intro d h
    obtain ⟨x, h1, h⟩ := bnd h
    obtain ⟨y, h2, h⟩ := bnd h
    obtain ⟨q, q1, q2⟩ := hf _ _ _ h
    exact et_cmp q1 (ha _ h1) (hb _ h2) q2 hm
theorem lt_f (hr : Room k X.A) : ∀ d1 d2 r, cLt d1 d2 = some r → ∃ q : R2, OpR X (compareOp .Lt) q ∧ RD X.K q d1 d2 (.bool r) := fun d1 d2 r h => by
  unfold cLt at h
  split at h
  · cases h; exact ⟨_, op_lt, rd_cmp⟩
  · obtain ⟨ns, h1, h⟩ := bnd h
    obtain ⟨ms, h2, h⟩ := bnd h
    cases h
    rw [intsOf_eq h1, intsOf_eq h2]
    exact ⟨_, op_ltT hr.units0, rd_ltT⟩
  · cases h
theorem le_f : ∀ d1 d2 r, cLe d1 d2 = some r → ∃ q : R2, OpR X (compareOp .LtE) q ∧ RD X.K q d1 d2 (.bool r) := fun d1 d2 r h => by
  unfold cLe at h
  split at h
  · cases h; exact ⟨_, op_le, rd_cmp⟩
  · cases h
theorem gt_f : ∀ d1 d2 r, cGt d1 d2 = some r → ∃ q : R2, OpR X (compareOp .Gt) q ∧ RD X.K q d1 d2 (.bool r) := fun d1 d2 r h => by
  unfold cGt at h
  split at h
  · cases h; exact ⟨_, op_gt, rd_cmp⟩
  · cases h
theorem ge_f : ∀ d1 d2 r, cGe d1 d2 = some r → ∃ q : R2, OpR X (compareOp .GtE) q ∧ RD X.K q d1 d2 (.bool r) := fun d1 d2 r h => by
  unfold cGe at h
  split at h
  · cases h; exact ⟨_, op_ge, rd_cmp⟩
  · cases h
theorem eq_f (hr : Room k X.A) : ∀ d1 d2 r, cEq d1 d2 = some r → ∃ q : R2, OpR X (compareOp .Eq) q ∧ RD X.K q d1 d2 (.bool r) := fun d1 d2 r h => by
  obtain ⟨h1, h2, rfl⟩ := cEq_eqv h
  exact ⟨_, op_eqD hr.units, rd_eqD h1 h2⟩
theorem ne_f (hr : Room k X.A) : ∀ d1 d2 r, (cEq d1 d2).map (!·) = some r → ∃ q : R2, OpR X (compareOp .NotEq) q ∧ RD X.K q d1 d2 (.bool r) := fun d1 d2 r h => by
  obtain ⟨b, h', hb⟩ := mpd h
  subst hb
  clear h
  revert h'
  intro h
  obtain ⟨h1, h2, rfl⟩ := cEq_eqv h
  exact ⟨_, op_neD hr.units, rd_neD h1 h2⟩
theorem is_f : ∀ d1 d2 r, cIs d1 d2 = some r → ∃ q : R2, OpR X (compareOp .Is) q ∧ RD X.K q d1 d2 (.bool r) := fun d1 d2 r h => by
  unfold cIs at h
  split at h
  · cases h; exact ⟨_, op_isBl, rd_isB⟩
  · cases h
theorem isnot_f : ∀ d1 d2 r, (cIs d1 d2).map (!·) = some r → ∃ q : R2, OpR X (compareOp .IsNot) q ∧ RD X.K q d1 d2 (.bool r) := fun d1 d2 r h => by
  obtain ⟨b, h', hb⟩ := mpd h
  subst hb
  clear h
  revert h'
  intro h
  unfold cIs at h
  split at h
  · cases h; exact ⟨_, op_notBl, rd_notB⟩
  · cases h
theorem in_f (hr : Room k X.A) : ∀ d1 d2 r, cIn d1 d2 = some r → ∃ q : R2, OpR X (compareOp .In) q ∧ RD X.K q d1 d2 (.bool r) := fun d1 d2 r h => by
  unfold cIn at h
  split at h
  · obtain ⟨h1, h2⟩ := gd_some h
    rw [Bool.and_eq_true] at h1
    cases h2
    exact ⟨_, op_inD (hu65 hr), rd_inD h1.1 h1.2⟩
  · cases h
theorem notin_f (hr : Room k X.A) : ∀ d1 d2 r, (cIn d1 d2).map (!·) = some r → ∃ q : R2, OpR X (compareOp .NotIn) q ∧ RD X.K q d1 d2 (.bool r) := fun d1 d2 r h => by
  obtain ⟨b, h', hb⟩ := mpd h
  subst hb
  clear h
  revert h'
  intro h
  unfold cIn at h
  split at h
  · obtain ⟨h1, h2⟩ := gd_some h
    rw [Bool.and_eq_true] at h1
    cases h2
    exact ⟨_, op_notInD (hu65 hr), rd_notInD h1.1 h1.2⟩
  · cases h
theorem vo_lt (hr : Room k X.A) (ha : VO X a ρ o1) (hb : VO X b ρ o2) (hm : behindInMarks .Lt b = false := by rfl) : VO X (.Compare a [.Lt] [b] pos) ρ (o1.bind fun x => o2.bind fun y => (cLt x y).map .bool) := (cmp_core (rr := fun _ _ => rEqD X.K) (lt_f hr) ha hb hm).1
theorem to_lt (hr : Room k X.A) (ha : VO X a ρ o1) (hb : VO X b ρ o2) (hm : behindInMarks .Lt b = false := by rfl) : TO X (.Compare a [.Lt] [b] pos) ρ (o1.bind fun x => o2.bind fun y => cLt x y) := (cmp_core (rr := fun _ _ => rEqD X.K) (lt_f hr) ha hb hm).2
theorem vo_le (ha : VO X a ρ o1) (hb : VO X b ρ o2) (hm : behindInMarks .LtE b = false := by rfl) : VO X (.Compare a [.LtE] [b] pos) ρ (o1.bind fun x => o2.bind fun y => (cLe x y).map .bool) := (cmp_core (f := fun x y => cLe x y) (rr := fun _ _ => rEqD X.K) le_f ha hb hm).1
theorem to_le (ha : VO X a ρ o1) (hb : VO X b ρ o2) (hm : behindInMarks .LtE b = false := by rfl) : TO X (.Compare a [.LtE] [b] pos) ρ (o1.bind fun x => o2.bind fun y => cLe x y) := (cmp_core (f := fun x y => cLe x y) (rr := fun _ _ => rEqD X.K) le_f ha hb hm).2
theorem vo_gt (ha : VO X a ρ o1) (hb : VO X b ρ o2) (hm : behindInMarks .Gt b = false := by rfl) : VO X (.Compare a [.Gt] [b] pos) ρ (o1.bind fun x => o2.bind fun y => (cGt x y).map .bool) := (cmp_core (f := fun x y => cGt x y) (rr := fun _ _ => rEqD X.K) gt_f ha hb hm).1
theorem to_gt (ha : VO X a ρ o1) (hb : VO X b ρ o2) (hm : behindInMarks .Gt b = false := by rfl) : TO X (.Compare a [.Gt] [b] pos) ρ (o1.bind fun x => o2.bind fun y => cGt x y) := (cmp_core (f := fun x y => cGt x y) (rr := fun _ _ => rEqD X.K) gt_f ha hb hm).2
theorem vo_ge (ha : VO X a ρ o1) (hb : VO X b ρ o2) (hm : behindInMarks .GtE b = false := by rfl) : VO X (.Compare a [.GtE] [b] pos) ρ (o1.bind fun x => o2.bind fun y => (cGe x y).map .bool) := (cmp_core (f := fun x y => cGe x y) (rr := fun _ _ => rEqD X.K) ge_f ha hb hm).1
theorem to_ge (ha : VO X a ρ o1) (hb : VO X b ρ o2) (hm : behindInMarks .GtE b = false := by rfl) : TO X (.Compare a [.GtE] [b] pos) ρ (o1.bind fun x => o2.bind fun y => cGe x y) := (cmp_core (f := fun x y => cGe x y) (rr := fun _ _ => rEqD X.K) ge_f ha hb hm).2
theorem vo_eq (hr : Room k X.A) (ha : VO X a ρ o1) (hb : VO X b ρ o2) (hm : behindInMarks .Eq b = false := by rfl) : VO X (.Compare a [.Eq] [b] pos) ρ (o1.bind fun x => o2.bind fun y => (cEq x y).map .bool) := (cmp_core (f := fun x y => cEq x y) (rr := fun _ _ => rEqD X.K) (eq_f hr) ha hb hm).1
theorem to_eq (hr : Room k X.A) (ha : VO X a ρ o1) (hb : VO X b ρ o2) (hm : behindInMarks .Eq b = false := by rfl) : TO X (.Compare a [.Eq] [b] pos) ρ (o1.bind fun x => o2.bind fun y => cEq x y) := (cmp_core (f := fun x y => cEq x y) (rr := fun _ _ => rEqD X.K) (eq_f hr) ha hb hm).2
theorem vo_ne (hr : Room k X.A) (ha : VO X a ρ o1) (hb : VO X b ρ o2) (hm : behindInMarks .NotEq b = false := by rfl) : VO X (.Compare a [.NotEq] [b] pos) ρ (o1.bind fun x => o2.bind fun y => ((cEq x y).map (!·)).map .bool) := (cmp_core (f := fun x y => (cEq x y).map (!·)) (rr := fun _ _ => rEqD X.K) (ne_f hr) ha hb hm).1
theorem to_ne (hr : Room k X.A) (ha : VO X a ρ o1) (hb : VO X b ρ o2) (hm : behindInMarks .NotEq b = false := by rfl) : TO X (.Compare a [.NotEq] [b] pos) ρ (o1.bind fun x => o2.bind fun y => (cEq x y).map (!·)) := (cmp_core (f := fun x y => (cEq x y).map (!·)) (rr := fun _ _ => rEqD X.K) (ne_f hr) ha hb hm).2
theorem vo_is (ha : VO X a ρ o1) (hb : VO X b ρ o2) (hm : behindInMarks .Is b = false := by rfl) : VO X (.Compare a [.Is] [b] pos) ρ (o1.bind fun x => o2.bind fun y => (cIs x y).map .bool) := (cmp_core (f := fun x y => cIs x y) (rr := fun _ _ => rEqD X.K) is_f ha hb hm).1
theorem to_is (ha : VO X a ρ o1) (hb : VO X b ρ o2) (hm : behindInMarks .Is b = false := by rfl) : TO X (.Compare a [.Is] [b] pos) ρ (o1.bind fun x => o2.bind fun y => cIs x y) := (cmp_core (f := fun x y => cIs x y) (rr := fun _ _ => rEqD X.K) is_f ha hb hm).2
theorem vo_isnot (ha : VO X a ρ o1) (hb : VO X b ρ o2) (hm : behindInMarks .IsNot b = false := by rfl) : VO X (.Compare a [.IsNot] [b] pos) ρ (o1.bind fun x => o2.bind fun y => ((cIs x y).map (!·)).map .bool) := (cmp_core (f := fun x y => (cIs x y).map (!·)) (rr := fun _ _ => rEqD X.K) isnot_f ha hb hm).1
theorem to_isnot (ha : VO X a ρ o1) (hb : VO X b ρ o2) (hm : behindInMarks .IsNot b = false := by rfl) : TO X (.Compare a [.IsNot] [b] pos) ρ (o1.bind fun x => o2.bind fun y => (cIs x y).map (!·)) := (cmp_core (f := fun x y => (cIs x y).map (!·)) (rr := fun _ _ => rEqD X.K) isnot_f ha hb hm).2
theorem vo_in (hr : Room k X.A) (ha : VO X a ρ o1) (hb : VO X b ρ o2) (hm : behindInMarks .In b = false := by rfl) : VO X (.Compare a [.In] [b] pos) ρ (o1.bind fun x => o2.bind fun y => (cIn x y).map .bool) := (cmp_core (f := fun x y => cIn x y) (rr := fun _ _ => rEqD X.K) (in_f hr) ha hb hm).1
theorem to_in (hr : Room k X.A) (ha : VO X a ρ o1) (hb : VO X b ρ o2) (hm : behindInMarks .In b = false := by rfl) : TO X (.Compare a [.In] [b] pos) ρ (o1.bind fun x => o2.bind fun y => cIn x y) := (cmp_core (f := fun x y => cIn x y) (rr := fun _ _ => rEqD X.K) (in_f hr) ha hb hm).2
theorem vo_notin (hr : Room k X.A) (ha : VO X a ρ o1) (hb : VO X b ρ o2) (hm : behindInMarks .NotIn b = false := by rfl) : VO X (.Compare a [.NotIn] [b] pos) ρ (o1.bind fun x => o2.bind fun y => ((cIn x y).map (!·)).map .bool) := (cmp_core (f := fun x y => (cIn x y).map (!·)) (rr := fun _ _ => rEqD X.K) (notin_f hr) ha hb hm).1
theorem to_notin (hr : Room k X.A) (ha : VO X a ρ o1) (hb : VO X b ρ o2) (hm : behindInMarks .NotIn b = false := by rfl) : TO X (.Compare a [.NotIn] [b] pos) ρ (o1.bind fun x => o2.bind fun y => (cIn x y).map (!·)) := (cmp_core (f := fun x y => (cIn x y).map (!·)) (rr := fun _ _ => rEqD X.K) (notin_f hr) ha hb hm).2
end
end Gn
namespace Gn
open PySem L2 Pd PySem.Spec PyProof.Rows
section
variable {X : Cx} {a b e c elt tg iter : Expr} {es rest : List Expr} {ρ ρ1 : List Sl} {o o1 o2 : Option PyData} {oc ob ow : Option Bool} {n k : Nat} {pos p0 p1 p2 : Pos} {x y : Str} {d : PyData} {kws : List Keyword}
/-! ### and, or, not, if-else -/
def oAnd (a : Option Bool) (b : Option Bool) : Option Bool := match a with
  | some true => b
  | some false => some false
  | none => none
def oOr (a : Option Bool) (b : Option Bool) : Option Bool := match a with
  | some true => some true
  | some false => b
  | none => none
theorem wo_and1 (ha : TO X a ρ oc) : WO X (.BoolOp .And [a] pos) ρ oc := fun b h => ew_and1 (ha _ h)
theorem wo_or1 (ha : TO X a ρ oc) : WO X (.BoolOp .Or [a] pos) ρ oc := fun b h => ew_or1 (ha _ h)
theorem wo_and (ha : TO X a ρ oc) (hb : WO X (.BoolOp .And (b :: rest) pos) ρ ow) : WO X (.BoolOp .And (a :: b :: rest) pos) ρ (oAnd oc ow) := fun r h => by
  cases oc with
  | none => cases h
  | some m =>
    cases m with
    | true => exact ew_and (m := true) (ha _ rfl) (fun _ => hb _ h)
    | false => cases h; exact ew_and (m := false) (k := false) (ha _ rfl) (fun z => nomatch z)
theorem wo_or (ha : TO X a ρ oc) (hb : WO X (.BoolOp .Or (b :: rest) pos) ρ ow) : WO X (.BoolOp .Or (a :: b :: rest) pos) ρ (oOr oc ow) := fun r h => by
  cases oc with
  | none => cases h
  | some m =>
    cases m with
    | true => cases h; exact ew_or (m := true) (k := false) (ha _ rfl) (fun z => nomatch z)
    | false => exact ew_or (m := false) (ha _ rfl) (fun _ => hb _ h)
theorem to_w (h : WO X e ρ oc) : TO X e ρ oc := fun b hb => ew_pt (h _ hb)
theorem to_not (ha : TO X a ρ oc) : TO X (.UnaryOp .Not a pos) ρ (oc.map (!·)) := fun b h => by
  obtain ⟨m, h1, h2⟩ := mpd h
  subst h2
  exact et_not (ha _ h1)
theorem vo_not (ha : VO X a ρ o) : VO X (.UnaryOp .Not a pos) ρ ((o.bind asB).map fun b => .bool (!b)) := fun d h => by
  obtain ⟨m, h1, h2⟩ := mpd h
  subst h2
  obtain ⟨v, h3, h4⟩ := bnd h1
  rw [asB_eq h4] at h3
  exact ee_not (ha _ h3)
theorem vo_one {op : BoolOp} (ha : VO X a ρ o) : VO X (.BoolOp op [a] pos) ρ ((o.bind asB).map .bool) := fun d h => by
  obtain ⟨m, h1, h2⟩ := mpd h
  subst h2
  obtain ⟨v, h3, h4⟩ := bnd h1
  rw [asB_eq h4] at h3
  exact ee_one (ha _ h3)
theorem vo_and (ha : VO X a ρ o1) (hb : VO X (.BoolOp .And (b :: rest) pos) ρ (ob.map .bool)) : VO X (.BoolOp .And (a :: b :: rest) pos) ρ ((oAnd (o1.bind asB) ob).map .bool) := fun d h => by
  obtain ⟨m, h1, h2⟩ := mpd h
  subst h2
  cases q : o1.bind asB with
  | none => rw [q] at h1; cases h1
  | some r =>
    rw [q] at h1
    obtain ⟨v, h3, h4⟩ := bnd q
    rw [asB_eq h4] at h3
    cases r with
    | true =>
      have h1 : ob = some m := h1
      exact ee_andT (ha _ h3) (hb _ (by rw [h1]; rfl))
    | false => cases h1; exact ee_andF (ha _ h3)
theorem vo_or (ha : VO X a ρ o1) (hb : VO X (.BoolOp .Or (b :: rest) pos) ρ (ob.map .bool)) : VO X (.BoolOp .Or (a :: b :: rest) pos) ρ ((oOr (o1.bind asB) ob).map .bool) := fun d h => by
  obtain ⟨m, h1, h2⟩ := mpd h
  subst h2
  cases q : o1.bind asB with
  | none => rw [q] at h1; cases h1
  | some r =>
    rw [q] at h1
    obtain ⟨v, h3, h4⟩ := bnd q
    rw [asB_eq h4] at h3
    cases r with
    | true => cases h1; exact ee_orT (ha _ h3)
    | false =>
      have h1 : ob = some m := h1
      exact ee_orF (ha _ h3) (hb _ (by rw [h1]; rfl))
def oIf {α : Type} (c : Option Bool) (a b : Option α) : Option α := match c with
  | some true => a
  | some false => b
  | none => none
theorem oIf_some {α : Type} {c : Option Bool} {a b : Option α} {r : α} (h : oIf c a b = some r) : (c = some true ∧ a = some r) ∨ (c = some false ∧ b = some r) := by
  cases c with
  | none => cases h
  | some k =>
    cases k with
    | true => exact .inl ⟨rfl, h⟩
    | false => exact .inr ⟨rfl, h⟩
theorem vo_if (hc : TO X c ρ oc) (ha : VO X a ρ o1) (hb : VO X b ρ o2) : VO X (.IfExp c a b pos) ρ (oIf oc o1 o2) := fun d h => by
  rcases oIf_some h with ⟨h1, h2⟩ | ⟨h1, h2⟩
  · exact ee_ifT (hc _ h1) (ha _ h2)
  · exact ee_ifF (hc _ h1) (hb _ h2)
/-! ### tests by a value -/
theorem emp_eq {α β : Type} {xs : List α} {ys : List β} (h : xs.length = ys.length) : (!ys.isEmpty) = !xs.isEmpty := by cases xs <;> cases ys <;> simp_all
theorem to_val (ha : VO X a ρ o) (he : ∀ whole, isTrue a X.env whole = (do let v ← whole; standAt a.pos; holding [v] (truthy v)) := by intro _; rfl) : TO X a ρ (o.bind truth) := fun r h => by
  obtain ⟨d, h1, h⟩ := bnd h
  have hE := ha _ h1
  intro bi σ0 B H0 σ Hk Hr I Q q
  refine sT_of (pt_truth pe_s he) (hE bi σ0 B H0 σ Hk Hr I _ fun v Hk1 Hr1 I1 m1 hd => ⟨r, ?_, q _ _ I1 m1⟩)
  cases d <;> simp only [truth, reduceCtorEq] at h
  · cases h; cases hd; rfl
  · cases h; cases hd; rfl
  · cases h; cases hd; rfl
  · cases h
    cases hd with
    | lst hs ha =>
      exact .inl ⟨_, same_l I1.kr hs, emp_eq (DpAll.len ha)⟩
  · cases h
    cases hd with
    | tup hs ha =>
      exact .inr (.inl ⟨_, same_t I1.kr hs, emp_eq (DpAll.len ha)⟩)
/-! ### items, slices -/
theorem vo_ix (ha : VO X a ρ o1) (hb : VO X b ρ o2) (hs : PlainIx b := by exact fun _ _ => rfl) : VO X (.Subscript a b pos) ρ (o1.bind fun x => o2.bind fun y => pIx x y) := fun d h => by
  obtain ⟨x, h1, h⟩ := bnd h
  obtain ⟨y, h2, h⟩ := bnd h
  cases x <;> cases y <;> simp only [pIx, reduceCtorEq] at h
  · exact ee_ix ix_list (ha _ h1) (hb _ h2) (rd_ixL h) hs
  · exact ee_ix ix_tup (ha _ h1) (hb _ h2) (rd_ixT h) hs
theorem oo_none : OO X none ρ (some none) := fun i h => by cases h; exact eo_none
theorem oo_some (h : VO X e ρ o) : OO X (some e) ρ ((o.bind asI).map some) := fun i g => by
  obtain ⟨j, h1, h2⟩ := mpd g
  subst h2
  obtain ⟨v, h3, h4⟩ := bnd h1
  rw [asI_eq h4] at h3
  exact eo_some (h _ h3)
theorem vo_cut {lo hi : Option Expr} {ol oh : Option (Option Int)} (ha : VO X a ρ o) (hl : OO X lo ρ ol) (hu : OO X hi ρ oh) : VO X (.Subscript a (.Slice lo hi none p2) pos) ρ (o.bind fun x => ol.bind fun l => oh.bind fun u => pCut l u x) := fun d h => by
  obtain ⟨x, h1, h⟩ := bnd h
  obtain ⟨l, h2, h⟩ := bnd h
  obtain ⟨u, h3, h⟩ := bnd h
  cases x <;> simp only [pCut, reduceCtorEq] at h
  · cases h; exact ee_sliceL (ha _ h1) (hl _ h2) (hu _ h3)
  · cases h; exact ee_sliceT (ha _ h1) (hl _ h2) (hu _ h3)
/-! ### displays -/
theorem vo_tup {oa : Option (List PyData)} (h : AO X es ρ oa) : VO X (.Tuple es n pos) ρ (oa.bind fun ds => gd (short ds.length) (some (.tuple ds))) := fun d g => by
  obtain ⟨ds, h1, g⟩ := bnd g
  obtain ⟨h2, h3⟩ := gd_some g
  cases h3
  exact ee_tup (h _ h1) (short_le h2)
theorem lo_lst {oa : Option (List PyData)} (h : AO X es ρ oa) : LO X (.List es pos) ρ (oa.bind fun ds => gd (short ds.length) (some ds)) := fun d g => by
  obtain ⟨ds, h1, g⟩ := bnd g
  obtain ⟨h2, h3⟩ := gd_some g
  cases h3
  exact el_lst (h _ h1) (short_le h2)
theorem vo_lo {ol : Option (List PyData)} (h : LO X e ρ ol) : VO X e ρ (ol.map .list) := fun d g => by
  obtain ⟨ds, h1, h2⟩ := mpd g
  subst h2
  exact (h _ h1).ee
theorem lo_cat {ol ol2 : Option (List PyData)} (ha : LO X a ρ ol) (hb : LO X b ρ ol2) : LO X (.BinOp a .Add b pos) ρ (ol.bind fun x => ol2.bind fun y => gd (short (x.length + y.length)) (some (x ++ y))) := fun d g => by
  obtain ⟨x, h1, g⟩ := bnd g
  obtain ⟨y, h2, g⟩ := bnd g
  obtain ⟨h3, h4⟩ := gd_some g
  cases h4
  exact el_cat (ha _ h1) (hb _ h2) (short_le h3)
theorem lo_rep {ol : Option (List PyData)} (ha : LO X a ρ ol) (hb : VO X b ρ o) : LO X (.BinOp a .Mult b pos) ρ (ol.bind fun x => (o.bind asI).bind fun k => gd (inR (-1000) 1000 k && Nat.ble x.length 50) (some (List.replicate k.toNat x).flatten)) := fun d g => by
  obtain ⟨x, h1, g⟩ := bnd g
  obtain ⟨k, h2, g⟩ := bnd g
  obtain ⟨h3, h4⟩ := gd_some g
  rw [Bool.and_eq_true] at h3
  cases h4
  obtain ⟨v, h5, h6⟩ := bnd h2
  rw [asI_eq h6] at h5
  obtain ⟨r1, r2⟩ := inR_at h3.1
  exact el_rep (ha _ h1) (hb _ h5) ⟨r1, r2, Nat.le_of_ble_eq_true h3.2⟩
/-! ### built-in functions -/
theorem vo_len (hm : X.mg "len" = none) (ha : VO X e ρ o) (hg : Gl X "len" := by rfl) (he : starEach [e] X.env = [(false, eval e X.env)] := by rfl) (hpl : (backTo pos (starEach ([] : List Expr) X.env)).any (·.1) = false := by rfl) : VO X (.Call (.Name "len" p0) [e] [] pos) ρ (o.bind pLen) := fun d h => by
  obtain ⟨x, h1, h⟩ := bnd h
  cases x <;> simp only [pLen, reduceCtorEq] at h
  · cases h; exact ee_lenL hm (ha _ h1) hg he hpl
  · cases h; exact ee_lenT hm (ha _ h1) hg he hpl
theorem vo_abs (hm : X.mg "abs" = none) (ha : VO X e ρ o) (hg : Gl X "abs" := by rfl) (he : starEach [e] X.env = [(false, eval e X.env)] := by rfl) (hpl : (backTo pos (starEach ([] : List Expr) X.env)).any (·.1) = false := by rfl) : VO X (.Call (.Name "abs" p0) [e] [] pos) ρ ((o.bind asI).map fun i => .int (if i < 0 then -i else i)) := fun d h => by
  obtain ⟨i, h1, h⟩ := mpd h
  subst h
  obtain ⟨v, h3, h4⟩ := bnd h1
  rw [asI_eq h4] at h3
  exact ee_abs hm (ha _ h3) hg he hpl
theorem vo_int1 (hm : X.mg "int" = none) (ha : VO X e ρ o) (hg : Gl X "int" := by rfl) (he : starEach [e] X.env = [(false, eval e X.env)] := by rfl) (hpl : (backTo pos (starEach ([] : List Expr) X.env)).any (·.1) = false := by rfl) : VO X (.Call (.Name "int" p0) [e] [] pos) ρ ((o.bind asI).map .int) := fun d h => by
  obtain ⟨i, h1, h⟩ := mpd h
  subst h
  obtain ⟨v, h3, h4⟩ := bnd h1
  rw [asI_eq h4] at h3
  exact ee_toInt hm (ha _ h3) hg he hpl
def pMin : PyData → PyData → Option PyData
  | .int i, .int j => some (.int (if j < i then j else i))
  | _, _ => none
def pMax : PyData → PyData → Option PyData
  | .int i, .int j => some (.int (if j > i then j else i))
  | _, _ => none
theorem vo_min2 (hm : X.mg "min" = none) (ha : VO X a ρ o1) (hb : VO X b ρ o2) (hg : Gl X "min" := by rfl) (hc : X.calm = true := by rfl) (he : starEach [a, b] X.env = (false, eval a X.env) :: starEach [b] X.env := by rfl) (he2 : starEach [b] X.env = [(false, eval b X.env)] := by rfl) (hpl : (backTo pos (starEach [b] X.env)).any (·.1) = false := by rfl) :
    VO X (.Call (.Name "min" p0) [a, b] [] pos) ρ (o1.bind fun x => o2.bind fun y => pMin x y) := fun d h => by
  obtain ⟨x, h1, h⟩ := bnd h
  obtain ⟨y, h2, h⟩ := bnd h
  cases x <;> cases y <;> simp only [pMin, reduceCtorEq] at h
  cases h; exact ee_min2 hm (ha _ h1) (hb _ h2) hg hc he he2 hpl
theorem ra_max2 {K : PySem.W.Frag} {i j : Int} : RA K (fun xs H Q => ∃ i j, xs = [.int i, .int j] ∧ Q (.int (if j > i then j else i)) H) [.int i, .int j] (.int (if j > i then j else i)) := fun vs Hk Hr kr h Q q => by
  cases h with
  | cons h1 h2 =>
    cases h1
    cases h2 with
    | cons h2 h3 =>
      cases h2; cases h3
      exact ⟨i, j, rfl, q _ Hr (Same.refl _) (.int _)⟩
theorem vo_max2 (hm : X.mg "max" = none) (ha : VO X a ρ o1) (hb : VO X b ρ o2) (hg : Gl X "max" := by rfl) (hc : X.calm = true := by rfl) (he : starEach [a, b] X.env = (false, eval a X.env) :: starEach [b] X.env := by rfl) (he2 : starEach [b] X.env = [(false, eval b X.env)] := by rfl) (hpl : (backTo pos (starEach [b] X.env)).any (·.1) = false := by rfl) :
    VO X (.Call (.Name "max" p0) [a, b] [] pos) ρ (o1.bind fun x => o2.bind fun y => pMax x y) := fun d h => by
  obtain ⟨x, h1, h⟩ := bnd h
  obtain ⟨y, h2, h⟩ := bnd h
  cases x <;> cases y <;> simp only [pMax, reduceCtorEq] at h
  cases h
  exact ee_tCB (pe_callB (call_max2 hc) hg hm (by decide +kernel) pa_s (by decide) (by decide) he hpl) (ea_cons (ha _ h1) (ea_cons (hb _ h2) ea_nil he2) he) ra_max2
theorem vo_listOf (hm : X.mg "list" = none) (ha : VO X e ρ o) (hg : Gl X "list" := by rfl) (he : starEach [e] X.env = [(false, eval e X.env)] := by rfl) (hpl : (backTo pos (starEach ([] : List Expr) X.env)).any (·.1) = false := by rfl) : VO X (.Call (.Name "list" p0) [e] [] pos) ρ ((o.bind asS).map .list) := fun d h => by
  obtain ⟨i, h1, h⟩ := mpd h
  subst h
  obtain ⟨v, h3, h4⟩ := bnd h1
  exact ee_listOf (asS_eq h4) hm (ha _ h3) hg he hpl
theorem vo_tupleOf (hm : X.mg "tuple" = none) (ha : VO X e ρ o) (hg : Gl X "tuple" := by rfl) (he : starEach [e] X.env = [(false, eval e X.env)] := by rfl) (hpl : (backTo pos (starEach ([] : List Expr) X.env)).any (·.1) = false := by rfl) : VO X (.Call (.Name "tuple" p0) [e] [] pos) ρ ((o.bind asS).map .tuple) := fun d h => by
  obtain ⟨i, h1, h⟩ := mpd h
  subst h
  obtain ⟨v, h3, h4⟩ := bnd h1
  exact ee_tupleOf (asS_eq h4) hm (ha _ h3) hg he hpl
theorem vo_sum (hm : X.mg "sum" = none) (ha : VO X e ρ o) (hg : Gl X "sum" := by rfl) (hc : X.calm = true := by rfl) (he : starEach [e] X.env = [(false, eval e X.env)] := by rfl) (hpl : (backTo pos (starEach ([] : List Expr) X.env)).any (·.1) = false := by rfl) : VO X (.Call (.Name "sum" p0) [e] [] pos) ρ (o.bind pSum) := fun d h => by
  obtain ⟨x, h1, h⟩ := bnd h
  cases x <;> simp only [pSum, reduceCtorEq] at h
  · obtain ⟨ns, h2, h⟩ := mpd h
    subst h
    rw [intsOf_eq h2] at h1
    exact ee_sumL hm (ha _ h1) hg hc he hpl
  · obtain ⟨ns, h2, h⟩ := mpd h
    subst h
    rw [intsOf_eq h2] at h1
    exact ee_sumT hm (ha _ h1) hg hc he hpl
theorem vo_all (hm : X.mg "all" = none) (ha : VO X e ρ o) (hg : Gl X "all" := by rfl) (hc : X.calm = true := by rfl) (he : starEach [e] X.env = [(false, eval e X.env)] := by rfl) (hpl : (backTo pos (starEach ([] : List Expr) X.env)).any (·.1) = false := by rfl) : VO X (.Call (.Name "all" p0) [e] [] pos) ρ ((o.bind pAll).map .bool) := fun d h => by
  obtain ⟨r, h1, h⟩ := mpd h
  subst h
  obtain ⟨x, h2, h⟩ := bnd h1
  cases x <;> simp only [pAll, reduceCtorEq] at h
  obtain ⟨ns, h3, h⟩ := mpd h
  subst h
  rw [boolsOf_eq h3] at h2
  exact ee_all hm (ha _ h2) hg hc he hpl
/-! ### own defs -/
theorem vo_call {k' : Nat} {ps : List Str} {nn : Nat} {m : List PyData → Option PyData} {oa : Option (List PyData)} (cl : Cal X.prog X.w X.K X.mg X.base k' x ps (spD X.K nn fun ds d => m ds = some d)) (hr : Room k' X.A) (ha : AO X (e :: es) ρ oa) (hn : ∀ ds, oa = some ds → ds.length = nn)
    (hg : Gl X x := by rfl) (hdb : (x == ("__debug__" : Str)) = false := by decide) (he : starEach (e :: es) X.env = (false, eval e X.env) :: starEach es X.env := by rfl) (hpl : (backTo pos (starEach es X.env)).any (·.1) = false := by rfl) : VO X (.Call (.Name x p0) (e :: es) [] pos) ρ (oa.bind m) := fun d h => by
  obtain ⟨ds, h1, h⟩ := bnd h
  exact ee_callC cl hr (ha _ h1) h (hn _ h1) hg hdb he hpl
theorem lo_call {k' : Nat} {ps : List Str} {nn : Nat} {m : List PyData → Option (List PyData)} {oa : Option (List PyData)} (cl : Cal X.prog X.w X.K X.mg X.base k' x ps (spL X.K nn fun ds d => m ds = some d)) (hr : Room k' X.A) (ha : AO X (e :: es) ρ oa) (hn : ∀ ds, oa = some ds → ds.length = nn)
    (hg : Gl X x := by rfl) (hdb : (x == ("__debug__" : Str)) = false := by decide) (he : starEach (e :: es) X.env = (false, eval e X.env) :: starEach es X.env := by rfl) (hpl : (backTo pos (starEach es X.env)).any (·.1) = false := by rfl) : LO X (.Call (.Name x p0) (e :: es) [] pos) ρ (oa.bind m) := fun d h => by
  obtain ⟨ds, h1, h⟩ := bnd h
  exact el_callC cl hr (ha _ h1) h (hn _ h1) hg hdb he hpl
end
end Gn
namespace Gn
open PySem L2 Pd PySem.Spec PyProof.Rows
/-! ### what is walked -/
def fmO (f : PyData → Option (Option PyData)) : List PyData → Option (List PyData)
  | [] => some []
  | d :: ds => (f d).bind fun r => (fmO f ds).bind fun es => some (match r with | none => es | some e => e :: es)
def mapO (f : PyData → Option PyData) (ds : List PyData) : Option (List PyData) := gd (short ds.length) (fmO (fun d => (f d).map some) ds)
def filO (f : PyData → Option (Option PyData)) (ds : List PyData) : Option (List PyData) := gd (short ds.length) (fmO f ds)
theorem fmO_len (f : PyData → Option (Option PyData)) : ∀ {ds es : List PyData}, fmO f ds = some es → es.length ≤ ds.length
  | [], es, h => by cases h; exact Nat.le_refl _
  | d :: ds, es, h => by
    obtain ⟨r, h1, h⟩ := bnd h
    obtain ⟨es', h2, h⟩ := bnd h
    cases h
    have := fmO_len f h2
    cases r
    · show es'.length ≤ _
      simp; omega
    · simp; omega
/-- a target: what an item is taken apart to -/
def unp1 (d : PyData) : Option PyData := some d
def unp2 : PyData → Option (PyData × PyData)
  | .tuple [a, b] => some (a, b)
  | _ => none
def unp3 : PyData → Option (PyData × PyData × PyData)
  | .tuple [a, b, c] => some (a, b, c)
  | _ => none
def unpN : PyData → Option (PyData × PyData × PyData)
  | .tuple [.tuple [a, b], c] => some (a, b, c)
  | _ => none
def TGo {υ : Type} (K : PySem.W.Frag) (bi : List Nat) (g : TG) (ρ : List Sl) (u : PyData → Option υ) (ρd : υ → List Sl) : Prop := ∀ d x, u d = some x → EG K bi g ρ d (ρd x)
section
variable {K : PySem.W.Frag} {bi : List Nat} {ρ : List Sl} {i j k n : Nat}
theorem tg_name (hb : n ∉ bi := by decide) : TGo K bi (gName n) ρ unp1 fun x => ρ.set n (.val x) := fun d x h => by
  cases h
  exact eg_name hb
theorem tg_pair (hi : i ∉ bi := by decide) (hj : j ∉ bi := by decide) : TGo K bi (gTup K 2 (gCons (gName i) (gCons (gName j) gNil))) ρ unp2 fun x => (ρ.set i (.val x.1)).set j (.val x.2) := fun d x h => by
  unfold unp2 at h
  split at h
  · cases h; exact eg_pair hi hj
  · cases h
theorem tg_nest (hi : i ∉ bi := by decide) (hj : j ∉ bi := by decide) (hk : k ∉ bi := by decide) : TGo K bi (gTup K 2 (gCons (gTup K 2 (gCons (gName i) (gCons (gName j) gNil))) (gCons (gName k) gNil))) ρ unpN fun x => ((ρ.set i (.val x.1)).set j (.val x.2.1)).set k (.val x.2.2) := fun d x h => by
  unfold unpN at h
  split at h
  · cases h; exact eg_nest hi hj hk
  · cases h
end
section
variable {X : Cx} {a b e c elt tg iter : Expr} {es rest : List Expr} {ρ ρ1 : List Sl} {o o1 o2 : Option PyData} {oi : Option (List PyData)} {n k : Nat} {pos p0 p1 p2 : Pos} {x y : Str} {d : PyData} {scope : Scope} {own : List (Str × Nat)}
theorem io_seq (ha : VO X iter ρ o) (hs : True := trivial) : (∀ ds, o = some (.list ds) → EI X tg iter ρ ds ρ) ∧ ∀ ds, o = some (.tuple ds) → EI X tg iter ρ ds ρ := ⟨fun ds h => ei_list (ha _ h), fun ds h => ei_tup (ha _ h)⟩
theorem io_val (ha : VO X iter ρ o) : IO X tg iter ρ (o.bind asS) := fun ds h => by
  obtain ⟨d, h1, h⟩ := bnd h
  rcases asS_eq h with q | q
  · subst q; exact ei_list (ha _ h1)
  · subst q; exact ei_tup (ha _ h1)
def small (i : Int) : Bool := inR (-1000000) 1000000 i
theorem small_at {i : Int} (h : small i = true) : -1000000 ≤ i ∧ i ≤ 1000000 := inR_at h
theorem io_range1 (hm : X.mg "range" = none) (ha : VO X a ρ o) (hg : Gl X "range" := by rfl) (hs : starEach [a] X.env = [(false, eval a X.env)] := by rfl) : IO X tg (.Call (.Name "range" p0) [a] [] pos) ρ ((o.bind asI).bind fun j => gd (small j) (some (rngD 0 j.toNat))) := fun ds h => by
  obtain ⟨j, h1, h⟩ := bnd h
  obtain ⟨d, h2, h3⟩ := bnd h1
  rw [asI_eq h3] at h2
  obtain ⟨g1, g2⟩ := gd_some h
  have := small_at g1
  cases g2
  exact ei_range1 hm (ea_cons (ha _ h2) ea_nil hs) (by omega) hg hs
theorem io_range2 (hm : X.mg "range" = none) (ha : VO X a ρ o1) (hb : VO X b ρ o2) (hg : Gl X "range" := by rfl) (hs : starEach [a, b] X.env = [(false, eval a X.env), (false, eval b X.env)] := by rfl) (hs2 : starEach [b] X.env = [(false, eval b X.env)] := by rfl) :
    IO X tg (.Call (.Name "range" p0) [a, b] [] pos) ρ ((o1.bind asI).bind fun i => (o2.bind asI).bind fun j => gd (small i && small j) (some (rngD i (j - i).toNat))) := fun ds h => by
  obtain ⟨i, h1, h⟩ := bnd h
  obtain ⟨j, h4, h⟩ := bnd h
  obtain ⟨d, h2, h3⟩ := bnd h1
  obtain ⟨d', h5, h6⟩ := bnd h4
  rw [asI_eq h3] at h2
  rw [asI_eq h6] at h5
  obtain ⟨g1, g2⟩ := gd_some h
  rw [Bool.and_eq_true] at g1
  have q1 := small_at g1.1
  have q2 := small_at g1.2
  cases g2
  exact ei_range2 hm (ea_cons (ha _ h2) (ea_cons (hb _ h5) ea_nil hs2) (by rw [hs, hs2])) (by omega) hg hs hs2
theorem io_down (hm : X.mg "range" = none) (ha : VO X a ρ o1) (hb : VO X b ρ o2) (hc : VO X c ρ (some (.int (-1)))) (hg : Gl X "range" := by rfl) (hs : starEach [a, b, c] X.env = (false, eval a X.env) :: starEach [b, c] X.env := by rfl) (hs1 : starEach [b, c] X.env = (false, eval b X.env) :: starEach [c] X.env := by rfl) (hs2 : starEach [c] X.env = [(false, eval c X.env)] := by rfl)
    (hpl : (backTo pos (starEach [b, c] X.env)).any (·.1) = false := by rfl) :
    IO X tg (.Call (.Name "range" p0) [a, b, c] [] pos) ρ ((o1.bind asI).bind fun i => (o2.bind asI).bind fun j => gd (small i && small j) (some (dwnD i (i - j).toNat))) := fun ds h => by
  obtain ⟨i, h1, h⟩ := bnd h
  obtain ⟨j, h4, h⟩ := bnd h
  obtain ⟨d, h2, h3⟩ := bnd h1
  obtain ⟨d', h5, h6⟩ := bnd h4
  rw [asI_eq h3] at h2
  rw [asI_eq h6] at h5
  obtain ⟨g1, g2⟩ := gd_some h
  rw [Bool.and_eq_true] at g1
  have q1 := small_at g1.1
  have q2 := small_at g1.2
  cases g2
  exact ei_down hm (ea_cons (ha _ h2) (ea_cons (hb _ h5) (ea_cons (hc _ rfl) ea_nil hs2) hs1) hs) (by omega) hg hs hpl
theorem io_zip {tgs : List Expr} {tn : Nat} {tpos : Pos} (hm : X.mg "zip" = none) (ha : VO X a ρ o1) (hb : VO X b ρ o2) (hg : Gl X "zip" := by rfl) (hs : starEach [a, b] X.env = (false, eval a X.env) :: starEach [b] X.env := by rfl) (hs2 : starEach [b] X.env = [(false, eval b X.env)] := by rfl) (hpl : (backTo pos (starEach [b] X.env)).any (·.1) = false := by rfl) :
    IO X (.Tuple tgs tn tpos) (.Call (.Name "zip" p0) [a, b] [] pos) ρ (o1.bind fun x => o2.bind fun y => match x, y with | .tuple ds, .tuple es => some (zipD ds es) | .list ds, .list es => some (zipD ds es) | _, _ => none) := fun ds h => by
  obtain ⟨i, h1, h⟩ := bnd h
  obtain ⟨j, h4, h⟩ := bnd h
  split at h
  · cases h
    exact ei_zipT hm (ea_cons (ha _ h1) (ea_cons (hb _ h4) ea_nil hs2) hs) hg hs hpl
  · cases h
    exact ei_zipL hm (ea_cons (ha _ h1) (ea_cons (hb _ h4) ea_nil hs2) hs) hg hs hpl
  · cases h
def pRev : PyData → Option (List PyData)
  | .list ds => some ds.reverse
  | _ => none
theorem io_rev (hm : X.mg "reversed" = none) (ha : VO X e ρ o) (hg : Gl X "reversed" := by rfl) (hs : starEach [e] X.env = (false, eval e X.env) :: starEach [] X.env := by rfl) : IO X tg (.Call (.Name "reversed" p0) [e] [] pos) ρ (o.bind pRev) := fun ds h => by
  obtain ⟨i, h1, h⟩ := bnd h
  unfold pRev at h
  split at h
  · cases h; exact ei_rev hm (ha _ h1) hg hs
  · cases h
/-! ### comprehensions -/
theorem lc_core {υ : Type} {gt : TG} {u : PyData → Option υ} {ρd : υ → List Sl} {F : υ → Option (Option PyData)} {wi : TI} {tt : TT} {te : TE} {vs : List Nat} {ds es : List PyData} (hds : ds.length ≤ 100000) (h : fmO (fun d => (u d).bind F) ds = some es)
    (hi : ∀ (bi : List Nat) (σ0 : L2.St) (B : Be) (H0 : Fr) (σ : L2.St) (Hk Hr : Hp), Ok X.K bi σ0 B H0 ρ σ Hk Hr → ∀ R : It → Hp → Prop, (∀ J Hk' Hr', Ok X.K bi σ0 B H0 ρ σ Hk' Hr' → Same Hk Hk' → Wk X.K J ds Hk' → R J Hr') → wi σ Hr R)
    (hw : GW gt vs) (hv : ∀ i ∈ vs, ρ[i]? = some .no) (ht : TGo X.K [] gt ρ u ρd) (hwp : ∀ x, wipeS (ρd x) vs = ρ) (he : ∀ x r, F x = some r → ∃ b, GT X.K tt (ρd x) b (ρd x) ∧ (b = true → ∃ e, r = some e ∧ GE X.K te (ρd x) e (ρd x)) ∧ (b = false → r = none))
    (bi : List Nat) (σ0 : L2.St) (B : Be) (H0 : Fr) (σ : L2.St) (Hk Hr : Hp) (I : Ok X.K bi σ0 B H0 ρ σ Hk Hr) (Q : VK)
    (q : ∀ D avs Hk' Hr', Ok X.K bi σ0 B H0 ρ σ Hk' Hr' → Same Hk Hk' → Hr' D = some (.lst avs) → Hk' D = none → H0 D = none → ¬ Ow ρ σ D → DpAll X.K Hk' avs es → Q (.ref D) Hr') : tLc wi gt tt te vs σ Hr Q := by
  refine lc_raw hi hw (fun j acc ρ' => ρ' = ρ ∧ acc.length ≤ j ∧ ∃ r, fmO (fun d => (u d).bind F) (ds.drop j) = some r ∧ acc ++ r = es) ⟨rfl, Nat.le_refl _, es, by simpa using h, rfl⟩ (fun j acc ρj hh i hi => by rw [hh.1]; exact hv i hi) (fun j d acc ρj hd hh => ?_) bi σ0 B H0 σ Hk Hr I Q fun D avs Hk' Hr' acc ρ' hh I' m' hD nk n0 no hacc => ?_
  · obtain ⟨rfl, hl, r, h1, h2⟩ := hh
    have hj := (List.getElem?_eq_some_iff.mp hd).1
    have hdr : ds.drop j = d :: ds.drop (j + 1) := by
      rw [List.drop_eq_getElem_cons hj]
      congr 1
      exact (List.getElem?_eq_some_iff.mp hd).2
    rw [hdr] at h1
    obtain ⟨r0, h3, h4⟩ := bnd h1
    obtain ⟨x, h5, h6⟩ := bnd h3
    obtain ⟨r1, h7, h8⟩ := bnd h4
    obtain ⟨b, g1, g2, g3⟩ := he x r0 h6
    refine ⟨by omega, ρd x, b, ρd x, ht d x h5, g1, fun hb => ?_, fun hb => ?_⟩
    · obtain ⟨e, rfl, ge⟩ := g2 hb
      cases h8
      exact ⟨e, ρd x, ge, hwp x, by simp; omega, r1, h7, by simpa using h2⟩
    · have := g3 hb
      subst this
      cases h8
      exact ⟨hwp x, by omega, _, h7, h2⟩
  · obtain ⟨rfl, hl, r, h1, h2⟩ := hh
    rw [List.drop_length] at h1
    cases h1
    rw [List.append_nil] at h2
    subst h2
    exact q D avs Hk' Hr' I' m' hD nk n0 no hacc
def BVO (X : Cx) (scope : Scope) (e : Expr) (ρ : List Sl) (o : Option PyData) : Prop := ∀ (s : Shared) (H : Hp) (C : Addr) (cl : List (Str × Addr)) (fp : List Addr), VO (X.blk s H scope (compEnvC scope cl C X.env) fp) e ρ o
def BTO (X : Cx) (scope : Scope) (e : Expr) (ρ : List Sl) (o : Option Bool) : Prop := ∀ (s : Shared) (H : Hp) (C : Addr) (cl : List (Str × Addr)) (fp : List Addr), TO (X.blk s H scope (compEnvC scope cl C X.env) fp) e ρ o
/-- [elt for tg in iter] -/
theorem lo_lc {υ : Type} {gt : TG} {u : PyData → Option υ} {ρd : υ → List Sl} {F : υ → Option PyData} (hi : IO X tg iter ρ oi) (hw : GW gt (own.map (·.2))) (hv : ∀ i ∈ own.map (·.2), ρ[i]? = some .no) (ht : TGo X.K [] gt ρ u ρd) (hwp : ∀ x, wipeS (ρd x) (own.map (·.2)) = ρ) (he : ∀ x, BVO X scope elt (ρd x) (F x))
    (hN : X.N.Nodup) (ok : BlkOk X.N X.env.scope scope own) (hg : ∀ (s : Shared) (H : Hp) (C : Addr) (cl : List (Str × Addr)) (fp : List Addr), PG (X.blk s H scope (compEnvC scope cl C X.env) fp) tg gt)
    (hc : X.calm = true := by rfl) (hs : ∀ x, foldedSetIterable iter X.env x = pure x := by intro _; rfl) : LO X (.ListComp elt [⟨tg, iter, [], 0⟩] scope pos) ρ (oi.bind (mapO fun d => (u d).bind F)) := fun es h => by
  obtain ⟨ds, h1, h⟩ := bnd h
  obtain ⟨h2, h⟩ := gd_some h
  obtain ⟨wi, pi, hi⟩ := hi _ h1
  have h : fmO (fun d => (u d).bind fun x => (F x).map some) ds = some es := by
    rw [← h]
    congr 1
    funext d
    show _ = ((u d).bind F).map some
    cases u d <;> rfl
  intro bi σ0 B H0 σ Hk Hr I Q q
  refine sE_of (pe_lc hc hN pi ok hg (fun _ _ _ _ _ => pts_nil) pe_b hs) (lc_core (short_le h2) h hi hw hv ht hwp (fun x r hr => ?_) bi σ0 B H0 σ Hk Hr I Q q)
  obtain ⟨e, h3, h4⟩ := mpd hr
  exact ⟨true, gt_yes, fun _ => ⟨e, h4.symm, BE.ge fun s H C cl fp => he x s H C cl fp e h3⟩, fun z => nomatch z⟩
/-- [elt for tg in iter if c] -/
theorem lo_lcIf {υ : Type} {gt : TG} {u : PyData → Option υ} {ρd : υ → List Sl} {F : υ → Option PyData} {G : υ → Option Bool} (hi : IO X tg iter ρ oi) (hw : GW gt (own.map (·.2))) (hv : ∀ i ∈ own.map (·.2), ρ[i]? = some .no) (ht : TGo X.K [] gt ρ u ρd) (hwp : ∀ x, wipeS (ρd x) (own.map (·.2)) = ρ) (hcn : ∀ x, BTO X scope c (ρd x) (G x)) (he : ∀ x, BVO X scope elt (ρd x) (F x))
    (hN : X.N.Nodup) (ok : BlkOk X.N X.env.scope scope own) (hg : ∀ (s : Shared) (H : Hp) (C : Addr) (cl : List (Str × Addr)) (fp : List Addr), PG (X.blk s H scope (compEnvC scope cl C X.env) fp) tg gt)
    (hc : X.calm = true := by rfl) (hs : ∀ x, foldedSetIterable iter X.env x = pure x := by intro _; rfl) : LO X (.ListComp elt [⟨tg, iter, [c], 0⟩] scope pos) ρ (oi.bind (filO fun d => (u d).bind fun x => oIf (G x) ((F x).map some) (some none))) := fun es h => by
  obtain ⟨ds, h1, h⟩ := bnd h
  obtain ⟨h2, h⟩ := gd_some h
  obtain ⟨wi, pi, hi⟩ := hi _ h1
  intro bi σ0 B H0 σ Hk Hr I Q q
  refine sE_of (pe_lc hc hN pi ok hg (fun s H C cl fp => pts_one (pt_b s H C cl fp)) pe_b hs) (lc_core (short_le h2) h hi hw hv ht hwp (fun x r hr => ?_) bi σ0 B H0 σ Hk Hr I Q q)
  rcases oIf_some hr with ⟨g1, g2⟩ | ⟨g1, g2⟩
  · obtain ⟨e, h3, h4⟩ := mpd g2
    exact ⟨true, BT.gt fun s H C cl fp => hcn x s H C cl fp _ g1, fun _ => ⟨e, h4.symm, BE.ge fun s H C cl fp => he x s H C cl fp e h3⟩, fun z => nomatch z⟩
  · cases g2
    exact ⟨false, BT.gt fun s H C cl fp => hcn x s H C cl fp _ g1, (fun z => nomatch z), fun _ => rfl⟩
end
end Gn
/-! zip of two and of three things, each a list or a tuple, as things that are walked. -/
namespace Zq
open PySem PySem.Spec PyProof.Rows L2
def gIt (t : Bool) (h : Heap) (it l : Addr) (i : Nat) : Prop := match t with
  | false => h.IsListIter it l i
  | true => h.IsTupleIter it l i
def gIs (t : Bool) (h : Heap) (l : Addr) (xs : Array Value) : Prop := match t with
  | false => h.IsList l xs
  | true => h.IsTuple l xs
def gSq (K : PySem.W.Frag) (t : Bool) (H : Hp) (l : Addr) (xs : List V) : Prop := match t with
  | false => SqL K H l xs
  | true => SqT K H l xs
def gOb (t : Bool) (l : Addr) : Obj := match t with
  | false => { cls := .type "list_iterator", data := .fields #[.ref l, .int 0 0] }
  | true => { cls := .type "tuple_iterator", data := .fields #[.ref l, .int 0 0] }
theorem gDraws {prog : Program} {w : World} {A : Around} (t : Bool) (hh : A.handled = none) (it l : Addr) (hne : l ≠ it) (items : Array Value) : Draws prog w A it [it, l] items.size (fun i v => items[i]? = some v) (fun i h => gIt t h it l i ∧ gIs t h l items) := by
  cases t
  · exact Draws.list hh it l hne items
  · exact Draws.tuple hh it l hne items
theorem gBegins (t : Bool) (l : Addr) (items : Array Value) : Begins (.ref l) (gOb t l) fun h => gIs t h l items := by
  cases t
  · exact begins_list l items
  · exact begins_tuple l items
theorem gIt_new {t : Bool} {h : Heap} {it l : Addr} (e : h.get? it = some (gOb t l)) : gIt t h it l 0 := by
  cases t
  · exact ⟨_, e, rfl, rfl⟩
  · exact ⟨_, e, rfl, rfl⟩
theorem gIt_at {t : Bool} {h h' : Heap} {it l : Addr} {i : Nat} (x : gIt t h it l i) (k : ∀ o, h.get? it = some o → h'.get? it = some o) : gIt t h' it l i := by
  cases t
  · exact x.at k
  · exact x.at k
theorem gIt_obj {t : Bool} {h : Heap} {it l : Addr} {i : Nat} (x : gIt t h it l i) : ∃ o, h.get? it = some o ∧ ∀ v, o.data ≠ .cell v := by
  cases t
  · obtain ⟨o, e, _, d⟩ := x
    exact ⟨o, e, fun v q => by rw [d] at q; cases q⟩
  · obtain ⟨o, e, _, d⟩ := x
    exact ⟨o, e, fun v q => by rw [d] at q; cases q⟩
theorem gSq_at {X : Cx} {pins : List (Addr × Obj)} {σ : L2.St} {H : Hp} {s : Shared} {t : Bool} {l : Addr} {xs : List V} (I : Inv X pins σ H s) (q : gSq X.K t H l xs) : ∃ its : List Value, Vals xs its ∧ gIs t s.heap l its.toArray ∧ l < s.heap.objs.size := by
  cases t
  · obtain ⟨its, rv, p, _⟩ := I.list q
    exact ⟨its, rv, p.isList, p.lt⟩
  · obtain ⟨its, rv, p, _⟩ := I.tuple q
    have p' : s.heap.IsTuple l its.toArray := p
    obtain ⟨o, ho, _⟩ := id p'
    exact ⟨its, rv, p', Heap.lt_size ho⟩
theorem gSq_inj {X : Cx} {pins : List (Addr × Obj)} {σ : L2.St} {H : Hp} {s : Shared} {t : Bool} {l : Addr} {xs ys : List V} (I : Inv X pins σ H s) (q : gSq X.K t H l xs) (q' : gSq X.K t H l ys) : xs = ys := by
  cases t
  · exact I.list_inj q q'
  · exact I.tuple_inj q q'

/-! ### two -/
def ItG (K : PySem.W.Frag) (t1 t2 : Bool) (a b : Addr) : It :=
  ⟨fun i H => ∃ (xs ys : List V) (x y : V), gSq K t1 H a xs ∧ gSq K t2 H b ys ∧ xs[i]? = some x ∧ ys[i]? = some y,
    fun i H v H' => ∃ T x y, v = .ref T ∧ H T = none ∧ H' = upd H T (.tup [x, y]) ∧ (∀ xs, gSq K t1 H a xs → xs[i]? = some x) ∧ ∀ ys, gSq K t2 H b ys → ys[i]? = some y,
    fun i H => ∃ xs ys : List V, gSq K t1 H a xs ∧ gSq K t2 H b ys ∧ i ≤ xs.length ∧ i ≤ ys.length ∧ (i = xs.length ∨ i = ys.length)⟩
/-- the iterator's own things lie behind the two that it walks -/
structure Ord2 (z TI TO i1 i2 a b : Addr) : Prop where
  a1 : a < i1
  b1 : b < i1
  e1 : i2 = i1 + 1
  e2 : TI = i1 + 2
  e3 : TO = i1 + 3
  e4 : z = i1 + 4
theorem Ord2.sep {z TI TO i1 i2 a b : Addr} (D : Ord2 z TI TO i1 i2 a b) : ZipSep2 z TI TO i1 i2 [i1, a] [i2, b] := by
  obtain ⟨d1, d2, d3, d4, d5, d6⟩ := D
  subst d3 d4 d5 d6
  constructor <;> simp <;> first | omega | (simp only [Addr] at *; omega)
end Zq
namespace Zq
open PySem PySem.Spec PyProof.Rows L2
theorem in5 {α : Type} {x a b c d e : α} (h : x ∈ [a, b, c, d, e]) : x = a ∨ x = b ∨ x = c ∨ x = d ∨ x = e := by simpa using h
theorem turn2 {P : Program} {w : World} {K : PySem.W.Frag} {elts : List Expr} {kk : Nat} {tpos : Pos} {t1 t2 : Bool} {a b z TI TO i1 i2 : Addr} (D : Ord2 z TI TO i1 i2 a b) :
    Turn P w K (.Tuple elts kk tpos) (ItG K t1 t2 a b) [z, TI, TO, i1, i2] z (fun i h => IsZip h z TI TO .none ∧ IsTupOf2 h TI (.ref i1) (.ref i2) ∧ (∃ x y, IsTupOf2 h TO x y) ∧ gIt t1 h i1 a i ∧ gIt t2 h i2 b i) where
  mem := by simp
  obj := fun i h st c hc => by
    obtain ⟨hz, hTI, ⟨x, y, hTO⟩, g1, g2⟩ := st
    rcases in5 hc with q | q | q | q | q <;> subst q
    · exact ⟨_, hz, fun v q => nomatch q⟩
    · exact ⟨_, hTI, fun v q => nomatch q⟩
    · exact ⟨_, hTO, fun v q => nomatch q⟩
    · exact gIt_obj g1
    · exact gIt_obj g2
  keep := fun i h h' st k => by
    obtain ⟨hz, hTI, ⟨x, y, hTO⟩, g1, g2⟩ := st
    exact ⟨k z (by simp) _ hz, k TI (by simp) _ hTI, ⟨x, y, k TO (by simp) _ hTO⟩, gIt_at g1 (k i1 (by simp)), gIt_at g2 (k i2 (by simp))⟩
  item := by
    intro X hP hw hK hc i pins s σ H E I hf st hg
    subst hP hw hK
    obtain ⟨hz, hTI, ⟨x0, y0, hTO⟩, g1, g2⟩ := st
    obtain ⟨xs, ys, x, y, hqx, hqy, hx, hy⟩ := hg
    obtain ⟨us, ru, pu, lu⟩ := gSq_at I hqx
    obtain ⟨vs, rv, pv, lv⟩ := gSq_at I hqy
    obtain ⟨u, hu, xu⟩ := ru.get hx
    obtain ⟨v, hv, yv⟩ := rv.get hy
    have S := D.sep
    have hA : X.A.in1.handled = none := I.ok.hd hc
    have n1 : i < us.toArray.size := by simpa using (List.getElem?_eq_some_iff.mp hu).1
    have n2 : i < vs.toArray.size := by simpa using (List.getElem?_eq_some_iff.mp hv).1
    refine wpAny_pyNext_zipD2_item S (gDraws t1 hA i1 a (Nat.ne_of_lt D.a1) us.toArray) (gDraws t2 hA i2 b (by have := D.b1; have := D.e1; simp only [Addr] at *; omega) vs.toArray) hz hTI hTO ⟨g1, pu⟩ ⟨g2, pv⟩ n1 n2 fun x1 x2 h' tk p1 p2 z' TO' q1 q2 hT hsz hk => ?_
    have e1 : u = x1 := by
      have : us.toArray[i]? = some x1 := p1
      rw [List.getElem?_toArray, hu] at this
      exact Option.some.inj this
    have e2 : v = x2 := by
      have : vs.toArray[i]? = some x2 := p2
      rw [List.getElem?_toArray, hv] at this
      exact Option.some.inj this
    subst e1 e2
    refine ⟨_, rfl, wpAny_letOwnedTupleGo_zip (s := { s with heap := h', toks := tk }) z' fun h'' z'' sb => ?_⟩
    have hzl : z < s.heap.objs.size := Heap.lt_size hz
    have hT2 : h''.get? s.heap.objs.size = some { cls := .type "tuple", data := .seq #[u, v] } := (sb.2 _ (Nat.ne_of_gt hzl)).trans hT
    have new : ObjOk X.prog X.w (upd H s.heap.objs.size (.tup [x, y])) h'' s.heap.objs.size (.tup [x, y]) :=
      ⟨by show 2 ≤ sizeLine; decide, [u, v], .cons xu (.cons yv .nil), ⟨_, hT2, rfl, _, rfl⟩⟩
    have I1 : Inv X pins σ (upd H s.heap.objs.size (.tup [x, y])) { s with heap := h'', toks := tk } :=
      I.turnedNew (t' := tk) (ch := [z, TI, TO, i1, i2]) (fun c o hb q => by
        have c1 : c ≠ z := fun q' => hb (by simp [q'])
        exact (sb.2 c c1).trans (hk c o c1 (fun q' => hb (by simp [q'])) (fun q' => hb (by simp [q'])) (fun q' => hb (by simp [q'])) q)) hf (Nat.le_refl _) new
    refine ⟨.ref s.heap.objs.size, _, I1, rfl, ⟨_, x, y, rfl, I.hok.fresh (Nat.le_refl _), rfl, fun l hl => by rw [gSq_inj I hl hqx]; exact hx, fun l hl => by rw [gSq_inj I hl hqy]; exact hy⟩, ⟨z'', ?_, ⟨u, v, ?_⟩, ?_, ?_⟩, fun c hcm => ?_⟩
    · exact (sb.2 _ S.TIz).trans (hk _ _ S.TIz S.TITO S.TIi1 S.TIi2 hTI)
    · exact (sb.2 _ S.TOz).trans TO'
    · exact gIt_at q1.1 fun o q => (sb.2 _ S.zi1.symm).trans q
    · exact gIt_at q2.1 fun o q => (sb.2 _ S.zi2.symm).trans q
    · have hlt : c < s.heap.objs.size := by
        rcases in5 hcm with q | q | q | q | q <;> subst q
        · exact hzl
        · exact Heap.lt_size hTI
        · exact Heap.lt_size hTO
        · obtain ⟨o, e, _⟩ := gIt_obj g1; exact Heap.lt_size e
        · obtain ⟨o, e, _⟩ := gIt_obj g2; exact Heap.lt_size e
      rw [upd_ne (Nat.ne_of_lt hlt)]
      exact (hf c hcm).1
  done := by
    intro X hP hw hK hc i pins s σ H E I hf st hg
    subst hP hw hK
    obtain ⟨hz, hTI, ⟨x0, y0, hTO⟩, g1, g2⟩ := st
    obtain ⟨xs, ys, hqx, hqy, l1, l2, hend⟩ := hg
    obtain ⟨us, ru, pu, lu⟩ := gSq_at I hqx
    obtain ⟨vs, rv, pv, lv⟩ := gSq_at I hqy
    have m1 : us.toArray.size = xs.length := by rw [ru.length]; simp
    have m2 : vs.toArray.size = ys.length := by rw [rv.length]; simp
    have hA : X.A.in1.handled = none := I.ok.hd hc
    refine wpAny_pyNext_zipD2_end (i := i) D.sep (gDraws t1 hA i1 a (Nat.ne_of_lt D.a1) us.toArray) (gDraws t2 hA i2 b (by have := D.b1; have := D.e1; simp only [Addr] at *; omega) vs.toArray) hz hTI hTO ⟨g1, pu⟩ ⟨g2, pv⟩ (by omega) (by omega) (by omega) fun h' tk hk => ?_
    exact ⟨rfl, I.turnedL (t' := tk) (ch := [z, TI, TO, i1, i2]) (fun c o hb q => hk c o (fun q' => hb (by simp [q'])) (fun q' => hb (by simp [q'])) (fun q' => hb (by simp [q'])) (fun q' => hb (by simp [q'])) q) hf⟩
  self := fun A i s Q E st h => wpAny_pyIter_zip st.1 h
def iZ2 (K : PySem.W.Frag) (ta : TA) : TI := fun σ H R => ta σ H fun vs H1 => ∃ t1 t2 a b xs ys, vs = [.ref a, .ref b] ∧ gSq K t1 H1 a xs ∧ gSq K t2 H1 b ys ∧ R (ItG K t1 t2 a b) H1
theorem pi_z2 {X : Cx} {e e2 : Expr} {ta : TA} {p pos tpos : Pos} {elts : List Expr} {kk : Nat} (hg : Gl X "zip") (hm : X.mg "zip" = none) (ha : PA X [e, e2] ta)
    (hs : starEach [e, e2] X.env = (false, eval e X.env) :: starEach [e2] X.env := by rfl) (hpl : (backTo pos (starEach [e2] X.env)).any (·.1) = false := by rfl) :
    PI X (.Tuple elts kk tpos) (.Call (.Name "zip" p) [e, e2] [] pos) (iZ2 X.K ta) := by
  refine ⟨fun pins s σ H R I h => Call_ (ld_blt I hg hm PyProof.Rows.boot_zip (PyProof.Rows.callWith_type1 (thn (ha.run pos pins s σ H _ I h) fun us s1 ⟨vs, H1, I1, r1, q1⟩ => ?_) hs hpl))⟩
  obtain ⟨t1, t2, a, b, xs, ys, ex, hqx, hqy, q1⟩ := q1
  subst ex
  have r2 : ∃ u1 u2, us = [u1, u2] ∧ RelV (.ref a) u1 ∧ RelV (.ref b) u2 := by
    cases r1 with
    | cons r rr =>
      cases rr with
      | cons r' rr =>
        cases rr
        exact ⟨_, _, rfl, r, r'⟩
  obtain ⟨u1, u2, rfl, r, r'⟩ := r2
  cases r
  cases r'
  obtain ⟨us, ru, pu, lu⟩ := gSq_at I1 hqx
  obtain ⟨vs, rv, pv, lv⟩ := gSq_at I1 hqy
  refine zip_begins2 (gBegins t1 a us.toArray) (gBegins t2 b vs.toArray) pu pv fun h' hz hTI hTO g1 g2 hsz hk => wpAny_pyIter_zip hz ?_
  have I2 : Inv X pins σ H1 { s1 with heap := h' } := I1.kept (t' := s1.toks) hk
  refine ⟨s1.heap.objs.size + 4, [s1.heap.objs.size + 4, s1.heap.objs.size + 2, s1.heap.objs.size + 3, s1.heap.objs.size, s1.heap.objs.size + 1], _, _, H1, rfl, I2, turn2 ⟨lu, lv, rfl, rfl, rfl, rfl⟩, ⟨hz, hTI, ⟨_, _, hTO⟩, gIt_new g1, gIt_new g2⟩, fun c hcm => ?_, q1⟩
  have hle : s1.heap.objs.size ≤ c := by
    rcases in5 hcm with q | q | q | q | q <;> rw [q] <;> first | exact Nat.le_add_right _ _ | exact Nat.le_refl _
  exact I1.fpOk hle (I1.hok.fresh hle)
end Zq
namespace Zq
open PySem PySem.Spec PyProof.Rows L2
theorem in6 {α : Type} {x a b c d e f : α} (h : x ∈ [a, b, c, d, e, f]) : x = a ∨ x = b ∨ x = c ∨ x = d ∨ x = e ∨ x = f := by simpa using h
/-! ### three -/
def ItH (K : PySem.W.Frag) (t1 t2 t3 : Bool) (a b c : Addr) : It :=
  ⟨fun i H => ∃ (xs ys zs : List V) (x y z : V), gSq K t1 H a xs ∧ gSq K t2 H b ys ∧ gSq K t3 H c zs ∧ xs[i]? = some x ∧ ys[i]? = some y ∧ zs[i]? = some z,
    fun i H v H' => ∃ T x y z, v = .ref T ∧ H T = none ∧ H' = upd H T (.tup [x, y, z]) ∧ (∀ xs, gSq K t1 H a xs → xs[i]? = some x) ∧ (∀ ys, gSq K t2 H b ys → ys[i]? = some y) ∧ ∀ zs, gSq K t3 H c zs → zs[i]? = some z,
    fun i H => ∃ xs ys zs : List V, gSq K t1 H a xs ∧ gSq K t2 H b ys ∧ gSq K t3 H c zs ∧ i ≤ xs.length ∧ i ≤ ys.length ∧ i ≤ zs.length ∧ (i = xs.length ∨ i = ys.length ∨ i = zs.length)⟩
structure Ord3 (z TI TO i1 i2 i3 a b c : Addr) : Prop where
  a1 : a < i1
  b1 : b < i1
  c1 : c < i1
  e1 : i2 = i1 + 1
  e2 : i3 = i1 + 2
  e3 : TI = i1 + 3
  e4 : TO = i1 + 4
  e5 : z = i1 + 5
theorem Ord3.sep {z TI TO i1 i2 i3 a b c : Addr} (D : Ord3 z TI TO i1 i2 i3 a b c) : ZipSep3 z TI TO i1 i2 i3 [i1, a] [i2, b] [i3, c] := by
  obtain ⟨d1, d2, d0, d3, d4, d5, d6, d7⟩ := D
  subst d3 d4 d5 d6 d7
  constructor <;> simp <;> first | omega | (simp only [Addr] at *; omega)
theorem turn3 {P : Program} {w : World} {K : PySem.W.Frag} {elts : List Expr} {kk : Nat} {tpos : Pos} {t1 t2 t3 : Bool} {a b c z TI TO i1 i2 i3 : Addr} (D : Ord3 z TI TO i1 i2 i3 a b c) :
    Turn P w K (.Tuple elts kk tpos) (ItH K t1 t2 t3 a b c) [z, TI, TO, i1, i2, i3] z (fun i h => IsZip h z TI TO .none ∧ IsTupOf3 h TI (.ref i1) (.ref i2) (.ref i3) ∧ (∃ x y u, IsTupOf3 h TO x y u) ∧ gIt t1 h i1 a i ∧ gIt t2 h i2 b i ∧ gIt t3 h i3 c i) where
  mem := by simp
  obj := fun i h st c hc => by
    obtain ⟨hz, hTI, ⟨x, y, u, hTO⟩, g1, g2, g3⟩ := st
    rcases in6 hc with q | q | q | q | q | q <;> subst q
    · exact ⟨_, hz, fun v q => nomatch q⟩
    · exact ⟨_, hTI, fun v q => nomatch q⟩
    · exact ⟨_, hTO, fun v q => nomatch q⟩
    · exact gIt_obj g1
    · exact gIt_obj g2
    · exact gIt_obj g3
  keep := fun i h h' st k => by
    obtain ⟨hz, hTI, ⟨x, y, u, hTO⟩, g1, g2, g3⟩ := st
    exact ⟨k z (by simp) _ hz, k TI (by simp) _ hTI, ⟨x, y, u, k TO (by simp) _ hTO⟩, gIt_at g1 (k i1 (by simp)), gIt_at g2 (k i2 (by simp)), gIt_at g3 (k i3 (by simp))⟩
  item := by
    intro X hP hw hK hc i pins s σ H E I hf st hg
    subst hP hw hK
    obtain ⟨hz, hTI, ⟨x0, y0, u0, hTO⟩, g1, g2, g3⟩ := st
    obtain ⟨xs, ys, zs, x, y, u, hqx, hqy, hqu, hx, hy, hu⟩ := hg
    obtain ⟨as, ra, pa, la⟩ := gSq_at I hqx
    obtain ⟨bs, rb, pb, lb⟩ := gSq_at I hqy
    obtain ⟨cs, rc, pc, lc⟩ := gSq_at I hqu
    obtain ⟨va, ha, xa⟩ := ra.get hx
    obtain ⟨vb, hb, xb⟩ := rb.get hy
    obtain ⟨vc, hcc, xc⟩ := rc.get hu
    have S := D.sep
    have hA : X.A.in1.handled = none := I.ok.hd hc
    have n1 : i < as.toArray.size := by simpa using (List.getElem?_eq_some_iff.mp ha).1
    have n2 : i < bs.toArray.size := by simpa using (List.getElem?_eq_some_iff.mp hb).1
    have n3 : i < cs.toArray.size := by simpa using (List.getElem?_eq_some_iff.mp hcc).1
    refine wpAny_pyNext_zipD3_item S (gDraws t1 hA i1 a (Nat.ne_of_lt D.a1) as.toArray) (gDraws t2 hA i2 b (by have := D.b1; have := D.e1; simp only [Addr] at *; omega) bs.toArray) (gDraws t3 hA i3 c (by have := D.c1; have := D.e2; simp only [Addr] at *; omega) cs.toArray) hz hTI hTO ⟨g1, pa⟩ ⟨g2, pb⟩ ⟨g3, pc⟩ n1 n2 n3 fun x1 x2 x3 h' tk p1 p2 p3 z' TO' q1 q2 q3 hT hsz hk => ?_
    have e1 : va = x1 := by
      have : as.toArray[i]? = some x1 := p1
      rw [List.getElem?_toArray, ha] at this
      exact Option.some.inj this
    have e2 : vb = x2 := by
      have : bs.toArray[i]? = some x2 := p2
      rw [List.getElem?_toArray, hb] at this
      exact Option.some.inj this
    have e3 : vc = x3 := by
      have : cs.toArray[i]? = some x3 := p3
      rw [List.getElem?_toArray, hcc] at this
      exact Option.some.inj this
    subst e1 e2 e3
    refine ⟨_, rfl, wpAny_letOwnedTupleGo_zip (s := { s with heap := h', toks := tk }) z' fun h'' z'' sb => ?_⟩
    have hzl : z < s.heap.objs.size := Heap.lt_size hz
    have hT2 : h''.get? s.heap.objs.size = some { cls := .type "tuple", data := .seq #[va, vb, vc] } := (sb.2 _ (Nat.ne_of_gt hzl)).trans hT
    have new : ObjOk X.prog X.w (upd H s.heap.objs.size (.tup [x, y, u])) h'' s.heap.objs.size (.tup [x, y, u]) :=
      ⟨by show 3 ≤ sizeLine; decide, [va, vb, vc], .cons xa (.cons xb (.cons xc .nil)), ⟨_, hT2, rfl, _, rfl⟩⟩
    have I1 : Inv X pins σ (upd H s.heap.objs.size (.tup [x, y, u])) { s with heap := h'', toks := tk } :=
      I.turnedNew (t' := tk) (ch := [z, TI, TO, i1, i2, i3]) (fun c o hb q => by
        have c1 : c ≠ z := fun q' => hb (by simp [q'])
        exact (sb.2 c c1).trans (hk c o c1 (fun q' => hb (by simp [q'])) (fun q' => hb (by simp [q'])) (fun q' => hb (by simp [q'])) (fun q' => hb (by simp [q'])) q)) hf (Nat.le_refl _) new
    refine ⟨.ref s.heap.objs.size, _, I1, rfl, ⟨_, x, y, u, rfl, I.hok.fresh (Nat.le_refl _), rfl, fun l hl => by rw [gSq_inj I hl hqx]; exact hx, fun l hl => by rw [gSq_inj I hl hqy]; exact hy, fun l hl => by rw [gSq_inj I hl hqu]; exact hu⟩, ⟨z'', ?_, ⟨va, vb, vc, ?_⟩, ?_, ?_, ?_⟩, fun c hcm => ?_⟩
    · exact (sb.2 _ S.TIz).trans (hk _ _ S.TIz S.TITO S.TIi1 S.TIi2 S.TIi3 hTI)
    · exact (sb.2 _ S.TOz).trans TO'
    · exact gIt_at q1.1 fun o q => (sb.2 _ S.zi1.symm).trans q
    · exact gIt_at q2.1 fun o q => (sb.2 _ S.zi2.symm).trans q
    · exact gIt_at q3.1 fun o q => (sb.2 _ S.zi3.symm).trans q
    · have hlt : c < s.heap.objs.size := by
        rcases in6 hcm with q | q | q | q | q | q <;> subst q
        · exact hzl
        · exact Heap.lt_size hTI
        · exact Heap.lt_size hTO
        · obtain ⟨o, e, _⟩ := gIt_obj g1; exact Heap.lt_size e
        · obtain ⟨o, e, _⟩ := gIt_obj g2; exact Heap.lt_size e
        · obtain ⟨o, e, _⟩ := gIt_obj g3; exact Heap.lt_size e
      rw [upd_ne (Nat.ne_of_lt hlt)]
      exact (hf c hcm).1
  done := by
    intro X hP hw hK hc i pins s σ H E I hf st hg
    subst hP hw hK
    obtain ⟨hz, hTI, ⟨x0, y0, u0, hTO⟩, g1, g2, g3⟩ := st
    obtain ⟨xs, ys, zs, hqx, hqy, hqu, l1, l2, l3, hend⟩ := hg
    obtain ⟨as, ra, pa, la⟩ := gSq_at I hqx
    obtain ⟨bs, rb, pb, lb⟩ := gSq_at I hqy
    obtain ⟨cs, rc, pc, lc⟩ := gSq_at I hqu
    have m1 : as.toArray.size = xs.length := by rw [ra.length]; simp
    have m2 : bs.toArray.size = ys.length := by rw [rb.length]; simp
    have m3 : cs.toArray.size = zs.length := by rw [rc.length]; simp
    have hA : X.A.in1.handled = none := I.ok.hd hc
    refine wpAny_pyNext_zipD3_end (i := i) D.sep (gDraws t1 hA i1 a (Nat.ne_of_lt D.a1) as.toArray) (gDraws t2 hA i2 b (by have := D.b1; have := D.e1; simp only [Addr] at *; omega) bs.toArray) (gDraws t3 hA i3 c (by have := D.c1; have := D.e2; simp only [Addr] at *; omega) cs.toArray) hz hTI hTO ⟨g1, pa⟩ ⟨g2, pb⟩ ⟨g3, pc⟩ (by omega) (by omega) (by omega) (by omega) fun h' tk hk => ?_
    exact ⟨rfl, I.turnedL (t' := tk) (ch := [z, TI, TO, i1, i2, i3]) (fun c o hb q => hk c o (fun q' => hb (by simp [q'])) (fun q' => hb (by simp [q'])) (fun q' => hb (by simp [q'])) (fun q' => hb (by simp [q'])) (fun q' => hb (by simp [q'])) q) hf⟩
  self := fun A i s Q E st h => wpAny_pyIter_zip st.1 h
def iZ3 (K : PySem.W.Frag) (ta : TA) : TI := fun σ H R => ta σ H fun vs H1 => ∃ t1 t2 t3 a b c xs ys zs, vs = [.ref a, .ref b, .ref c] ∧ gSq K t1 H1 a xs ∧ gSq K t2 H1 b ys ∧ gSq K t3 H1 c zs ∧ R (ItH K t1 t2 t3 a b c) H1
theorem pi_z3 {X : Cx} {e e2 e3 : Expr} {ta : TA} {p pos tpos : Pos} {elts : List Expr} {kk : Nat} (hg : Gl X "zip") (hm : X.mg "zip" = none) (ha : PA X [e, e2, e3] ta)
    (hs : starEach [e, e2, e3] X.env = (false, eval e X.env) :: starEach [e2, e3] X.env := by rfl) (hpl : (backTo pos (starEach [e2, e3] X.env)).any (·.1) = false := by rfl) :
    PI X (.Tuple elts kk tpos) (.Call (.Name "zip" p) [e, e2, e3] [] pos) (iZ3 X.K ta) := by
  refine ⟨fun pins s σ H R I h => Call_ (ld_blt I hg hm PyProof.Rows.boot_zip (PyProof.Rows.callWith_type1 (thn (ha.run pos pins s σ H _ I h) fun us s1 ⟨vs, H1, I1, r1, q1⟩ => ?_) hs hpl))⟩
  obtain ⟨t1, t2, t3, a, b, c, xs, ys, zs, ex, hqx, hqy, hqu, q1⟩ := q1
  subst ex
  have r2 : ∃ u1 u2 u3, us = [u1, u2, u3] ∧ RelV (.ref a) u1 ∧ RelV (.ref b) u2 ∧ RelV (.ref c) u3 := by
    cases r1 with
    | cons r rr =>
      cases rr with
      | cons r' rr =>
        cases rr with
        | cons r'' rr =>
          cases rr
          exact ⟨_, _, _, rfl, r, r', r''⟩
  obtain ⟨u1, u2, u3, rfl, r, r', r''⟩ := r2
  cases r
  cases r'
  cases r''
  obtain ⟨as, ra, pa, la⟩ := gSq_at I1 hqx
  obtain ⟨bs, rb, pb, lb⟩ := gSq_at I1 hqy
  obtain ⟨cs, rc, pc, lc⟩ := gSq_at I1 hqu
  refine zip_begins3 (gBegins t1 a as.toArray) (gBegins t2 b bs.toArray) (gBegins t3 c cs.toArray) pa pb pc fun h' hz hTI hTO g1 g2 g3 hsz hk => wpAny_pyIter_zip hz ?_
  have I2 : Inv X pins σ H1 { s1 with heap := h' } := I1.kept (t' := s1.toks) hk
  refine ⟨s1.heap.objs.size + 5, [s1.heap.objs.size + 5, s1.heap.objs.size + 3, s1.heap.objs.size + 4, s1.heap.objs.size, s1.heap.objs.size + 1, s1.heap.objs.size + 2], _, _, H1, rfl, I2, turn3 ⟨la, lb, lc, rfl, rfl, rfl, rfl, rfl⟩, ⟨hz, hTI, ⟨_, _, _, hTO⟩, gIt_new g1, gIt_new g2, gIt_new g3⟩, fun c hcm => ?_, q1⟩
  have hle : s1.heap.objs.size ≤ c := by
    rcases in6 hcm with q | q | q | q | q | q <;> rw [q] <;> first | exact Nat.le_add_right _ _ | exact Nat.le_refl _
  exact I1.fpOk hle (I1.hok.fresh hle)
end Zq
namespace Gn
open PySem L2 Pd PySem.Spec PyProof.Rows Zq
theorem same_g {K : PySem.W.Frag} {H H' : Hp} {t : Bool} {a : Addr} {xs : List V} (e : Same H H') (h : gSq K t H a xs) : gSq K t H' a xs := by
  cases t
  · exact same_l e h
  · exact same_t e h
theorem dpSeq {K : PySem.W.Frag} {H : Hp} {v : V} {d : PyData} {ds : List PyData} (h : Dp K H v d) (e : asS d = some ds) : ∃ t a xs, v = .ref a ∧ gSq K t H a xs ∧ DpAll K H xs ds := by
  cases d <;> simp only [asS, reduceCtorEq] at e <;> cases e
  · cases h with
    | lst hs ha => exact ⟨false, _, _, rfl, hs, ha⟩
  · cases h with
    | tup hs ha => exact ⟨true, _, _, rfl, hs, ha⟩
def zip3D : List PyData → List PyData → List PyData → List PyData
  | x :: xs, y :: ys, z :: zs => .tuple [x, y, z] :: zip3D xs ys zs
  | _, _, _ => []
theorem zip3D_len : ∀ {xs ys zs : List PyData}, (zip3D xs ys zs).length = min xs.length (min ys.length zs.length)
  | [], ys, zs => by simp [zip3D]
  | x :: xs, [], zs => by simp [zip3D]
  | x :: xs, y :: ys, [] => by simp [zip3D]
  | x :: xs, y :: ys, z :: zs => by
    simp only [zip3D, List.length_cons, zip3D_len (xs := xs) (ys := ys) (zs := zs)]
    omega
theorem zip3D_get : ∀ {xs ys zs : List PyData} {n : Nat} {d : PyData}, (zip3D xs ys zs)[n]? = some d → ∃ x y z, xs[n]? = some x ∧ ys[n]? = some y ∧ zs[n]? = some z ∧ d = .tuple [x, y, z]
  | [], ys, zs, n, d, h => by simp [zip3D] at h
  | x :: xs, [], zs, n, d, h => by simp [zip3D] at h
  | x :: xs, y :: ys, [], n, d, h => by simp [zip3D] at h
  | x :: xs, y :: ys, z :: zs, 0, d, h => by
    simp only [zip3D, List.getElem?_cons_zero, Option.some.injEq] at h
    exact ⟨x, y, z, rfl, rfl, rfl, h.symm⟩
  | x :: xs, y :: ys, z :: zs, n + 1, d, h => by
    simp only [zip3D, List.getElem?_cons_succ] at h
    obtain ⟨a, b, c, h1, h2, h3, h4⟩ := zip3D_get h
    exact ⟨a, b, c, by simpa using h1, by simpa using h2, by simpa using h3, h4⟩
section
variable {K : PySem.W.Frag} {Hk : Hp} {t1 t2 t3 : Bool} {a b c : Addr} {xs ys zs : List V} {ds es fs : List PyData}
theorem wk_z2 (hs : gSq K t1 Hk a xs) (ht : gSq K t2 Hk b ys) (hx : DpAll K Hk xs ds) (hy : DpAll K Hk ys es) : Wk K (ItG K t1 t2 a b) (zipD ds es) Hk := fun i Hr e => by
  have l1 := DpAll.len hx
  have l2 := DpAll.len hy
  have hs' := same_g e hs
  have ht' := same_g e ht
  refine ⟨fun hi => ?_, fun hi => ?_, fun x H' h => ?_⟩
  · rw [zipD_len] at hi
    exact ⟨xs, ys, _, _, hs', ht', List.getElem?_eq_getElem (by omega), List.getElem?_eq_getElem (by omega)⟩
  · rw [zipD_len] at hi
    exact ⟨xs, ys, hs', ht', by omega, by omega, by omega⟩
  · obtain ⟨T, x', y', rfl, hn, rfl, f1, f2⟩ := h
    refine ⟨new_same hn _, fun d hd => ?_⟩
    obtain ⟨u, v, q1, q2, rfl⟩ := zipD_get hd
    obtain ⟨u', s1, s2⟩ := DpAll.get hx q1
    obtain ⟨v', s3, s4⟩ := DpAll.get hy q2
    have g1 := f1 _ hs'
    have g2 := f2 _ ht'
    rw [s1] at g1
    rw [s3] at g2
    cases g1
    cases g2
    exact gro_tup e hn (.cons s2 (.cons s4 .nil))
theorem wk_z3 (hs : gSq K t1 Hk a xs) (ht : gSq K t2 Hk b ys) (hu : gSq K t3 Hk c zs) (hx : DpAll K Hk xs ds) (hy : DpAll K Hk ys es) (hz : DpAll K Hk zs fs) : Wk K (ItH K t1 t2 t3 a b c) (zip3D ds es fs) Hk := fun i Hr e => by
  have l1 := DpAll.len hx
  have l2 := DpAll.len hy
  have l3 := DpAll.len hz
  have hs' := same_g e hs
  have ht' := same_g e ht
  have hu' := same_g e hu
  refine ⟨fun hi => ?_, fun hi => ?_, fun x H' h => ?_⟩
  · rw [zip3D_len] at hi
    exact ⟨xs, ys, zs, _, _, _, hs', ht', hu', List.getElem?_eq_getElem (by omega), List.getElem?_eq_getElem (by omega), List.getElem?_eq_getElem (by omega)⟩
  · rw [zip3D_len] at hi
    exact ⟨xs, ys, zs, hs', ht', hu', by omega, by omega, by omega, by omega⟩
  · obtain ⟨T, x', y', z', rfl, hn, rfl, f1, f2, f3⟩ := h
    refine ⟨new_same hn _, fun d hd => ?_⟩
    obtain ⟨u, v, w, q1, q2, q3, rfl⟩ := zip3D_get hd
    obtain ⟨u', s1, s2⟩ := DpAll.get hx q1
    obtain ⟨v', s3, s4⟩ := DpAll.get hy q2
    obtain ⟨w', s5, s6⟩ := DpAll.get hz q3
    have g1 := f1 _ hs'
    have g2 := f2 _ ht'
    have g3 := f3 _ hu'
    rw [s1] at g1
    rw [s3] at g2
    rw [s5] at g3
    cases g1
    cases g2
    cases g3
    exact gro_tup e hn (.cons s2 (.cons s4 (.cons s6 .nil)))
end
section
variable {X : Cx} {a b c e tg iter : Expr} {es tgs : List Expr} {ρ ρ1 : List Sl} {o1 o2 o3 : Option PyData} {n k tn : Nat} {pos p0 tpos : Pos}
def pZip (x y : PyData) : Option (List PyData) := (asS x).bind fun ds => (asS y).map fun es => zipD ds es
def pZip3 (x y z : PyData) : Option (List PyData) := (asS x).bind fun ds => (asS y).bind fun es => (asS z).map fun fs => zip3D ds es fs
theorem io_z2 (hm : X.mg "zip" = none) (ha : VO X a ρ o1) (hb : VO X b ρ o2) (hg : Gl X "zip" := by rfl) (hs : starEach [a, b] X.env = (false, eval a X.env) :: starEach [b] X.env := by rfl) (hs2 : starEach [b] X.env = [(false, eval b X.env)] := by rfl) (hpl : (backTo pos (starEach [b] X.env)).any (·.1) = false := by rfl) :
    IO X (.Tuple tgs tn tpos) (.Call (.Name "zip" p0) [a, b] [] pos) ρ (o1.bind fun x => o2.bind fun y => pZip x y) := fun ds h => by
  obtain ⟨x, h1, h⟩ := bnd h
  obtain ⟨y, h2, h⟩ := bnd h
  obtain ⟨ds1, h3, h⟩ := bnd h
  obtain ⟨ds2, h4, h⟩ := mpd h
  subst h
  refine ⟨_, pi_z2 hg hm pa_s hs hpl, fun bi σ0 B H0 σ Hk Hr I R q => ?_⟩
  refine (ea_cons (ha _ h1) (ea_cons (hb _ h2) ea_nil hs2) hs) bi σ0 B H0 σ Hk Hr I _ fun vs Hk1 Hr1 I1 m1 hv => ?_
  cases hv with
  | cons v1 vr =>
    cases vr with
    | cons v2 vr =>
      cases vr
      obtain ⟨t1, a1, xs, rfl, g1, d1⟩ := dpSeq v1 h3
      obtain ⟨t2, a2, ys, rfl, g2, d2⟩ := dpSeq v2 h4
      exact ⟨t1, t2, a1, a2, xs, ys, rfl, same_g I1.kr g1, same_g I1.kr g2, q _ Hk1 Hr1 I1 m1 (wk_z2 g1 g2 d1 d2)⟩
theorem io_z3 (hm : X.mg "zip" = none) (ha : VO X a ρ o1) (hb : VO X b ρ o2) (hc : VO X c ρ o3) (hg : Gl X "zip" := by rfl) (hs : starEach [a, b, c] X.env = (false, eval a X.env) :: starEach [b, c] X.env := by rfl) (hs1 : starEach [b, c] X.env = (false, eval b X.env) :: starEach [c] X.env := by rfl) (hs2 : starEach [c] X.env = [(false, eval c X.env)] := by rfl) (hpl : (backTo pos (starEach [b, c] X.env)).any (·.1) = false := by rfl) :
    IO X (.Tuple tgs tn tpos) (.Call (.Name "zip" p0) [a, b, c] [] pos) ρ (o1.bind fun x => o2.bind fun y => o3.bind fun z => pZip3 x y z) := fun ds h => by
  obtain ⟨x, h1, h⟩ := bnd h
  obtain ⟨y, h2, h⟩ := bnd h
  obtain ⟨z, h5, h⟩ := bnd h
  obtain ⟨ds1, h3, h⟩ := bnd h
  obtain ⟨ds2, h4, h⟩ := bnd h
  obtain ⟨ds3, h6, h⟩ := mpd h
  subst h
  refine ⟨_, pi_z3 hg hm pa_s hs hpl, fun bi σ0 B H0 σ Hk Hr I R q => ?_⟩
  refine (ea_cons (ha _ h1) (ea_cons (hb _ h2) (ea_cons (hc _ h5) ea_nil hs2) hs1) hs) bi σ0 B H0 σ Hk Hr I _ fun vs Hk1 Hr1 I1 m1 hv => ?_
  cases hv with
  | cons v1 vr =>
    cases vr with
    | cons v2 vr =>
      cases vr with
      | cons v3 vr =>
        cases vr
        obtain ⟨t1, a1, xs, rfl, g1, d1⟩ := dpSeq v1 h3
        obtain ⟨t2, a2, ys, rfl, g2, d2⟩ := dpSeq v2 h4
        obtain ⟨t3, a3, zs, rfl, g3, d3⟩ := dpSeq v3 h6
        exact ⟨t1, t2, t3, a1, a2, a3, xs, ys, zs, rfl, same_g I1.kr g1, same_g I1.kr g2, same_g I1.kr g3, q _ Hk1 Hr1 I1 m1 (wk_z3 g1 g2 g3 d1 d2 d3)⟩
end
section
variable {K : PySem.W.Frag} {bi : List Nat} {ρ : List Sl} {i j k n : Nat}
theorem eg_tri {d1 d2 d3 : PyData} (hi : i ∉ bi) (hj : j ∉ bi) (hk : k ∉ bi) : EG K bi (gTup K 3 (gCons (gName i) (gCons (gName j) (gCons (gName k) gNil)))) ρ (.tuple [d1, d2, d3]) (((ρ.set i (.val d1)).set j (.val d2)).set k (.val d3)) := fun σ0 B H0 σ Hk Hr v I h Q q => by
  cases h with
  | tup hs ha =>
    cases ha with
    | cons h1 h2 =>
      cases h2 with
      | cons h2 h3 =>
        cases h3 with
        | cons h3 h4 =>
          cases h4
          exact ⟨_, _, rfl, same_t I.kr hs, rfl, _, _, rfl, _, _, rfl, _, _, rfl, rfl, q _ (((I.set hi h1).set hj h2).set hk h3)⟩
theorem tg_tri (hi : i ∉ bi := by decide) (hj : j ∉ bi := by decide) (hk : k ∉ bi := by decide) : TGo K bi (gTup K 3 (gCons (gName i) (gCons (gName j) (gCons (gName k) gNil)))) ρ unp3 fun x => ((ρ.set i (.val x.1)).set j (.val x.2.1)).set k (.val x.2.2) := fun d x h => by
  unfold unp3 at h
  split at h
  · cases h; exact eg_tri hi hj hk
  · cases h
theorem gw_tri {vs : List Nat} (hi : i ∈ vs) (hj : j ∈ vs) (hk : k ∈ vs) : GW (gTup K 3 (gCons (gName i) (gCons (gName j) (gCons (gName k) gNil)))) vs := fun v σ H Q q => by
  obtain ⟨a, xs, e0, e1, e2, v1, r1, e3, v2, r2, e4, v3, r3, e5, e6, q⟩ := q
  refine ⟨a, xs, e0, e1, e2, v1, r1, e3, v2, r2, e4, v3, r3, e5, e6, ?_, q ?_⟩
  · rw [wipe_set hk, wipe_set hj, wipe_set hi, wipe_twice]
  · rw [wipe_set hk, wipe_set hj, wipe_set hi, wipe_twice]
theorem gw_nestIn {vs : List Nat} (hi : i ∈ vs) (hj : j ∈ vs) (hk : k ∈ vs) : GW (gTup K 2 (gCons (gTup K 2 (gCons (gName i) (gCons (gName j) gNil))) (gCons (gName k) gNil))) vs := fun v σ H Q q => by
  obtain ⟨a, xs, e0, e1, e2, v0, r0, e3, a', xs', f0, f1, f2, v1, r1, f3, v2, r2, f4, f5, v3, r3, e5, e6, q⟩ := q
  refine ⟨a, xs, e0, e1, e2, v0, r0, e3, a', xs', f0, f1, f2, v1, r1, f3, v2, r2, f4, f5, v3, r3, e5, e6, ?_, q ?_⟩
  · rw [wipe_set hk, wipe_set hj, wipe_set hi, wipe_twice]
  · rw [wipe_set hk, wipe_set hj, wipe_set hi, wipe_twice]
end
end Gn
namespace Gn
open PySem L2 Pd PySem.Spec PyProof.Rows Zq
open Classical in
/-- the lists of one's own, seen as data -/
def vw (ρ : List Sl) : List Sl := ρ.map fun s => match s with | .own ds => .val (.list ds) | s => s
theorem vw_val {ρ : List Sl} {i : Nat} {d : PyData} (h : (vw ρ)[i]? = some (.val d)) : ρ[i]? = some (.val d) ∨ ∃ ds, ρ[i]? = some (.own ds) ∧ d = .list ds := by
  unfold vw at h
  rw [List.getElem?_map] at h
  cases q : ρ[i]? with
  | none => rw [q] at h; cases h
  | some s =>
    rw [q] at h
    have h := Option.some.inj h
    cases s with
    | no => cases h
    | val e => cases h; exact .inl rfl
    | own ds => cases h; exact .inr ⟨ds, rfl, rfl⟩
    | box b => cases h
theorem vw_box {ρ : List Sl} {i : Nat} {b : Bx} (h : (vw ρ)[i]? = some (.box b)) : ρ[i]? = some (.box b) := by
  unfold vw at h
  rw [List.getElem?_map] at h
  cases q : ρ[i]? with
  | none => rw [q] at h; cases h
  | some s =>
    rw [q] at h
    have h := Option.some.inj h
    cases s <;> cases h
    rfl
theorem box_vw {ρ : List Sl} {i : Nat} {b : Bx} (h : ρ[i]? = some (.box b)) : (vw ρ)[i]? = some (.box b) := by
  unfold vw
  rw [List.getElem?_map, h]
  rfl
theorem vw_own {ρ : List Sl} {i : Nat} {ds : List PyData} (h : (vw ρ)[i]? = some (.own ds)) : False := by
  unfold vw at h
  rw [List.getElem?_map] at h
  cases q : ρ[i]? with
  | none => rw [q] at h; cases h
  | some s =>
    rw [q] at h
    have h := Option.some.inj h
    cases s <;> cases h
section
variable {K : PySem.W.Frag} {bi : List Nat} {σ0 σ : L2.St} {Hk Hr : Hp} {B : Be} {H0 : Fr} {ρ : List Sl}
open Classical in
theorem _root_.Pd.Ok.view (I : Ok K bi σ0 B H0 ρ σ Hk Hr) : ∃ Hk', Same Hk Hk' ∧ Ok K bi σ0 B H0 (vw ρ) σ Hk' Hr ∧ ∀ Hk2 Hr2, Same Hk' Hk2 → Ok K bi σ0 B H0 (vw ρ) σ Hk2 Hr2 → ∃ Hk3, Same Hk Hk3 ∧ Ok K bi σ0 B H0 ρ σ Hk3 Hr2 := by
  have nk : ∀ b, Ow ρ σ b → Hk b = none ∧ H0 b = none ∧ ∃ vs, Hr b = some (.lst vs) := fun b hb => by
    obtain ⟨i, ds, h1, h2⟩ := hb
    obtain ⟨a, vs, t1, t2, t3, t4, t5⟩ := I.own i ds h1
    rw [h2] at t1
    cases t1
    exact ⟨t3, t4, vs, t2⟩
  have up : Same Hk (fun b => if Ow ρ σ b then Hr b else Hk b) := fun b o h => by
    show (if Ow ρ σ b then Hr b else Hk b) = some o
    split
    · rename_i q
      rw [(nk b q).1] at h
      cases h
    · exact h
  refine ⟨fun b => if Ow ρ σ b then Hr b else Hk b, up, ⟨I.base.trans up, I.real, fun b o h => ?_, fun b o h h0 => ?_, I.bor, by simp [vw, I.len], fun i d h => ?_, fun i ds h => (vw_own h).elim, fun i j ds es h _ _ => (vw_own h).elim, I.zh, I.zb, I.bxs.sub up (fun i b q => ⟨vw_box q, rfl⟩), I.eh, I.ze⟩, fun Hk2 Hr2 m2 I2 => ?_⟩
  · have h : (if Ow ρ σ b then Hr b else Hk b) = some o := h
    split at h
    · exact h
    · exact I.kr _ _ h
  · have h : (if Ow ρ σ b then Hr b else Hk b) = some o := h
    split at h
    · rename_i q
      exact absurd (nk b q).2.1 h0
    · exact I.old _ _ h h0
  · rcases vw_val h with q | ⟨ds, q, rfl⟩
    · obtain ⟨v, q1, q2⟩ := I.val i d q
      exact ⟨v, q1, Dp.mono up d q2⟩
    · obtain ⟨a, vs, t1, t2, t3, t4, t5⟩ := I.own i ds q
      refine ⟨_, t1, .lst (xs := vs) (.inl (.inl ?_)) (DpAll.mono up ds t5)⟩
      show (if Ow ρ σ a then Hr a else Hk a) = _
      rw [if_pos ⟨i, ds, q, t1⟩]
      exact t2
  · have dn : Same Hk (fun b => if Ow ρ σ b then none else Hk2 b) := fun b o h => by
      show (if Ow ρ σ b then none else Hk2 b) = some o
      split
      · rename_i q
        rw [(nk b q).1] at h
        cases h
      · exact m2 _ _ (up _ _ h)
    refine ⟨_, dn, ⟨I.base.trans dn, I2.real, fun b o h => ?_, fun b o h h0 => ?_, I.bor, I.len, fun i d h => ?_, fun i ds h => ?_, I.dis, I.zh, I.zb, I.bxs.mono dn, I.eh, I.ze⟩⟩
    · have h : (if Ow ρ σ b then none else Hk2 b) = some o := h
      split at h
      · cases h
      · exact I2.kr _ _ h
    · have h : (if Ow ρ σ b then none else Hk2 b) = some o := h
      split at h
      · cases h
      · exact I2.old _ _ h h0
    · obtain ⟨v, q1, q2⟩ := I.val i d h
      exact ⟨v, q1, Dp.mono dn d q2⟩
    · obtain ⟨a, vs, t1, t2, t3, t4, t5⟩ := I.own i ds h
      refine ⟨a, vs, t1, I2.kr _ _ (m2 a _ ?_), ?_, t4, DpAll.mono dn ds t5⟩
      · show (if Ow ρ σ a then Hr a else Hk a) = _
        rw [if_pos ⟨i, ds, h, t1⟩]
        exact t2
      · show (if Ow ρ σ a then none else Hk2 a) = none
        rw [if_pos ⟨i, ds, h, t1⟩]
/-- a new list comes to a slot -/
theorem _root_.Pd.Ok.claim (I : Ok K bi σ0 B H0 ρ σ Hk Hr) {i : Nat} {p : Addr} {vs : List V} {ds : List PyData} (hi : i ∉ bi) (hp : Hr p = some (.lst vs)) (nk : Hk p = none) (n0 : H0 p = none) (no : ¬ Ow ρ σ p) (h : DpAll K Hk vs ds) : Ok K bi σ0 B H0 (ρ.set i (.own ds)) (σ.set i (some (.ref p))) Hk Hr := by
  have far : ∀ {m : Nat} {zs : List PyData}, ρ[m]? = some (.own zs) → σ[m]? ≠ some (some (.ref p)) := fun {m zs} hm z => no ⟨m, zs, hm, z⟩
  have cs : ∀ {m : Nat} {x : Sl}, (ρ.set i (.own ds))[m]? = some x → (m = i ∧ x = .own ds ∧ (σ.set i (some (V.ref p)))[m]? = some (some (.ref p))) ∨ (m ≠ i ∧ ρ[m]? = some x ∧ (σ.set i (some (V.ref p)))[m]? = σ[m]?) := fun {m x} hm => by
    have lt : m < ρ.length := by simpa using (List.getElem?_eq_some_iff.mp hm).1
    by_cases q : i = m
    · subst q
      rw [List.getElem?_set_self lt] at hm
      exact .inl ⟨rfl, (Option.some.inj hm).symm, by rw [List.getElem?_set_self (by rw [← I.len]; exact lt)]⟩
    · rw [List.getElem?_set_ne q] at hm
      exact .inr ⟨fun z => q z.symm, hm, by rw [List.getElem?_set_ne q]⟩
  refine ⟨I.base, I.real, I.kr, I.old, fun j hj => ?_, by simp [I.len], fun j d hj => ?_, fun j zs hj => ?_, fun j l xs ys hj hl n => ?_, I.zh, I.zb, I.bxs.set (Same.refl _) (fun _ z => nomatch z), I.eh, I.ze⟩
  · have : i ≠ j := fun q => hi (q ▸ hj)
    rw [List.getElem?_set_ne this]
    exact I.bor j hj
  · rcases cs hj with ⟨_, q, _⟩ | ⟨_, q1, q2⟩
    · cases q
    · rw [q2]
      exact I.val j d q1
  · rcases cs hj with ⟨_, q, q2⟩ | ⟨_, q1, q2⟩
    · cases q
      exact ⟨p, vs, q2, hp, nk, n0, h⟩
    · rw [q2]
      exact I.own j zs q1
  · rcases cs hj with ⟨a1, a2, a3⟩ | ⟨a1, a2, a3⟩ <;> rcases cs hl with ⟨b1, b2, b3⟩ | ⟨b1, b2, b3⟩
    · exact absurd (a1.trans b1.symm) n
    · rw [a3, b3]
      exact fun z => far b2 z.symm
    · rw [a3, b3]
      exact far a2
    · rw [a3, b3]
      exact I.dis j l xs ys a2 b2 n
end
section
variable {X : Cx} {bi : List Nat} {a b c e elt tg iter : Expr} {es : List Expr} {rest body sts tb eb : List Stmt} {ρ ρ1 ρ2 : List Sl} {N : List Sl → Prop} {R : RTy} {d : PyData} {ds : List PyData} {pos p0 p1 epos cpos : Pos} {x y : Str} {n m k : Nat} {o o1 o2 : Option PyData} {ol oi : Option (List PyData)} {oc : Option Bool} {scope : Scope} {own : List (Str × Nat)}
theorem scal_dp {K : PySem.W.Frag} {H H' : Hp} {v : V} {d : PyData} (hs : isScal d = true) (h : Dp K H v d) : Dp K H' v d := by
  cases d <;> first | (cases hs; done) | skip
  · cases h; exact .non
  · cases h; exact .bl _
  · cases h; exact .int _
  · cases h; exact .str _
def scO (d : PyData) : Option PyData := gd (isScal d) (some d)
theorem vo_view (he : VO X e (vw ρ) o) : VO X e ρ (o.bind scO) := fun d h => by
  obtain ⟨d', h1, h⟩ := bnd h
  obtain ⟨h2, h3⟩ := gd_some h
  cases h3
  intro bi σ0 B H0 σ Hk Hr I Q q
  obtain ⟨Hk', m', I', back⟩ := I.view
  refine he _ h1 bi σ0 B H0 σ Hk' Hr I' Q fun v Hk2 Hr2 I2 m2 hd => ?_
  obtain ⟨Hk3, m3, I3⟩ := back Hk2 Hr2 m2 I2
  exact q v Hk3 Hr2 I3 m3 (scal_dp h2 hd)
theorem to_view (he : TO X e (vw ρ) oc) : TO X e ρ oc := fun d h => by
  intro bi σ0 B H0 σ Hk Hr I Q q
  obtain ⟨Hk', m', I', back⟩ := I.view
  refine he _ h bi σ0 B H0 σ Hk' Hr I' Q fun Hk2 Hr2 I2 m2 => ?_
  obtain ⟨Hk3, m3, I3⟩ := back Hk2 Hr2 m2 I2
  exact q Hk3 Hr2 I3 m3
/-- xs[i] of a list of one's own -/
theorem vo_ownIx (hN : X.N[n]? = some x) (ho : ρ[n]? = some (.own ds)) (hb : VO X b ρ o) (hs : PlainIx b := by exact fun _ _ => rfl) (hv : Vis X.env.scope x := by first | exact Or.inl rfl | exact Or.inr (Or.inl rfl) | exact Or.inr (Or.inr rfl)) (hd : (x == ("__debug__" : Str)) = false := by decide)
    (hcd : (x == ("__classdict__" : Str)) = false := by decide) : VO X (.Subscript (.Name x p0) b pos) ρ ((o.bind asI).bind fun i => atI ds i) := fun d h => by
  obtain ⟨i, h1, h⟩ := bnd h
  obtain ⟨v, h2, h3⟩ := bnd h1
  rw [asI_eq h3] at h2
  exact own_ix hN ho (hb _ h2) h hs hv hd hcd
/-! ### new lists -/
theorem lo_listOf (hm : X.mg "list" = none) (ha : VO X e ρ o) (hg : Gl X "list" := by rfl) (he : starEach [e] X.env = [(false, eval e X.env)] := by rfl) (hpl : (backTo pos (starEach ([] : List Expr) X.env)).any (·.1) = false := by rfl) : LO X (.Call (.Name "list" p0) [e] [] pos) ρ (o.bind asS) := fun ds h => by
  obtain ⟨d, h1, h2⟩ := bnd h
  intro bi σ0 B H0 σ Hk Hr I Q q
  refine sE_of (pe_callTy call_list_of hg hm (by decide +kernel) pa_s (by decide) (by decide) he hpl) ((ea_cons (ha _ h1) ea_nil he) bi σ0 B H0 σ Hk Hr I _ fun vs Hk1 Hr1 I1 m1 hv => ?_)
  cases hv with
  | cons v1 vr =>
    cases vr
    obtain ⟨t, a, xs, rfl, g1, d1⟩ := dpSeq v1 h2
    refine ⟨a, xs, rfl, ?_, fun l hl => ?_⟩
    · cases t
      · exact .inl (same_l I1.kr g1)
      · exact .inr (same_t I1.kr g1)
    · exact q l xs Hk1 _ (I1.put (I1.nk hl) (I1.n0 hl) (I1.no hl)) m1 upd_same (I1.nk hl) (I1.n0 hl) (I1.no hl) d1
/-! ### blocks -/
def SO (X : Cx) (bi : List Nat) (sts : List Stmt) (ρ : List Sl) {β α : Type} (m : Option (Res β α)) (RR : β → RTy) (f : α → List Sl → Prop) : Prop :=
  ∀ r, m = some r → SS X bi sts ρ (fun ρ' => ∃ a, r = .nxt a ∧ f a ρ') (fun H0 v ρ' Hk Hr => ∃ b, r = .ret b ∧ RR b H0 v ρ' Hk Hr)
theorem ss_mono {N' : List Sl → Prop} {R' : RTy} (h : SS X bi sts ρ N R) (hN : ∀ ρ', N ρ' → N' ρ') (hR : ∀ H0 v ρ' Hk Hr, R H0 v ρ' Hk Hr → R' H0 v ρ' Hk Hr) : SS X bi sts ρ N' R' := fun σ0 B H0 hz σ Hk Hr D I nx rt =>
  h σ0 B H0 hz σ Hk Hr D I (fun ρ' σ' Hk' Hr' q => nx ρ' σ' Hk' Hr' (hN _ q)) (fun v ρ' σ' Hk' Hr' q => rt v ρ' σ' Hk' Hr' (hR _ _ _ _ _ q))
variable {β α γ : Type} {RR : β → RTy} {f : α → List Sl → Prop} {g : γ → List Sl → Prop}
theorem so_nil {a : α} (h : f a ρ) : SO X bi [] ρ (some (.nxt a)) RR f := fun r hr => by
  cases hr
  exact ss_nil ⟨a, rfl, h⟩
theorem so_set {kk : PyData → Option (Res β α)} (hN : X.N.Nodup) (hi : X.N[n]? = some x) (hb : n ∉ bi) (he : VO X e ρ o) (hr : ∀ d, SO X bi rest (ρ.set n (.val d)) (kk d) RR f) (hx : Loc X.env.scope x := by first | exact Or.inl rfl | exact Or.inr rfl)
    (hs : swapsWith e (some (.Name x p0)) pos.line X.env = pure false := by rfl) (hf : X.fn x = true ∨ X.env.scope.names.lookup x = some .local := by first | exact .inl rfl | exact .inr rfl) : SO X bi (.Assign [.Name x p0] e pos :: rest) ρ (o.bind kk) RR f := fun r h => by
  obtain ⟨d, h1, h⟩ := bnd h
  exact ss_set hN hi hb (he _ h1) (hr d r h) hx hs hf
theorem so_setL {kk : List PyData → Option (Res β α)} (hN : X.N.Nodup) (hi : X.N[n]? = some x) (hb : n ∉ bi) (he : LO X e ρ ol) (hr : ∀ d, SO X bi rest (ρ.set n (.own d)) (kk d) RR f) (hx : Loc X.env.scope x := by first | exact Or.inl rfl | exact Or.inr rfl)
    (hs : swapsWith e (some (.Name x p0)) pos.line X.env = pure false := by rfl) (hf : X.fn x = true ∨ X.env.scope.names.lookup x = some .local := by first | exact .inl rfl | exact .inr rfl) : SO X bi (.Assign [.Name x p0] e pos :: rest) ρ (ol.bind kk) RR f := fun r h => by
  obtain ⟨ds, h1, h⟩ := bnd h
  intro σ0 B H0 hz σ Hk Hr D I nx rt
  exact sSs_of (pss_cons (ps_set hN hi hx pe_s hs hf) pss_s) (he _ h1 bi σ0 B H0 σ Hk Hr I _ fun p vs Hk1 Hr1 I1 m1 hp nk n0 no h1 =>
    hr ds r h σ0 B H0 hz _ Hk1 Hr1 D (I1.claim hb hp nk n0 no h1) (fun ρ' σ' Hk' Hr' q I' m' => nx ρ' σ' Hk' Hr' q I' (m1.trans m')) rt)
/-- x = [elt for tg in iter] -/
theorem so_lc {υ : Type} {kk : List PyData → Option (Res β α)} {gt : TG} {u : PyData → Option υ} {ρd : υ → List Sl} {F : υ → Option PyData} (hb : n ∉ bi) (hy : X.N[n]? = some y) (hyl : X.env.scope.names.lookup y = some .local) (hi : IO X tg iter ρ oi) (hw : GW gt (own.map (·.2))) (hv : ∀ i ∈ own.map (·.2), ρ[i]? = some .no) (ht : TGo X.K [] gt ρ u ρd) (hwp : ∀ x, wipeS (ρd x) (own.map (·.2)) = ρ) (he : ∀ x, BVO X scope elt (ρd x) (F x))
    (hN : X.N.Nodup) (ok : BlkOk X.N X.env.scope scope own) (hg : ∀ (s : Shared) (H : Hp) (C : Addr) (cl : List (Str × Addr)) (fp : List Addr), PG (X.blk s H scope (compEnvC scope cl C X.env) fp) tg gt) (hr : ∀ d, SO X bi rest (ρ.set n (.own d)) (kk d) RR f)
    (hsw : swapsWith (.ListComp elt [⟨tg, iter, [], 0⟩] scope cpos) (some (.Name y p0)) pos.line X.env = pure true := by exact (sw_true rfl rfl rfl (by decide +kernel))) (hc : X.calm = true := by rfl) (hs : ∀ x, foldedSetIterable iter X.env x = pure x := by intro _; rfl) :
    SO X bi (.Assign [.Name y p0] (.ListComp elt [⟨tg, iter, [], 0⟩] scope cpos) pos :: rest) ρ ((oi.bind (mapO fun d => (u d).bind F)).bind kk) RR f := fun r h => by
  obtain ⟨es, h0, hk⟩ := bnd h
  obtain ⟨ds, h1, h⟩ := bnd h0
  obtain ⟨h2, h⟩ := gd_some h
  obtain ⟨wi, pi, hi⟩ := hi _ h1
  have h : fmO (fun d => (u d).bind fun x => (F x).map some) ds = some es := by
    rw [← h]
    congr 1
    funext d
    show _ = ((u d).bind F).map some
    cases u d <;> rfl
  intro σ0 B H0 hz σ Hk Hr D I nx rt
  refine sSs_of (pss_cons (ps_setLc hc hN hy hyl hsw pi ok hg (fun _ _ _ _ _ => pts_nil) pe_b hs) pss_s) ?_
  show tLc wi gt tYes (bE X scope elt) (own.map (·.2)) σ Hr (fun v H1 => sSs X rest D (σ.set n (some v)) H1)
  refine (lc_core (short_le h2) h hi hw hv ht hwp (fun x r hr => ?_) bi σ0 B H0 σ Hk Hr I _ fun p vs Hk1 Hr1 I1 m1 hp nk n0 no h1 =>
    hr es r hk σ0 B H0 hz _ Hk1 Hr1 D (I1.claim hb hp nk n0 no h1) (fun ρ' σ' Hk' Hr' q I' m' => nx ρ' σ' Hk' Hr' q I' (m1.trans m')) rt)
  obtain ⟨e, h3, h4⟩ := mpd hr
  exact ⟨true, gt_yes, fun _ => ⟨e, h4.symm, BE.ge fun s H C cl fp => he x s H C cl fp e h3⟩, fun z => nomatch z⟩
theorem so_lcIf {υ : Type} {kk : List PyData → Option (Res β α)} {gt : TG} {u : PyData → Option υ} {ρd : υ → List Sl} {F : υ → Option PyData} {G : υ → Option Bool} (hb : n ∉ bi) (hy : X.N[n]? = some y) (hyl : X.env.scope.names.lookup y = some .local) (hi : IO X tg iter ρ oi) (hw : GW gt (own.map (·.2))) (hv : ∀ i ∈ own.map (·.2), ρ[i]? = some .no) (ht : TGo X.K [] gt ρ u ρd) (hwp : ∀ x, wipeS (ρd x) (own.map (·.2)) = ρ) (hcn : ∀ x, BTO X scope c (ρd x) (G x)) (he : ∀ x, BVO X scope elt (ρd x) (F x))
    (hN : X.N.Nodup) (ok : BlkOk X.N X.env.scope scope own) (hg : ∀ (s : Shared) (H : Hp) (C : Addr) (cl : List (Str × Addr)) (fp : List Addr), PG (X.blk s H scope (compEnvC scope cl C X.env) fp) tg gt) (hr : ∀ d, SO X bi rest (ρ.set n (.own d)) (kk d) RR f)
    (hsw : swapsWith (.ListComp elt [⟨tg, iter, [c], 0⟩] scope cpos) (some (.Name y p0)) pos.line X.env = pure true := by exact (sw_true rfl rfl rfl (by decide +kernel))) (hc : X.calm = true := by rfl) (hs : ∀ x, foldedSetIterable iter X.env x = pure x := by intro _; rfl) :
    SO X bi (.Assign [.Name y p0] (.ListComp elt [⟨tg, iter, [c], 0⟩] scope cpos) pos :: rest) ρ ((oi.bind (filO fun d => (u d).bind fun x => oIf (G x) ((F x).map some) (some none))).bind kk) RR f := fun r h => by
  obtain ⟨es, h0, hk⟩ := bnd h
  obtain ⟨ds, h1, h⟩ := bnd h0
  obtain ⟨h2, h⟩ := gd_some h
  obtain ⟨wi, pi, hi⟩ := hi _ h1
  intro σ0 B H0 hz σ Hk Hr D I nx rt
  refine sSs_of (pss_cons (ps_setLc hc hN hy hyl hsw pi ok hg (fun s H C cl fp => pts_one (pt_b s H C cl fp)) pe_b hs) pss_s) ?_
  show tLc wi gt (bT X scope c) (bE X scope elt) (own.map (·.2)) σ Hr (fun v H1 => sSs X rest D (σ.set n (some v)) H1)
  refine (lc_core (short_le h2) h hi hw hv ht hwp (fun x r hr => ?_) bi σ0 B H0 σ Hk Hr I _ fun p vs Hk1 Hr1 I1 m1 hp nk n0 no h1 =>
    hr es r hk σ0 B H0 hz _ Hk1 Hr1 D (I1.claim hb hp nk n0 no h1) (fun ρ' σ' Hk' Hr' q I' m' => nx ρ' σ' Hk' Hr' q I' (m1.trans m')) rt)
  rcases oIf_some hr with ⟨g1, g2⟩ | ⟨g1, g2⟩
  · obtain ⟨e, h3, h4⟩ := mpd g2
    exact ⟨true, BT.gt fun s H C cl fp => hcn x s H C cl fp _ g1, fun _ => ⟨e, h4.symm, BE.ge fun s H C cl fp => he x s H C cl fp e h3⟩, fun z => nomatch z⟩
  · cases g2
    exact ⟨false, BT.gt fun s H C cl fp => hcn x s H C cl fp _ g1, (fun z => nomatch z), fun _ => rfl⟩
theorem so_freeze {mm : Option (Res β α)} (h : ρ[n]? = some (.own ds)) (hr : SO X bi sts (ρ.set n (.val (.list ds))) mm RR f) : SO X bi sts ρ mm RR f := fun r q => ss_freeze h (hr r q)
def shortS (n : Nat) : Bool := Nat.blt n 100000
theorem shortS_lt {n : Nat} (h : shortS n = true) : n < 100000 := by
  unfold shortS Nat.blt at h
  exact Nat.le_of_ble_eq_true h
def apO {γ : Type} (o : Option PyData) (ds : List PyData) (kk : List PyData → Option γ) : Option γ := o.bind fun d => gd (shortS ds.length) (kk (ds ++ [d]))
def exO {γ : Type} (ol : Option (List PyData)) (ds : List PyData) (kk : List PyData → Option γ) : Option γ := ol.bind fun d => gd (short (ds.length + d.length)) (kk (ds ++ d))
def putO {γ : Type} (o1 o2 : Option PyData) (ds : List PyData) (kk : List PyData → Option γ) : Option γ := o1.bind fun d => (o2.bind asI).bind fun j => (ixN ds.length j).bind fun w => kk (ds.set w d)
theorem so_append {kk : List PyData → Option (Res β α)} (hi : X.N[n]? = some x) (h : ρ[n]? = some (.own ds)) (he : VO X e ρ o) (hr : ∀ ds', SO X bi rest (ρ.set n (.own ds')) (kk ds') RR f)
    (hp : PE X (.Call (.Attribute (.Name x p0) "append" p1) [e] [] pos) (tBM X.K "list" rAppend (tVar n) (tCons (sE X e) tNil))) (hs : swapsWith (.Call (.Attribute (.Name x p0) "append" p1) [e] [] pos) none pos.line X.env = pure false := by rfl) :
    SO X bi (.Expr (.Call (.Attribute (.Name x p0) "append" p1) [e] [] pos) pos :: rest) ρ (apO o ds kk) RR f := fun r q => by
  unfold apO at q
  obtain ⟨d, h1, q⟩ := bnd q
  obtain ⟨h2, q⟩ := gd_some q
  exact ss_append hi h (he _ h1) (hr _ r q) ⟨_, h⟩ (shortS_lt h2) hp hs
theorem so_extend {kk : List PyData → Option (Res β α)} (h : ρ[n]? = some (.own ds)) (he : LO X e ρ ol) (hr : ∀ ds', SO X bi rest (ρ.set n (.own ds')) (kk ds') RR f)
    (hp : PE X (.Call (.Attribute (.Name x p0) "extend" p1) [e] [] epos) (tBM X.K "list" rExtend (tVar n) (tCons (sE X e) tNil))) (hs : swapsWith (.Call (.Attribute (.Name x p0) "extend" p1) [e] [] epos) none pos.line X.env = pure false := by rfl) :
    SO X bi (.Expr (.Call (.Attribute (.Name x p0) "extend" p1) [e] [] epos) pos :: rest) ρ (exO ol ds kk) RR f := fun r q => by
  unfold exO at q
  obtain ⟨d, h1, q⟩ := bnd q
  obtain ⟨h2, q⟩ := gd_some q
  exact ss_extendL h (he _ h1) (short_le h2) (hr _ r q) hp hs
theorem so_put {kk : List PyData → Option (Res β α)} {ix : Expr} (hi : X.N[n]? = some x) (h : ρ[n]? = some (.own ds)) (he : VO X e ρ o1) (hj : VO X ix ρ o2) (hr : ∀ ds', SO X bi rest (ρ.set n (.own ds')) (kk ds') RR f)
    (hp : PS X (.Assign [.Subscript (.Name x p0) ix p1] e pos) (tAsg (sE X e) (gSub (tVar n) (sE X ix) rSetL))) : SO X bi (.Assign [.Subscript (.Name x p0) ix p1] e pos :: rest) ρ (putO o1 o2 ds kk) RR f := fun r q => by
  unfold putO at q
  obtain ⟨d, h1, q⟩ := bnd q
  obtain ⟨j, h2, q⟩ := bnd q
  obtain ⟨w, h3, q⟩ := bnd q
  obtain ⟨v, h4, h5⟩ := bnd h2
  rw [asI_eq h5] at h4
  exact ss_put hi h (he _ h1) (hj _ h4) h3 (hr _ r q) hp
/-- if, then what is behind it -/
def seqR (m : Option (Res β γ)) (kk : γ → Option (Res β α)) : Option (Res β α) := match m with
  | some (.ret b) => some (.ret b)
  | some (.nxt a) => kk a
  | none => none
theorem so_if {ma mb : Option (Res β γ)} {kk : γ → Option (Res β α)} (hc : TO X c ρ oc) (ha : SO X bi tb ρ ma RR g) (hb : SO X bi eb ρ mb RR g) (hr : ∀ a ρ2, g a ρ2 → SO X bi rest ρ2 (kk a) RR f) : SO X bi (.If c tb eb pos :: rest) ρ (seqR (oIf oc ma mb) kk) RR f := fun r h => by
  cases q : oIf oc ma mb with
  | none => rw [q] at h; cases h
  | some r1 =>
    rw [q] at h
    have key : SS X bi (.If c tb eb pos :: rest) ρ (fun ρ' => ∃ a, r = .nxt a ∧ f a ρ') (fun H0 v ρ' Hk Hr => ∃ b, r = .ret b ∧ RR b H0 v ρ' Hk Hr) := by
      have tr : ∀ {sts : List Stmt}, SS X bi sts ρ (fun ρ' => ∃ a, r1 = .nxt a ∧ g a ρ') (fun H0 v ρ' Hk Hr => ∃ b, r1 = .ret b ∧ RR b H0 v ρ' Hk Hr) → SS X bi sts ρ (fun ρ' => ∃ a, r1 = .nxt a ∧ g a ρ') (fun H0 v ρ' Hk Hr => ∃ b, r = .ret b ∧ RR b H0 v ρ' Hk Hr) := fun hs => ss_mono hs (fun _ z => z) fun H0 v ρ' Hk Hr ⟨b, z1, z2⟩ => by
        subst z1
        cases h
        exact ⟨b, rfl, z2⟩
      rcases oIf_some q with ⟨h1, h2⟩ | ⟨h1, h2⟩
      · refine ss_if (k := true) (hc _ h1) (fun _ => tr (ha _ h2)) (fun z => nomatch z) fun ρ2 ⟨a, z1, z2⟩ => ?_
        subst z1
        exact hr a ρ2 z2 r h
      · refine ss_if (k := false) (hc _ h1) (fun z => nomatch z) (fun _ => tr (hb _ h2)) fun ρ2 ⟨a, z1, z2⟩ => ?_
        subst z1
        exact hr a ρ2 z2 r h
    exact key
/-- if without else whose suite hands back -/
theorem so_ifR {ma : Option (Res β Empty)} {mb : Option (Res β α)} (hc : TO X c ρ oc) (ha : SO X bi tb ρ ma RR (fun a _ => a.elim)) (hr : SO X bi rest ρ mb RR f) : SO X bi (.If c tb [] pos :: rest) ρ (oIf oc (seqR ma fun a => a.elim) mb) RR f := fun r h => by
  rcases oIf_some h with ⟨h1, h2⟩ | ⟨h1, h2⟩
  · refine ss_ifR (k := true) (hc _ h1) (fun _ => ?_) (fun z => nomatch z)
    cases ma with
    | none => cases h2
    | some r1 =>
      cases r1 with
      | nxt a => exact a.elim
      | ret b =>
        cases h2
        exact ss_mono (ha _ rfl) (fun ρ' ⟨a, _, z⟩ => a.elim) fun H0 v ρ' Hk Hr ⟨b', z1, z2⟩ => ⟨b', by cases z1; rfl, z2⟩
  · exact ss_ifR (k := false) (hc _ h1) (fun z => nomatch z) fun _ => hr r h2
def forO (step : PyData → γ → Option (Res β γ)) : List PyData → γ → Option (Res β γ)
  | [], a => some (.nxt a)
  | d :: ds, a => match step d a with
    | some (.ret b) => some (.ret b)
    | some (.nxt a') => forO step ds a'
    | none => none
theorem so_for {υ : Type} {gt : TG} {u : PyData → Option υ} {ρd : List Sl → υ → List Sl} {a0 : γ} {step : υ → γ → Option (Res β γ)} {kk : γ → Option (Res β α)} (hi : IO X tg iter ρ oi) (hg : PG X tg gt) (ht : ∀ ρ, TGo X.K bi gt ρ u (ρd ρ)) (h0 : g a0 ρ)
    (hb : ∀ a ρ1 x, g a ρ1 → SO X bi body (ρd ρ1 x) (step x a) RR g) (hr : ∀ a ρ2, g a ρ2 → SO X bi rest ρ2 (kk a) RR f)
    (hp : PassesOwn (model X.prog X.w) X.A X.env X.xe := by exact PassesOwn.never) (hc : X.calm = true := by rfl) (hs : ∀ x, foldedSetIterable iter X.env x = pure x := by intro _; rfl) :
    SO X bi (.For tg iter body [] pos :: rest) ρ (seqR (oi.bind fun ds => forO (fun d a => (u d).bind fun x => step x a) ds a0) kk) RR f := fun r h => by
  cases q : (oi.bind fun ds => forO (fun d a => (u d).bind fun x => step x a) ds a0) with
  | none => rw [q] at h; cases h
  | some r1 =>
    rw [q] at h
    obtain ⟨ds, h1, q⟩ := bnd q
    refine ss_for (fun i ρ' => ∃ a, g a ρ' ∧ forO (fun d a => (u d).bind fun x => step x a) (ds.drop i) a = some r1) (hi _ h1) hg ⟨a0, h0, by simpa using q⟩ (fun i d ρi hd ⟨a, ga, fa⟩ => ?_) (fun ρ' ⟨a, ga, fa⟩ => ?_) hp hc hs
    · have hj := (List.getElem?_eq_some_iff.mp hd).1
      have hdr : ds.drop i = d :: ds.drop (i + 1) := by
        rw [List.drop_eq_getElem_cons hj]
        congr 1
        exact (List.getElem?_eq_some_iff.mp hd).2
      rw [hdr] at fa
      unfold forO at fa
      cases q2 : (u d).bind fun x => step x a with
      | none => simp only [q2] at fa; cases fa
      | some r2 =>
        simp only [q2] at fa
        obtain ⟨x, h5, h6⟩ := bnd q2
        refine ⟨ρd ρi x, ht ρi d x h5, ss_mono (hb a ρi x ga r2 h6) (fun ρ' ⟨a', z1, z2⟩ => ?_) fun H0 v ρ' Hk Hr ⟨b, z1, z2⟩ => ?_⟩
        · subst z1
          exact ⟨a', z2, fa⟩
        · subst z1
          cases fa
          cases h
          exact ⟨b, rfl, z2⟩
    · rw [List.drop_length] at fa
      cases fa
      exact hr a ρ' ga r h
def whO (test : γ → Option Bool) (step : γ → Option (Res β γ)) : Nat → γ → Option (Res β γ)
  | 0, _ => none
  | k + 1, a => match test a with
    | some true => (match step a with
      | some (.ret b) => some (.ret b)
      | some (.nxt a') => whO test step k a'
      | none => none)
    | some false => some (.nxt a)
    | none => none
theorem so_while {a0 : γ} {test : γ → Option Bool} {step : γ → Option (Res β γ)} {kk : γ → Option (Res β α)} (fuel : Nat) (h0 : g a0 ρ) (hc : ∀ a ρ1, g a ρ1 → TO X c ρ1 (test a)) (hb : ∀ a ρ1, g a ρ1 → SO X bi body ρ1 (step a) RR g) (hr : ∀ a ρ2, g a ρ2 → SO X bi rest ρ2 (kk a) RR f)
    (hp : PassesOwn (model X.prog X.w) X.A X.env X.xe := by exact PassesOwn.never) : SO X bi (.While c body [] pos :: rest) ρ (seqR (whO test step fuel a0) kk) RR f := fun r h => by
  cases q : whO test step fuel a0 with
  | none => rw [q] at h; cases h
  | some r1 =>
    rw [q] at h
    refine ss_while (fun m ρ' => ∃ a, g a ρ' ∧ whO test step m a = some r1) ⟨a0, h0, q⟩ (fun m ρi ⟨a, ga, fa⟩ => ?_) hp
    cases m with
    | zero => cases fa
    | succ m =>
      unfold whO at fa
      cases q1 : test a with
      | none => simp only [q1] at fa; cases fa
      | some k =>
        refine ⟨k, ρi, hc a ρi ga k q1, fun hk => ?_, fun hk => ?_⟩
        · subst hk
          simp only [q1] at fa
          cases q2 : step a with
          | none => simp only [q2] at fa; cases fa
          | some r2 =>
            simp only [q2] at fa
            refine ss_mono (hb a ρi ga r2 q2) (fun ρ' ⟨a', z1, z2⟩ => ?_) fun H0 v ρ' Hk Hr ⟨b, z1, z2⟩ => ?_
            · subst z1
              exact ⟨m, Nat.lt_succ_self m, a', z2, fa⟩
            · subst z1
              cases fa
              cases h
              exact ⟨b, rfl, z2⟩
        · subst hk
          simp only [q1] at fa
          cases fa
          exact hr a ρi ga r h
theorem so_expr {mm : Option (Res β α)} (he : VO X e ρ o) (hr : SO X bi rest ρ mm RR f) (hs : swapsWith e none pos.line X.env = pure false := by rfl) : SO X bi (.Expr e pos :: rest) ρ (o.bind fun _ => mm) RR f := fun r q => by
  obtain ⟨d, h1, q⟩ := bnd q
  exact ss_expr (he _ h1) (hr r q) hs
theorem so_ret (he : VO X e ρ o) : SO X bi (.Return (some e) pos :: rest) ρ (o.map Res.ret) (fun d => RDt X.K fun d' _ => d' = d) f := fun r q => by
  obtain ⟨d, h1, q⟩ := mpd q
  subst q
  exact ss_mono (ss_ret (R := fun d' _ => d' = d) (N := fun _ => False) (he _ h1) rfl) (fun _ z => z.elim) fun H0 v ρ' Hk Hr z => ⟨d, rfl, z⟩
theorem so_retL (he : LO X e ρ ol) : SO X bi (.Return (some e) pos :: rest) ρ (ol.map Res.ret) (fun d => RNewD X.K fun d' => d' = d) f := fun r q => by
  obtain ⟨d, h1, q⟩ := mpd q
  subst q
  exact ss_mono (ss_retL (P := fun d' => d' = d) (N := fun _ => False) (he _ h1) rfl) (fun _ z => z.elim) fun H0 v ρ' Hk Hr z => ⟨d, rfl, z⟩
theorem so_retOwn (hN : X.N[n]? = some x) (ho : ρ[n]? = some (.own ds)) (hv : Vis X.env.scope x := by first | exact Or.inl rfl | exact Or.inr (Or.inl rfl) | exact Or.inr (Or.inr rfl)) (hd : (x == ("__debug__" : Str)) = false := by decide)
    (hcd : (x == ("__classdict__" : Str)) = false := by decide) : SO X bi (.Return (some (.Name x p0)) pos :: rest) ρ (some (Res.ret ds)) (fun d => RNewD X.K fun d' => d' = d) f := fun r q => by
  cases q
  exact ss_mono (ss_retOwn (P := fun d' => d' = ds) (N := fun _ => False) hN ho rfl hv hd hcd) (fun _ z => z.elim) fun H0 v ρ' Hk Hr z => ⟨ds, rfl, z⟩
end
/-! ### defs -/
def finD (m : Option (Res PyData Unit)) : Option PyData := match m with
  | some (.ret d) => some d
  | some (.nxt _) => some .none
  | none => none
def finL (m : Option (Res (List PyData) Empty)) : Option (List PyData) := match m with
  | some (.ret d) => some d
  | _ => none
section
variable {P : Program} {w : World} {K : PySem.W.Frag} {mg : Str → Option Value} {base : Heap} {x qual : Str} {st : Stmt} {f : Addr} {fd : FuncData} {N ps : List Str} {k : Nat}
theorem defD {mm : List PyData → Option (Res PyData Unit)} (F : Fun K x qual st f fd) (S : FnScope N ps (defScope st)) (hl : ps.length ≤ N.length)
    (body : ∀ (cdv : Value) (A : Around) (outer : List Env) (s : Shared) (H : Hp) (E : XK), Room k (A.deeper (envOfC qual (defScope st) s.heap.objs.size f cdv)) → ∀ ds, ds.length = ps.length →
      SO (cxOf CX0 P w K mg base N qual (defScope st) f cdv A outer s H E).nox [] (defBody st) (rho ds (N.length - ps.length)) (mm ds) (fun d => RDt K fun d' _ => d' = d) (fun (_ : Unit) _ => True)) :
    FnOk P w K mg base CX0 (k + 1) f fd ps (spD K ps.length fun ds d => finD (mm ds) = some d) :=
  fd_of F S hl fun cdv A outer s H E hr ds d h hlen => by
    have hb := body cdv A outer s H E hr ds hlen
    cases q : mm ds with
    | none => rw [q] at h; cases h
    | some r =>
      rw [q] at h
      refine ss_mono (hb r q) (fun ρ' ⟨a, z1, z2⟩ => ?_) fun H0 v ρ' Hk Hr ⟨b, z1, z2⟩ => ?_
      · subst z1
        exact (Option.some.inj h).symm
      · subst z1
        cases h
        exact z2
theorem defL {mm : List PyData → Option (Res (List PyData) Empty)} (F : Fun K x qual st f fd) (S : FnScope N ps (defScope st)) (hl : ps.length ≤ N.length)
    (body : ∀ (cdv : Value) (A : Around) (outer : List Env) (s : Shared) (H : Hp) (E : XK), Room k (A.deeper (envOfC qual (defScope st) s.heap.objs.size f cdv)) → ∀ ds, ds.length = ps.length →
      SO (cxOf CX0 P w K mg base N qual (defScope st) f cdv A outer s H E).nox [] (defBody st) (rho ds (N.length - ps.length)) (mm ds) (fun d => RNewD K fun d' => d' = d) (fun (a : Empty) _ => a.elim)) :
    FnOk P w K mg base CX0 (k + 1) f fd ps (spL K ps.length fun ds d => finL (mm ds) = some d) :=
  fdL_of F S hl fun cdv A outer s H E hr ds es h hlen => by
    have hb := body cdv A outer s H E hr ds hlen
    cases q : mm ds with
    | none => rw [q] at h; cases h
    | some r =>
      rw [q] at h
      refine ss_mono (hb r q) (fun ρ' ⟨a, z1, z2⟩ => a.elim) fun H0 v ρ' Hk Hr ⟨b, z1, z2⟩ => ?_
      subst z1
      cases h
      exact z2
end
end Gn
namespace Gn
open PySem L2 Pd PySem.Spec PyProof.Rows Zq
/-- built-in names that the top leaves as they are -/
structure MgB (mg : Str → Option Value) : Prop where
  len : mg "len" = none
  int : mg "int" = none
  abs : mg "abs" = none
  min : mg "min" = none
  max : mg "max" = none
  range : mg "range" = none
  tuple : mg "tuple" = none
  list : mg "list" = none
  all : mg "all" = none
  any : mg "any" = none
  zip : mg "zip" = none
  sum : mg "sum" = none
  sorted : mg "sorted" = none
  isinstance : mg "isinstance" = none
  bool : mg "bool" = none
  reversed : mg "reversed" = none
  enumerate : mg "enumerate" = none
theorem ao_len0 {ds : List PyData} (h : (some ([] : List PyData)) = some ds) : ds.length = 0 := by cases h; rfl
theorem ao_lenS {o : Option PyData} {r : Option (List PyData)} {n : Nat} (hr : ∀ ds, r = some ds → ds.length = n) : ∀ ds, (o.bind fun d => r.bind fun es => some (d :: es)) = some ds → ds.length = n + 1 := fun ds h => by
  obtain ⟨d, h1, h⟩ := bnd h
  obtain ⟨es, h2, h⟩ := bnd h
  cases h
  rw [List.length_cons, hr _ h2]
theorem ao_len1 {o : Option PyData} : ∀ {ds}, (o.bind fun d => (some []).bind fun es => some (d :: es)) = some ds → ds.length = 1 := fun {ds} h => ao_lenS (fun ds h => ao_len0 h) ds h
theorem ao_len2 {o o1 : Option PyData} : ∀ {ds}, (o.bind fun d => (o1.bind fun d => (some []).bind fun es => some (d :: es)).bind fun es => some (d :: es)) = some ds → ds.length = 2 := fun {ds} h => ao_lenS (fun ds h => ao_len1 h) ds h
theorem ao_len3 {o o1 o2 : Option PyData} : ∀ {ds}, (o.bind fun d => (o1.bind fun d => (o2.bind fun d => (some []).bind fun es => some (d :: es)).bind fun es => some (d :: es)).bind fun es => some (d :: es)) = some ds → ds.length = 3 := fun {ds} h => ao_lenS (fun ds h => ao_len2 h) ds h
theorem ao_len4 {o o1 o2 o3 : Option PyData} : ∀ {ds}, (o.bind fun d => (o1.bind fun d => (o2.bind fun d => (o3.bind fun d => (some []).bind fun es => some (d :: es)).bind fun es => some (d :: es)).bind fun es => some (d :: es)).bind fun es => some (d :: es)) = some ds → ds.length = 4 := fun {ds} h => ao_lenS (fun ds h => ao_len3 h) ds h
theorem ao_len5 {o o1 o2 o3 o4 : Option PyData} : ∀ {ds}, (o.bind fun d => (o1.bind fun d => (o2.bind fun d => (o3.bind fun d => (o4.bind fun d => (some []).bind fun es => some (d :: es)).bind fun es => some (d :: es)).bind fun es => some (d :: es)).bind fun es => some (d :: es)).bind fun es => some (d :: es)) = some ds → ds.length = 5 := fun {ds} h => ao_lenS (fun ds h => ao_len4 h) ds h
/-! ### two clauses -/
def mapU (f : PyData → Option PyData) : List PyData → Option (List PyData)
  | [] => some []
  | d :: ds => (f d).bind fun e => (mapU f ds).bind fun es => some (e :: es)
theorem mapU_eq {f : PyData → Option PyData} : ∀ {ds es : List PyData}, mapU f ds = some es → (∀ d ∈ ds, f d = some ((f d).getD .none)) ∧ es = ds.map fun d => (f d).getD .none
  | [], es, h => by cases h; exact ⟨fun d hd => (nomatch hd), rfl⟩
  | d :: ds, es, h => by
    obtain ⟨e, h1, h⟩ := bnd h
    obtain ⟨es', h2, h⟩ := bnd h
    cases h
    obtain ⟨g1, g2⟩ := mapU_eq h2
    refine ⟨fun x hx => ?_, ?_⟩
    · rcases List.mem_cons.mp hx with q | q
      · subst q; rw [h1]; rfl
      · exact g1 x q
    · rw [List.map_cons, ← g2, h1]; rfl
def flatO (F : PyData → Option (List PyData)) : List PyData → Option (List PyData)
  | [] => some []
  | d :: ds => (F d).bind fun es => (flatO F ds).bind fun r => some (es ++ r)
theorem flatO_eq {f : PyData → Option (List PyData)} : ∀ {ds es : List PyData}, flatO f ds = some es → (∀ d ∈ ds, f d = some ((f d).getD [])) ∧ es = ds.flatMap fun d => (f d).getD []
  | [], es, h => by cases h; exact ⟨fun d hd => (nomatch hd), rfl⟩
  | d :: ds, es, h => by
    obtain ⟨e, h1, h⟩ := bnd h
    obtain ⟨es', h2, h⟩ := bnd h
    cases h
    obtain ⟨g1, g2⟩ := flatO_eq h2
    refine ⟨fun x hx => ?_, ?_⟩
    · rcases List.mem_cons.mp hx with q | q
      · subst q; rw [h1]; rfl
      · exact g1 x q
    · rw [List.flatMap_cons, ← g2, h1]; rfl
def lc2O (F : PyData → Option (List PyData)) (ds : List PyData) : Option (List PyData) := (flatO F ds).bind fun es => gd (short es.length) (some es)
def BIO (X : Cx) (scope : Scope) (tg iter : Expr) (ρ : List Sl) (o : Option (List PyData)) : Prop := ∀ (s : Shared) (H : Hp) (C : Addr) (cl : List (Str × Addr)) (fp : List Addr), IO (X.blk s H scope (compEnvC scope cl C X.env) fp) tg iter ρ o
section
variable {X : Cx} {bi : List Nat} {a b c e elt tg iter tg1 iter1 : Expr} {es : List Expr} {rest body sts tb eb : List Stmt} {ρ ρ1 ρ2 : List Sl} {d : PyData} {ds : List PyData} {pos p0 p1 epos cpos : Pos} {x y : Str} {n m k : Nat} {o o1 o2 : Option PyData} {ol oi : Option (List PyData)} {oc : Option Bool} {scope : Scope} {own : List (Str × Nat)} {vs1 : List Nat}
variable {β α γ : Type} {RR : β → RTy} {f : α → List Sl → Prop} {g : γ → List Sl → Prop}
/-- what lc2_raw asks -/
theorem lc2_item {υ υ1 : Type} {gt gt1 : TG} {u : PyData → Option υ} {u1 : PyData → Option υ1} {ρd : υ → List Sl} {ρe : υ → υ1 → List Sl} {J : υ → Option (List PyData)} {F : υ → υ1 → Option PyData} {es ds : List PyData}
    (h : flatO (fun d => (u d).bind fun x => (J x).bind fun ys => mapU (fun d => (u1 d).bind fun y => F x y) ys) ds = some es)
    (ht : TGo X.K [] gt ρ u ρd) (hwp : ∀ x, wipeS (ρd x) (own.map (·.2)) = ρ) (hv1 : ∀ x, ∀ i ∈ vs1, (ρd x)[i]? = some .no) (hj : ∀ x, BIO X scope tg1 iter1 (ρd x) (J x)) (ht1 : ∀ x, TGo X.K [] gt1 (ρd x) u1 (ρe x)) (hwp1 : ∀ x y, wipeS (ρe x y) vs1 = ρd x) (he : ∀ x y, BVO X scope elt (ρe x y) (F x y)) :
    ∃ (l1 : PyData → List PyData) (gg : PyData → PyData → PyData), es = (ds.flatMap fun x => (l1 x).map (gg x)) ∧ ∀ x ∈ ds, ∃ ρd', EG X.K [] gt ρ x ρd' ∧ wipeS ρd' (own.map (·.2)) = ρ ∧ (∀ i ∈ vs1, ρd'[i]? = some .no) ∧ BI X scope tg1 iter1 ρd' ((l1 x).map fun y => y) ρd' ∧ ∀ y ∈ l1 x, ∃ ρe', EG X.K [] gt1 ρd' y ρe' ∧ wipeS ρe' vs1 = ρd' ∧ BE X scope elt ρe' (gg x y) ρe' := by
  obtain ⟨g1, g2⟩ := flatO_eq h
  refine ⟨fun d => ((u d).bind J).getD [], fun d y => ((u d).bind fun x => (u1 y).bind fun y => F x y).getD .none, ?_, fun d hd => ?_⟩
  · rw [g2]
    have : ∀ d ∈ ds, ((u d).bind fun x => (J x).bind fun ys => mapU (fun d => (u1 d).bind fun y => F x y) ys).getD [] = (((u d).bind J).getD []).map fun y => ((u d).bind fun x => (u1 y).bind fun y => F x y).getD .none := fun d hd => by
      obtain ⟨x, h1, h2⟩ := bnd (g1 d hd)
      obtain ⟨ys, h3, h4⟩ := bnd h2
      obtain ⟨g3, g4⟩ := mapU_eq h4
      rw [g4, h1]
      simp only [Option.bind_some, h3, Option.getD_some]
    clear h g1 g2
    induction ds with
    | nil => rfl
    | cons d ds ih =>
      rw [List.flatMap_cons, List.flatMap_cons, this d (List.mem_cons_self ..), ih fun x hx => this x (List.mem_cons_of_mem _ hx)]
  · obtain ⟨x, h1, h2⟩ := bnd (g1 d hd)
    obtain ⟨ys, h3, h4⟩ := bnd h2
    obtain ⟨g3, g4⟩ := mapU_eq h4
    have e1 : ((u d).bind J).getD [] = ys := by rw [h1]; simp only [Option.bind_some, h3, Option.getD_some]
    refine ⟨ρd x, ht d x h1, hwp x, hv1 x, ?_, fun y hy => ?_⟩
    · rw [List.map_id']
      show BI X scope tg1 iter1 (ρd x) (((u d).bind J).getD []) (ρd x)
      rw [e1]
      exact fun s H C cl fp => hj x s H C cl fp ys h3
    · have hy : y ∈ ((u d).bind J).getD [] := hy
      rw [e1] at hy
      obtain ⟨y', h5, h6⟩ := bnd (g3 y hy)
      refine ⟨ρe x y', ht1 x y y' h5, hwp1 x y', ?_⟩
      have e2 : ((u d).bind fun x => (u1 y).bind fun y => F x y).getD .none = (F x y').getD .none := by rw [h1]; simp only [Option.bind_some, h5]
      show BE X scope elt (ρe x y') (((u d).bind fun x => (u1 y).bind fun y => F x y).getD .none) (ρe x y')
      rw [e2]
      intro s H C cl fp
      refine he x y' s H C cl fp _ ?_
      rw [h5] at h6
      simp only [Option.bind_some] at h6
      exact h6
theorem lo_lc2 {υ υ1 : Type} {gt gt1 : TG} {u : PyData → Option υ} {u1 : PyData → Option υ1} {ρd : υ → List Sl} {ρe : υ → υ1 → List Sl} {J : υ → Option (List PyData)} {F : υ → υ1 → Option PyData} (hi : IO X tg iter ρ oi) (hw : GW gt (own.map (·.2))) (hw1 : GW gt1 vs1) (hv : ∀ i ∈ own.map (·.2), ρ[i]? = some .no) (hv1 : ∀ x, ∀ i ∈ vs1, (ρd x)[i]? = some .no) (ht : TGo X.K [] gt ρ u ρd) (hwp : ∀ x, wipeS (ρd x) (own.map (·.2)) = ρ) (hj : ∀ x, BIO X scope tg1 iter1 (ρd x) (J x)) (ht1 : ∀ x, TGo X.K [] gt1 (ρd x) u1 (ρe x)) (hwp1 : ∀ x y, wipeS (ρe x y) vs1 = ρd x) (he : ∀ x y, BVO X scope elt (ρe x y) (F x y))
    (hN : X.N.Nodup) (ok : BlkOk X.N X.env.scope scope own) (hsub : ∀ i ∈ vs1, i ∈ own.map (·.2)) (hg : ∀ (s : Shared) (H : Hp) (C : Addr) (cl : List (Str × Addr)) (fp : List Addr), PG (X.blk s H scope (compEnvC scope cl C X.env) fp) tg gt) (hg1 : ∀ (s : Shared) (H : Hp) (C : Addr) (cl : List (Str × Addr)) (fp : List Addr), PG (X.blk s H scope (compEnvC scope cl C X.env) fp) tg1 gt1)
    (hc : X.calm = true := by rfl) (hs : ∀ x, foldedSetIterable iter X.env x = pure x := by intro _; rfl) (hs1 : ∀ env x, foldedSetIterable iter1 env x = pure x := by intro _ _; rfl) :
    LO X (.ListComp elt [⟨tg, iter, [], 0⟩, ⟨tg1, iter1, [], 0⟩] scope pos) ρ (oi.bind fun ds => lc2O (fun d => (u d).bind fun x => (J x).bind fun ys => mapU (fun d => (u1 d).bind fun y => F x y) ys) ds) := fun es h => by
  obtain ⟨ds, h1, h⟩ := bnd h
  obtain ⟨es', h2, h⟩ := bnd h
  obtain ⟨h3, h⟩ := gd_some h
  cases h
  obtain ⟨l1, gg, e1, hit⟩ := lc2_item (X := X) (own := own) h2 ht hwp hv1 hj ht1 hwp1 he
  rw [e1] at h3 ⊢
  refine el_lc2 (l := ds) (f := fun d => d) (f1 := fun _ y => y) ?_ hw hw1 hv (short_le h3) hit hN ok hsub hg hg1 hc hs hs1
  rw [List.map_id']
  exact hi _ h1
theorem so_lc2 {υ υ1 : Type} {kk : List PyData → Option (Res β α)} {gt gt1 : TG} {u : PyData → Option υ} {u1 : PyData → Option υ1} {ρd : υ → List Sl} {ρe : υ → υ1 → List Sl} {J : υ → Option (List PyData)} {F : υ → υ1 → Option PyData} (hb : n ∉ bi) (hy : X.N[n]? = some y) (hyl : X.env.scope.names.lookup y = some .local) (hi : IO X tg iter ρ oi) (hw : GW gt (own.map (·.2))) (hw1 : GW gt1 vs1) (hv : ∀ i ∈ own.map (·.2), ρ[i]? = some .no) (hv1 : ∀ x, ∀ i ∈ vs1, (ρd x)[i]? = some .no) (ht : TGo X.K [] gt ρ u ρd) (hwp : ∀ x, wipeS (ρd x) (own.map (·.2)) = ρ) (hj : ∀ x, BIO X scope tg1 iter1 (ρd x) (J x)) (ht1 : ∀ x, TGo X.K [] gt1 (ρd x) u1 (ρe x)) (hwp1 : ∀ x y, wipeS (ρe x y) vs1 = ρd x) (he : ∀ x y, BVO X scope elt (ρe x y) (F x y))
    (hN : X.N.Nodup) (ok : BlkOk X.N X.env.scope scope own) (hsub : ∀ i ∈ vs1, i ∈ own.map (·.2)) (hg : ∀ (s : Shared) (H : Hp) (C : Addr) (cl : List (Str × Addr)) (fp : List Addr), PG (X.blk s H scope (compEnvC scope cl C X.env) fp) tg gt) (hg1 : ∀ (s : Shared) (H : Hp) (C : Addr) (cl : List (Str × Addr)) (fp : List Addr), PG (X.blk s H scope (compEnvC scope cl C X.env) fp) tg1 gt1) (hr : ∀ d, SO X bi rest (ρ.set n (.own d)) (kk d) RR f)
    (hsw : swapsWith (.ListComp elt [⟨tg, iter, [], 0⟩, ⟨tg1, iter1, [], 0⟩] scope cpos) (some (.Name y p0)) pos.line X.env = pure true := by exact (sw_true rfl rfl rfl (by decide +kernel))) (hc : X.calm = true := by rfl) (hs : ∀ x, foldedSetIterable iter X.env x = pure x := by intro _; rfl) (hs1 : ∀ env x, foldedSetIterable iter1 env x = pure x := by intro _ _; rfl) :
    SO X bi (.Assign [.Name y p0] (.ListComp elt [⟨tg, iter, [], 0⟩, ⟨tg1, iter1, [], 0⟩] scope cpos) pos :: rest) ρ ((oi.bind fun ds => lc2O (fun d => (u d).bind fun x => (J x).bind fun ys => mapU (fun d => (u1 d).bind fun y => F x y) ys) ds).bind kk) RR f := fun r h => by
  obtain ⟨es, h0, hk⟩ := bnd h
  obtain ⟨ds, h1, h⟩ := bnd h0
  obtain ⟨es', h2, h⟩ := bnd h
  obtain ⟨h3, h⟩ := gd_some h
  cases h
  obtain ⟨l1, gg, e1, hit⟩ := lc2_item (X := X) (own := own) h2 ht hwp hv1 hj ht1 hwp1 he
  obtain ⟨wi, pi, hi⟩ := hi _ h1
  intro σ0 B H0 hz σ Hk Hr D I nx rt
  refine sSs_of (pss_cons (ps_setLc2 hc hN hy hyl hsw pi ok hsub hg (fun _ _ _ _ _ => pts_nil) pi_b hg1 (fun _ _ _ _ _ => pts_nil) pe_b hs hs1) pss_s) ?_
  show tLc2 wi gt tYes (bI X scope tg1 iter1) gt1 tYes (bE X scope elt) (own.map (·.2)) vs1 σ Hr (fun v H1 => sSs X rest D (σ.set n (some v)) H1)
  refine lc2_raw (l := ds) (f := fun d => d) (f1 := fun _ y => y) (l1 := l1) (gg := gg) ?_ hw hw1 hv (by rw [← e1]; exact short_le h3) (fun x hx => ?_) bi σ0 B H0 σ Hk Hr I _ fun p vs Hk1 Hr1 I1 m1 hp nk n0 no h1 => ?_
  · rw [List.map_id']
    exact hi
  · obtain ⟨ρd', k1, k2, k3, k4, k5⟩ := hit x hx
    exact ⟨ρd', k1, k2, k3, k4.gi, fun y hy => by
      obtain ⟨ρe', q1, q2, q3⟩ := k5 y hy
      exact ⟨ρe', q1, q2, q3.ge⟩⟩
  · rw [← e1] at h1
    exact hr es r hk σ0 B H0 hz _ Hk1 Hr1 D (I1.claim hb hp nk n0 no h1) (fun ρ' σ' Hk' Hr' q I' m' => nx ρ' σ' Hk' Hr' q I' (m1.trans m')) rt
/-- (x, y, ..) = e -/
theorem so_setT {υ : Type} {gt : TG} {u : PyData → Option υ} {ρd : υ → List Sl} {kk : υ → Option (Res β α)} (hg : PG X tg gt) (ht : TGo X.K bi gt ρ u ρd) (he : VO X e ρ o) (hr : ∀ x, SO X bi rest (ρd x) (kk x) RR f)
    (hs : swapsWithSole [tg] e pos.line X.env = pure false := by rfl) (hw : swappedStores [tg] e X.env = pure none := by rfl) (h1 : (assignEach [tg] X.env).map (·.2) = [assign tg X.env] := by rfl) : SO X bi (.Assign [tg] e pos :: rest) ρ (o.bind fun d => (u d).bind kk) RR f := fun r h => by
  obtain ⟨d, h2, h⟩ := bnd h
  obtain ⟨x, h3, h⟩ := bnd h
  intro σ0 B H0 hz σ Hk Hr D I nx rt
  refine sSs_of (pss_cons (ps_asg pe_s hg hs hw h1) pss_s) (he _ h2 bi σ0 B H0 σ Hk Hr I _ fun v Hk1 Hr1 I1 m1 hv => ?_)
  exact ht d x h3 σ0 B H0 σ Hk1 Hr1 v I1 hv _ fun σ' I2 => hr x r h σ0 B H0 hz σ' Hk1 Hr1 D I2 (fun ρ' σ' Hk' Hr' q I' m' => nx ρ' σ' Hk' Hr' q I' (m1.trans m')) rt
end
/-! ### calls with values that are not written, with keywords -/
structure CalW (P : Program) (w : World) (K : PySem.W.Frag) (mg : Str → Option Value) (base : Heap) (k : Nat) (x : Str) (ps : List Str) (dv : List PyData) (sp : Sp) : Prop where
  ex : ∃ (f : Addr) (fd : FuncData) (us : List Value) (vs : List V), FnOk P w K mg base CX0 k f fd ps sp ∧ mg x = some (.ref f) ∧ PySem.W.keepIn K (.ref f) = true ∧ Binds K fd ps us ∧ Vals vs us ∧ ∀ B, DpAll K B vs dv
structure CalK (P : Program) (w : World) (K : PySem.W.Frag) (mg : Str → Option Value) (base : Heap) (k : Nat) (x : Str) (ps ks : List Str) (np : Nat) (sp : Sp) : Prop where
  ex : ∃ (f : Addr) (fd : FuncData), FnOk P w K mg base CX0 k f fd ps sp ∧ mg x = some (.ref f) ∧ PySem.W.keepIn K (.ref f) = true ∧ KBn K fd ps np ks (fun us ws => us ++ ws) (fun us ws => us ++ ws)
section
variable {X : Cx} {e : Expr} {es : List Expr} {ρ : List Sl} {pos p0 : Pos} {x : Str} {ps ks : List Str} {k nn : Nat} {oa : Option (List PyData)} {dv : List PyData} {kws : List Keyword}
theorem vo_callW {m : List PyData → Option PyData} (cl : CalW X.prog X.w X.K X.mg X.base k x ps dv (spD X.K nn fun ds d => m ds = some d)) (hr : Room k X.A) (ha : AO X (e :: es) ρ oa) (hn : ∀ ds, oa = some ds → ds.length + dv.length = nn)
    (hg : Gl X x := by rfl) (hdb : (x == ("__debug__" : Str)) = false := by decide) (he : starEach (e :: es) X.env = (false, eval e X.env) :: starEach es X.env := by rfl) (hpl : (backTo pos (starEach es X.env)).any (·.1) = false := by rfl) : VO X (.Call (.Name x p0) (e :: es) [] pos) ρ (oa.bind fun ds => m (ds ++ dv)) := fun d h => by
  obtain ⟨ds, h1, h⟩ := bnd h
  obtain ⟨f, fd, us, vs, F, hm, hk, hb, rv, hv⟩ := cl.ex
  intro bi σ0 B H0 σ Hk Hr I Q q
  refine sE_of (pe_call (E := E0) F hr hg hm hk hb rv pass0 pa_s hdb he hpl) (ha _ h1 bi σ0 B H0 σ Hk Hr I _ fun ws Hk1 Hr1 I1 m1 hw => ?_)
  exact ⟨Hk1, ds ++ dv, d, h, by rw [List.length_append]; exact hn _ h1, I1.kr, DpAll.app hw (hv _), fun v H' e' hv => q v _ H' (I1.gro e') (m1.trans (gro_same I1.kr)) hv⟩
/-- keywords -/
structure KO (X : Cx) (kws : List Keyword) (ρ : List Sl) (dv : List PyData) : Prop where
  ex : ∃ vs : List V, PK X kws (fun σ H Q => Q vs H) ∧ ∀ B, DpAll X.K B vs dv
theorem ko_bl {b : Bool} {nm : Option Str} {n : Nat} {cp kp : Pos} : KO X [⟨nm, .Constant (.bool b) n cp, kp⟩] ρ [.bool b] := ⟨[.bl b], pk_cons pe_bl pk_nil, fun B => .cons (.bl b) .nil⟩
theorem vo_callK {m : List PyData → Option PyData} {np : Nat} (cl : CalK X.prog X.w X.K X.mg X.base k x ps ks np (spD X.K nn fun ds d => m ds = some d)) (hr : Room k X.A) (ha : AO X (e :: es) ρ oa) (hkw : KO X kws ρ dv) (hn : ∀ ds, oa = some ds → ds.length = np) (hnn : np + dv.length = nn := by rfl) (hkl : dv.length = ks.length := by rfl)
    (hall : (backToKw pos (keywordEach kws X.env)).all (·.1.isSome) = true := by rfl) (hks : (backToKw pos (keywordEach kws X.env)).filterMap (·.1) = ks := by rfl)
    (hg : Gl X x := by rfl) (hdb : (x == ("__debug__" : Str)) = false := by decide) (he : starEach (e :: es) X.env = (false, eval e X.env) :: starEach es X.env := by rfl) (hpl : ((backTo pos (starEach (e :: es) X.env)).any (·.1) || (backToKw pos (keywordEach kws X.env)).any (·.1.isNone)) = false := by rfl) : VO X (.Call (.Name x p0) (e :: es) kws pos) ρ (oa.bind fun ds => m (ds ++ dv)) := fun d h => by
  obtain ⟨ds, h1, h⟩ := bnd h
  obtain ⟨f, fd, F, hm, hk, hb⟩ := cl.ex
  obtain ⟨vs, pk, hv⟩ := hkw.ex
  intro bi σ0 B H0 σ Hk Hr I Q q
  refine sE_of (pe_callN (E := E0) F hr hg hm hk hb pass0 pa_s pk hall hks hdb he hpl) (ha _ h1 bi σ0 B H0 σ Hk Hr I _ fun ws Hk1 Hr1 I1 m1 hw => ?_)
  refine ⟨by rw [DpAll.len hw, hn _ h1], by rw [DpAll.len (hv Hk1), hkl], ?_⟩
  exact ⟨Hk1, ds ++ dv, d, h, by rw [List.length_append, hn _ h1, hnn], I1.kr, DpAll.app hw (hv _), fun v H' e' hv => q v _ H' (I1.gro e') (m1.trans (gro_same I1.kr)) hv⟩
end
end Gn
namespace Gn
open PySem L2 Pd PySem.Spec PyProof.Rows Zq
/-! ### with a list that is drawn from: what it holds goes along -/
abbrev SD (α : Type) := List PyData → Option (α × List PyData)
def sbind {α β : Type} (o : SD α) (k : α → SD β) : SD β := fun s => (o s).bind fun p => k p.1 p.2
def slift {α : Type} (o : Option α) : SD α := fun s => o.map fun a => (a, s)
theorem sbnd {α β : Type} {o : SD α} {k : α → SD β} {s s' : List PyData} {b : β} (h : sbind o k s = some (b, s')) : ∃ a s1, o s = some (a, s1) ∧ k a s1 = some (b, s') := by
  obtain ⟨p, h1, h2⟩ := bnd h
  exact ⟨p.1, p.2, h1, h2⟩
theorem slft {α : Type} {o : Option α} {s s' : List PyData} {a : α} (h : slift o s = some (a, s')) : o = some a ∧ s' = s := by
  obtain ⟨p, h1, h2⟩ := mpd h
  cases h2
  exact ⟨h1, rfl⟩
def ES (X : Cx) (e : Expr) (R : List PyData → List Sl) (o : SD PyData) : Prop := ∀ s d s', o s = some (d, s') → EE X e (R s) d (R s')
def TS2 (X : Cx) (e : Expr) (R : List PyData → List Sl) (o : SD Bool) : Prop := ∀ s d s', o s = some (d, s') → ET X e (R s) d (R s')
def AS (X : Cx) (es : List Expr) (R : List PyData → List Sl) (o : SD (List PyData)) : Prop := ∀ s d s', o s = some (d, s') → EA X es (R s) d (R s')
def IS2 (X : Cx) (tg iter : Expr) (R : List PyData → List Sl) (o : SD (List PyData)) : Prop := ∀ s d s', o s = some (d, s') → EI X tg iter (R s) d (R s')
section
variable {X : Cx} {bi : List Nat} {a b c e elt tg iter : Expr} {es : List Expr} {rest body sts tb eb : List Stmt} {ρ : List Sl} {R : List PyData → List Sl} {d : PyData} {ds s : List PyData} {pos p0 p1 epos cpos : Pos} {x y : Str} {n m k i : Nat} {o : Option PyData} {oS oS1 oS2 : SD PyData} {oi : Option (List PyData)} {oc : Option Bool} {scope : Scope} {own : List (Str × Nat)}
variable {β α γ : Type} {RR : β → RTy} {f : α → List Sl → Prop} {g : γ → List Sl → Prop}
theorem vo_def {o o' : Option PyData} (h : o = o') (p : VO X e ρ o') : VO X e ρ o := h ▸ p
theorem to_def {o o' : Option Bool} (h : o = o') (p : TO X e ρ o') : TO X e ρ o := h ▸ p
theorem es_pure (h : ∀ s, VO X e (R s) o) : ES X e R (slift o) := fun s d s' q => by
  obtain ⟨h1, rfl⟩ := slft q
  exact h _ d h1
theorem as_nil : AS X [] R (slift (some [])) := fun s d s' q => by
  obtain ⟨h1, rfl⟩ := slft q
  cases h1
  exact ea_nil
theorem as_cons {oa : SD (List PyData)} (ha : ES X e R oS) (hr : AS X es R oa) (hs : starEach (e :: es) X.env = (false, eval e X.env) :: starEach es X.env := by rfl) : AS X (e :: es) R (sbind oS fun d => sbind oa fun ds => slift (some (d :: ds))) := fun s d s' q => by
  obtain ⟨d1, s1, h1, q⟩ := sbnd q
  obtain ⟨ds, s2, h2, q⟩ := sbnd q
  obtain ⟨h3, rfl⟩ := slft q
  cases h3
  exact ea_cons (ha _ _ _ h1) (hr _ _ _ h2) hs
theorem es_callB {k' : Nat} {ps : List Str} {nn : Nat} {mm : List PyData → SD PyData} {oa : SD (List PyData)} (cl : Cal X.prog X.w X.K X.mg X.base k' x ps (spB X.K nn fun cs ds d cs' => mm ds cs = some (d, cs'))) (hr : Room k' X.A) (hN : X.N[i]? = some y) (ha : AS X es R oa) (hn : ∀ s ds s', oa s = some (ds, s') → ds.length = nn)
    (hR : ∀ s, (R s)[i]? = some (.own s) := by intro _; rfl) (hS : ∀ s s', (R s).set i (.own s') = R s' := by intro _ _; rfl) (hv : Vis X.env.scope y := by first | exact Or.inl rfl | exact Or.inr (Or.inl rfl) | exact Or.inr (Or.inr rfl)) (hd : (y == ("__debug__" : Str)) = false := by decide)
    (hcd : (y == ("__classdict__" : Str)) = false := by decide) (hg : Gl X x := by rfl) (hdb : (x == ("__debug__" : Str)) = false := by decide) (he : starEach (.Name y p1 :: es) X.env = (false, eval (.Name y p1) X.env) :: starEach es X.env := by rfl) (hpl : (backTo pos (starEach es X.env)).any (·.1) = false := by rfl) :
    ES X (.Call (.Name x p0) (.Name y p1 :: es) [] pos) R (sbind oa mm) := fun s d s' q => by
  obtain ⟨ds, s1, h1, q⟩ := sbnd q
  have := ee_callSC (X := X) (p0 := p0) (p1 := p1) (pos := pos) cl hr hN (hR s) (ha _ _ _ h1) (hR s1) q (hn _ _ _ h1) hv hd hcd hg hdb he hpl
  rw [hS] at this
  exact this
theorem es_op {op : Operator} {F : PyData → PyData → Option PyData} (hf : ∀ d1 d2 r, F d1 d2 = some r → ∃ q : R2, OpR X (binaryOp op) q ∧ RD X.K q d1 d2 r) (ha : ES X a R oS1) (hb : ES X b R oS2) : ES X (.BinOp a op b pos) R (sbind oS1 fun x => sbind oS2 fun y => slift (F x y)) := fun s d s' q => by
  obtain ⟨d1, s1, h1, q⟩ := sbnd q
  obtain ⟨d2, s2, h2, q⟩ := sbnd q
  obtain ⟨h3, rfl⟩ := slft q
  obtain ⟨r, q1, q2⟩ := hf _ _ _ h3
  exact ee_op q1 (ha _ _ _ h1) (hb _ _ _ h2) q2
def iAdd : PyData → PyData → Option PyData
  | .int i, .int j => some (.int (i + j))
  | _, _ => none
theorem es_add (ha : ES X a R oS1) (hb : ES X b R oS2) : ES X (.BinOp a .Add b pos) R (sbind oS1 fun x => sbind oS2 fun y => slift (iAdd x y)) := es_op (fun d1 d2 r h => by
  unfold iAdd at h
  split at h
  · cases h; exact ⟨_, op_add, rd_int0⟩
  · cases h) ha hb
theorem es_sub (ha : ES X a R oS1) (hb : ES X b R oS2) : ES X (.BinOp a .Sub b pos) R (sbind oS1 fun x => sbind oS2 fun y => slift (pSub x y)) := es_op (fun d1 d2 r h => by
  unfold pSub at h
  split at h
  · cases h; exact ⟨_, op_sub, rd_int0⟩
  · cases h) ha hb
theorem es_ix (ha : ES X a R oS1) (hb : ES X b R oS2) (hs : PlainIx b := by exact fun _ _ => rfl) : ES X (.Subscript a b pos) R (sbind oS1 fun x => sbind oS2 fun y => slift (pIx x y)) := fun s d s' q => by
  obtain ⟨d1, s1, h1, q⟩ := sbnd q
  obtain ⟨d2, s2, h2, q⟩ := sbnd q
  obtain ⟨h3, rfl⟩ := slft q
  cases d1 <;> cases d2 <;> simp only [pIx, reduceCtorEq] at h3
  · exact ee_ix ix_list (ha _ _ _ h1) (hb _ _ _ h2) (rd_ixL h3) hs
  · exact ee_ix ix_tup (ha _ _ _ h1) (hb _ _ _ h2) (rd_ixT h3) hs
theorem es_tup {oa : SD (List PyData)} (h : AS X es R oa) : ES X (.Tuple es n pos) R (sbind oa fun ds => slift (gd (short ds.length) (some (.tuple ds)))) := fun s d s' q => by
  obtain ⟨ds, s1, h1, q⟩ := sbnd q
  obtain ⟨h3, rfl⟩ := slft q
  obtain ⟨h4, h5⟩ := gd_some h3
  cases h5
  exact ee_tup (h _ _ _ h1) (short_le h4)
theorem es_min2 (hm : X.mg "min" = none) (ha : ES X a R oS1) (hb : ES X b R oS2) (hg : Gl X "min" := by rfl) (hc : X.calm = true := by rfl) (he : starEach [a, b] X.env = (false, eval a X.env) :: starEach [b] X.env := by rfl) (he2 : starEach [b] X.env = [(false, eval b X.env)] := by rfl) (hpl : (backTo pos (starEach [b] X.env)).any (·.1) = false := by rfl) :
    ES X (.Call (.Name "min" p0) [a, b] [] pos) R (sbind oS1 fun x => sbind oS2 fun y => slift (pMin x y)) := fun s d s' q => by
  obtain ⟨d1, s1, h1, q⟩ := sbnd q
  obtain ⟨d2, s2, h2, q⟩ := sbnd q
  obtain ⟨h3, rfl⟩ := slft q
  cases d1 <;> cases d2 <;> simp only [pMin, reduceCtorEq] at h3
  cases h3; exact ee_min2 hm (ha _ _ _ h1) (hb _ _ _ h2) hg hc he he2 hpl
theorem es_max2 (hm : X.mg "max" = none) (ha : ES X a R oS1) (hb : ES X b R oS2) (hg : Gl X "max" := by rfl) (hc : X.calm = true := by rfl) (he : starEach [a, b] X.env = (false, eval a X.env) :: starEach [b] X.env := by rfl) (he2 : starEach [b] X.env = [(false, eval b X.env)] := by rfl) (hpl : (backTo pos (starEach [b] X.env)).any (·.1) = false := by rfl) :
    ES X (.Call (.Name "max" p0) [a, b] [] pos) R (sbind oS1 fun x => sbind oS2 fun y => slift (pMax x y)) := fun s d s' q => by
  obtain ⟨d1, s1, h1, q⟩ := sbnd q
  obtain ⟨d2, s2, h2, q⟩ := sbnd q
  obtain ⟨h3, rfl⟩ := slft q
  cases d1 <;> cases d2 <;> simp only [pMax, reduceCtorEq] at h3
  cases h3
  exact ee_tCB (pe_callB (call_max2 hc) hg hm (by decide +kernel) pa_s (by decide) (by decide) he hpl) (ea_cons (ha _ _ _ h1) (ea_cons (hb _ _ _ h2) ea_nil he2) he) ra_max2
theorem es_tupleOf (hm : X.mg "tuple" = none) (ha : ES X e R oS) (hg : Gl X "tuple" := by rfl) (he : starEach [e] X.env = [(false, eval e X.env)] := by rfl) (hpl : (backTo pos (starEach ([] : List Expr) X.env)).any (·.1) = false := by rfl) : ES X (.Call (.Name "tuple" p0) [e] [] pos) R (sbind oS fun x => slift ((asS x).map .tuple)) := fun s d s' q => by
  obtain ⟨d1, s1, h1, q⟩ := sbnd q
  obtain ⟨h3, rfl⟩ := slft q
  obtain ⟨ds, h4, h5⟩ := mpd h3
  subst h5
  exact ee_tupleOf (asS_eq h4) hm (ha _ _ _ h1) hg he hpl
theorem es_call {k' : Nat} {ps : List Str} {nn : Nat} {mm : List PyData → Option PyData} {oa : SD (List PyData)} (cl : Cal X.prog X.w X.K X.mg X.base k' x ps (spD X.K nn fun ds d => mm ds = some d)) (hr : Room k' X.A) (ha : AS X (e :: es) R oa) (hn : ∀ s ds s', oa s = some (ds, s') → ds.length = nn)
    (hg : Gl X x := by rfl) (hdb : (x == ("__debug__" : Str)) = false := by decide) (he : starEach (e :: es) X.env = (false, eval e X.env) :: starEach es X.env := by rfl) (hpl : (backTo pos (starEach es X.env)).any (·.1) = false := by rfl) : ES X (.Call (.Name x p0) (e :: es) [] pos) R (sbind oa fun ds => slift (mm ds)) := fun s d s' q => by
  obtain ⟨ds, s1, h1, q⟩ := sbnd q
  obtain ⟨h3, rfl⟩ := slft q
  exact ee_callC cl hr (ha _ _ _ h1) h3 (hn _ _ _ h1) hg hdb he hpl
theorem is_range1 (hm : X.mg "range" = none) (ha : ES X a R oS) (hg : Gl X "range" := by rfl) (hs : starEach [a] X.env = [(false, eval a X.env)] := by rfl) : IS2 X tg (.Call (.Name "range" p0) [a] [] pos) R (sbind oS fun x => slift ((asI x).bind fun j => gd (small j) (some (rngD 0 j.toNat)))) := fun s d s' q => by
  obtain ⟨d1, s1, h1, q⟩ := sbnd q
  obtain ⟨h3, rfl⟩ := slft q
  obtain ⟨j, h4, h5⟩ := bnd h3
  obtain ⟨g1, g2⟩ := gd_some h5
  have := small_at g1
  cases g2
  rw [asI_eq h4] at h1
  exact ei_range1 hm (ea_cons (ha _ _ _ h1) ea_nil hs) (by omega) hg hs
theorem is_pure (h : ∀ s, IO X tg iter (R s) oi) : IS2 X tg iter R (slift oi) := fun s d s' q => by
  obtain ⟨h1, rfl⟩ := slft q
  exact h _ d h1
/-- comparisons -/
theorem ts_cmp {op : CmpOp} {F : PyData → PyData → Option Bool} (hf : ∀ d1 d2 r, F d1 d2 = some r → ∃ q : R2, OpR X (compareOp op) q ∧ RD X.K q d1 d2 (.bool r)) (ha : ES X a R oS1) (hb : ES X b R oS2) (hm : behindInMarks op b = false := by rfl) : TS2 X (.Compare a [op] [b] pos) R (sbind oS1 fun x => sbind oS2 fun y => slift (F x y)) := fun s d s' q => by
  obtain ⟨d1, s1, h1, q⟩ := sbnd q
  obtain ⟨d2, s2, h2, q⟩ := sbnd q
  obtain ⟨h3, rfl⟩ := slft q
  obtain ⟨r, q1, q2⟩ := hf _ _ _ h3
  exact et_cmp q1 (ha _ _ _ h1) (hb _ _ _ h2) q2 hm
theorem ts_pure (h : ∀ s, TO X e (R s) oc) : TS2 X e R (slift oc) := fun s d s' q => by
  obtain ⟨h1, rfl⟩ := slft q
  exact h _ d h1
theorem as_len0 {s s' ds : List PyData} (h : slift (some ([] : List PyData)) s = some (ds, s')) : ds.length = 0 := by
  obtain ⟨h1, _⟩ := slft h
  cases h1; rfl
theorem as_lenS {o : SD PyData} {r : SD (List PyData)} {n : Nat} (hr : ∀ s ds s', r s = some (ds, s') → ds.length = n) : ∀ s ds s', (sbind o fun d => sbind r fun es => slift (some (d :: es))) s = some (ds, s') → ds.length = n + 1 := fun s ds s' h => by
  obtain ⟨d, s1, h1, h⟩ := sbnd h
  obtain ⟨es, s2, h2, h⟩ := sbnd h
  obtain ⟨h3, _⟩ := slft h
  cases h3
  rw [List.length_cons, hr _ _ _ h2]
/-! statements -/
def ubind {α β γ : Type} (o : Option (α × β)) (kk : α → β → Option γ) : Option γ := match o with
  | some (a, b) => kk a b
  | none => none
theorem ubnd {α β γ : Type} {o : Option (α × β)} {kk : α → β → Option γ} {c : γ} (h : ubind o kk = some c) : ∃ a b, o = some (a, b) ∧ kk a b = some c := by
  cases o with
  | none => cases h
  | some p => exact ⟨p.1, p.2, rfl, h⟩
def ubT {α β γ υ : Type} (o : Option (α × β)) (u : α → Option υ) (kk : υ → β → Option γ) : Option γ := ubind o fun d s => (u d).bind fun x => kk x s
def ifS {β γ : Type} (o : Option (Bool × List PyData)) (ma mb : List PyData → Option (Res β γ)) : Option (Res β γ) := ubind o fun b s => oIf (some b) (ma s) (mb s)
theorem so_setS {kk : PyData → List PyData → Option (Res β α)} (hN : X.N.Nodup) (hi : X.N[n]? = some x) (hb : n ∉ bi) (he : ES X e R oS) (hr : ∀ d s', SO X bi rest ((R s').set n (.val d)) (kk d s') RR f) (hx : Loc X.env.scope x := by first | exact Or.inl rfl | exact Or.inr rfl)
    (hs : swapsWith e (some (.Name x p0)) pos.line X.env = pure false := by rfl) (hf : X.fn x = true ∨ X.env.scope.names.lookup x = some .local := by first | exact .inl rfl | exact .inr rfl) : SO X bi (.Assign [.Name x p0] e pos :: rest) (R s) (ubind (oS s) kk) RR f := fun r h => by
  obtain ⟨d, s', h1, h⟩ := ubnd h
  exact ss_set hN hi hb (he _ _ _ h1) (hr d s' r h) hx hs hf
theorem so_setTS {υ : Type} {gt : TG} {u : PyData → Option υ} {ρd : List PyData → υ → List Sl} {kk : υ → List PyData → Option (Res β α)} (hg : PG X tg gt) (ht : ∀ s, TGo X.K bi gt (R s) u (ρd s)) (he : ES X e R oS) (hr : ∀ x s', SO X bi rest (ρd s' x) (kk x s') RR f)
    (hs : swapsWithSole [tg] e pos.line X.env = pure false := by rfl) (hw : swappedStores [tg] e X.env = pure none := by rfl) (h1 : (assignEach [tg] X.env).map (·.2) = [assign tg X.env] := by rfl) : SO X bi (.Assign [tg] e pos :: rest) (R s) (ubT (oS s) u kk) RR f := fun r h => by
  obtain ⟨d, s', h2, h⟩ := ubnd h
  obtain ⟨x, h3, h⟩ := bnd h
  intro σ0 B H0 hz σ Hk Hr D I nx rt
  refine sSs_of (pss_cons (ps_asg pe_s hg hs hw h1) pss_s) (he _ _ _ h2 bi σ0 B H0 σ Hk Hr I _ fun v Hk1 Hr1 I1 m1 hv => ?_)
  exact ht s' d x h3 σ0 B H0 σ Hk1 Hr1 v I1 hv _ fun σ' I2 => hr x s' r h σ0 B H0 hz σ' Hk1 Hr1 D I2 (fun ρ' σ' Hk' Hr' q I' m' => nx ρ' σ' Hk' Hr' q I' (m1.trans m')) rt
theorem so_ifS {oT : SD Bool} {ma mb : List PyData → Option (Res β γ)} {kk : γ → Option (Res β α)} (hc : TS2 X c R oT) (ha : ∀ s, SO X bi tb (R s) (ma s) RR g) (hb : ∀ s, SO X bi eb (R s) (mb s) RR g) (hr : ∀ a ρ2, g a ρ2 → SO X bi rest ρ2 (kk a) RR f) : SO X bi (.If c tb eb pos :: rest) (R s) (seqR (ifS (oT s) ma mb) kk) RR f := fun r h => by
  cases q : (ifS (oT s) ma mb) with
  | none => rw [q] at h; cases h
  | some r1 =>
    rw [q] at h
    obtain ⟨b, s', h1, q⟩ := ubnd q
    have tr : ∀ {sts : List Stmt}, SS X bi sts (R s') (fun ρ' => ∃ a, r1 = .nxt a ∧ g a ρ') (fun H0 v ρ' Hk Hr => ∃ b, r1 = .ret b ∧ RR b H0 v ρ' Hk Hr) → SS X bi sts (R s') (fun ρ' => ∃ a, r1 = .nxt a ∧ g a ρ') (fun H0 v ρ' Hk Hr => ∃ b, r = .ret b ∧ RR b H0 v ρ' Hk Hr) := fun hs => ss_mono hs (fun _ z => z) fun H0 v ρ' Hk Hr ⟨b, z1, z2⟩ => by
      subst z1
      cases h
      exact ⟨b, rfl, z2⟩
    refine ss_if (k := b) (N1 := fun ρ' => ∃ a, r1 = .nxt a ∧ g a ρ') (hc _ _ _ h1) (fun hk => ?_) (fun hk => ?_) fun ρ2 ⟨a, z1, z2⟩ => ?_
    · subst hk
      exact tr (ha s' r1 q)
    · subst hk
      exact tr (hb s' r1 q)
    · subst z1
      exact hr a ρ2 z2 r h
theorem so_retS (he : ES X e R oS) : SO X bi (.Return (some e) pos :: rest) (R s) ((oS s).map fun p => Res.ret p.1) (fun d => RDt X.K fun d' _ => d' = d) f := fun r q => by
  obtain ⟨⟨d, s'⟩, h1, q⟩ := mpd q
  subst q
  exact ss_mono (ss_ret (R := fun d' _ => d' = d) (N := fun _ => False) (he _ _ _ h1) rfl) (fun _ z => z.elim) fun H0 v ρ' Hk Hr z => ⟨d, rfl, z⟩
/-- a def that draws: hands back -/
theorem so_retB (he : ES X e R oS) (hR : ∀ s, (R s)[0]? = some (.own s) := by intro _; rfl) : SO X bi (.Return (some e) pos :: rest) (R s) ((oS s).map Res.ret) (fun (p : PyData × List PyData) => RDt X.K fun d' ρ' => d' = p.1 ∧ ρ'[0]? = some (.own p.2)) f := fun r q => by
  obtain ⟨⟨d, s'⟩, h1, q⟩ := mpd q
  subst q
  exact ss_mono (ss_ret (R := fun d' ρ' => d' = d ∧ ρ'[0]? = some (.own s')) (N := fun _ => False) (he _ _ _ h1) ⟨rfl, hR s'⟩) (fun _ z => z.elim) fun H0 v ρ' Hk Hr z => ⟨(d, s'), rfl, z⟩
def nwO {γ : Type} (o : Option (List Int)) (kk : List PyData → Option γ) : Option γ := o.bind fun ns => kk (ns.map .int)
/-- x = f(..), f gives a new list of numbers -/
theorem so_callN {kk : List PyData → Option (Res β α)} {mm : List PyData → Option (List Int)} {k' : Nat} {ps : List Str} {nn : Nat} {oa : Option (List PyData)} (cl : Cal X.prog X.w X.K X.mg X.base k' x ps (spN X.K nn fun ds ns => mm ds = some ns)) (hr : Room k' X.A) (ha : AO X (e :: es) ρ oa) (hn : ∀ ds, oa = some ds → ds.length = nn)
    (hN : X.N.Nodup) (hi : X.N[m]? = some y) (hmb : m ∉ bi) (hrest : ∀ s, SO X bi rest (ρ.set m (.own s)) (kk s) RR f) (hg : Gl X x := by rfl) (hdb : (x == ("__debug__" : Str)) = false := by decide) (he : starEach (e :: es) X.env = (false, eval e X.env) :: starEach es X.env := by rfl) (hpl : (backTo cpos (starEach es X.env)).any (·.1) = false := by rfl)
    (hx : Loc X.env.scope y := by first | exact Or.inl rfl | exact Or.inr rfl) (hs : swapsWith (.Call (.Name x p0) (e :: es) [] cpos) (some (.Name y p1)) pos.line X.env = pure false := by rfl) (hf : X.fn y = true ∨ X.env.scope.names.lookup y = some .local := by first | exact .inl rfl | exact .inr rfl) :
    SO X bi (.Assign [.Name y p1] (.Call (.Name x p0) (e :: es) [] cpos) pos :: rest) ρ (nwO (oa.bind mm) kk) RR f := fun r h => by
  obtain ⟨ns, h1, h⟩ := bnd h
  obtain ⟨ds, h2, h3⟩ := bnd h1
  exact ss_callNC cl hr (ha _ h2) h3 (hn _ h2) hN hi hmb (hrest _ r h) hg hdb he hpl hx hs hf
end
section
variable {P : Program} {w : World} {K : PySem.W.Frag} {mg : Str → Option Value} {base : Heap} {x qual : Str} {st : Stmt} {f : Addr} {fd : FuncData} {N ps : List Str} {k : Nat}
def finB (m : Option (Res (PyData × List PyData) Empty)) : Option (PyData × List PyData) := match m with
  | some (.ret d) => some d
  | _ => none
theorem defB {n : Nat} {mm : List PyData → List PyData → Option (Res (PyData × List PyData) Empty)} (F : Fun K x qual st f fd) (S : FnScope N ps (defScope st)) (hn : ps.length = n + 1) (hl : ps.length ≤ N.length)
    (body : ∀ (cdv : Value) (A : Around) (outer : List Env) (s : Shared) (H : Hp) (E : XK), Room k (A.deeper (envOfC qual (defScope st) s.heap.objs.size f cdv)) → ∀ cs ds, ds.length = n →
      SO (cxOf CX0 P w K mg base N qual (defScope st) f cdv A outer s H E).nox [0] (defBody st) (.own cs :: rho ds (N.length - ps.length)) (mm ds cs) (fun p => RDt K fun d' ρ' => d' = p.1 ∧ ρ'[0]? = some (.own p.2)) (fun (a : Empty) _ => a.elim)) :
    FnOk P w K mg base CX0 (k + 1) f fd ps (spB K n fun cs ds d cs' => finB (mm ds cs) = some (d, cs')) :=
  fdB_of F S hn hl fun cdv A outer s H E hr cs ds d cs' h hlen => by
    have hb := body cdv A outer s H E hr cs ds hlen
    cases q : mm ds cs with
    | none => rw [q] at h; cases h
    | some r =>
      rw [q] at h
      refine ss_mono (hb r q) (fun ρ' ⟨a, z1, z2⟩ => a.elim) fun H0 v ρ' Hk Hr ⟨b, z1, z2⟩ => ?_
      subst z1
      cases h
      exact z2
/-- another promise of the same def -/
theorem fn_mono {sp sp' : Sp} (F : FnOk P w K mg base CX0 k f fd ps sp) (h : ∀ vs H Q E, sp' vs H Q E → sp vs H Q E) : FnOk P w K mg base CX0 k f fd ps sp' := by
  exact F.imp h
end
end Gn
/-! dicts of one's own whose keys are tuples of numbers, whose values are data -/
namespace Gn
open PySem L2 Pd PySem.Spec PyProof.Rows Zq
abbrev Dt := List (List Int × PyData)
def keyT (ns : List Int) : List L2.Key := ns.map Sum.inl
def dTb (m : Dt) : Bx := .T (m.map fun p => (keyT p.1, Ce.dat p.2))
def getT : Dt → List Int → Option PyData
  | [], _ => none
  | p :: m, k => if p.1 = k then some p.2 else getT m k
def putT (m : Dt) (k : List Int) (d : PyData) : Dt := if m.any (fun p => decide (p.1 = k)) then m.map fun p => if p.1 = k then (p.1, d) else p else m ++ [(k, d)]
theorem keyT_inj {a b : List Int} (h : keyT a = keyT b) : a = b := by
  unfold keyT at h
  induction a generalizing b with
  | nil => cases b with
    | nil => rfl
    | cons y ys => simp at h
  | cons x xs ih => cases b with
    | nil => simp at h
    | cons y ys =>
      simp only [List.map_cons, List.cons.injEq, Sum.inl.injEq] at h
      rw [h.1, ih h.2]
theorem keyT_kV (ns : List Int) : (keyT ns).map kV = ns.map V.int := by
  unfold keyT
  rw [List.map_map]
  rfl
theorem dTb_at (m : Dt) (a : Addr) : (dTb m).at_ a := trivial
theorem dTb_cells (m : Dt) : (dTb m).cells = (m.map (·.2)).map Ce.dat := by
  show List.map (·.2) (m.map fun p => (keyT p.1, Ce.dat p.2)) = _
  rw [List.map_map, List.map_map]
  rfl
theorem dTb_ho (m : Dt) (vs : List V) : (dTb m).ho vs = .dT ((m.map fun p => keyT p.1).zip vs) := by
  show HO.dT ((List.map (·.1) (m.map fun p => (keyT p.1, Ce.dat p.2))).zip vs) = _
  rw [List.map_map]
  rfl
theorem ces_dat {K : PySem.W.Frag} {Hk Z : Hp} : ∀ {ds : List PyData} {vs : List V} {fs : List Addr}, CesAt K Hk Z vs (ds.map Ce.dat) fs → DpAll K Hk vs ds ∧ fs = []
  | [], _, _, h => by cases h; exact ⟨.nil, rfl⟩
  | d :: ds, _, _, h => by
    cases h with
    | cons a b =>
      obtain ⟨h1, h2⟩ := ces_dat b
      obtain ⟨h3, h4⟩ := a
      subst h2 h4
      exact ⟨.cons h3 h1, rfl⟩
theorem dat_ces {K : PySem.W.Frag} {Hk Z : Hp} : ∀ {ds : List PyData} {vs : List V}, DpAll K Hk vs ds → CesAt K Hk Z vs (ds.map Ce.dat) []
  | [], _, h => by cases h; exact .nil
  | d :: ds, _, h => by
    cases h with
    | cons a b => exact .cons (f := []) (fs := []) ⟨a, rfl⟩ (dat_ces b)
section
variable {K : PySem.W.Frag} {Hk : Hp}
theorem val_get (k : List Int) : ∀ {m : Dt} {vs : List V}, DpAll K Hk vs (m.map (·.2)) → (getT m k = none ∧ valV ((m.map fun p => keyT p.1).zip vs) (keyT k) = none) ∨ ∃ d v, getT m k = some d ∧ valV ((m.map fun p => keyT p.1).zip vs) (keyT k) = some v ∧ Dp K Hk v d
  | [], _, h => .inl ⟨rfl, rfl⟩
  | p :: m, _, h => by
    cases h with
    | cons a b =>
      rename_i v vs
      show (getT (p :: m) k = none ∧ valV ((keyT p.1, v) :: _) (keyT k) = none) ∨ ∃ d v', getT (p :: m) k = some d ∧ valV ((keyT p.1, v) :: _) (keyT k) = some v' ∧ Dp K Hk v' d
      by_cases q : p.1 = k
      · exact .inr ⟨p.2, v, by unfold getT; rw [if_pos q], valV_pos (by rw [q]), a⟩
      · have nq : ¬ keyT p.1 = keyT k := fun z => q (keyT_inj z)
        have e : getT (p :: m) k = getT m k := by show (if p.1 = k then _ else _) = _; rw [if_neg q]
        rw [e, valV_neg (p := (keyT p.1, v)) nq]
        exact val_get k b
theorem any_key (k : List Int) : ∀ {m : Dt} {vs : List V}, vs.length = m.length → (((m.map fun p => keyT p.1).zip vs).any fun kv => decide (kv.1 = keyT k)) = m.any fun p => decide (p.1 = k)
  | [], _, h => rfl
  | p :: m, [], h => by simp at h
  | p :: m, v :: vs, h => by
    show (decide (keyT p.1 = keyT k) || ((m.map fun p => keyT p.1).zip vs).any fun kv => decide (kv.1 = keyT k)) = (decide (p.1 = k) || m.any fun p => decide (p.1 = k))
    rw [any_key k (m := m) (vs := vs) (by simpa using h)]
    congr 1
    by_cases q : p.1 = k
    · rw [decide_eq_true q, decide_eq_true (by rw [q])]
    · rw [decide_eq_false q, decide_eq_false fun z => q (keyT_inj z)]
theorem put_map (k : List Int) (v : V) (d : PyData) (hd : Dp K Hk v d) : ∀ {m : Dt} {vs : List V}, DpAll K Hk vs (m.map (·.2)) → ∃ vs', ((m.map fun p => keyT p.1).zip vs).map (fun kv => if kv.1 = keyT k then (kv.1, v) else kv) = (((m.map fun p => if p.1 = k then (p.1, d) else p).map fun p => keyT p.1).zip vs') ∧ DpAll K Hk vs' ((m.map fun p => if p.1 = k then (p.1, d) else p).map (·.2))
  | [], _, h => by cases h; exact ⟨[], rfl, .nil⟩
  | p :: m, _, h => by
    cases h with
    | cons a b =>
      rename_i w ws
      obtain ⟨vs', h1, h2⟩ := put_map k v d hd b
      by_cases q : p.1 = k
      · refine ⟨v :: vs', ?_, ?_⟩
        · show (if keyT p.1 = keyT k then (keyT p.1, v) else (keyT p.1, w)) :: List.map (fun kv => if kv.1 = keyT k then (kv.1, v) else kv) ((m.map fun p => keyT p.1).zip ws) = _
          rw [if_pos (by rw [q]), h1]
          simp only [List.map_cons, if_pos q, List.zip_cons_cons]
        · simp only [List.map_cons, if_pos q]
          exact .cons hd h2
      · refine ⟨w :: vs', ?_, ?_⟩
        · show (if keyT p.1 = keyT k then (keyT p.1, v) else (keyT p.1, w)) :: List.map (fun kv => if kv.1 = keyT k then (kv.1, v) else kv) ((m.map fun p => keyT p.1).zip ws) = _
          rw [if_neg (fun z => q (keyT_inj z)), h1]
          simp only [List.map_cons, if_neg q, List.zip_cons_cons]
        · simp only [List.map_cons, if_neg q]
          exact .cons a h2
theorem put_ok (k : List Int) (v : V) (d : PyData) (hd : Dp K Hk v d) {m : Dt} {vs : List V} (h : DpAll K Hk vs (m.map (·.2))) : ∃ vs', putK ((m.map fun p => keyT p.1).zip vs) (keyT k) v = ((putT m k d).map fun p => keyT p.1).zip vs' ∧ DpAll K Hk vs' ((putT m k d).map (·.2)) := by
  have hl : vs.length = m.length := by rw [DpAll.len h]; simp
  unfold putK putT
  rw [any_key k hl]
  by_cases q : (m.any fun p => decide (p.1 = k)) = true
  · rw [if_pos q, if_pos q]
    exact put_map k v d hd h
  · rw [if_neg q, if_neg q]
    refine ⟨vs ++ [v], ?_, ?_⟩
    · rw [List.map_append, List.zip_append (by rw [List.length_map, hl])]
      rfl
    · rw [List.map_append]
      exact DpAll.app h (.cons hd .nil)
theorem putT_len (m : Dt) (k : List Int) (d : PyData) : (putT m k d).length ≤ m.length + 1 := by
  unfold putT
  split <;> simp
end
/-! ### boxes change -/
theorem _root_.Pd.CeAt.upd {K : PySem.W.Frag} {Hk Z : Hp} {v : V} {c : Ce} {f : List Addr} {a : Addr} {o : HO} (h : CeAt K Hk Z v c f) (n : a ∉ f) : CeAt K Hk (L2.upd Z a o) v c f := by
  cases c with
  | dat d => exact h
  | own ds =>
    obtain ⟨b, us, h1, h2, h3, h4⟩ := h
    subst h4
    exact ⟨b, us, h1, by rw [upd_ne (fun z => n (by simp [z]))]; exact h2, h3, rfl⟩
theorem _root_.Pd.CesAt.upd {K : PySem.W.Frag} {Hk Z : Hp} {vs : List V} {cs : List Ce} {f : List Addr} {a : Addr} {o : HO} (h : CesAt K Hk Z vs cs f) (n : a ∉ f) : CesAt K Hk (L2.upd Z a o) vs cs f := by
  induction h with
  | nil => exact .nil
  | cons x y ih => exact .cons (CeAt.upd x fun z => n (List.mem_append.mpr (.inl z))) (ih fun z => n (List.mem_append.mpr (.inr z)))
theorem _root_.Pd.BxAt.upd {K : PySem.W.Frag} {Hk Z : Hp} {v : V} {b : Bx} {fp : List Addr} {a : Addr} {o : HO} (h : BxAt K Hk Z v b fp) (n : a ∉ fp) (nl : ∀ vs, Z a ≠ some (.lst vs)) : BxAt K Hk (L2.upd Z a o) v b fp := by
  rcases h with ⟨c, vs, fs, h1, h2, h3, h4, h5, h6⟩ | ⟨c, j, vs, h1, h2, h3, h4⟩
  · subst h4
    exact .inl ⟨c, vs, fs, h1, by rw [upd_ne (fun z => n (by simp [z]))]; exact h2, h3.upd (fun z => n (by simp [z])), rfl, h5, h6⟩
  · exact .inr ⟨c, j, vs, h1, by rw [upd_ne (fun z => nl vs (by rw [← z]; exact h2))]; exact h2, h3, h4⟩
def updF (H0 : Fr) (a : Addr) (o : HO) : Fr := ⟨upd H0.h a o, upd H0.z a o⟩
section
variable {K : PySem.W.Frag} {bi : List Nat} {σ0 σ : L2.St} {Hk Hr : Hp} {B : Be} {H0 : Fr} {ρ : List Sl}
theorem Bxs.some_in {Z : Hp} {F : Nat → List Addr} {i : Nat} {b : Bx} {v : V} {a : Addr} (h : BxAt K Hk Z v b (F i)) (ha : a ∈ F i) : ∃ o, Z a = some o := by
  rcases h with ⟨c, vs, fs, h1, h2, h3, h4, h5, h6⟩ | ⟨_, _, _, _, _, _, h4⟩
  case inr => rw [h4] at ha; cases ha
  rw [h4] at ha
  rcases List.mem_cons.mp ha with q | q
  · rw [q]; exact ⟨_, h2⟩
  · clear h2 h4 h5 ha
    generalize b.cells = cc at h3
    induction h3 with
    | nil => cases q
    | cons x y ih =>
      rename_i v vs c cs f fs
      rcases List.mem_append.mp q with q | q
      · cases c with
        | dat d => rw [x.2] at q; cases q
        | own ds =>
          obtain ⟨b', us, g1, g2, g3, g4⟩ := x
          rw [g4] at q
          rcases List.mem_singleton.mp q with rfl
          exact ⟨_, g2⟩
      · exact ih q
/-- a new box comes to a slot -/
theorem _root_.Pd.Ok.boxNew (I : Ok K bi σ0 B H0 ρ σ Hk Hr) {n : Nat} (hb : n ∉ bi) {p : Addr} {b : Bx} {vs : List V} (hp : Hr p = none) (hat : b.at_ p) (hc : ∀ Z, CesAt K Hk Z vs b.cells []) : Ok K bi σ0 B (updF H0 p (b.ho vs)) (ρ.set n (.box b)) (σ.set n (some (.ref p))) Hk (upd Hr p (b.ho vs)) := by
  have nk : Hk p = none := by
    cases q : Hk p with
    | none => rfl
    | some u => rw [I.kr _ _ q] at hp; cases hp
  have n0 : H0.h p = none := by
    cases q : H0.h p with
    | none => rfl
    | some u => rw [I.real _ _ q] at hp; cases hp
  have nz : H0.z p = none := by
    cases q : H0.z p with
    | none => rfl
    | some u => rw [I.zh _ _ q] at n0; cases n0
  have cs : ∀ {m : Nat} {x : Sl}, (ρ.set n (.box b))[m]? = some x → (m = n ∧ x = .box b ∧ (σ.set n (some (V.ref p)))[m]? = some (some (.ref p))) ∨ (m ≠ n ∧ ρ[m]? = some x ∧ (σ.set n (some (V.ref p)))[m]? = σ[m]?) := fun {m x} hm => by
    have lt : m < ρ.length := by simpa using (List.getElem?_eq_some_iff.mp hm).1
    by_cases q : n = m
    · subst q
      rw [List.getElem?_set_self lt] at hm
      exact .inl ⟨rfl, (Option.some.inj hm).symm, by rw [List.getElem?_set_self (by rw [← I.len]; exact lt)]⟩
    · rw [List.getElem?_set_ne q] at hm
      exact .inr ⟨fun z => q z.symm, hm, by rw [List.getElem?_set_ne q]⟩
  refine ⟨I.base, fun c o h => ?_, fun c o h => ?_, fun c o h h0 => ?_, fun j hj => ?_, by simp [I.len], fun j d hj => ?_, fun j zs hj => ?_, fun j l xs ys hj hl ne => ?_, fun c o h => ?_, fun c o h => ?_, ?_, fun c o h => ?_, fun c o h => ?_⟩
  · by_cases q : c = p
    · subst q
      have h : upd H0.h c (b.ho vs) c = some o := h
      rw [upd_same] at h ⊢
      exact h
    · have h : upd H0.h p (b.ho vs) c = some o := h
      rw [upd_ne q] at h ⊢
      exact I.real _ _ h
  · rw [upd_ne (ne_of_none h nk)]
    exact I.kr _ _ h
  · have nc : c ≠ p := ne_of_none h nk
    refine I.old c o h fun z => h0 ?_
    show upd H0.h p (b.ho vs) c = none
    rw [upd_ne nc]
    exact z
  · have : n ≠ j := fun q => hb (q ▸ hj)
    rw [List.getElem?_set_ne this]
    exact I.bor j hj
  · rcases cs hj with ⟨_, q, _⟩ | ⟨_, q1, q2⟩
    · cases q
    · rw [q2]
      exact I.val j d q1
  · rcases cs hj with ⟨_, q, _⟩ | ⟨_, q1, q2⟩
    · cases q
    · rw [q2]
      obtain ⟨a, us, t1, t2, t3, t4, t5⟩ := I.own j zs q1
      have na : a ≠ p := ne_of_none t2 hp
      exact ⟨a, us, t1, by rw [upd_ne na]; exact t2, t3, by show upd H0.h p (b.ho vs) a = none; rw [upd_ne na]; exact t4, t5⟩
  · rcases cs hj with ⟨_, q, _⟩ | ⟨_, q1, q2⟩
    · cases q
    · rcases cs hl with ⟨_, q, _⟩ | ⟨_, q3, q4⟩
      · cases q
      · rw [q2, q4]
        exact I.dis j l xs ys q1 q3 ne
  · have h : upd H0.z p (b.ho vs) c = some o := h
    show upd H0.h p (b.ho vs) c = some o
    by_cases q : c = p
    · subst q
      rw [upd_same] at h ⊢
      exact h
    · rw [upd_ne q] at h ⊢
      exact I.zh _ _ h
  · have h : upd H0.z p (b.ho vs) c = some o := h
    by_cases q : c = p
    · subst q
      cases z : B c with
      | none => rfl
      | some u => rw [I.base _ _ z] at nk; cases nk
    · rw [upd_ne q] at h
      exact I.zb _ _ h
  · obtain ⟨F, f1, f2⟩ := I.bxs
    refine ⟨fun i => if i = n then [p] else F i, fun i c hi => ?_, fun i j c d hi hj ne a ha => ?_⟩
    · rcases cs hi with ⟨q1, q2, q3⟩ | ⟨q1, q2, q3⟩
      · cases q2
        simp only [if_pos q1]
        exact ⟨_, q3, .inl ⟨p, vs, [], rfl, upd_same, hc _, rfl, by simp, hat⟩⟩
      · simp only [if_neg q1]
        rw [q3]
        obtain ⟨v, g1, g2⟩ := f1 i c q2
        refine ⟨v, g1, g2.upd (fun z => ?_) (fun us z => nomatch (nz.symm.trans z))⟩
        obtain ⟨o, ho⟩ := Bxs.some_in g2 z
        rw [nz] at ho
        cases ho
    · have key : ∀ {i c}, i ≠ n → (ρ.set n (.box b))[i]? = some (.box c) → p ∉ F i := fun {i c} hn hi z => by
        rcases cs hi with ⟨q1, _, _⟩ | ⟨q1, q2, q3⟩
        · exact hn q1
        · obtain ⟨v, g1, g2⟩ := f1 i c q2
          obtain ⟨o, ho⟩ := Bxs.some_in g2 z
          rw [nz] at ho
          cases ho
      by_cases qi : i = n
      · have qj : j ≠ n := fun z => ne (qi.trans z.symm)
        simp only [if_pos qi, if_neg qj] at ha ⊢
        rcases List.mem_singleton.mp ha with rfl
        exact key qj hj
      · simp only [if_neg qi] at ha
        by_cases qj : j = n
        · simp only [if_pos qj]
          intro z
          rcases List.mem_singleton.mp z with rfl
          exact key qi hi ha
        · simp only [if_neg qj]
          rcases cs hi with ⟨q1, _, _⟩ | ⟨_, q2, _⟩
          · exact absurd q1 qi
          · rcases cs hj with ⟨q1, _, _⟩ | ⟨_, q3, _⟩
            · exact absurd q1 qj
            · exact f2 i j c d q2 q3 ne a ha
  · have := I.eh _ _ h
    show upd H0.h p (b.ho vs) c = some o
    rw [upd_ne (ne_of_none this n0)]
    exact this
  · have h : upd H0.z p (b.ho vs) c = some o := h
    by_cases q : c = p
    · subst q
      exact I.ne0 n0
    · rw [upd_ne q] at h
      exact I.ze _ _ h
/-- a box of data is changed -/
theorem _root_.Pd.Ok.boxMut (I : Ok K bi σ0 B H0 ρ σ Hk Hr) {n : Nat} {a : Addr} {b b' : Bx} {vs' : List V} (hn : ρ[n]? = some (.box b)) (hat : b.at_ a) (hnl : ∀ vs us, b.ho vs ≠ .lst us) (hat' : b'.at_ a) (hs : σ[n]? = some (some (.ref a))) (hc : ∀ Z, CesAt K Hk Z vs' b'.cells []) : Ok K bi σ0 B (updF H0 a (b'.ho vs')) (ρ.set n (.box b')) σ Hk (upd Hr a (b'.ho vs')) := by
  obtain ⟨F, f1, f2⟩ := I.bxs
  obtain ⟨v, g1, g0⟩ := f1 n b hn
  rcases g0 with ⟨a0, vs, fs, g2, g3, g4, g5, g6, g7⟩ | ⟨_, _, _, g2, _⟩
  case inr => rw [g2] at hat; exact hat.elim
  rw [hs] at g1
  cases g1
  cases g2
  have hz := g3
  have h0 := I.zh _ _ g3
  have hr := I.real _ _ h0
  have nB := I.zb _ _ g3
  have nk : Hk a = none := by
    cases q : Hk a with
    | none => rfl
    | some u =>
      have := I.old _ _ q (by rw [h0]; exact fun z => nomatch z)
      rw [nB] at this
      cases this
  have cs : ∀ {m : Nat} {x : Sl}, (ρ.set n (.box b'))[m]? = some x → (m = n ∧ x = .box b') ∨ (m ≠ n ∧ ρ[m]? = some x) := fun {m x} hm => by
    have lt : m < ρ.length := by simpa using (List.getElem?_eq_some_iff.mp hm).1
    by_cases q : n = m
    · subst q
      rw [List.getElem?_set_self lt] at hm
      exact .inl ⟨rfl, (Option.some.inj hm).symm⟩
    · rw [List.getElem?_set_ne q] at hm
      exact .inr ⟨fun z => q z.symm, hm⟩
  refine ⟨I.base, fun c o h => ?_, fun c o h => ?_, fun c o h hh => ?_, I.bor, by simp [I.len], fun j d hj => ?_, fun j zs hj => ?_, fun j l xs ys hj hl ne => ?_, fun c o h => ?_, fun c o h => ?_, ?_, fun c o h => ?_, fun c o h => ?_⟩
  · have h : upd H0.h a (b'.ho vs') c = some o := h
    by_cases q : c = a
    · subst q
      rw [upd_same] at h ⊢
      exact h
    · rw [upd_ne q] at h ⊢
      exact I.real _ _ h
  · rw [upd_ne (ne_of_none h nk)]
    exact I.kr _ _ h
  · have nc : c ≠ a := ne_of_none h nk
    refine I.old c o h fun z => hh ?_
    show upd H0.h a (b'.ho vs') c = none
    rw [upd_ne nc]
    exact z
  · rcases cs hj with ⟨_, q⟩ | ⟨_, q1⟩
    · cases q
    · exact I.val j d q1
  · rcases cs hj with ⟨_, q⟩ | ⟨_, q1⟩
    · cases q
    · obtain ⟨c, us, t1, t2, t3, t4, t5⟩ := I.own j zs q1
      have na : c ≠ a := fun z => by rw [z, h0] at t4; cases t4
      exact ⟨c, us, t1, by rw [upd_ne na]; exact t2, t3, by show upd H0.h a (b'.ho vs') c = none; rw [upd_ne na]; exact t4, t5⟩
  · rcases cs hj with ⟨_, q⟩ | ⟨_, q1⟩
    · cases q
    · rcases cs hl with ⟨_, q⟩ | ⟨_, q2⟩
      · cases q
      · exact I.dis j l xs ys q1 q2 ne
  · have h : upd H0.z a (b'.ho vs') c = some o := h
    show upd H0.h a (b'.ho vs') c = some o
    by_cases q : c = a
    · subst q
      rw [upd_same] at h ⊢
      exact h
    · rw [upd_ne q] at h ⊢
      exact I.zh _ _ h
  · have h : upd H0.z a (b'.ho vs') c = some o := h
    by_cases q : c = a
    · subst q
      exact nB
    · rw [upd_ne q] at h
      exact I.zb _ _ h
  · refine ⟨fun i => if i = n then [a] else F i, fun i c hi => ?_, fun i j c d hi hj ne x hx => ?_⟩
    · rcases cs hi with ⟨q1, q2⟩ | ⟨q1, q2⟩
      · cases q2
        simp only [if_pos q1]
        rw [q1]
        exact ⟨_, hs, .inl ⟨a, vs', [], rfl, upd_same, hc _, rfl, by simp, hat'⟩⟩
      · simp only [if_neg q1]
        obtain ⟨w, k1, k2⟩ := f1 i c q2
        exact ⟨w, k1, k2.upd (f2 n i b c hn q2 (fun z => q1 z.symm) a (by rw [g5]; simp)) (fun us z => hnl _ _ (Option.some.inj (hz.symm.trans z)))⟩
    · have inn : a ∈ F n := by rw [g5]; simp
      rcases cs hi with ⟨q1, q2⟩ | ⟨q1, q2⟩
      · rcases cs hj with ⟨q3, q4⟩ | ⟨q3, q4⟩
        · exact absurd (q1.trans q3.symm) ne
        · simp only [if_pos q1, if_neg q3] at hx ⊢
          rcases List.mem_singleton.mp hx with rfl
          exact f2 n j b d hn q4 (fun z => q3 z.symm) x inn
      · rcases cs hj with ⟨q3, q4⟩ | ⟨q3, q4⟩
        · simp only [if_neg q1, if_pos q3] at hx ⊢
          intro z
          rcases List.mem_singleton.mp z with rfl
          exact f2 n i b c hn q2 (fun z => q1 z.symm) x inn hx
        · simp only [if_neg q1, if_neg q3] at hx ⊢
          exact f2 i j c d q2 q4 ne x hx
  · have h1 := I.eh _ _ h
    show upd H0.h a (b'.ho vs') c = some o
    by_cases q : c = a
    · subst q
      have := I.ze _ _ hz
      rw [this] at h
      cases h
    · rw [upd_ne q]
      exact h1
  · have h : upd H0.z a (b'.ho vs') c = some o := h
    by_cases q : c = a
    · subst q
      exact I.ze _ _ hz
    · rw [upd_ne q] at h
      exact I.ze _ _ h
/-- what stands in a slot that holds a dict -/
theorem _root_.Pd.Ok.boxT (I : Ok K bi σ0 B H0 ρ σ Hk Hr) {n : Nat} {m : Dt} (hn : ρ[n]? = some (.box (dTb m))) : ∃ a vs, σ[n]? = some (some (.ref a)) ∧ Hr a = some (.dT ((m.map fun p => keyT p.1).zip vs)) ∧ DpAll K Hk vs (m.map (·.2)) := by
  obtain ⟨F, f1, f2⟩ := I.bxs
  obtain ⟨v, g1, g0⟩ := f1 n _ hn
  rcases g0 with ⟨a, vs, fs, g2, g3, g4, g5, g6, g7⟩ | ⟨_, _, _, g2, _⟩
  case inr => cases g2
  subst g2
  rw [dTb_cells] at g4
  obtain ⟨h1, h2⟩ := ces_dat g4
  refine ⟨a, vs, g1, ?_, h1⟩
  rw [dTb_ho] at g3
  exact I.real _ _ (I.zh _ _ g3)
end
end Gn
/-! statements and expressions over a dict of one's own whose keys are displays of numbers -/
namespace Gn
open PySem L2 Pd PySem.Spec PyProof.Rows Zq
section
variable {X : Cx} {bi : List Nat} {a b e : Expr} {es : List Expr} {rest : List Stmt} {ρ : List Sl} {pos p0 p1 p2 : Pos} {x : Str} {n k kk : Nat} {oa : Option (List PyData)} {o : Option PyData} {m : Dt}
/-- what a key display leaves -/
theorem key_at {K : PySem.W.Frag} {bi : List Nat} {σ0 σ : L2.St} {Hk Hr : Hp} {B : Be} {H0 : Fr} {vs : List V} {ks : List Int} {p : Addr} (I : Ok K bi σ0 B H0 ρ σ Hk Hr) (hp : Hr p = none) (h1 : DpAll K Hk vs (ks.map .int)) :
    Ok K bi σ0 B H0 ρ σ (gro Hk Hr (upd Hr p (.tup vs))) (upd Hr p (.tup vs)) ∧ upd Hr p (.tup vs) p = some (.tup ((keyT ks).map kV)) := by
  refine ⟨I.gro (new_same hp _), ?_⟩
  rw [upd_same, keyT_kV, DpAll.ints h1]
theorem vo_dget (hr : Room k X.A) (hn : ρ[n]? = some (.box (dTb m))) (ha : AO X es ρ oa) (hv : PE X (.Name x p0) (tVar n)) (hs : NoSl (.Tuple es kk p1) := by exact fun _ _ => rfl) : VO X (.Subscript (.Name x p0) (.Tuple es kk p1) pos) ρ (oa.bind fun ds => gd (short ds.length) ((intsOf ds).bind fun ks => getT m ks)) := fun d g0 => by
  obtain ⟨ds, h1, g1⟩ := bnd g0
  obtain ⟨hl, g2⟩ := gd_some g1
  obtain ⟨ks, h2, h⟩ := bnd g2
  have e0 := intsOf_eq h2
  intro bi σ0 B H0 σ Hk Hr I Q q
  obtain ⟨a, vs, k1, k2, k3⟩ := I.boxT hn
  refine sE_of (pe_dget (hu_of hr) hv (pe_tup pa_s) hs) ⟨_, k1, ha _ h1 bi σ0 B H0 σ Hk Hr I _ fun ws Hk1 Hr1 I1 m1 hw => ⟨by rw [DpAll.len hw]; exact le_line (short_le hl), fun p hp => ?_⟩⟩
  rw [e0] at hw
  obtain ⟨I2, e2⟩ := key_at I1 hp hw
  obtain ⟨a', vs', j1, j2, j3⟩ := I2.boxT hn
  rw [k1] at j1
  cases j1
  rcases val_get ks j3 with ⟨z, _⟩ | ⟨d', v, z1, z2, z3⟩
  · exact nomatch (show (none : Option PyData) = some d from z.symm.trans h)
  · have e3 := Option.some.inj (z1.symm.trans h)
    rw [e3] at z3
    exact ⟨a, v, rfl, by rw [← z2]; exact DGet.t j2 e2, q v _ _ I2 (m1.trans (gro_same I1.kr)) z3⟩
theorem din_core {neg : Bool} {op : CmpOp} (hr : Room k X.A) (hn : ρ[n]? = some (.box (dTb m))) (ha : AO X es ρ oa) (hv : PE X (.Name x p0) (tVar n)) {ks : List Int} {ds : List PyData} (h1 : oa = some ds) (hl : short ds.length = true) (h2 : intsOf ds = some ks)
    {bi : List Nat} {σ0 σ : L2.St} {B : Be} {H0 : Fr} {Hk Hr : Hp} (I : Ok X.K bi σ0 B H0 ρ σ Hk Hr) {Q : VK} (q : ∀ Hk' Hr', Ok X.K bi σ0 B H0 ρ σ Hk' Hr' → Same Hk Hk' → Q (.bl (if neg then !(getT m ks).isSome else (getT m ks).isSome)) Hr') :
    tTup (sA X es) σ Hr fun y H1 => tVar n σ H1 fun x H2 => ∃ a o, x = .ref a ∧ DGet H2 a y o ∧ Q (.bl (if neg then !o.isSome else o.isSome)) H2 := by
  have e0 := intsOf_eq h2
  refine ha _ h1 bi σ0 B H0 σ Hk Hr I _ fun ws Hk1 Hr1 I1 m1 hw => ⟨by rw [DpAll.len hw]; exact le_line (short_le hl), fun p hp => ?_⟩
  rw [e0] at hw
  obtain ⟨I2, e2⟩ := key_at I1 hp hw
  obtain ⟨a', vs', k1, k2, k3⟩ := I2.boxT hn
  refine ⟨_, k1, a', _, rfl, DGet.t k2 e2, ?_⟩
  have e3 : (valV ((m.map fun p => keyT p.1).zip vs') (keyT ks)).isSome = (getT m ks).isSome := by
    rcases val_get ks k3 with ⟨z, z2⟩ | ⟨d', v, z1, z2, z3⟩
    · rw [z, z2]; rfl
    · rw [z1, z2]; rfl
  rw [e3]
  exact q _ _ I2 (m1.trans (gro_same I1.kr))
theorem vo_din (hr : Room k X.A) (hn : ρ[n]? = some (.box (dTb m))) (ha : AO X es ρ oa) (hv : PE X (.Name x p0) (tVar n)) : VO X (.Compare (.Tuple es kk p1) [.In] [.Name x p0] pos) ρ ((oa.bind fun ds => gd (short ds.length) ((intsOf ds).map fun ks => (getT m ks).isSome)).map .bool) := fun d g0 => by
  obtain ⟨r, g1, hd⟩ := mpd g0
  obtain ⟨ds, h1, g2⟩ := bnd g1
  obtain ⟨hl, g3⟩ := gd_some g2
  obtain ⟨ks, h2, g4⟩ := mpd g3
  rw [← hd, ← g4]
  clear g0 g1 g2 g3 g4 hd
  intro bi σ0 B H0 σ Hk Hr I Q q
  exact sE_of (pe_cmp (pc_din (hu_of hr) (pe_tup pa_s) hv)) (din_core (neg := false) (op := .In) hr hn ha hv h1 hl h2 I fun Hk' Hr' I' m' => q _ Hk' Hr' I' m' (.bl _))
theorem vo_dnotin (hr : Room k X.A) (hn : ρ[n]? = some (.box (dTb m))) (ha : AO X es ρ oa) (hv : PE X (.Name x p0) (tVar n)) : VO X (.Compare (.Tuple es kk p1) [.NotIn] [.Name x p0] pos) ρ ((oa.bind fun ds => gd (short ds.length) ((intsOf ds).map fun ks => !(getT m ks).isSome)).map .bool) := fun d g0 => by
  obtain ⟨r, g1, hd⟩ := mpd g0
  obtain ⟨ds, h1, g2⟩ := bnd g1
  obtain ⟨hl, g3⟩ := gd_some g2
  obtain ⟨ks, h2, g4⟩ := mpd g3
  rw [← hd, ← g4]
  clear g0 g1 g2 g3 g4 hd
  intro bi σ0 B H0 σ Hk Hr I Q q
  exact sE_of (pe_cmp (pc_dnotin (hu_of hr) (pe_tup pa_s) hv)) (din_core (neg := true) (op := .NotIn) hr hn ha hv h1 hl h2 I fun Hk' Hr' I' m' => q _ Hk' Hr' I' m' (.bl _))
theorem to_din (hr : Room k X.A) (hn : ρ[n]? = some (.box (dTb m))) (ha : AO X es ρ oa) (hv : PE X (.Name x p0) (tVar n)) : TO X (.Compare (.Tuple es kk p1) [.In] [.Name x p0] pos) ρ (oa.bind fun ds => gd (short ds.length) ((intsOf ds).map fun ks => (getT m ks).isSome)) := fun r g1 => by
  obtain ⟨ds, h1, g2⟩ := bnd g1
  obtain ⟨hl, g3⟩ := gd_some g2
  obtain ⟨ks, h2, g4⟩ := mpd g3
  rw [← g4]
  clear g1 g2 g3 g4
  intro bi σ0 B H0 σ Hk Hr I Q q
  exact sT_of (pt_cmp (pc_din (hu_of hr) (pe_tup pa_s) hv)) (din_core (neg := false) (op := .In) (Q := fun v H' => ∃ b, v = .bl b ∧ Q b H') hr hn ha hv h1 hl h2 I fun Hk' Hr' I' m' => ⟨_, rfl, q Hk' Hr' I' m'⟩)
theorem to_dnotin (hr : Room k X.A) (hn : ρ[n]? = some (.box (dTb m))) (ha : AO X es ρ oa) (hv : PE X (.Name x p0) (tVar n)) : TO X (.Compare (.Tuple es kk p1) [.NotIn] [.Name x p0] pos) ρ (oa.bind fun ds => gd (short ds.length) ((intsOf ds).map fun ks => !(getT m ks).isSome)) := fun r g1 => by
  obtain ⟨ds, h1, g2⟩ := bnd g1
  obtain ⟨hl, g3⟩ := gd_some g2
  obtain ⟨ks, h2, g4⟩ := mpd g3
  rw [← g4]
  clear g1 g2 g3 g4
  intro bi σ0 B H0 σ Hk Hr I Q q
  exact sT_of (pt_cmp (pc_dnotin (hu_of hr) (pe_tup pa_s) hv)) (din_core (neg := true) (op := .NotIn) (Q := fun v H' => ∃ b, v = .bl b ∧ Q b H') hr hn ha hv h1 hl h2 I fun Hk' Hr' I' m' => ⟨_, rfl, q Hk' Hr' I' m'⟩)
variable {β α : Type} {RR : β → RTy} {f : α → List Sl → Prop}
/-- x = {} -/
theorem so_dnew {mm : Option (Res β α)} (hN : X.N.Nodup) (hi : X.N[n]? = some x) (hb : n ∉ bi) (hr : SO X bi rest (ρ.set n (.box (dTb []))) mm RR f) (hx : Loc X.env.scope x := by first | exact Or.inl rfl | exact Or.inr rfl)
    (hs : swapsWith (.Dict [] [] p1) (some (.Name x p0)) pos.line X.env = pure false := by rfl) (hf : X.fn x = true ∨ X.env.scope.names.lookup x = some .local := by first | exact .inl rfl | exact .inr rfl) : SO X bi (.Assign [.Name x p0] (.Dict [] [] p1) pos :: rest) ρ mm RR f := fun r h => by
  intro σ0 B H0 hz σ Hk Hr D I nx rt
  refine sSs_of (pss_cons (ps_set hN hi hx pe_dnewT hs hf) pss_s) fun p hp => ?_
  have I2 := I.boxNew hb (b := dTb []) (vs := []) hp trivial (fun Z => .nil)
  exact hr r h σ0 B _ hz _ Hk _ D I2 nx rt
def dpO {γ : Type} (o : Option PyData) (oa : Option (List PyData)) (m : Dt) (kk : Dt → Option γ) : Option γ := o.bind fun d => oa.bind fun ds => gd (short ds.length && short m.length) ((intsOf ds).bind fun ks => kk (putT m ks d))
/-- x[i, ..] = e -/
theorem so_dput {mm : Dt → Option (Res β α)} (hr : Room k X.A) (hn : ρ[n]? = some (.box (dTb m))) (he : VO X e ρ o) (ha : AO X es ρ oa) (hv : PE X (.Name x p0) (tVar n)) (hk : ∀ m', SO X bi rest (ρ.set n (.box (dTb m'))) (mm m') RR f)
    (hs : swapsWith e (some (.Subscript (.Name x p0) (.Tuple es kk p1) p2)) pos.line X.env = pure false := by rfl) : SO X bi (.Assign [.Subscript (.Name x p0) (.Tuple es kk p1) p2] e pos :: rest) ρ (dpO o oa m mm) RR f := fun r h => by
  unfold dpO at h
  obtain ⟨d, h1, g1⟩ := bnd h
  obtain ⟨ds, h2, g2⟩ := bnd g1
  obtain ⟨hl, g3⟩ := gd_some g2
  obtain ⟨ks, h3, g4⟩ := bnd g3
  have e0 := intsOf_eq h3
  rw [Bool.and_eq_true] at hl
  intro σ0 B H0 hz σ Hk Hr D I nx rt
  refine sSs_of (pss_cons (ps_dput (hu_of hr) hv (pe_tup pa_s) pe_s hs) pss_s) (he _ h1 bi σ0 B H0 σ Hk Hr I _ fun v Hk1 Hr1 I1 m1 hd => ?_)
  obtain ⟨a0, vs0, g1, g2, g3⟩ := I1.boxT hn
  refine ⟨_, g1, ha _ h2 bi σ0 B H0 σ Hk1 Hr1 I1 _ fun ws Hk2 Hr2 I2 m2 hw => ⟨by rw [DpAll.len hw]; exact le_line (short_le hl.1), fun p hp => ?_⟩⟩
  rw [e0] at hw
  obtain ⟨I3, e3⟩ := key_at I2 hp hw
  obtain ⟨a', vs', k1, k2, k3⟩ := I3.boxT hn
  rw [g1] at k1
  cases k1
  have m3 := m2.trans (gro_same (H2 := upd Hr2 p (.tup ws)) I2.kr)
  obtain ⟨us, q1, q2⟩ := put_ok ks v d (Dp.mono m3 _ hd) k3
  have I4 := I3.boxMut (b' := dTb (putT m ks d)) (vs' := us) hn trivial (fun _ _ z => nomatch z) trivial g1 (fun Z => by rw [dTb_cells]; exact dat_ces q2)
  rw [dTb_ho, ← q1] at I4
  have hlen : ((m.map fun p => keyT p.1).zip vs').length < sizeLine := by
    have : ((m.map fun p => keyT p.1).zip vs').length ≤ m.length := by
      rw [List.length_zip, List.length_map]
      exact Nat.min_le_left _ _
    exact Nat.lt_of_le_of_lt (Nat.le_trans this (short_le hl.2)) (by decide)
  refine ⟨a0, _, rfl, DPut.t k2 e3 hlen, ?_⟩
  exact hk _ r g4 σ0 B _ hz _ _ _ D I4 (fun ρ' σ' Hk' Hr' q I' m' => nx ρ' σ' Hk' Hr' q I' (m1.trans (m3.trans m'))) rt
end
end Gn
/-! enumerate of a list or a tuple, any, max of a row, isinstance -/
namespace Zq
open PySem PySem.Spec PyProof.Rows L2
set_option maxHeartbeats 1000000 in
theorem meets_enum1 {v : Value} {o : Obj} {H : Heap → Prop} (B : Begins v o H) :
    Meets (Builtin.«enumerate.__new__» ⟨[.type "enumerate", v], []⟩) (fun _ R s => H s.heap ∧
      R (.ok (.ret (.ref (s.heap.push o).objs.size))) { s with heap := (s.heap.push o).push { cls := .type "enumerate", data := .fields #[.none, .bool false, .ref s.heap.objs.size, rawInt 0, .none, .none] } }) :=
  .of_wp fun prog w A R s h => by
    obtain ⟨hp, g, d, tk, os⟩ := s; obtain ⟨h1, h⟩ := h
    have hsub := sub_enumerate
    have q1 : ∀ {A' : Around} {E : Value → Shared → Prop} {Q : Value → Shared → Prop}, Q (.ref hp.objs.size) ⟨hp.push o, g, d, tk, os⟩ → wpAny (model prog w) A' (pyIter v) Q E ⟨hp, g, d, tk, os⟩ :=
      fun q => B.iter prog w _ _ ⟨hp, g, d, tk, os⟩ _ h1 q
    wp_walk using q1
    refine wpAny_stack_any fun st => wpAny_pure ?_
    split
    · rename_i c _ _ _ _ _
      cases (c == Value.type "enumerate")
      · wp_walk using q1
        exact ⟨_, rfl, h⟩
      · wp_walk using q1
        exact ⟨_, rfl, h⟩
    · wp_walk using q1
      exact ⟨_, rfl, h⟩
section
variable {prog : Program} {w : World} {A : Around} {E : Value → Shared → Prop} {s : Shared}
theorem enum1 {v : Value} {o : Obj} {H : Heap → Prop} {Q : Value → Shared → Prop} (B : Begins v o H) (h1 : H s.heap)
    (h : ∀ h', IsEnum h' (s.heap.objs.size + 1) s.heap.objs.size 0 .none → h'.get? s.heap.objs.size = some o → h'.objs.size = s.heap.objs.size + 2 →
      (∀ b o, s.heap.get? b = some o → h'.get? b = some o) → Q (.ref (s.heap.objs.size + 1)) { s with heap := h' }) :
    wpAny (model prog w) A (call (.type "enumerate") [v]) Q E s := by
  refine callType_new F.called_enumerate (by decide) (F.typeCall_enumerate_1 _) (F.newCall_enumerate_1 _) (fun obj => F.args_object_init_2 obj _) F.entry_enumerate_new
    (meets_enum1 B) ⟨h1, ?_⟩
  have hz : (s.heap.push o).objs.size = s.heap.objs.size + 1 := Heap.size_push ..
  show _ ∧ _
  rw [hz]
  have he : IsEnum ((s.heap.push o).push { cls := .type "enumerate", data := .fields #[.none, .bool false, .ref s.heap.objs.size, rawInt 0, .none, .none] }) (s.heap.objs.size + 1) s.heap.objs.size 0 .none := by
    have := Heap.get?_push_size (s.heap.push o) (o := { cls := .type "enumerate", data := .fields #[.none, .bool false, .ref s.heap.objs.size, rawInt 0, .none, .none] }) rfl
    rw [hz] at this; exact this
  refine ⟨⟨_, he, rfl⟩, h _ he (Heap.get?_push_of_some _ (Heap.get?_push_size _ B.free)) (by rw [Heap.size_push, hz]) fun b o x => Heap.get?_push_of_some _ (Heap.get?_push_of_some _ x)⟩
end
def ItN (K : PySem.W.Frag) (t : Bool) (a : Addr) : It :=
  ⟨fun i H => ∃ (xs : List V) (x : V), gSq K t H a xs ∧ xs[i]? = some x, fun i H v H' => ∃ T x, v = .ref T ∧ H T = none ∧ H' = upd H T (.tup [.int (i : Nat), x]) ∧ ∀ xs, gSq K t H a xs → xs[i]? = some x, fun i H => ∃ xs : List V, gSq K t H a xs ∧ i = xs.length⟩
theorem turnN {P : Program} {w : World} {K : PySem.W.Frag} {elts : List Expr} {kk : Nat} {tpos : Pos} {t : Bool} {a e it : Addr} (hai : a < it) (hie : e = it + 1) :
    Turn P w K (.Tuple elts kk tpos) (ItN K t a) [e, it] e (fun i h => (∃ old, IsEnum h e it ((i : Nat) : Int) old) ∧ gIt t h it a i) where
  mem := by simp
  obj := fun i h st b hb => by
    obtain ⟨⟨old, he⟩, g1⟩ := st
    have e' : b = e ∨ b = it := by simpa using hb
    rcases e' with z | z
    · rw [z]; exact ⟨_, he, fun v q => nomatch q⟩
    · rw [z]; exact gIt_obj g1
  keep := fun i h h' st k => let ⟨⟨old, he⟩, hi⟩ := st; ⟨⟨old, k e (by simp) _ he⟩, gIt_at hi fun o q => k it (by simp) o q⟩
  item := by
    intro X hP hw hK hc i pins s σ H E I hf st hg
    subst hP hw hK
    obtain ⟨⟨old, he⟩, hit⟩ := st
    obtain ⟨xs, x, hq, hx⟩ := hg
    obtain ⟨us, rv, p, lu⟩ := gSq_at I hq
    obtain ⟨u, hu, ru⟩ := rv.get hx
    have hne : e ≠ it := by rw [hie]; exact Nat.succ_ne_self _
    have hna : a ≠ it := Nat.ne_of_lt hai
    have hef : e ∉ [it, a] := by
      intro z
      rcases List.mem_cons.mp z with z | z
      · exact hne z
      · have := List.mem_singleton.mp z
        rw [hie] at this
        rw [← this] at hai
        exact absurd hai (by simp only [Addr] at *; omega)
    have hel : e < s.heap.objs.size := Heap.lt_size he
    have hil : it < s.heap.objs.size := by obtain ⟨_, q, _⟩ := gIt_obj hit; exact Heap.lt_size q
    have n1 : i < us.toArray.size := by simpa using (List.getElem?_eq_some_iff.mp hu).1
    have hA : X.A.in1.handled = none := I.ok.hd hc
    refine wpAny_pyNext_enum_itemD (gDraws t hA it a hna us.toArray) he ⟨hit, p⟩ n1 hne hef fun x1 h' tk p1 ho q1 hT hsz hk => ?_
    have e1 : u = x1 := by
      have : us.toArray[i]? = some x1 := p1
      rw [List.getElem?_toArray, hu] at this
      exact Option.some.inj this
    subst e1
    refine ⟨_, rfl, wpAny_letOwnedTupleGo_enum (s := { s with heap := h', toks := tk + 1 }) ho fun h'' he' sb => ?_⟩
    have hT2 : h''.get? s.heap.objs.size = some { cls := .type "tuple", data := .seq #[.int i tk, u] } := (sb.2 _ (Nat.ne_of_gt hel)).trans hT
    have new : ObjOk X.prog X.w (upd H s.heap.objs.size (.tup [.int (i : Nat), x])) h'' s.heap.objs.size (.tup [.int (i : Nat), x]) :=
      ⟨by show 2 ≤ sizeLine; decide, [.int i tk, u], .cons ⟨_, rfl⟩ (.cons ru .nil), ⟨_, hT2, rfl, _, rfl⟩⟩
    have I1 : Inv X pins σ (upd H s.heap.objs.size (.tup [.int (i : Nat), x])) { s with heap := h'', toks := tk + 1 } :=
      I.turnedNew (t' := tk + 1) (ch := [e, it]) (fun b ob hb q => (sb.2 b (fun z => hb (by simp [z]))).trans (hk b ob (fun z => hb (by simp [z])) (fun z => hb (by simp [z])) q)) hf (Nat.le_refl _) new
    refine ⟨.ref s.heap.objs.size, _, I1, rfl, ⟨_, x, rfl, I.hok.fresh (Nat.le_refl _), rfl, fun ys hy => by rw [gSq_inj I hy hq]; exact hx⟩, ⟨⟨u, ?_⟩, gIt_at q1.1 fun o q => (sb.2 it (Ne.symm hne)).trans q⟩, fun b hb => ?_⟩
    · have e1 : ((i + 1 : Nat) : Int) = (i : Int) + 1 := by omega
      rw [e1]; exact he'
    · have hb' : b < s.heap.objs.size := by
        have e' : b = e ∨ b = it := by simpa using hb
        rcases e' with z | z
        · rw [z]; exact hel
        · rw [z]; exact hil
      rw [upd_ne (Nat.ne_of_lt hb')]
      exact (hf b hb).1
  done := by
    intro X hP hw hK hc i pins s σ H E I hf st hg
    subst hP hw hK
    obtain ⟨⟨old, he⟩, hit⟩ := st
    obtain ⟨xs, hq, hx⟩ := hg
    obtain ⟨us, rv, p, lu⟩ := gSq_at I hq
    have hna : a ≠ it := Nat.ne_of_lt hai
    have hl : us.toArray.size = i := by rw [hx, rv.length]; simp
    obtain ⟨f0, f1, f2, f3, f4, f5⟩ := hf it (by simp)
    have hA : X.A.in1.handled = none := I.ok.hd hc
    have D := gDraws (prog := X.prog) (w := X.w) (A := X.A.in1) t hA it a hna us.toArray
    rw [hl] at D
    exact wpAny_pyNext_enum_endD D he ⟨hit, p⟩ fun h' eb => ⟨rfl, I.turned (t' := s.toks) (fun b o hb q => eb b o hb q) f0 f1 f3 f4 f5⟩
  self := fun A i s Q E st h => let ⟨⟨_, he⟩, _⟩ := st; wpAny_pyIter_enum he h
def iN (K : PySem.W.Frag) (ta : TA) : TI := fun σ H R => ta σ H fun vs H1 => ∃ t a xs, vs = [.ref a] ∧ gSq K t H1 a xs ∧ R (ItN K t a) H1
theorem pi_N {X : Cx} {e : Expr} {ta : TA} {p pos tpos : Pos} {elts : List Expr} {kk : Nat} (hg : Gl X "enumerate") (hm : X.mg "enumerate" = none) (ha : PA X [e] ta) (hs : starEach [e] X.env = [(false, eval e X.env)] := by rfl) :
    PI X (.Tuple elts kk tpos) (.Call (.Name "enumerate" p) [e] [] pos) (iN X.K ta) := by
  refine ⟨fun pins s σ H R I h => ?_⟩
  refine Call_ (ld_blt I hg hm boot_enumerate (PyProof.Rows.callWith_type1 (thn (ha.run pos pins s σ H _ I h) fun us s1 ⟨vs, H1, I1, r1, q1⟩ => ?_) hs rfl))
  obtain ⟨t, a, xs, ex, hq, q⟩ := q1
  subst ex
  cases r1 with
  | cons r rr =>
    cases rr
    cases r
    obtain ⟨its, rv, p', la⟩ := gSq_at I1 hq
    refine enum1 (gBegins t a its.toArray) p' fun h' he hit hsz hk => wpAny_pyIter_enum he ?_
    have I2 : Inv X pins σ H1 { s1 with heap := h' } := I1.kept (t' := s1.toks) hk
    refine ⟨s1.heap.objs.size + 1, [s1.heap.objs.size + 1, s1.heap.objs.size], _, _, H1, rfl, I2, turnN la rfl, ⟨⟨.none, he⟩, gIt_new hit⟩, fun b hb => ?_, q⟩
    have e' : b = s1.heap.objs.size + 1 ∨ b = s1.heap.objs.size := by simpa using hb
    have hle : s1.heap.objs.size ≤ b := by
      rcases e' with z | z
      · rw [z]; exact Nat.le_add_right _ _
      · rw [z]; exact Nat.le_refl _
    exact I1.fpOk hle (I1.hok.fresh hle)
/-! max -/
theorem ne_none_ints {ns : List Int} : ∀ x ∈ ns.map PyData.int, x ≠ .none := fun x hx z => by
  obtain ⟨i, _, e⟩ := List.mem_map.mp hx
  rw [z] at e
  cases e
theorem alike_intl {ns : List Int} : PySem.W.AlikeAll (ns.map PyData.int) := by
  refine ⟨fun x hx y hy => ?_, ne_none_ints⟩
  obtain ⟨i, _, e⟩ := List.mem_map.mp hx
  obtain ⟨j, _, e2⟩ := List.mem_map.mp hy
  subst e e2
  simp [PySem.W.alike]
theorem call_maxG {X : Cx} {k : Nat} (hr : Room k X.A) (hc : X.calm = true) : CallR X (.builtin "max") (fun vs H Q => ∃ t a n ns, vs = [.ref a] ∧ gSq X.K t H a ((n :: ns).map V.int) ∧ Q (.int (ns.foldl max n)) H) := by
  intro pins s σ H vs us Q I r h
  obtain ⟨t, a, n, ns, rfl, hs, q⟩ := h
  obtain ⟨its, rv, hl, _⟩ := gSq_at I hs
  rw [Vals.ref1 r]
  have hA : X.A.handled = none := I.ok.hd hc
  have hR : ReadsAll s.heap its.toArray.toList ((n :: ns).map PyData.int) [] := by simpa using Pd.reads_ints (h := s.heap) rv
  have hu : X.A.units + 1 + PyData.depthAll ((n :: ns).map PyData.int) < cLine := by
    rw [Pd.depth_ints]
    exact hu_of hr
  have fin : ∀ (v : Value) (h' : Heap) (tk : Nat) (bs : List Addr), Reads h' v (PySem.W.maxD (.int n) (ns.map .int)) bs → (∀ b o, s.heap.get? b = some o → h'.get? b = some o) → ∃ x H', Inv X pins σ H' { s with heap := h', toks := tk } ∧ RelV x v ∧ Q x H' := fun v h' tk bs hrd hk => by
    rw [PySem.W.maxD_ints] at hrd
    refine ⟨.int (ns.foldl max n), H, I.kept hk, ?_, q⟩
    cases hrd
    exact ⟨_, rfl⟩
  cases t
  · exact PySem.W.max_list_data hA hl hR (alike_intl (ns := n :: ns)) hu fun i v h' tk bs _ hrd hk => fin v h' tk bs hrd hk
  · exact PySem.W.max_tuple_data hA hl hR (alike_intl (ns := n :: ns)) hu fun i v h' tk bs _ hrd hk => fin v h' tk bs hrd hk
end Zq
namespace Gn
open PySem L2 Pd PySem.Spec PyProof.Rows Zq
def enumD : Nat → List PyData → List PyData
  | _, [] => []
  | i, d :: ds => .tuple [.int (i : Nat), d] :: enumD (i + 1) ds
theorem enumD_len : ∀ {ds : List PyData} {k : Nat}, (enumD k ds).length = ds.length
  | [], _ => rfl
  | _ :: ds, k => by simp [enumD, enumD_len (ds := ds)]
theorem enumD_get : ∀ {ds : List PyData} {k n : Nat} {d : PyData}, (enumD k ds)[n]? = some d → ∃ x, ds[n]? = some x ∧ d = .tuple [.int ((k + n : Nat) : Int), x]
  | [], _, _, _, h => by simp [enumD] at h
  | x :: ds, k, 0, d, h => by
    simp only [enumD, List.getElem?_cons_zero, Option.some.injEq] at h
    exact ⟨x, rfl, h.symm⟩
  | x :: ds, k, n + 1, d, h => by
    simp only [enumD, List.getElem?_cons_succ] at h
    obtain ⟨y, h1, h2⟩ := enumD_get h
    refine ⟨y, by simpa using h1, ?_⟩
    rw [h2, show k + 1 + n = k + (n + 1) by omega]
theorem wk_N {K : PySem.W.Frag} {Hk : Hp} {t : Bool} {a : Addr} {xs : List V} {ds : List PyData} (hs : gSq K t Hk a xs) (hx : DpAll K Hk xs ds) : Wk K (ItN K t a) (enumD 0 ds) Hk := fun i Hr e => by
  have l1 := DpAll.len hx
  have hs' := same_g e hs
  refine ⟨fun hi => ?_, fun hi => ?_, fun x H' h => ?_⟩
  · rw [enumD_len] at hi
    exact ⟨xs, _, hs', List.getElem?_eq_getElem (by omega)⟩
  · rw [enumD_len] at hi
    exact ⟨xs, hs', by omega⟩
  · obtain ⟨T, x', rfl, hn, rfl, f1⟩ := h
    refine ⟨new_same hn _, fun d hd => ?_⟩
    obtain ⟨u, q1, rfl⟩ := enumD_get hd
    obtain ⟨u', s1, s2⟩ := DpAll.get hx q1
    have g1 := f1 _ hs'
    rw [s1] at g1
    cases g1
    rw [Nat.zero_add]
    exact gro_tup e hn (.cons (.int _) (.cons s2 .nil))
def pEnum (x : PyData) : Option (List PyData) := (asS x).map (enumD 0)
def pAny : PyData → Option Bool
  | .list ds => (boolsOf ds).map fun bs => bs.any id
  | _ => none
def pMaxS (x : PyData) : Option PyData := (asS x).bind fun ds => (intsOf ds).bind fun ns => match ns with
  | [] => none
  | n :: ns => some (.int (ns.foldl (fun a b => if b > a then b else a) n))
def isIntO : PyData → Option Bool
  | .int _ | .bool _ => some true
  | .none | .str _ | .list _ | .tuple _ => some false
  | _ => none
def isBoolO : PyData → Option Bool
  | .bool _ => some true
  | .int _ | .none | .str _ | .list _ | .tuple _ => some false
  | _ => none
def isTupO : PyData → Option Bool
  | .tuple _ => some true
  | .int _ | .none | .str _ | .list _ | .bool _ => some false
  | _ => none
def isListO : PyData → Option Bool
  | .list _ => some true
  | .int _ | .none | .str _ | .tuple _ | .bool _ => some false
  | _ => none
section
variable {X : Cx} {a b c e t tg iter : Expr} {es tgs : List Expr} {ρ ρ1 : List Sl} {o o1 o2 o3 : Option PyData} {n k tn : Nat} {pos p0 tpos : Pos}
theorem io_enum (hm : X.mg "enumerate" = none) (ha : VO X a ρ o) (hg : Gl X "enumerate" := by rfl) (hs : starEach [a] X.env = [(false, eval a X.env)] := by rfl) : IO X (.Tuple tgs tn tpos) (.Call (.Name "enumerate" p0) [a] [] pos) ρ (o.bind pEnum) := fun ds h => by
  obtain ⟨x, h1, g⟩ := bnd h
  obtain ⟨ds1, h3, g2⟩ := mpd g
  rw [← g2]
  refine ⟨_, pi_N hg hm pa_s hs, fun bi σ0 B H0 σ Hk Hr I R q => ?_⟩
  refine (ea_cons (ha _ h1) ea_nil hs) bi σ0 B H0 σ Hk Hr I _ fun vs Hk1 Hr1 I1 m1 hv => ?_
  cases hv with
  | cons v1 vr =>
    cases vr
    obtain ⟨t1, a1, xs, rfl, g1, d1⟩ := dpSeq v1 h3
    exact ⟨t1, a1, xs, rfl, same_g I1.kr g1, q _ Hk1 Hr1 I1 m1 (wk_N g1 d1)⟩
theorem vo_any (hm : X.mg "any" = none) (ha : VO X e ρ o) (hg : Gl X "any" := by rfl) (hc : X.calm = true := by rfl) (he : starEach [e] X.env = [(false, eval e X.env)] := by rfl) (hpl : (backTo pos (starEach ([] : List Expr) X.env)).any (·.1) = false := by rfl) : VO X (.Call (.Name "any" p0) [e] [] pos) ρ ((o.bind pAny).map .bool) := fun d h => by
  obtain ⟨r, h1, g⟩ := mpd h
  rw [← g]
  obtain ⟨x, h2, g2⟩ := bnd h1
  cases x <;> simp only [pAny, reduceCtorEq] at g2
  obtain ⟨bs, h3, g3⟩ := mpd g2
  rw [← g3]
  rw [boolsOf_eq h3] at h2
  exact ee_tCB (pe_callB (cr_any hc) hg hm (by decide +kernel) pa_s (by decide) (by decide) he hpl) (ea_cons (ha _ h2) ea_nil he) (fun vs Hk Hr kr h Q q => by
    cases h with
    | cons h1 h2 =>
      cases h2
      cases h1 with
      | lst hs ha =>
        have := DpAll.bools ha
        subst this
        exact ⟨_, bs, rfl, same_l kr hs, q _ Hr (Same.refl _) (.bl _)⟩)
theorem foldmax (ns : List Int) (n : Int) : ns.foldl max n = ns.foldl (fun a b => if b > a then b else a) n := by
  induction ns generalizing n with
  | nil => rfl
  | cons x xs ih =>
    rw [List.foldl_cons, List.foldl_cons, ih]
    congr 1
    by_cases q : x > n
    · rw [if_pos q]; omega
    · rw [if_neg q]; omega
theorem vo_maxS (hr : Room k X.A) (hm : X.mg "max" = none) (ha : VO X e ρ o) (hg : Gl X "max" := by rfl) (hc : X.calm = true := by rfl) (he : starEach [e] X.env = [(false, eval e X.env)] := by rfl) (hpl : (backTo pos (starEach ([] : List Expr) X.env)).any (·.1) = false := by rfl) : VO X (.Call (.Name "max" p0) [e] [] pos) ρ (o.bind pMaxS) := fun d h => by
  obtain ⟨x, h1, g1⟩ := bnd h
  obtain ⟨ds, h2, g2⟩ := bnd g1
  obtain ⟨ns, h3, g3⟩ := bnd g2
  cases ns with
  | nil => cases g3
  | cons n ns =>
    have g4 := Option.some.inj g3
    rw [← g4, ← foldmax]
    have e0 := intsOf_eq h3
    rw [e0] at h2
    exact ee_tCB (pe_callB (call_maxG hr hc) hg hm (by decide +kernel) pa_s (by decide) (by decide) he hpl) (ea_cons (ha _ h1) ea_nil he) (fun vs Hk Hr kr hv Q q => by
      cases hv with
      | cons v1 vr =>
        cases vr
        obtain ⟨t1, a1, xs, rfl, g1, d1⟩ := dpSeq v1 h2
        have e1 := DpAll.ints d1
        rw [e1] at g1
        exact ⟨t1, a1, n, ns, rfl, same_g kr g1, q _ Hr (Same.refl _) (.int _)⟩)
theorem isi_core {T : String} {f : PyData → Option Bool} (hf : ∀ d r, f d = some r → kitB (tyN d) T = some r) (hn : ∀ d, f (.dict d) = none) (ha : VO X e ρ o) (h : PE X (.Call (.Name "isinstance" p0) [e, t] [] pos) (tCB (rIsi X.K) (tCons (sE X e) (tCons (tC (.ty T)) tNil)))) : VO X (.Call (.Name "isinstance" p0) [e, t] [] pos) ρ ((o.bind f).map .bool) := fun d g0 => by
  obtain ⟨r, g1, g2⟩ := mpd g0
  rw [← g2]
  obtain ⟨x, h1, h2⟩ := bnd g1
  have hk := hf _ _ h2
  cases x with
  | none => exact ee_isS (ha _ h1) rfl hk h
  | bool b => exact ee_isS (ha _ h1) rfl hk h
  | int b => exact ee_isS (ha _ h1) rfl hk h
  | str b => exact ee_isS (ha _ h1) rfl hk h
  | tuple b => exact ee_isT (ha _ h1) hk h
  | list b => exact ee_isL (ha _ h1) hk h
  | dict b => rw [hn] at h2; cases h2
theorem isInt_k : ∀ d r, isIntO d = some r → kitB (tyN d) "int" = some r := fun d r h => by
  cases d <;> simp only [isIntO, reduceCtorEq] at h <;> (have h := Option.some.inj h; subst h; first | exact (by decide +kernel : kitB "NoneType" "int" = some false) | exact (by decide +kernel : kitB "bool" "int" = some true) | exact (by decide +kernel : kitB "int" "int" = some true) | exact (by decide +kernel : kitB "str" "int" = some false) | exact (by decide +kernel : kitB "list" "int" = some false) | exact (by decide +kernel : kitB "tuple" "int" = some false))
theorem isBool_k : ∀ d r, isBoolO d = some r → kitB (tyN d) "bool" = some r := fun d r h => by
  cases d <;> simp only [isBoolO, reduceCtorEq] at h <;> (have h := Option.some.inj h; subst h; first | exact (by decide +kernel : kitB "NoneType" "bool" = some false) | exact (by decide +kernel : kitB "bool" "bool" = some true) | exact (by decide +kernel : kitB "int" "bool" = some false) | exact (by decide +kernel : kitB "str" "bool" = some false) | exact (by decide +kernel : kitB "list" "bool" = some false) | exact (by decide +kernel : kitB "tuple" "bool" = some false))
theorem isTup_k : ∀ d r, isTupO d = some r → kitB (tyN d) "tuple" = some r := fun d r h => by
  cases d <;> simp only [isTupO, reduceCtorEq] at h <;> (have h := Option.some.inj h; subst h; first | exact (by decide +kernel : kitB "NoneType" "tuple" = some false) | exact (by decide +kernel : kitB "bool" "tuple" = some false) | exact (by decide +kernel : kitB "int" "tuple" = some false) | exact (by decide +kernel : kitB "str" "tuple" = some false) | exact (by decide +kernel : kitB "list" "tuple" = some false) | exact (by decide +kernel : kitB "tuple" "tuple" = some true))
theorem isList_k : ∀ d r, isListO d = some r → kitB (tyN d) "list" = some r := fun d r h => by
  cases d <;> simp only [isListO, reduceCtorEq] at h <;> (have h := Option.some.inj h; subst h; first | exact (by decide +kernel : kitB "NoneType" "list" = some false) | exact (by decide +kernel : kitB "bool" "list" = some false) | exact (by decide +kernel : kitB "int" "list" = some false) | exact (by decide +kernel : kitB "str" "list" = some false) | exact (by decide +kernel : kitB "list" "list" = some true) | exact (by decide +kernel : kitB "tuple" "list" = some false))
theorem vo_isInt (hm : X.mg "isinstance" = none) (hm2 : X.mg "int" = none) (ha : VO X e ρ o) (hg : Gl X "isinstance" := by rfl) (hg2 : Gl X "int" := by rfl) (he : starEach [e, .Name "int" tpos] X.env = (false, eval e X.env) :: starEach [.Name "int" tpos] X.env := by rfl) (he2 : starEach [.Name "int" tpos] X.env = (false, eval (.Name "int" tpos) X.env) :: starEach [] X.env := by rfl) (hpl : (backTo pos (starEach [.Name "int" tpos] X.env)).any (·.1) = false := by rfl) :
    VO X (.Call (.Name "isinstance" p0) [e, .Name "int" tpos] [] pos) ρ ((o.bind isIntO).map .bool) := isi_core (T := "int") isInt_k (fun _ => rfl) ha (pe_callB call_isi hg hm (by decide +kernel) (pa_cons pe_s (pa_cons (pe_bltn hg2 hm2 (by decide +kernel) rfl) pa_nil he2) he) (by decide) (by decide) he hpl)
theorem vo_isBool (hm : X.mg "isinstance" = none) (hm2 : X.mg "bool" = none) (ha : VO X e ρ o) (hg : Gl X "isinstance" := by rfl) (hg2 : Gl X "bool" := by rfl) (he : starEach [e, .Name "bool" tpos] X.env = (false, eval e X.env) :: starEach [.Name "bool" tpos] X.env := by rfl) (he2 : starEach [.Name "bool" tpos] X.env = (false, eval (.Name "bool" tpos) X.env) :: starEach [] X.env := by rfl) (hpl : (backTo pos (starEach [.Name "bool" tpos] X.env)).any (·.1) = false := by rfl) :
    VO X (.Call (.Name "isinstance" p0) [e, .Name "bool" tpos] [] pos) ρ ((o.bind isBoolO).map .bool) := isi_core (T := "bool") isBool_k (fun _ => rfl) ha (pe_callB call_isi hg hm (by decide +kernel) (pa_cons pe_s (pa_cons (pe_bltn hg2 hm2 (by decide +kernel) rfl) pa_nil he2) he) (by decide) (by decide) he hpl)
theorem vo_isTup (hm : X.mg "isinstance" = none) (hm2 : X.mg "tuple" = none) (ha : VO X e ρ o) (hg : Gl X "isinstance" := by rfl) (hg2 : Gl X "tuple" := by rfl) (he : starEach [e, .Name "tuple" tpos] X.env = (false, eval e X.env) :: starEach [.Name "tuple" tpos] X.env := by rfl) (he2 : starEach [.Name "tuple" tpos] X.env = (false, eval (.Name "tuple" tpos) X.env) :: starEach [] X.env := by rfl) (hpl : (backTo pos (starEach [.Name "tuple" tpos] X.env)).any (·.1) = false := by rfl) :
    VO X (.Call (.Name "isinstance" p0) [e, .Name "tuple" tpos] [] pos) ρ ((o.bind isTupO).map .bool) := isi_core (T := "tuple") isTup_k (fun _ => rfl) ha (pe_callB call_isi hg hm (by decide +kernel) (pa_cons pe_s (pa_cons (pe_bltn hg2 hm2 (by decide +kernel) rfl) pa_nil he2) he) (by decide) (by decide) he hpl)
theorem vo_isList (hm : X.mg "isinstance" = none) (hm2 : X.mg "list" = none) (ha : VO X e ρ o) (hg : Gl X "isinstance" := by rfl) (hg2 : Gl X "list" := by rfl) (he : starEach [e, .Name "list" tpos] X.env = (false, eval e X.env) :: starEach [.Name "list" tpos] X.env := by rfl) (he2 : starEach [.Name "list" tpos] X.env = (false, eval (.Name "list" tpos) X.env) :: starEach [] X.env := by rfl) (hpl : (backTo pos (starEach [.Name "list" tpos] X.env)).any (·.1) = false := by rfl) :
    VO X (.Call (.Name "isinstance" p0) [e, .Name "list" tpos] [] pos) ρ ((o.bind isListO).map .bool) := isi_core (T := "list") isList_k (fun _ => rfl) ha (pe_callB call_isi hg hm (by decide +kernel) (pa_cons pe_s (pa_cons (pe_bltn hg2 hm2 (by decide +kernel) rfl) pa_nil he2) he) (by decide) (by decide) he hpl)
end
end Gn
/-! a def whose parameters have defaults -/
namespace Gn
open PySem L2 Pd PySem.Spec PyProof.Rows Zq
structure FunY (K : PySem.W.Frag) (x qual : Str) (st : Stmt) (f : Addr) (fd : FuncData) : Prop where
  ex : ∃ (oc : Value) (od : Option Addr) (dV kV doc pm : Value) (an : Option Addr) (cdv ct : Value) (osl : Array (Option Value)),
    fd = PySem.W.fnOf x qual (defArgs st) (defBody st) (defScope st) dV kV doc pm an cdv ct ∧ K.lookup f = some ⟨oc, od, .func fd, osl⟩ ∧ PySem.W.codeIn K cdv qual = true
  kp : PySem.W.keepIn K (.ref f) = true
section
variable {P : Program} {w : World} {K : PySem.W.Frag} {mg : Str → Option Value} {base : Heap} {x qual : Str} {st : Stmt} {f : Addr} {fd : FuncData} {N ps : List Str} {k : Nat}
theorem FunY.ok {sp : Sp} (F : FunY K x qual st f fd) (S : FnScope N ps (defScope st)) (len : ∀ vs H Q E, sp vs H Q E → vs.length = ps.length)
    (hbody : ∀ (cdv : Value) (A : Around) (outer : List Env) (s : Shared) (H : Hp) (vs : List V) (Q : VK) (E : XK), Room k (A.deeper (envOfC qual (defScope st) s.heap.objs.size f cdv)) → sp vs H Q E →
      ∃ t, PSs (cxOf CX0 P w K mg base N qual (defScope st) f cdv A outer s H E).nox (defBody st) t ∧ t { nx := fun _ H' => Q .non H', rt := Q } (L2.start N vs) H) : FnOk P w K mg base CX0 (k + 1) f fd ps sp := by
  obtain ⟨oc, od, dV, kV, doc, pm, an, cdv, ct, osl, rfl, lk, hcd⟩ := F.ex
  refine fn_of lk hcd S len fun A outer s H vs Q E hr hsp => ?_
  obtain ⟨t, h, q⟩ := hbody cdv A outer s H vs Q E hr hsp
  exact ⟨t, h.nox, q⟩
theorem funY_mk {oc : Value} {od an : Option Addr} {osl : Array (Option Value)} {dV kV doc pm cdv ct : Value} (l : K.lookup f = some ⟨oc, od, .func (PySem.W.fnOf x qual (defArgs st) (defBody st) (defScope st) dV kV doc pm an cdv ct), osl⟩)
    (c : PySem.W.codeIn K cdv qual = true) (k : PySem.W.keepIn K (.ref f) = true) : FunY K x qual st f (PySem.W.fnOf x qual (defArgs st) (defBody st) (defScope st) dV kV doc pm an cdv ct) := ⟨⟨oc, od, dV, kV, doc, pm, an, cdv, ct, osl, rfl, l, c⟩, k⟩
theorem fd_ofY {φ : List PyData → PyData → Prop} (F : FunY K x qual st f fd) (S : FnScope N ps (defScope st)) (hl : ps.length ≤ N.length)
    (body : ∀ (cdv : Value) (A : Around) (outer : List Env) (s : Shared) (H : Hp) (E : XK), Room k (A.deeper (envOfC qual (defScope st) s.heap.objs.size f cdv)) → ∀ ds d, φ ds d → ds.length = ps.length →
      SS (cxOf CX0 P w K mg base N qual (defScope st) f cdv A outer s H E).nox [] (defBody st) (rho ds (N.length - ps.length)) (fun _ => d = .none) (RDt K fun d' _ => d' = d)) :
    FnOk P w K mg base CX0 (k + 1) f fd ps (spD K ps.length φ) := by
  refine F.ok S (fun vs H Q E h => ?_) (fun cdv A outer s H vs Q E hr h => ?_)
  · obtain ⟨B, ds, d, _, h1, _, h2, _⟩ := h
    rw [DpAll.len h2, h1]
  · obtain ⟨B, ds, d, hφ, h1, kr, ha, q⟩ := h
    have lv : vs.length = ps.length := by rw [DpAll.len ha, h1]
    refine ⟨_, pss_s, body cdv A outer s H E hr ds d hφ h1 (L2.start N vs) ⟨B, H⟩ ⟨H, fun _ => none⟩ (fun _ _ _ h => h) (L2.start N vs) B H _ ?_ ?_ ?_⟩
    · refine ⟨Same.refl _, Same.refl _, kr, fun b o h _ => h, fun i hi => (nomatch hi), ?_, fun i e hi => ?_, fun i e hi => ?_, fun i j e1 e2 hi _ => ?_, (fun _ _ z => nomatch z), (fun _ _ z => nomatch z), Bxs.none rho_nobox, Same.refl _, (fun _ _ z => nomatch z)⟩
      · unfold rho L2.start
        simp [h1, lv]
      · unfold rho at hi
        by_cases q : i < ds.length
        · rw [List.getElem?_append_left (by simpa using q), List.getElem?_map, List.getElem?_eq_getElem q] at hi
          have hi := Option.some.inj hi
          injection hi with hi
          obtain ⟨v, s1, s2⟩ := DpAll.get ha (List.getElem?_eq_getElem q)
          subst hi
          exact ⟨v, start_get s1, s2⟩
        · rw [List.getElem?_append_right (by simpa using q), List.getElem?_replicate] at hi
          split at hi
          · cases Option.some.inj hi
          · cases hi
      all_goals
        exfalso
        unfold rho at hi
        by_cases q : i < ds.length
        · rw [List.getElem?_append_left (by simpa using q), List.getElem?_map, List.getElem?_eq_getElem q] at hi
          cases Option.some.inj hi
        · rw [List.getElem?_append_right (by simpa using q), List.getElem?_replicate] at hi
          split at hi
          · cases Option.some.inj hi
          · cases hi
    · intro ρ' σ' Hk' Hr' e ⟨H1, I'⟩ _
      subst e
      exact q .non Hr' (I'.eh.trans I'.real) .non
    · rintro v ρ' σ' Hk' Hr' ⟨d', e, hv⟩ ⟨H1, I'⟩
      subst e
      refine q v Hr' (I'.eh.trans I'.real) (Dp.mono (fun b o h => ?_) _ hv)
      cases z : H b with
      | none => rw [gro_new z]; exact I'.kr _ _ h
      | some u => rw [gro_old z]; exact I'.old b o h (by rw [I'.eh b _ z]; exact fun z => nomatch z)
theorem defDY {mm : List PyData → Option (Res PyData Unit)} (F : FunY K x qual st f fd) (S : FnScope N ps (defScope st)) (hl : ps.length ≤ N.length)
    (body : ∀ (cdv : Value) (A : Around) (outer : List Env) (s : Shared) (H : Hp) (E : XK), Room k (A.deeper (envOfC qual (defScope st) s.heap.objs.size f cdv)) → ∀ ds, ds.length = ps.length →
      SO (cxOf CX0 P w K mg base N qual (defScope st) f cdv A outer s H E).nox [] (defBody st) (rho ds (N.length - ps.length)) (mm ds) (fun d => RDt K fun d' _ => d' = d) (fun (_ : Unit) _ => True)) :
    FnOk P w K mg base CX0 (k + 1) f fd ps (spD K ps.length fun ds d => finD (mm ds) = some d) :=
  fd_ofY F S hl fun cdv A outer s H E hr ds d h hlen => by
    have hb := body cdv A outer s H E hr ds hlen
    cases q : mm ds with
    | none => rw [q] at h; cases h
    | some r =>
      rw [q] at h
      refine ss_mono (hb r q) (fun ρ' ⟨a, z1, z2⟩ => ?_) fun H0 v ρ' Hk Hr ⟨b, z1, z2⟩ => ?_
      · subst z1
        exact (Option.some.inj h).symm
      · subst z1
        cases h
        exact z2
end
end Gn
/-! list + list, any two -/
namespace Gn
open PySem L2 Pd PySem.Spec PyProof.Rows Zq
def rCatS (K : PySem.W.Frag) : R2 := fun x y H Q => ∃ l b xs zs, x = .ref l ∧ y = .ref b ∧ SqL K H l xs ∧ SqL K H b zs ∧ xs.length + zs.length ≤ sizeLine ∧ ∀ p, H p = none → Q (.ref p) (upd H p (.lst (xs ++ zs)))
theorem op_catS {X : Cx} : OpR X (binaryOp .Add) (rCatS X.K) := by
  intro pins s σ H x y v u Q I rx ry h
  obtain ⟨l, b, xs, zs, rfl, rfl, hH, hB, hz, q⟩ := h
  cases rx
  cases ry
  obtain ⟨vs, r, ⟨⟨cls, dd, data, sl⟩, n, ho, hc, hdd, hd⟩, z1⟩ := I.list hH
  obtain ⟨ws, r2, ⟨⟨cls2, dd2, data2, sl2⟩, n2, ho2, hc2, hdd2, hd2⟩, z2⟩ := I.list hB
  simp only at hc hd hc2 hd2
  subst hc hd hc2 hd2
  have e : vs.toArray ++ ws.toArray = (vs ++ ws).toArray := by simp
  have hsz : vs.toArray.size + ws.toArray.size ≤ sizeLine := by
    rw [List.size_toArray, List.size_toArray, ← r.length, ← r2.length]
    exact hz
  refine concat_meets ⟨_, ho, rfl⟩ ⟨_, ho2, rfl⟩ noFill_list_add seq_list_add PySem.F.slot_list_add PySem.F.entry_list_add (PySem.F.args_list_add_2 _ _) (list_addW l b vs.toArray ws.toArray n n2 dd dd2 sl sl2 hsz) ⟨ho, ho2, ?_⟩
  rw [e]
  exact ⟨.ref _, _, I.lnew (t' := s.toks) (r.append r2) (by rw [List.length_append]; omega), rfl, q _ I.fresh⟩
theorem rd_catS {K : PySem.W.Frag} {ds es : List PyData} (hl : ds.length + es.length ≤ 100000) : RD K (rCatS K) (.list ds) (.list es) (.list (ds ++ es)) := fun x y Hk Hr kr hx hy Q q => by
  cases hx with
  | lst hs ha =>
    cases hy with
    | lst ht hb => exact ⟨_, _, _, _, rfl, rfl, same_l kr hs, same_l kr ht, by rw [DpAll.len ha, DpAll.len hb]; exact le_line hl, fun p hp => q _ _ (new_same hp _) (gro_lst kr hp (DpAll.app ha hb))⟩
def pAddX : PyData → PyData → Option PyData
  | .list a, .list b => gd (short (a.length + b.length)) (some (.list (a ++ b)))
  | x, y => pAdd x y
section
variable {X : Cx} {a b : Expr} {ρ : List Sl} {o1 o2 : Option PyData} {pos : Pos}
theorem vo_addX (ha : VO X a ρ o1) (hb : VO X b ρ o2) : VO X (.BinOp a .Add b pos) ρ (o1.bind fun x => o2.bind fun y => pAddX x y) := fun d h => by
  obtain ⟨x, h1, g1⟩ := bnd h
  obtain ⟨y, h2, g2⟩ := bnd g1
  unfold pAddX at g2
  split at g2
  · obtain ⟨g3, g4⟩ := gd_some g2
    cases g4
    exact ee_op op_catS (ha _ h1) (hb _ h2) (rd_catS (short_le g3))
  · exact vo_add (o1 := some x) (o2 := some y) (fun d hd => by cases hd; exact ha _ h1) (fun d hd => by cases hd; exact hb _ h2) d g2
end
end Gn
namespace Gn
open PySem L2 Pd PySem.Spec PyProof.Rows Zq
section
variable {K : PySem.W.Frag} {bi : List Nat} {σ0 σ : L2.St} {Hk Hr : Hp} {B : Be} {H0 : Fr} {ρ : List Sl} {n : Nat}
theorem set_no {j : Nat} {x : Sl} (h : (ρ.set n .no)[j]? = some x) (hx : x ≠ .no) : ρ[j]? = some x := by
  have lt : j < ρ.length := by simpa using (List.getElem?_eq_some_iff.mp h).1
  by_cases q : n = j
  · subst q
    rw [List.getElem?_set_self lt] at h
    exact absurd (Option.some.inj h).symm hx
  · rw [List.getElem?_set_ne q] at h
    exact h
theorem _root_.Pd.Ok.forget (I : Ok K bi σ0 B H0 ρ σ Hk Hr) : Ok K bi σ0 B H0 (ρ.set n .no) σ Hk Hr where
  base := I.base
  real := I.real
  kr := I.kr
  old := I.old
  bor := I.bor
  len := by rw [List.length_set]; exact I.len
  val := fun j d hj => I.val j d (set_no hj (fun z => nomatch z))
  own := fun j d hj => I.own j d (set_no hj (fun z => nomatch z))
  dis := fun j l xs ys hj hl ne => I.dis j l xs ys (set_no hj (fun z => nomatch z)) (set_no hl (fun z => nomatch z)) ne
  zh := I.zh
  zb := I.zb
  bxs := by
    obtain ⟨F, f1, f2⟩ := I.bxs
    exact ⟨F, fun i b hi => f1 i b (set_no hi (fun z => nomatch z)), fun i j b c hi hj ne => f2 i j b c (set_no hi (fun z => nomatch z)) (set_no hj (fun z => nomatch z)) ne⟩
  eh := I.eh
  ze := I.ze
variable {X : Cx} {sts : List Stmt} {β α : Type} {RR : β → RTy} {f : α → List Sl → Prop} {m : Option (Res β α)}
theorem so_forget (hr : SO X bi sts (ρ.set n .no) m RR f) : SO X bi sts ρ m RR f := fun r h σ0 B H0 hz σ Hk Hr D I nx rt => hr r h σ0 B H0 hz σ Hk Hr D I.forget nx rt
end
end Gn
/-! A mirror with a heap of its own, with draws and errors. -/
noncomputable section
namespace Hx
open PySem L2 Pd Gn PySem.Spec PyProof.Rows

/-- a value: data that never changes; a thing of the mirror's heap; a tuple, a list that holds such; an instance; the script -/
inductive W where
  | dat (d : PyData)
  | ref (i : Nat)
  | tup (ws : List W)
  | lst (ws : List W)
  | ins (c : Nat) (fs : List W)
  | scr
  | dct (kvs : List (NestedKey × W))
/-- a thing that may change -/
inductive Ob where
  | lst (ws : List W)
  | dic (kvs : List (NestedKey × W))
  | st
  | nums
  | ins (c : Nat) (fs : List (Option W))
structure Hs where
  nx : Nat
  os : List (Nat × Ob)
def getO (i : Nat) : List (Nat × Ob) → Option Ob
  | [] => none
  | (j, o) :: r => match Nat.beq i j with | true => some o | false => getO i r
def setO (i : Nat) (o : Ob) : List (Nat × Ob) → List (Nat × Ob)
  | [] => []
  | (j, u) :: r => match Nat.beq i j with | true => (j, o) :: r | false => (j, u) :: setO i o r
def delO (i : Nat) : List (Nat × Ob) → List (Nat × Ob)
  | [] => []
  | (j, u) :: r => match Nat.beq i j with | true => delO i r | false => (j, u) :: delO i r
def Hs.get (h : Hs) (i : Nat) : Option Ob := getO i h.os
def Hs.put (h : Hs) (i : Nat) (o : Ob) : Hs := ⟨h.nx, setO i o h.os⟩
def Hs.del (h : Hs) (i : Nat) : Hs := ⟨h.nx, delO i h.os⟩
def Hs.new (h : Hs) (o : Ob) : Hs := ⟨h.nx + 1, (h.nx, o) :: h.os⟩
/-- an error: its class, its field -/
structure Xc where
  c : Nat
  d : PyData
/-- what a run gives -/
inductive T (α : Type) where
  | ok (a : α) (h : Hs)
  | exc (x : Xc) (h : Hs)
  | draw (n : Nat) (k : Nat → T α)
  | bad
def T.bind {α β : Type} (t : T α) (f : α → Hs → T β) : T β := T.rec (motive := fun _ => T β) (fun a h => f a h) (fun x h => .exc x h) (fun n _ ih => .draw n ih) .bad t
def T.sat {α : Type} (P : α → Hs → Prop) (E : Xc → Hs → Prop) : T α → Prop
  | .ok a h => P a h
  | .exc x h => E x h
  | .draw n k => ∀ v, v < n → (k v).sat P E
  | .bad => False
abbrev M (α : Type) := Hs → T α
def bd {α β : Type} (m : M α) (f : α → M β) : M β := fun h => (m h).bind f
def rt {α : Type} (a : α) : M α := fun h => .ok a h
def lf {α : Type} (o : Option α) : M α := fun h => match o with | some a => .ok a h | none => .bad
theorem sat_bind {α β : Type} {P : β → Hs → Prop} {E : Xc → Hs → Prop} {f : α → Hs → T β} : ∀ {t : T α}, (t.bind f).sat P E → t.sat (fun a h => (f a h).sat P E) E
  | .ok a h, s => s
  | .exc x h, s => s
  | .draw n k, s => fun v hv => sat_bind (t := k v) (s v hv)
  | .bad, s => s
theorem sat_of {α β : Type} {P : β → Hs → Prop} {E : Xc → Hs → Prop} {f : α → Hs → T β} : ∀ {t : T α}, t.sat (fun a h => (f a h).sat P E) E → (t.bind f).sat P E
  | .ok a h, s => s
  | .exc x h, s => s
  | .draw n k, s => fun v hv => sat_of (t := k v) (s v hv)
  | .bad, s => s
theorem sat_mono {α : Type} {P P' : α → Hs → Prop} {E E' : Xc → Hs → Prop} (h : ∀ a s, P a s → P' a s) (h2 : ∀ a s, E a s → E' a s) : ∀ {t : T α}, t.sat P E → t.sat P' E'
  | .ok a s, q => h _ _ q
  | .exc x s, q => h2 _ _ q
  | .draw n k, q => fun v hv => sat_mono h h2 (q v hv)
  | .bad, q => q
theorem sat_lf {α : Type} {o : Option α} {h : Hs} {P : α → Hs → Prop} {E : Xc → Hs → Prop} (s : (lf o h).sat P E) : ∃ a, o = some a ∧ P a h := by
  cases o with
  | none => exact s.elim
  | some a => exact ⟨a, rfl, s⟩
/-- no error may leave -/
def nox {α : Type} (m : M α) : M α := fun h => go (m h)
where go : T α → T α
  | .ok a h => .ok a h
  | .exc _ _ => .bad
  | .draw n k => .draw n fun v => go (k v)
  | .bad => .bad
theorem sat_nox {α : Type} {P : α → Hs → Prop} {E : Xc → Hs → Prop} : ∀ {t : T α}, (nox.go t).sat P E → t.sat P (fun _ _ => False)
  | .ok a s, q => q
  | .exc x s, q => q
  | .draw n k, q => fun v hv => sat_nox (q v hv)
  | .bad, q => q
/-- all draws end in True -/
def allB (n : Nat) (f : Nat → Bool) : Bool := Nat.rec true (fun k r => match f k with | true => r | false => false) n
theorem allB_ok {f : Nat → Bool} : ∀ {n : Nat}, allB n f = true → ∀ v, v < n → f v = true
  | 0, _, v, hv => absurd hv (Nat.not_lt_zero v)
  | n + 1, h, v, hv => by
    have h : (match f n with | true => allB n f | false => false) = true := h
    cases q : f n with
    | false => rw [q] at h; cases h
    | true =>
      rw [q] at h
      by_cases e : v = n
      · rw [e]; exact q
      · exact allB_ok h v (by omega)
def T.chk : T W → Bool
  | .ok (.dat (.bool true)) _ => true
  | .draw n k => allB n fun v => (k v).chk
  | _ => false
def isTrueW : W → Bool
  | .dat (.bool true) => true
  | _ => false
theorem sat_chk : ∀ {t : T W}, t.chk = true → t.sat (fun w _ => w = .dat (.bool true)) (fun _ _ => False)
  | .ok w h, q => by
    unfold T.chk at q
    split at q
    · rename_i e; cases e; rfl
    · rename_i e; cases e
    · cases q
  | .draw n k, q => fun v hv => sat_chk (allB_ok q v hv)
  | .exc x h, q => by cases q
  | .bad, q => by cases q

/-- a dict whose keys are tuples, by its one object -/
def DicO (wd : World) (a : Addr) (es : List (NestedKey × Addr × V)) : HO := .ext fun h => es.length ≤ sizeLine ∧ (a == sysModules) = false ∧ ∃ xs : List (NestedKey × Addr × Value), Paired (fun (p : NestedKey × Addr × V) (q : NestedKey × Addr × Value) => p.1 = q.1 ∧ p.2.1 = q.2.1 ∧ RelV p.2.2 q.2.2) es xs ∧
  ∃ o es' ep, h.get? a = some o ∧ o.ExactDict ∧ o.data = .dict es' ep ∧ es'.toList = xs.map (fun x => (⟨x.1.hash wd, .ref x.2.1, x.2.2⟩ : DictEntry)) ∧ (xs.map (·.1)).Nodup
/-! ### values by what they stand for -/
mutual
inductive VR (K : PySem.W.Frag) (wd : World) (φ : List Addr) (H : Hp) : W → V → Prop
  | dat {d : PyData} {v : V} : Dp K H v d → VR K wd φ H (.dat d) v
  | ref {i : Nat} {a : Addr} : φ[i]? = some a → VR K wd φ H (.ref i) (.ref a)
  | tup {ws : List W} {a : Addr} {vs : List V} : SqT K H a vs → VRs K wd φ H ws vs → VR K wd φ H (.tup ws) (.ref a)
  | lst {ws : List W} {a : Addr} {vs : List V} : SqL K H a vs → VRs K wd φ H ws vs → VR K wd φ H (.lst ws) (.ref a)
  | scr {ns : List Int} {v : V} : ns.length ≤ 63 → Dp K H v (.list (ns.map .int)) → VR K wd φ H .scr v
  | dct {kvs : List (NestedKey × W)} {a : Addr} {o : Obj} {es : List (NestedKey × Addr × V)} : H a = some (.frz o (DicO wd a es)) → DRs K wd φ H kvs es → VR K wd φ H (.dct kvs) (.ref a)
inductive VRs (K : PySem.W.Frag) (wd : World) (φ : List Addr) (H : Hp) : List W → List V → Prop
  | nil : VRs K wd φ H [] []
  | cons {w : W} {v : V} {ws : List W} {vs : List V} : VR K wd φ H w v → VRs K wd φ H ws vs → VRs K wd φ H (w :: ws) (v :: vs)
/-- the entries of a dict -/
inductive DRs (K : PySem.W.Frag) (wd : World) (φ : List Addr) (H : Hp) : List (NestedKey × W) → List (NestedKey × Addr × V) → Prop
  | nil : DRs K wd φ H [] []
  | cons {k : NestedKey} {w : W} {b : Addr} {v : V} {kvs : List (NestedKey × W)} {es : List (NestedKey × Addr × V)} : k.depth ≤ 8 → Dp K H (.ref b) k.data → VR K wd φ H w v → DRs K wd φ H kvs es → DRs K wd φ H ((k, w) :: kvs) ((k, b, v) :: es)
end
section
variable {K : PySem.W.Frag} {wd : World} {φ φ' : List Addr} {H H' : Hp}
/-- addresses known further on -/
def Fx (φ φ' : List Addr) : Prop := ∀ (i : Nat) (a : Addr), φ[i]? = some a → φ'[i]? = some a
theorem Fx.refl : Fx φ φ := fun _ _ h => h
theorem Fx.trans {φ'' : List Addr} (a : Fx φ φ') (b : Fx φ' φ'') : Fx φ φ'' := fun i x h => b i x (a i x h)
theorem Fx.app {t : List Addr} : Fx φ (φ ++ t) := fun i a h => by
  rw [List.getElem?_append_left (List.getElem?_eq_some_iff.mp h).1]
  exact h
mutual
theorem VR.mono (f : Fx φ φ') (e : Same H H') : ∀ {w : W} {v : V}, VR K wd φ H w v → VR K wd φ' H' w v
  | _, _, .dat h => .dat (Dp.mono e _ h)
  | _, _, .ref h => .ref (f _ _ h)
  | _, _, .tup h g => .tup (same_t e h) (VRs.mono f e g)
  | _, _, .lst h g => .lst (same_l e h) (VRs.mono f e g)
  | _, _, .scr h g => .scr h (Dp.mono e _ g)
  | _, _, .dct h g => .dct (e _ _ h) (DRs.mono f e g)
theorem VRs.mono (f : Fx φ φ') (e : Same H H') : ∀ {ws : List W} {vs : List V}, VRs K wd φ H ws vs → VRs K wd φ' H' ws vs
  | _, _, .nil => .nil
  | _, _, .cons h g => .cons (VR.mono f e h) (VRs.mono f e g)
theorem DRs.mono (f : Fx φ φ') (e : Same H H') : ∀ {kvs : List (NestedKey × W)} {es : List (NestedKey × Addr × V)}, DRs K wd φ H kvs es → DRs K wd φ' H' kvs es
  | _, _, .nil => .nil
  | _, _, .cons h1 h2 h3 h4 => .cons h1 (Dp.mono e _ h2) (VR.mono f e h3) (DRs.mono f e h4)
end
theorem VRs.len : ∀ {ws : List W} {vs : List V}, VRs K wd φ H ws vs → vs.length = ws.length
  | _, _, .nil => rfl
  | _, _, .cons _ g => by rw [List.length_cons, List.length_cons, VRs.len g]
theorem VRs.get : ∀ {ws : List W} {vs : List V} {i : Nat} {w : W}, VRs K wd φ H ws vs → ws[i]? = some w → ∃ v, vs[i]? = some v ∧ VR K wd φ H w v
  | _, _, i, w, .nil, g => by simp at g
  | _, _, 0, w, .cons h1 h2, g => by
    simp at g
    subst g
    exact ⟨_, rfl, h1⟩
  | _, _, i + 1, w, .cons h1 h2, g => by
    obtain ⟨v, q1, q2⟩ := VRs.get h2 (by simpa using g)
    exact ⟨v, by simpa using q1, q2⟩
theorem VRs.app : ∀ {ws us : List W} {vs xs : List V}, VRs K wd φ H ws vs → VRs K wd φ H us xs → VRs K wd φ H (ws ++ us) (vs ++ xs)
  | _, _, _, _, .nil, g => g
  | _, _, _, _, .cons h1 h2, g => .cons h1 (VRs.app h2 g)
theorem VRs.set : ∀ {ws : List W} {vs : List V} {w : W} {v : V} (i : Nat), VRs K wd φ H ws vs → VR K wd φ H w v → VRs K wd φ H (ws.set i w) (vs.set i v)
  | _, _, _, _, i, .nil, g => by simp; exact .nil
  | _, _, _, _, 0, .cons h1 h2, g => .cons g h2
  | _, _, _, _, i + 1, .cons h1 h2, g => .cons h1 (VRs.set i h2 g)
theorem VRs.take : ∀ {ws : List W} {vs : List V} (n : Nat), VRs K wd φ H ws vs → VRs K wd φ H (ws.take n) (vs.take n)
  | _, _, n, .nil => by simp; exact .nil
  | _, _, 0, .cons _ _ => by simp; exact .nil
  | _, _, n + 1, .cons h1 h2 => .cons h1 (VRs.take n h2)
theorem VRs.drop : ∀ {ws : List W} {vs : List V} (n : Nat), VRs K wd φ H ws vs → VRs K wd φ H (ws.drop n) (vs.drop n)
  | _, _, n, .nil => by simp; exact .nil
  | _, _, 0, .cons h1 h2 => .cons h1 h2
  | _, _, n + 1, .cons h1 h2 => VRs.drop n h2
/-- data alone -/
def datsOf : List W → Option (List PyData)
  | [] => some []
  | .dat d :: r => match datsOf r with | some ds => some (d :: ds) | none => none
  | _ :: _ => none
theorem datsOf_eq : ∀ {ws : List W} {ds : List PyData}, datsOf ws = some ds → ws = ds.map .dat
  | [], ds, h => by cases h; rfl
  | w :: r, ds, h => by
    cases w <;> simp only [datsOf, reduceCtorEq] at h
    split at h
    · rename_i e
      cases h
      rw [datsOf_eq e]
      rfl
    · cases h
theorem VRs.dats : ∀ {ds : List PyData} {vs : List V}, VRs K wd φ H (ds.map .dat) vs → DpAll K H vs ds
  | [], _, h => by cases h; exact .nil
  | d :: ds, _, h => by
    cases h with
    | cons h1 h2 =>
      cases h1 with
      | dat h1 => exact .cons h1 (VRs.dats h2)
theorem VRs.of_dats : ∀ {ds : List PyData} {vs : List V}, DpAll K H vs ds → VRs K wd φ H (ds.map .dat) vs
  | [], _, h => by cases h; exact .nil
  | d :: ds, _, h => by
    cases h with
    | cons h1 h2 => exact .cons (.dat h1) (VRs.of_dats h2)
def mkT (ws : List W) : W := match datsOf ws with | some ds => .dat (.tuple ds) | none => .tup ws
def mkL (ws : List W) : W := match datsOf ws with | some ds => .dat (.list ds) | none => .lst ws
theorem VR.mkT {ws : List W} {a : Addr} {vs : List V} (h : SqT K H a vs) (g : VRs K wd φ H ws vs) : VR K wd φ H (mkT ws) (.ref a) := by
  unfold Hx.mkT
  split
  · rename_i ds e
    rw [datsOf_eq e] at g
    exact .dat (.tup h (VRs.dats g))
  · exact .tup h g
theorem VR.mkL {ws : List W} {a : Addr} {vs : List V} (h : SqL K H a vs) (g : VRs K wd φ H ws vs) : VR K wd φ H (mkL ws) (.ref a) := by
  unfold Hx.mkL
  split
  · rename_i ds e
    rw [datsOf_eq e] at g
    exact .dat (.lst h (VRs.dats g))
  · exact .lst h g
/-- the items of a tuple, of a list that never changes -/
def asT : W → Option (List W)
  | .dat (.tuple ds) => some (ds.map .dat)
  | .tup ws => some ws
  | _ => none
def asL : W → Option (List W)
  | .dat (.list ds) => some (ds.map .dat)
  | .lst ws => some ws
  | _ => none
theorem VR.asT {w : W} {v : V} {ws : List W} (h : VR K wd φ H w v) (e : asT w = some ws) : ∃ a vs, v = .ref a ∧ SqT K H a vs ∧ VRs K wd φ H ws vs := by
  unfold Hx.asT at e
  split at e
  · cases e
    cases h with
    | dat h =>
      cases h with
      | tup hs ha => exact ⟨_, _, rfl, hs, VRs.of_dats ha⟩
  · cases e
    cases h with
    | tup hs ha => exact ⟨_, _, rfl, hs, ha⟩
  · cases e
theorem VR.asL {w : W} {v : V} {ws : List W} (h : VR K wd φ H w v) (e : asL w = some ws) : ∃ a vs, v = .ref a ∧ SqL K H a vs ∧ VRs K wd φ H ws vs := by
  unfold Hx.asL at e
  split at e
  · cases e
    cases h with
    | dat h =>
      cases h with
      | lst hs ha => exact ⟨_, _, rfl, hs, VRs.of_dats ha⟩
  · cases e
    cases h with
    | lst hs ha => exact ⟨_, _, rfl, hs, ha⟩
  · cases e
end

/-! ### the heaps -/
def OR (K : PySem.W.Frag) (wd : World) (φ : List Addr) (Hk Hr : Hp) (a : Addr) : Ob → Prop
  | .lst ws => ∃ vs, Hr a = some (.lst vs) ∧ VRs K wd φ Hk ws vs
  | .dic kvs => ∃ es, Hr a = some (DicO wd a es) ∧ DRs K wd φ Hk kvs es
  | .st => ∃ s t : Int, Hr a = some (.lst [.int s, .int t])
  | .nums => ∃ ns : List Int, Hr a = some (.lst (ns.map .int)) ∧ ns.length ≤ 4000 ∧ ∀ n ∈ ns, 0 ≤ n ∧ n < 1009
  | .ins _ _ => False
theorem OR.there {K : PySem.W.Frag} {wd : World} {φ : List Addr} {Hk Hr : Hp} {a : Addr} {o : Ob} (h : OR K wd φ Hk Hr a o) : ∃ u, Hr a = some u := by
  cases o with
  | lst ws => obtain ⟨vs, h, _⟩ := h; exact ⟨_, h⟩
  | dic kvs => obtain ⟨es, h, _⟩ := h; exact ⟨_, h⟩
  | st => obtain ⟨s, t, h⟩ := h; exact ⟨_, h⟩
  | nums => obtain ⟨ns, h, _⟩ := h; exact ⟨_, h⟩
  | ins c fs => exact h.elim
theorem OR.mono {K : PySem.W.Frag} {wd : World} {φ φ' : List Addr} {Hk Hk' Hr Hr' : Hp} {a : Addr} {o : Ob} (f : Fx φ φ') (e : Same Hk Hk') (g : ∀ u, Hr a = some u → Hr' a = some u) (h : OR K wd φ Hk Hr a o) : OR K wd φ' Hk' Hr' a o := by
  cases o with
  | lst ws => obtain ⟨vs, h, r⟩ := h; exact ⟨vs, g _ h, VRs.mono f e r⟩
  | dic kvs => obtain ⟨es, h, r⟩ := h; exact ⟨es, g _ h, r.mono f e⟩
  | st => obtain ⟨s, t, h⟩ := h; exact ⟨s, t, g _ h⟩
  | nums => obtain ⟨ns, h, r⟩ := h; exact ⟨ns, g _ h, r⟩
  | ins c fs => exact h.elim
theorem OR.mono2 {K : PySem.W.Frag} {wd : World} {φ φ' : List Addr} {Hk Hk' Hr Hr' : Hp} {a : Addr} {o : Ob} (f : Fx φ φ') (e : Same Hk Hk') (g : Hr' a = Hr a) (h : OR K wd φ Hk Hr a o) : OR K wd φ' Hk' Hr' a o := h.mono f e fun u hu => by rw [g]; exact hu
/-- Ho: what stands outside and does not change; Hk: what is known and never changes; Hr: all that stands -/
structure Ok (K : PySem.W.Frag) (wd : World) (φ : List Addr) (hs : Hs) (Ho Hk Hr : Hp) : Prop where
  kr : Same Hk Hr
  out : Same Ho Hr
  len : φ.length = hs.nx
  low : ∀ i o, hs.get i = some o → i < hs.nx
  obj : ∀ i o, hs.get i = some o → ∃ a, φ[i]? = some a ∧ Hk a = none ∧ Ho a = none ∧ OR K wd φ Hk Hr a o
  inj : ∀ (i j : Nat) (a : Addr), hs.get i ≠ none → hs.get j ≠ none → φ[i]? = some a → φ[j]? = some a → i = j
  dis : ∀ (b : Addr) (o : HO), Ho b = some o → Hk b = none
/-- what may come behind -/
structure Ex (φ : List Addr) (Hk : Hp) (φ' : List Addr) (Hk' : Hp) : Prop where
  f : Fx φ φ'
  k : Same Hk Hk'
theorem Ex.refl {φ : List Addr} {Hk : Hp} : Ex φ Hk φ Hk := ⟨Fx.refl, Same.refl _⟩
theorem Ex.trans {φ φ' φ'' : List Addr} {Hk Hk' Hk'' : Hp} (a : Ex φ Hk φ' Hk') (b : Ex φ' Hk' φ'' Hk'') : Ex φ Hk φ'' Hk'' := ⟨a.f.trans b.f, a.k.trans b.k⟩
theorem VR.ex {K : PySem.W.Frag} {wd : World} {φ φ' : List Addr} {Hk Hk' : Hp} {w : W} {v : V} (h : VR K wd φ Hk w v) (e : Ex φ Hk φ' Hk') : VR K wd φ' Hk' w v := h.mono e.f e.k
theorem VRs.ex {K : PySem.W.Frag} {wd : World} {φ φ' : List Addr} {Hk Hk' : Hp} {w : List W} {v : List V} (h : VRs K wd φ Hk w v) (e : Ex φ Hk φ' Hk') : VRs K wd φ' Hk' w v := h.mono e.f e.k
theorem Ex.gro {φ : List Addr} {Hk Hr H2 : Hp} (kr : Same Hk Hr) : Ex φ Hk φ (gro Hk Hr H2) := ⟨Fx.refl, gro_same kr⟩
theorem beq_self (i : Nat) : Nat.beq i i = true := Nat.beq_refl i
theorem beq_ne {i j : Nat} (h : i ≠ j) : Nat.beq i j = false := by
  cases q : Nat.beq i j with
  | false => rfl
  | true => exact absurd (Nat.eq_of_beq_eq_true q) h
theorem get_new_self {h : Hs} {o : Ob} : (h.new o).get h.nx = some o := by
  show (match Nat.beq h.nx h.nx with | true => some o | false => getO h.nx h.os) = some o
  rw [beq_self]
theorem get_new_ne {h : Hs} {o : Ob} {i : Nat} (e : i ≠ h.nx) : (h.new o).get i = h.get i := by
  show (match Nat.beq i h.nx with | true => some o | false => getO i h.os) = _
  rw [beq_ne e]
  rfl
theorem getO_set_self {i : Nat} {o u : Ob} : ∀ {l : List (Nat × Ob)}, getO i l = some u → getO i (setO i o l) = some o
  | [], h => by cases h
  | (j, x) :: r, h => by
    unfold setO
    unfold getO at h
    cases q : Nat.beq i j with
    | true => simp only [getO, q]
    | false =>
      rw [q] at h
      simp only [getO, q]
      exact getO_set_self h
theorem getO_set_ne {i k : Nat} {o : Ob} (e : k ≠ i) : ∀ {l : List (Nat × Ob)}, getO k (setO i o l) = getO k l
  | [] => rfl
  | (j, x) :: r => by
    unfold setO
    cases q : Nat.beq i j with
    | true =>
      have : i = j := Nat.eq_of_beq_eq_true q
      subst this
      simp only [getO, beq_ne e]
    | false =>
      simp only [getO]
      rw [getO_set_ne e]
theorem getO_del_self {i : Nat} : ∀ {l : List (Nat × Ob)}, getO i (delO i l) = none
  | [] => rfl
  | (j, x) :: r => by
    unfold delO
    cases q : Nat.beq i j with
    | true => exact getO_del_self
    | false =>
      simp only [getO, q]
      exact getO_del_self
theorem getO_del_ne {i k : Nat} (e : k ≠ i) : ∀ {l : List (Nat × Ob)}, getO k (delO i l) = getO k l
  | [] => rfl
  | (j, x) :: r => by
    unfold delO
    cases q : Nat.beq i j with
    | true =>
      have : i = j := Nat.eq_of_beq_eq_true q
      subst this
      simp only [getO, beq_ne e]
      exact getO_del_ne e
    | false =>
      simp only [getO]
      rw [getO_del_ne e]
section
variable {K : PySem.W.Frag} {wd : World} {φ : List Addr} {hs : Hs} {Ho Hk Hr H2 : Hp}
theorem Ok.gro (I : Ok K wd φ hs Ho Hk Hr) (e : Same Hr H2) : Ok K wd φ hs Ho (gro Hk Hr H2) H2 where
  kr := gro_in I.kr e
  out := I.out.trans e
  len := I.len
  low := I.low
  obj := fun i o h => by
    obtain ⟨a, q1, q2, q3, q4⟩ := I.obj i o h
    obtain ⟨u, q5⟩ := q4.there
    exact ⟨a, q1, by rw [gro_old q5]; exact q2, q3, q4.mono Fx.refl (gro_same I.kr) fun u hu => e _ _ hu⟩
  inj := I.inj
  dis := fun b o h => by rw [gro_old (I.out _ _ h)]; exact I.dis b o h
/-- a new thing -/
theorem Ok.new (I : Ok K wd φ hs Ho Hk Hr) {p : Addr} {o : Ob} (np : Hr p = none) (e : Same Hr H2) (ho : OR K wd (φ ++ [p]) Hk H2 p o) : Ok K wd (φ ++ [p]) (hs.new o) Ho Hk H2 := by
  have nk : Hk p = none := by
    cases q : Hk p with
    | none => rfl
    | some u => rw [I.kr _ _ q] at np; cases np
  have no : Ho p = none := by
    cases q : Ho p with
    | none => rfl
    | some u => rw [I.out _ _ q] at np; cases np
  have far : ∀ (i : Nat) (a : Addr), hs.get i ≠ none → φ[i]? = some a → a ≠ p := fun i a h q z => by
    cases g : hs.get i with
    | none => exact h g
    | some u =>
      obtain ⟨b, q1, _, _, q4⟩ := I.obj i u g
      rw [q] at q1
      cases q1
      obtain ⟨u, q5⟩ := q4.there
      rw [z, np] at q5
      cases q5
  have lst : (φ ++ [p])[hs.nx]? = some p := by rw [← I.len]; simp
  have old : ∀ (i : Nat) (a : Addr), i ≠ hs.nx → (hs.new o).get i ≠ none → (φ ++ [p])[i]? = some a → hs.get i ≠ none ∧ φ[i]? = some a := fun i a h1 h2 h3 => by
    rw [get_new_ne h1] at h2
    refine ⟨h2, ?_⟩
    cases g : hs.get i with
    | none => exact absurd g h2
    | some u =>
      have := I.low i u g
      rw [List.getElem?_append_left (by rw [I.len]; exact this)] at h3
      exact h3
  refine ⟨I.kr.trans e, I.out.trans e, ?_, fun i u h => ?_, fun i u h => ?_, fun i j a hi hj h1 h2 => ?_, ?_⟩
  · rw [List.length_append, I.len]; rfl
  · by_cases q : i = hs.nx
    · rw [q]; exact Nat.lt_succ_self _
    · rw [get_new_ne q] at h
      exact Nat.lt_succ_of_lt (I.low i u h)
  · by_cases q : i = hs.nx
    · subst q
      rw [get_new_self] at h
      cases h
      exact ⟨p, lst, nk, no, ho⟩
    · rw [get_new_ne q] at h
      obtain ⟨a, q1, q2, q3, q4⟩ := I.obj i u h
      exact ⟨a, Fx.app i a q1, q2, q3, q4.mono Fx.app (Same.refl _) fun u hu => e _ _ hu⟩
  · by_cases q1 : i = hs.nx
    · by_cases q2 : j = hs.nx
      · rw [q1, q2]
      · exfalso
        obtain ⟨g1, g2⟩ := old j a q2 hj h2
        rw [q1, lst] at h1
        cases h1
        exact far j _ g1 g2 rfl
    · obtain ⟨g1, g2⟩ := old i a q1 hi h1
      by_cases q2 : j = hs.nx
      · exfalso
        rw [q2, lst] at h2
        cases h2
        exact far i _ g1 g2 rfl
      · obtain ⟨g3, g4⟩ := old j a q2 hj h2
        exact I.inj i j a g1 g3 g2 g4
  · exact I.dis
/-- a thing changes -/
theorem Ok.put (I : Ok K wd φ hs Ho Hk Hr) {i : Nat} {o o' : Ob} {a : Addr} {u : HO} (h : hs.get i = some o) (ha : φ[i]? = some a) (ho : OR K wd φ Hk (upd Hr a u) a o') : Ok K wd φ (hs.put i o') Ho Hk (upd Hr a u) := by
  obtain ⟨b, q1, q2, q3, q4⟩ := I.obj i o h
  rw [ha] at q1
  cases q1
  have gs : (hs.put i o').get i = some o' := getO_set_self h
  have gn : ∀ j, j ≠ i → (hs.put i o').get j = hs.get j := fun j e => getO_set_ne e
  have gz : ∀ j, (hs.put i o').get j ≠ none → hs.get j ≠ none := fun j e => by
    by_cases q : j = i
    · rw [q, h]; exact fun z => nomatch z
    · rw [gn j q] at e; exact e
  refine ⟨fun b v g => ?_, fun b v g => ?_, I.len, fun j v g => ?_, fun j v g => ?_, fun j k b hj hk h1 h2 => I.inj j k b (gz j hj) (gz k hk) h1 h2, I.dis⟩
  · rw [upd_ne (ne_of_none g q2)]; exact I.kr _ _ g
  · rw [upd_ne (ne_of_none g q3)]; exact I.out _ _ g
  · by_cases q : j = i
    · rw [q]; exact I.low i o h
    · rw [gn j q] at g; exact I.low j v g
  · by_cases q : j = i
    · subst q
      rw [gs] at g
      cases g
      exact ⟨a, ha, q2, q3, ho⟩
    · rw [gn j q] at g
      obtain ⟨b, r1, r2, r3, r4⟩ := I.obj j v g
      refine ⟨b, r1, r2, r3, r4.mono Fx.refl (Same.refl _) fun v hv => ?_⟩
      rw [upd_ne fun z => ?_]
      · exact hv
      · subst z
        exact q (I.inj j i b (by rw [g]; exact fun z => nomatch z) (by rw [h]; exact fun z => nomatch z) r1 ha)
/-- a list is not changed any more -/
theorem Ok.fix (I : Ok K wd φ hs Ho Hk Hr) {i : Nat} {ws : List W} (h : hs.get i = some (.lst ws)) : ∃ a Hk', φ[i]? = some a ∧ Same Hk Hk' ∧ Ok K wd φ (hs.del i) Ho Hk' Hr ∧ VR K wd φ Hk' (mkL ws) (.ref a) := by
  obtain ⟨a, q1, q2, q3, vs, q4, q5⟩ := I.obj i _ h
  have e : Same Hk (upd Hk a (.lst vs)) := new_same q2 _
  have gn : ∀ j, j ≠ i → (hs.del i).get j = hs.get j := fun j e => getO_del_ne e
  have gi : (hs.del i).get i = none := getO_del_self
  have gz : ∀ j, (hs.del i).get j ≠ none → j ≠ i ∧ hs.get j ≠ none := fun j e => by
    by_cases q : j = i
    · rw [q] at e; exact absurd gi e
    · rw [gn j q] at e; exact ⟨q, e⟩
  refine ⟨a, upd Hk a (.lst vs), q1, e, ⟨fun b v g => ?_, I.out, I.len, fun j v g => ?_, fun j v g => ?_, fun j k b hj hk h1 h2 => I.inj j k b (gz j hj).2 (gz k hk).2 h1 h2, fun b v g => by
    by_cases z : b = a
    · subst z; rw [q3] at g; cases g
    · rw [upd_ne z]; exact I.dis b v g⟩, VR.mkL (.inl (.inl upd_same)) (VRs.mono Fx.refl e q5)⟩
  · by_cases q : b = a
    · subst q
      rw [upd_same] at g
      rw [q4]; exact g
    · rw [upd_ne q] at g
      exact I.kr _ _ g
  · have z := gz j (by rw [g]; exact fun z => nomatch z)
    rw [gn j z.1] at g
    exact I.low j v g
  · have z := gz j (by rw [g]; exact fun z => nomatch z)
    rw [gn j z.1] at g
    obtain ⟨b, r1, r2, r3, r4⟩ := I.obj j v g
    refine ⟨b, r1, ?_, r3, r4.mono Fx.refl e fun v hv => hv⟩
    rw [upd_ne fun w => ?_]
    · exact r2
    · subst w
      exact z.1 (I.inj j i b z.2 (by rw [h]; exact fun z => nomatch z) r1 q1)
/-- a thing is not changed any more -/
theorem Ok.fix1 (I : Ok K wd φ hs Ho Hk Hr) {i : Nat} {o : Ob} {a : Addr} (u : HO) (h : hs.get i = some o) (q1 : φ[i]? = some a) : Same Hk (upd Hk a u) ∧ Ok K wd φ (hs.del i) Ho (upd Hk a u) (upd Hr a u) := by
  obtain ⟨a', q1', q2, q3, _⟩ := I.obj i _ h
  rw [q1] at q1'
  cases q1'
  have e : Same Hk (upd Hk a u) := new_same q2 _
  have gn : ∀ j, j ≠ i → (hs.del i).get j = hs.get j := fun j e => getO_del_ne e
  have gi : (hs.del i).get i = none := getO_del_self
  have gz : ∀ j, (hs.del i).get j ≠ none → j ≠ i ∧ hs.get j ≠ none := fun j e => by
    by_cases q : j = i
    · rw [q] at e; exact absurd gi e
    · rw [gn j q] at e; exact ⟨q, e⟩
  refine ⟨e, ⟨fun b v g => ?_, fun b v g => ?_, I.len, fun j v g => ?_, fun j v g => ?_, fun j k b hj hk h1 h2 => I.inj j k b (gz j hj).2 (gz k hk).2 h1 h2, fun b v g => by
    by_cases z : b = a
    · subst z; rw [q3] at g; cases g
    · rw [upd_ne z]; exact I.dis b v g⟩⟩
  · by_cases q : b = a
    · subst q
      rw [upd_same] at g ⊢
      exact g
    · rw [upd_ne q] at g ⊢
      exact I.kr _ _ g
  · rw [upd_ne (ne_of_none g q3)]
    exact I.out _ _ g
  · have z := gz j (by rw [g]; exact fun z => nomatch z)
    rw [gn j z.1] at g
    exact I.low j v g
  · have z := gz j (by rw [g]; exact fun z => nomatch z)
    rw [gn j z.1] at g
    obtain ⟨b, r1, r2, r3, r4⟩ := I.obj j v g
    have ne : b ≠ a := fun w => by
      subst w
      exact z.1 (I.inj j i b z.2 (by rw [h]; exact fun z => nomatch z) r1 q1)
    refine ⟨b, r1, by rw [upd_ne ne]; exact r2, r3, ?_⟩
    obtain ⟨x, hx⟩ := r4.there
    exact r4.mono2 Fx.refl e (by rw [upd_ne ne])
/-- what stands outside, more of it -/
theorem Ok.outer (I : Ok K wd φ hs Ho Hk Hr) {p : Addr} {u : HO} (np : Hr p = none) : Ok K wd φ hs (upd Ho p u) Hk (upd Hr p u) := by
  have nk : Hk p = none := by
    cases q : Hk p with
    | none => rfl
    | some v => rw [I.kr _ _ q] at np; cases np
  have e : Same Hr (upd Hr p u) := new_same np _
  refine ⟨I.kr.trans e, fun b v g => ?_, I.len, I.low, fun j v g => ?_, I.inj, fun b v g => ?_⟩
  · by_cases q : b = p
    · subst q
      rw [upd_same] at g ⊢
      exact g
    · rw [upd_ne q] at g ⊢
      exact I.out _ _ g
  · obtain ⟨b, r1, r2, r3, r4⟩ := I.obj j v g
    obtain ⟨x, hx⟩ := r4.there
    have ne : b ≠ p := fun z => by rw [z, np] at hx; cases hx
    exact ⟨b, r1, r2, by rw [upd_ne ne]; exact r3, r4.mono Fx.refl (Same.refl _) fun v hv => e _ _ hv⟩
  · by_cases q : b = p
    · rw [q]; exact nk
    · rw [upd_ne q] at g
      exact I.dis b v g
end
end Hx
noncomputable section
namespace Hx
open PySem L2 Pd Gn PySem.Spec PyProof.Rows
abbrev Rho := List (Option W)
structure SR (K : PySem.W.Frag) (wd : World) (φ : List Addr) (Hk : Hp) (ρ : Rho) (σ : L2.St) : Prop where
  len : ρ.length = σ.length
  at_ : ∀ (i : Nat) (w : W), ρ[i]? = some (some w) → ∃ v, σ[i]? = some (some v) ∧ VR K wd φ Hk w v
section
variable {K : PySem.W.Frag} {wd : World} {φ φ' : List Addr} {Hk Hk' : Hp} {ρ : Rho} {σ : L2.St} {w : W} {v : V}
theorem SR.ex (R : SR K wd φ Hk ρ σ) (e : Ex φ Hk φ' Hk') : SR K wd φ' Hk' ρ σ := ⟨R.len, fun i w h => by
  obtain ⟨v, q1, q2⟩ := R.at_ i w h
  exact ⟨v, q1, q2.ex e⟩⟩
theorem SR.set (R : SR K wd φ Hk ρ σ) {n : Nat} (h : VR K wd φ Hk w v) : SR K wd φ Hk (ρ.set n (some w)) (σ.set n (some v)) := ⟨by simp [R.len], fun i u q => by
  by_cases e : n = i
  · subst e
    have hl : n < ρ.length := by simpa using (List.getElem?_eq_some_iff.mp q).1
    rw [List.getElem?_set_self hl] at q
    cases q
    exact ⟨v, by rw [List.getElem?_set_self (by rw [← R.len]; exact hl)], h⟩
  · rw [List.getElem?_set_ne e] at q ⊢
    exact R.at_ i u q⟩
/-- fewer slots known, others changed -/
theorem SR.sub {ρ' : Rho} {σ' : L2.St} (R : SR K wd φ Hk ρ σ) (hl : ρ'.length = σ'.length) (h : ∀ (i : Nat) (w : W), ρ'[i]? = some (some w) → ρ[i]? = some (some w) ∧ σ'[i]? = σ[i]?) : SR K wd φ Hk ρ' σ' := ⟨hl, fun i u q => by
  obtain ⟨q1, q2⟩ := h i u q
  obtain ⟨v, r1, r2⟩ := R.at_ i u q1
  exact ⟨v, q2.trans r1, r2⟩⟩
theorem SR.no (R : SR K wd φ Hk ρ σ) {n : Nat} : SR K wd φ Hk (ρ.set n none) σ := R.sub (by simp [R.len]) fun i w q => ⟨by
  by_cases e : n = i
  · subst e
    have hl : n < ρ.length := by simpa using (List.getElem?_eq_some_iff.mp q).1
    rw [List.getElem?_set_self hl] at q
    cases q
  · rw [List.getElem?_set_ne e] at q
    exact q, rfl⟩
end
/-! ### errors -/
def xName : Nat → Str
  | 0 => "Refused"
  | 1 => "NoText"
  | 2 => "Malformed"
  | 3 => "ZeroDivisor"
  | _ => "Fault"
def xFld : Nat → Option Str
  | 0 => some "reason"
  | 1 => some "at"
  | _ => none
def XA (K : PySem.W.Frag) (mg : Str → Option Value) (x : Xc) (C : Addr) (d : Option Addr) (Hr : Hp) : Prop := mg (xName x.c) = some (.ref C) ∧ match xFld x.c with
  | some f => ∃ dd v, d = some dd ∧ Hr dd = some (.xd [(f, v)]) ∧ Dp K Hr v x.d
  | none => d = none
/-- where one stands -/
structure Pt (X : Cx) (Wx : WX) (E : Xc → Hs → Prop) (ρ : Rho) (hs : Hs) (φ : List Addr) (Ho Hk Hr : Hp) (σ : L2.St) : Prop where
  tk : L2.Takes X Wx
  I : Ok X.K X.w φ hs Ho Hk Hr
  R : SR X.K X.w φ Hk ρ σ
  x : ∀ x hs' C d φ' Hk' Hr', E x hs' → Ok X.K X.w φ' hs' Ho Hk' Hr' → Ex φ Hk φ' Hk' → XA X.K X.mg x C d Hr' → Wx (.ref C) d σ Hr'
theorem Pt.go {X : Cx} {Wx : WX} {E : Xc → Hs → Prop} {ρ : Rho} {hs hs' : Hs} {φ φ' : List Addr} {Ho Hk Hk' Hr Hr' : Hp} {σ : L2.St} (p : Pt X Wx E ρ hs φ Ho Hk Hr σ) (I : Ok X.K X.w φ' hs' Ho Hk' Hr') (e : Ex φ Hk φ' Hk') : Pt X Wx E ρ hs' φ' Ho Hk' Hr' σ :=
  ⟨p.tk, I, p.R.ex e, fun x hs'' C d φ'' Hk'' Hr'' h I' e' => p.x x hs'' C d φ'' Hk'' Hr'' h I' (e.trans e')⟩
def EM (X : Cx) (e : Expr) (ρ : Rho) (m : M W) : Prop :=
  ∀ {Wx : WX} {E : Xc → Hs → Prop} {P : W → Hs → Prop} {hs : Hs} {φ : List Addr} {Ho Hk Hr : Hp} {σ : L2.St}, Pt X Wx E ρ hs φ Ho Hk Hr σ → (m hs).sat P E →
    ∀ Q : VK, (∀ w hs' v φ' Hk' Hr', P w hs' → Pt X Wx E ρ hs' φ' Ho Hk' Hr' σ → Ex φ Hk φ' Hk' → VR X.K X.w φ' Hk' w v → Q v Hr') → sE X e σ Hr Q
def AM (X : Cx) (es : List Expr) (ρ : Rho) (m : M (List W)) : Prop :=
  ∀ {Wx : WX} {E : Xc → Hs → Prop} {P : List W → Hs → Prop} {hs : Hs} {φ : List Addr} {Ho Hk Hr : Hp} {σ : L2.St}, Pt X Wx E ρ hs φ Ho Hk Hr σ → (m hs).sat P E →
    ∀ Q : List V → Hp → Prop, (∀ w hs' v φ' Hk' Hr', P w hs' → Pt X Wx E ρ hs' φ' Ho Hk' Hr' σ → Ex φ Hk φ' Hk' → VRs X.K X.w φ' Hk' w v → Q v Hr') → sA X es σ Hr Q
def TM (X : Cx) (e : Expr) (ρ : Rho) (m : M Bool) : Prop :=
  ∀ {Wx : WX} {E : Xc → Hs → Prop} {P : Bool → Hs → Prop} {hs : Hs} {φ : List Addr} {Ho Hk Hr : Hp} {σ : L2.St}, Pt X Wx E ρ hs φ Ho Hk Hr σ → (m hs).sat P E →
    ∀ Q : Bool → Hp → Prop, (∀ w hs' φ' Hk' Hr', P w hs' → Pt X Wx E ρ hs' φ' Ho Hk' Hr' σ → Ex φ Hk φ' Hk' → Q w Hr') → sT X e σ Hr Q
def WM (X : Cx) (e : Expr) (ρ : Rho) (m : M Bool) : Prop :=
  ∀ {Wx : WX} {E : Xc → Hs → Prop} {P : Bool → Hs → Prop} {hs : Hs} {φ : List Addr} {Ho Hk Hr : Hp} {σ : L2.St}, Pt X Wx E ρ hs φ Ho Hk Hr σ → (m hs).sat P E →
    ∀ Q : Bool → Hp → Prop, (∀ w hs' φ' Hk' Hr', P w hs' → Pt X Wx E ρ hs' φ' Ho Hk' Hr' σ → Ex φ Hk φ' Hk' → Q w Hr') → sW X e σ Hr Q
/-- a new list -/
def LM (X : Cx) (e : Expr) (ρ : Rho) (m : M (List W)) : Prop :=
  ∀ {Wx : WX} {E : Xc → Hs → Prop} {P : List W → Hs → Prop} {hs : Hs} {φ : List Addr} {Ho Hk Hr : Hp} {σ : L2.St}, Pt X Wx E ρ hs φ Ho Hk Hr σ → (m hs).sat P E →
    ∀ Q : VK, (∀ ws hs' p vs φ' Hk' Hr', P ws hs' → Ok X.K X.w φ' hs' (upd Ho p (.lst vs)) Hk' Hr' → Ho p = none → Hk' p = none → Ex φ Hk φ' Hk' → VRs X.K X.w φ' Hk' ws vs → Q (.ref p) Hr') → sE X e σ Hr Q
section
variable {K : PySem.W.Frag} {wd : World} {φ : List Addr} {hs : Hs} {Ho Hk Hr H2 : Hp} {p : Addr} {vs : List V} {ws : List W}
theorem same_upd (h : Ho p = none) {u : HO} : Same Ho (upd Ho p u) := new_same h u
theorem Ok.claimF (I : Ok K wd φ hs (upd Ho p (.lst vs)) Hk Hr) (no : Ho p = none) (nk : Hk p = none) (h : VRs K wd φ Hk ws vs) : Ok K wd φ hs Ho (upd Hk p (.lst vs)) Hr ∧ Ex φ Hk φ (upd Hk p (.lst vs)) ∧ VR K wd φ (upd Hk p (.lst vs)) (mkL ws) (.ref p) := by
  have e : Same Hk (upd Hk p (.lst vs)) := new_same nk _
  have hp : Hr p = some (.lst vs) := I.out _ _ upd_same
  refine ⟨⟨fun b u g => ?_, fun b u g => I.out _ _ (same_upd no b u g), I.len, I.low, fun i o g => ?_, I.inj, fun b u g => ?_⟩, ⟨Fx.refl, e⟩, VR.mkL (.inl (.inl upd_same)) (h.mono Fx.refl e)⟩
  · by_cases q : b = p
    · subst q
      rw [upd_same] at g
      rw [hp]; exact g
    · rw [upd_ne q] at g
      exact I.kr _ _ g
  · obtain ⟨a, q1, q2, q3, q4⟩ := I.obj i o g
    have ne : a ≠ p := fun z => by rw [z, upd_same] at q3; cases q3
    rw [upd_ne ne] at q3
    exact ⟨a, q1, by rw [upd_ne ne]; exact q2, q3, q4.mono Fx.refl e fun _ h => h⟩
  · by_cases q : b = p
    · subst q; rw [no] at g; cases g
    · rw [upd_ne q]; exact I.dis b u (same_upd no b u g)
theorem Ok.claimN (I : Ok K wd φ hs (upd Ho p (.lst vs)) Hk Hr) (no : Ho p = none) (nk : Hk p = none) (h : VRs K wd φ Hk ws vs) : Ok K wd (φ ++ [p]) (hs.new (.lst ws)) Ho Hk Hr ∧ Ex φ Hk (φ ++ [p]) Hk ∧ VR K wd (φ ++ [p]) Hk (.ref hs.nx) (.ref p) := by
  have hp : Hr p = some (.lst vs) := I.out _ _ upd_same
  have lst : (φ ++ [p])[hs.nx]? = some p := by rw [← I.len]; simp
  have far : ∀ (i : Nat) (a : Addr), hs.get i ≠ none → φ[i]? = some a → a ≠ p := fun i a h q z => by
    cases g : hs.get i with
    | none => exact h g
    | some u =>
      obtain ⟨b, q1, _, q3, _⟩ := I.obj i u g
      rw [q] at q1
      cases q1
      rw [z, upd_same] at q3
      cases q3
  have old : ∀ (i : Nat) (a : Addr), i ≠ hs.nx → (hs.new (.lst ws)).get i ≠ none → (φ ++ [p])[i]? = some a → hs.get i ≠ none ∧ φ[i]? = some a := fun i a h1 h2 h3 => by
    rw [get_new_ne h1] at h2
    refine ⟨h2, ?_⟩
    cases g : hs.get i with
    | none => exact absurd g h2
    | some u =>
      have := I.low i u g
      rw [List.getElem?_append_left (by rw [I.len]; exact this)] at h3
      exact h3
  refine ⟨⟨I.kr, fun b u g => I.out _ _ (same_upd no b u g), ?_, fun i u h => ?_, fun i u g => ?_, fun i j a hi hj h1 h2 => ?_, fun b u g => I.dis b u (same_upd no b u g)⟩, ⟨Fx.app, Same.refl _⟩, .ref lst⟩
  · rw [List.length_append, I.len]; rfl
  · by_cases q : i = hs.nx
    · rw [q]; exact Nat.lt_succ_self _
    · rw [get_new_ne q] at h
      exact Nat.lt_succ_of_lt (I.low i u h)
  · by_cases q : i = hs.nx
    · subst q
      rw [get_new_self] at g
      cases g
      exact ⟨p, lst, nk, no, vs, hp, h.mono Fx.app (Same.refl _)⟩
    · rw [get_new_ne q] at g
      obtain ⟨a, q1, q2, q3, q4⟩ := I.obj i u g
      have ne : a ≠ p := fun z => by rw [z, upd_same] at q3; cases q3
      rw [upd_ne ne] at q3
      exact ⟨a, Fx.app i a q1, q2, q3, q4.mono Fx.app (Same.refl _) fun u hu => hu⟩
  · by_cases q1 : i = hs.nx
    · by_cases q2 : j = hs.nx
      · rw [q1, q2]
      · exfalso
        obtain ⟨g1, g2⟩ := old j a q2 hj h2
        rw [q1, lst] at h1
        cases h1
        exact far j _ g1 g2 rfl
    · obtain ⟨g1, g2⟩ := old i a q1 hi h1
      by_cases q2 : j = hs.nx
      · exfalso
        rw [q2, lst] at h2
        cases h2
        exact far i _ g1 g2 rfl
      · obtain ⟨g3, g4⟩ := old j a q2 hj h2
        exact I.inj i j a g1 g3 g2 g4
end
def frzW (m : M (List W)) : M W := bd m fun ws => rt (mkL ws)
def ownW (m : M (List W)) : M W := bd m fun ws => fun h => .ok (.ref h.nx) (h.new (.lst ws))
/-- what is read as data: a list of the mirror's heap by its items -/
def viewR (i : Nat) : Option Ob → W
  | some (.lst ws) => mkL ws
  | _ => .ref i
def view (h : Hs) : W → W
  | .ref i => viewR i (h.get i)
  | w => w
def scal : W → Bool
  | .dat .none => true
  | .dat (.bool _) => true
  | .dat (.int _) => true
  | .dat (.str _) => true
  | _ => false
section
variable {K : PySem.W.Frag} {wd : World} {φ φ' : List Addr} {hs : Hs} {Ho Hk Hr H H' : Hp} {w : W} {v : V}
theorem VR.view (I : Ok K wd φ hs Ho Hk Hr) (h : VR K wd φ Hk w v) : VR K wd φ Hr (view hs w) v := by
  cases w with
  | ref i =>
    show VR K wd φ Hr (viewR i (hs.get i)) v
    cases g : hs.get i with
    | none => exact h.mono Fx.refl I.kr
    | some o =>
      cases o with
      | lst ws =>
        cases h with
        | ref ha =>
          obtain ⟨a, q1, q2, q3, vs, q4, q5⟩ := I.obj i _ g
          rw [ha] at q1
          cases q1
          exact VR.mkL (.inl (.inl q4)) (q5.mono Fx.refl I.kr)
      | _ => exact h.mono Fx.refl I.kr
  | _ => exact h.mono Fx.refl I.kr
theorem VRs.view (I : Ok K wd φ hs Ho Hk Hr) : ∀ {ws : List W} {vs : List V}, VRs K wd φ Hk ws vs → VRs K wd φ Hr (ws.map (Hx.view hs)) vs
  | _, _, .nil => .nil
  | _, _, .cons h g => .cons (VR.view I h) (VRs.view I g)
theorem VR.scal (s : scal w = true) (h : VR K wd φ H w v) : VR K wd φ' H' w v := by
  unfold Hx.scal at s
  split at s
  · cases h with | dat h => cases h; exact .dat .non
  · cases h with | dat h => cases h; exact .dat (.bl _)
  · cases h with | dat h => cases h; exact .dat (.int _)
  · cases h with | dat h => cases h; exact .dat (.str _)
  · cases s
end
/-! ### operations by values -/
def wOp (X : Cx) (f : Value → Value → Sem Value) : R2 := fun x y H Q => ∀ (pins : List (Addr × Obj)) (s : Shared) (σ : L2.St) (v u : Value), Inv X pins σ H s → RelV x v → RelV y u → wpAny (model X.prog X.w) X.A (f v u) (EP X pins σ Q) X.xe s
theorem wOp_r {X : Cx} {f : Value → Value → Sem Value} : OpR X f (wOp X f) := fun pins s σ H x y v u Q I rx ry h => h pins s σ v u I rx ry
theorem wOp_of {X : Cx} {f : Value → Value → Sem Value} {r : R2} (h : OpR X f r) {x y : V} {H : Hp} {Q : VK} (q : r x y H Q) : wOp X f x y H Q := fun pins s σ v u I rx ry => h pins s σ H x y v u Q I rx ry q
def wCall (X : Cx) (f : Value) : List V → Hp → VK → Prop := fun xs H Q => ∀ (pins : List (Addr × Obj)) (s : Shared) (σ : L2.St) (us : List Value), Inv X pins σ H s → Vals xs us → wpAny (model X.prog X.w) X.A (call f us) (EP X pins σ Q) X.xe s
theorem wCall_r {X : Cx} {f : Value} : CallR X f (wCall X f) := fun pins s σ H xs us Q I r h => h pins s σ us I r
theorem wCall_of {X : Cx} {f : Value} {r : List V → Hp → VK → Prop} (h : CallR X f r) {xs : List V} {H : Hp} {Q : VK} (q : r xs H Q) : wCall X f xs H Q := fun pins s σ us I rv => h pins s σ H xs us Q I rv q
def wIx (X : Cx) : R2 := fun x y H Q => ∀ (value slice : Expr) (pins : List (Addr × Obj)) (s : Shared) (σ : L2.St) (v u : Value), Inv X pins σ H s → RelV x v → RelV y u → subscripted slice false v u = operate [v, u] (getItem v u) → wpAny (model X.prog X.w) X.A (subscriptTail value slice v u) (EP X pins σ Q) X.xe s
theorem wIx_r {X : Cx} : IxR X (wIx X) := fun value slice pins s σ H x y v u Q I rx ry h hs => h value slice pins s σ v u I rx ry hs
theorem wIx_of {X : Cx} {r : R2} (h : IxR X r) {x y : V} {H : Hp} {Q : VK} (q : r x y H Q) : wIx X x y H Q := fun value slice pins s σ v u I rx ry hs => h value slice pins s σ H x y v u Q I rx ry q hs
def wUn (X : Cx) (f : Value → Sem Value) : V → Hp → VK → Prop := fun x H Q => ∀ (pins : List (Addr × Obj)) (s : Shared) (σ : L2.St) (v : Value), Inv X pins σ H s → RelV x v → wpAny (model X.prog X.w) X.A (f v) (EP X pins σ Q) X.xe s
theorem wUn_r {X : Cx} {f : Value → Sem Value} : UnR X f (wUn X f) := fun pins s σ H x v Q I rx h => h pins s σ v I rx
theorem wUn_of {X : Cx} {f : Value → Sem Value} {r : V → Hp → VK → Prop} (h : UnR X f r) {x : V} {H : Hp} {Q : VK} (q : r x H Q) : wUn X f x H Q := fun pins s σ v I rx => h pins s σ H x v Q I rx q
def wSl (X : Cx) : V → Option Int → Option Int → Hp → VK → Prop := fun x lo hi H Q => ∀ (pins : List (Addr × Obj)) (s : Shared) (σ : L2.St) (v vl vu : Value) (sl : Addr), Inv X pins σ H s → RelV x v → s.heap.IsSliceOf sl vl vu .none → IsPart vl lo → IsPart vu hi →
  ∃ T id, typeLookup (.type T) "__getitem__" = pure (some (.builtin id)) ∧ s.TypeIs v T ∧ wpAny (model X.prog X.w) X.A (getItem v (.ref sl)) (EP X pins σ Q) X.xe s
theorem wSl_r {X : Cx} : SlR X (wSl X) := fun pins s σ H x v vl vu lo hi sl Q I rx hs pl pu h => h pins s σ v vl vu sl I rx hs pl pu
theorem wSl_of {X : Cx} {r : V → Option Int → Option Int → Hp → VK → Prop} (h : SlR X r) {x : V} {lo hi : Option Int} {H : Hp} {Q : VK} (q : r x lo hi H Q) : wSl X x lo hi H Q := fun pins s σ v vl vu sl I rx hs pl pu => h pins s σ H x v vl vu lo hi sl Q I rx hs pl pu q
/-- what an operation on values gives -/
def RW (K : PySem.W.Frag) (wd : World) (r : R2) (x y w : W) : Prop := ∀ φ u v Hk Hr, Same Hk Hr → VR K wd φ Hk x u → VR K wd φ Hk y v → ∀ Q : VK, (∀ z H2, Same Hr H2 → VR K wd φ (gro Hk Hr H2) w z → Q z H2) → r u v Hr Q
def RWs (K : PySem.W.Frag) (wd : World) (r : List V → Hp → VK → Prop) (xs : List W) (w : W) : Prop := ∀ φ us Hk Hr, Same Hk Hr → VRs K wd φ Hk xs us → ∀ Q : VK, (∀ z H2, Same Hr H2 → VR K wd φ (gro Hk Hr H2) w z → Q z H2) → r us Hr Q
theorem rw_of {K : PySem.W.Frag} {wd : World} {r : R2} {a b d : PyData} (h : RD K r a b d) : RW K wd r (.dat a) (.dat b) (.dat d) := fun φ u v Hk Hr kr hu hv Q q => by
  cases hu with
  | dat hu =>
    cases hv with
    | dat hv => exact h u v Hk Hr kr hu hv Q fun z H2 e hz => q z H2 e (.dat hz)
theorem rws_of {K : PySem.W.Frag} {wd : World} {r : List V → Hp → VK → Prop} {ds : List PyData} {d : PyData} (h : RA K r ds d) : RWs K wd r (ds.map .dat) (.dat d) := fun φ us Hk Hr kr hu Q q => h us Hk Hr kr (VRs.dats hu) Q fun z H2 e hz => q z H2 e (.dat hz)
end Hx
noncomputable section
namespace Hx
open PySem L2 Pd Gn PySem.Spec PyProof.Rows
section
variable {X : Cx} {a b c e : Expr} {es rest : List Expr} {ρ : Rho} {m m1 m2 : M W} {ma : M (List W)} {ml : M (List W)} {mc mw mt : M Bool} {n k : Nat} {pos p0 p1 p2 : Pos} {x : Str} {w : W}
/-! names, constants -/
theorem em_c {v : V} {d : PyData} (h : PE X e (tC v)) (hv : ∀ H, Dp X.K H v d) : EM X e ρ (rt (.dat d)) := fun p s Q q => sE_of h (q _ _ v _ _ _ s p Ex.refl (.dat (hv _)))
theorem em_var (hN : X.N[n]? = some x) (hr : ρ[n]? = some (some w)) (hv : Vis X.env.scope x := by first | exact Or.inl rfl | exact Or.inr (Or.inl rfl) | exact Or.inr (Or.inr rfl)) (hd : (x == ("__debug__" : Str)) = false := by decide)
    (hcd : (x == ("__classdict__" : Str)) = false := by decide) : EM X (.Name x pos) ρ (rt w) := fun p s Q q => by
  obtain ⟨v, s1, h⟩ := p.R.at_ n w hr
  exact sE_of (pe_var hN hv hd hcd) ⟨v, s1, q _ _ v _ _ _ s p Ex.refl h⟩
theorem em_int {i : Int} : EM X (.Constant (.int i) n pos) ρ (rt (.dat (.int i))) := em_c pe_int fun _ => .int i
theorem em_bl {i : Bool} : EM X (.Constant (.bool i) n pos) ρ (rt (.dat (.bool i))) := em_c pe_bl fun _ => .bl i
theorem em_non : EM X (.Constant .none n pos) ρ (rt (.dat .none)) := em_c pe_non fun _ => .non
theorem em_str {z : Str} : EM X (.Constant (.str z) n pos) ρ (rt (.dat (.str z))) := em_c pe_str fun _ => .str z
theorem em_glob {u : Value} {i : Int} (hg : Gl X x) (hm : X.mg x = some u) (r : RelV (.int i) u) (hd : (x == ("__debug__" : Str)) = false := by decide) : EM X (.Name x pos) ρ (rt (.dat (.int i))) := em_c (pe_glob hg hm r hd) fun _ => .int i
theorem em_globS {u : Value} {i : Str} (hg : Gl X x) (hm : X.mg x = some u) (r : RelV (.str i) u) (hd : (x == ("__debug__" : Str)) = false := by decide) : EM X (.Name x pos) ρ (rt (.dat (.str i))) := em_c (pe_glob hg hm r hd) fun _ => .str i
/-! argument lists -/
def apM (m : M W) (ma : M (List W)) : M (List W) := bd m fun w => bd ma fun ws => rt (w :: ws)
theorem am_nil : AM X [] ρ (rt []) := fun p s Q q => sA_of pa_nil (q _ _ [] _ _ _ s p Ex.refl .nil)
theorem am_cons (ha : EM X e ρ m) (hr : AM X es ρ ma) (hs : starEach (e :: es) X.env = (false, eval e X.env) :: starEach es X.env := by rfl) : AM X (e :: es) ρ (apM m ma) := fun p s Q q =>
  sA_of (pa_cons pe_s pa_s hs) (ha p (sat_bind s) _ fun w h1 v φ1 Hk1 Hr1 s1 p1 e1 hv => hr p1 (sat_bind s1) _ fun ws h2 vs φ2 Hk2 Hr2 s2 p2 e2 hvs => q _ _ _ _ _ _ s2 p2 (e1.trans e2) (.cons (hv.ex e2) hvs))
/-! operators -/
def OF (X : Cx) (f : Value → Value → Sem Value) (F : W → W → Option W) : Prop := ∀ x y w, F x y = some w → ∃ r, OpR X f r ∧ RW X.K X.w r x y w
def binM (F : W → W → Option W) (m1 m2 : M W) : M W := bd m1 fun x => bd m2 fun y => lf (F x y)
theorem em_bin {op : Operator} {F : W → W → Option W} (hf : OF X (binaryOp op) F) (ha : EM X a ρ m1) (hb : EM X b ρ m2) : EM X (.BinOp a op b pos) ρ (binM F m1 m2) := fun p s Q q => by
  refine sE_of (pe_op wOp_r pe_s pe_s) (ha p (sat_bind s) _ fun x h1 u φ1 Hk1 Hr1 s1 p1 e1 hu => hb p1 (sat_bind s1) _ fun y h2 v φ2 Hk2 Hr2 s2 p2 e2 hv => ?_)
  obtain ⟨w, hw, s3⟩ := sat_lf s2
  obtain ⟨r, o, g⟩ := hf x y w hw
  exact wOp_of o (g φ2 u v Hk2 Hr2 p2.I.kr (hu.ex e2) hv Q fun z H2 e hz => q w _ z _ _ _ s3 (p2.go (p2.I.gro e) (Ex.gro p2.I.kr)) (e1.trans (e2.trans (Ex.gro p2.I.kr))) hz)
def l2 (f : PyData → PyData → Option PyData) : W → W → Option W
  | .dat x, .dat y => (f x y).map .dat
  | _, _ => none
theorem of_l2 {f : Value → Value → Sem Value} {F : PyData → PyData → Option PyData} (h : ∀ x y d, F x y = some d → ∃ r, OpR X f r ∧ RD X.K r x y d) : OF X f (l2 F) := fun x y w e => by
  unfold l2 at e
  split at e
  · obtain ⟨d, h1, h2⟩ := mpd e
    subst h2
    obtain ⟨r, o, g⟩ := h _ _ _ h1
    exact ⟨r, o, rw_of g⟩
  · cases e
theorem add_f : OF X (binaryOp .Add) (l2 pAddX) := of_l2 fun x y d h => by
  unfold pAddX at h
  split at h
  · obtain ⟨g1, g2⟩ := gd_some h
    cases g2
    exact ⟨_, op_catS, rd_catS (short_le g1)⟩
  · unfold pAdd at h
    split at h
    · cases h; exact ⟨_, op_add, rd_int0⟩
    · obtain ⟨g1, g2⟩ := gd_some h
      cases g2; exact ⟨_, op_catA, rd_cat (short_le g1)⟩
    · cases h
theorem sub_f : OF X (binaryOp .Sub) (l2 pSub) := of_l2 fun x y d h => by
  unfold pSub at h
  split at h
  · cases h; exact ⟨_, op_sub, rd_int0⟩
  · cases h
theorem em_mulF (ha : EM X a ρ m1) (hb : EM X b ρ m2) : True := trivial
def pFdiv : PyData → PyData → Option PyData
  | .int i, .int j => gd (decide (0 < j) && decide (j < 1000000)) (some (.int (i / j)))
  | _, _ => none
def pMod : PyData → PyData → Option PyData
  | .int i, .int j => gd (decide (0 < j)) (some (.int (i % j)))
  | _, _ => none
theorem fdiv_f : OF X (binaryOp .FloorDiv) (l2 pFdiv) := of_l2 fun x y d h => by
  unfold pFdiv at h
  split at h
  · obtain ⟨g1, g2⟩ := gd_some h
    rw [Bool.and_eq_true] at g1
    have h1 := of_decide_eq_true g1.1
    have h2 := of_decide_eq_true g1.2
    cases g2; exact ⟨_, op_fdiv, rd_int ⟨h1, by omega⟩⟩
  · cases h
theorem mod_f : OF X (binaryOp .Mod) (l2 pMod) := of_l2 fun x y d h => by
  unfold pMod at h
  split at h
  · obtain ⟨g1, g2⟩ := gd_some h
    cases g2; exact ⟨_, op_mod, rd_int (of_decide_eq_true g1)⟩
  · cases h
/-- i * j, (..) * n, [..] * n -/
def pMulX : PyData → PyData → Option PyData
  | .int i, .int j => gd (inR (-18446744073709551615) 18446744073709551615 i) (some (.int (i * j)))
  | .tuple ds, .int k => gd (inR 2 1000 k && Nat.ble ds.length 1000 && !ds.isEmpty) (some (.tuple (List.replicate k.toNat ds).flatten))
  | _, _ => none
/-! comparisons: lists are read as they stand -/
def CF (X : Cx) (op : CmpOp) (F : W → W → Option Bool) : Prop := ∀ x y k, F x y = some k → ∃ r, OpR X (compareOp op) r ∧ RW X.K X.w r x y (.dat (.bool k))
def cmpM (F : W → W → Option Bool) (m1 m2 : M W) : M Bool := bd m1 fun x => bd m2 fun y => fun h => lf (F (view h x) (view h y)) h
def bW (m : M Bool) : M W := bd m fun k => rt (.dat (.bool k))
theorem vr_bool {φ : List Addr} {H : Hp} {v : V} {k : Bool} (h : VR X.K X.w φ H (.dat (.bool k)) v) : v = .bl k := by
  cases h with
  | dat h => cases h; rfl
theorem em_cmp {op : CmpOp} {F : W → W → Option Bool} (hf : CF X op F) (ha : EM X a ρ m1) (hb : EM X b ρ m2) (hm : behindInMarks op b = false := by rfl) : EM X (.Compare a [op] [b] pos) ρ (bW (cmpM F m1 m2)) := fun p s Q q => by
  refine sE_of (pe_cmpR wOp_r pe_s pe_s hm) (ha p (sat_bind (sat_bind s)) _ fun x h1 u φ1 Hk1 Hr1 s1 p1 e1 hu => hb p1 (sat_bind s1) _ fun y h2 v φ2 Hk2 Hr2 s2 p2 e2 hv => ?_)
  obtain ⟨k, hk, s3⟩ := sat_lf s2
  obtain ⟨r, o, g⟩ := hf _ _ k hk
  refine wOp_of o (g φ2 u v Hr2 Hr2 (Same.refl _) ((hu.ex e2).view p2.I) (hv.view p2.I) Q fun z H2 e hz => ?_)
  exact q _ _ z _ _ _ s3 (p2.go (p2.I.gro e) (Ex.gro p2.I.kr)) (e1.trans (e2.trans (Ex.gro p2.I.kr))) (VR.scal rfl hz)
theorem tm_cmp {op : CmpOp} {F : W → W → Option Bool} (hf : CF X op F) (ha : EM X a ρ m1) (hb : EM X b ρ m2) (hm : behindInMarks op b = false := by rfl) : TM X (.Compare a [op] [b] pos) ρ (cmpM F m1 m2) := fun p s Q q => by
  refine sT_of (pt_cmpR wOp_r pe_s pe_s hm) (ha p (sat_bind s) _ fun x h1 u φ1 Hk1 Hr1 s1 p1 e1 hu => hb p1 (sat_bind s1) _ fun y h2 v φ2 Hk2 Hr2 s2 p2 e2 hv => ?_)
  obtain ⟨k, hk, s3⟩ := sat_lf s2
  obtain ⟨r, o, g⟩ := hf _ _ k hk
  refine wOp_of o (g φ2 u v Hr2 Hr2 (Same.refl _) ((hu.ex e2).view p2.I) (hv.view p2.I) _ fun z H2 e hz => ?_)
  exact ⟨k, vr_bool (X := X) hz, q _ _ _ _ _ s3 (p2.go (p2.I.gro e) (Ex.gro p2.I.kr)) (e1.trans (e2.trans (Ex.gro p2.I.kr)))⟩
def c2 (f : PyData → PyData → Option Bool) : W → W → Option Bool
  | .dat x, .dat y => f x y
  | _, _ => none
theorem cf_c2 {op : CmpOp} {F : PyData → PyData → Option Bool} (h : ∀ x y d, F x y = some d → ∃ r, OpR X (compareOp op) r ∧ RD X.K r x y (.bool d)) : CF X op (c2 F) := fun x y w e => by
  unfold c2 at e
  split at e
  · obtain ⟨r, o, g⟩ := h _ _ _ e
    exact ⟨r, o, rw_of g⟩
  · cases e
def cNe (x y : PyData) : Option Bool := (cEq x y).map (!·)
def cNotIn (x y : PyData) : Option Bool := (cIn x y).map (!·)
def cIsNot (x y : PyData) : Option Bool := (cIs x y).map (!·)
theorem ltF (hr : Room k X.A) : CF X .Lt (c2 cLt) := cf_c2 (lt_f hr)
theorem leF : CF X .LtE (c2 cLe) := cf_c2 le_f
theorem gtF : CF X .Gt (c2 cGt) := cf_c2 gt_f
theorem geF : CF X .GtE (c2 cGe) := cf_c2 ge_f
theorem eqF (hr : Room k X.A) : CF X .Eq (c2 cEq) := cf_c2 (eq_f hr)
theorem neF (hr : Room k X.A) : CF X .NotEq (c2 cNe) := cf_c2 (ne_f hr)
theorem isF : CF X .Is (c2 cIs) := cf_c2 is_f
theorem isnotF : CF X .IsNot (c2 cIsNot) := cf_c2 isnot_f
/-! truth -/
def truthW : W → Option Bool
  | .dat d => truth d
  | .tup ws => some (!ws.isEmpty)
  | .lst ws => some (!ws.isEmpty)
  | _ => none
theorem truthW_ok {φ : List Addr} {H : Hp} {w : W} {v : V} {k : Bool} (h : VR X.K X.w φ H w v) (e : truthW w = some k) : TruV X.K v H k := by
  cases w with
  | dat d =>
    cases h with
    | dat h =>
      have e : truth d = some k := e
      cases d <;> simp only [truth, reduceCtorEq] at e
      · cases e; cases h; rfl
      · cases e; cases h; rfl
      · cases e; cases h; rfl
      · cases e
        cases h with
        | lst hs ha => exact .inl ⟨_, hs, emp_eq (DpAll.len ha)⟩
      · cases e
        cases h with
        | tup hs ha => exact .inr (.inl ⟨_, hs, emp_eq (DpAll.len ha)⟩)
  | tup ws =>
    cases h with
    | tup hs ha =>
      cases e
      exact .inr (.inl ⟨_, hs, emp_eq (VRs.len ha)⟩)
  | lst ws =>
    cases h with
    | lst hs ha =>
      cases e
      exact .inl ⟨_, hs, emp_eq (VRs.len ha)⟩
  | _ => cases e
def tvM (m : M W) : M Bool := bd m fun x => fun h => lf (truthW (view h x)) h
theorem tm_val (ha : EM X a ρ m) (he : ∀ whole, isTrue a X.env whole = (do let v ← whole; standAt a.pos; holding [v] (truthy v)) := by intro _; rfl) : TM X a ρ (tvM m) := fun p s Q q =>
  sT_of (pt_truth pe_s he) (ha p (sat_bind s) _ fun x h1 u φ1 Hk1 Hr1 s1 p1 e1 hu => by
    obtain ⟨k, hk, s2⟩ := sat_lf s1
    exact ⟨k, truthW_ok (hu.view p1.I) hk, q _ _ _ _ _ s2 p1 e1⟩)
/-! and, or, not -/
def andM (m1 m2 : M Bool) : M Bool := bd m1 fun k => match k with | true => m2 | false => rt false
def orM (m1 m2 : M Bool) : M Bool := bd m1 fun k => match k with | true => rt true | false => m2
def notM (m : M Bool) : M Bool := bd m fun k => rt (!k)
theorem tm_w (h : WM X e ρ mc) : TM X e ρ mc := fun p s Q q pins st I' => (pw_s (X := X) (e := e)).pt.run pins st _ _ Q I' (h p s Q q)
theorem tm_not (ha : TM X a ρ mc) : TM X (.UnaryOp .Not a pos) ρ (notM mc) := fun p s Q q =>
  sT_of (pt_not pt_s) (ha p (sat_bind s) _ fun k h1 φ1 Hk1 Hr1 s1 p1 e1 => q _ _ _ _ _ s1 p1 e1)
theorem wm_and1 (ha : TM X a ρ mc) : WM X (.BoolOp .And [a] pos) ρ mc := fun p s Q q whole pins st I' => (pw_and1 pt_s).run whole pins st _ _ Q I' (ha p s Q q)
theorem wm_or1 (ha : TM X a ρ mc) : WM X (.BoolOp .Or [a] pos) ρ mc := fun p s Q q whole pins st I' => (pw_or1 pt_s).run whole pins st _ _ Q I' (ha p s Q q)
theorem wm_and (ha : TM X a ρ mc) (hb : WM X (.BoolOp .And (b :: rest) pos) ρ mw) : WM X (.BoolOp .And (a :: b :: rest) pos) ρ (andM mc mw) := fun p s Q q whole pins st I' =>
  (pw_and pt_s pw_s).run whole pins st _ _ Q I' (ha p (sat_bind s) _ fun k h1 φ1 Hk1 Hr1 s1 p1 e1 => by
    cases k with
    | true => exact iteT (hb p1 s1 Q fun k2 h2 φ2 Hk2 Hr2 s2 p2 e2 => q _ _ _ _ _ s2 p2 (e1.trans e2))
    | false => exact iteF (q _ _ _ _ _ s1 p1 e1))
theorem wm_or (ha : TM X a ρ mc) (hb : WM X (.BoolOp .Or (b :: rest) pos) ρ mw) : WM X (.BoolOp .Or (a :: b :: rest) pos) ρ (orM mc mw) := fun p s Q q whole pins st I' =>
  (pw_or pt_s pw_s).run whole pins st _ _ Q I' (ha p (sat_bind s) _ fun k h1 φ1 Hk1 Hr1 s1 p1 e1 => by
    cases k with
    | false => exact iteF (hb p1 s1 Q fun k2 h2 φ2 Hk2 Hr2 s2 p2 e2 => q _ _ _ _ _ s2 p2 (e1.trans e2))
    | true => exact iteT (q _ _ _ _ _ s1 p1 e1))
/-- as values: bools -/
def asBW : W → Option Bool
  | .dat (.bool b) => some b
  | _ => none
theorem asBW_eq {w : W} {k : Bool} (h : asBW w = some k) : w = .dat (.bool k) := by
  unfold asBW at h
  split at h
  · cases h; rfl
  · cases h
def bvM (m : M W) : M Bool := bd m fun w => lf (asBW w)
theorem em_not (ha : EM X a ρ m) : EM X (.UnaryOp .Not a pos) ρ (bW (notM (bvM m))) := fun p s Q q =>
  sE_of (pe_not pe_s) (ha p (sat_bind (sat_bind (sat_bind s))) _ fun w h1 v φ1 Hk1 Hr1 s1 p1 e1 hv => by
    obtain ⟨k, hk, s2⟩ := sat_lf s1
    have := asBW_eq hk
    subst this
    obtain rfl := vr_bool (X := X) hv
    exact ⟨k, rfl, q _ _ _ _ _ _ s2 p1 e1 (.dat (.bl _))⟩)
theorem em_one {op : BoolOp} (ha : EM X a ρ m) : EM X (.BoolOp op [a] pos) ρ (bW (bvM m)) := fun p s Q q =>
  sE_of (pe_one pe_s) (ha p (sat_bind (sat_bind s)) _ fun w h1 v φ1 Hk1 Hr1 s1 p1 e1 hv => by
    obtain ⟨k, hk, s2⟩ := sat_lf s1
    have := asBW_eq hk
    subst this
    exact q _ _ _ _ _ _ s2 p1 e1 hv)
theorem em_and (ha : EM X a ρ m) (hb : EM X (.BoolOp .And (b :: rest) pos) ρ (bW mw)) : EM X (.BoolOp .And (a :: b :: rest) pos) ρ (bW (andM (bvM m) mw)) := fun p s Q q =>
  sE_of (pe_and pe_s pe_s) (ha p (sat_bind (sat_bind (sat_bind s))) _ fun w h1 v φ1 Hk1 Hr1 s1 p1 e1 hv => by
    obtain ⟨k, hk, s2⟩ := sat_lf s1
    have := asBW_eq hk
    subst this
    obtain rfl := vr_bool (X := X) hv
    cases k with
    | true => exact ⟨true, rfl, iteT (hb p1 (sat_of s2) Q fun w2 h2 v2 φ2 Hk2 Hr2 s3 p2 e2 hv2 => q _ _ _ _ _ _ s3 p2 (e1.trans e2) hv2)⟩
    | false => exact ⟨false, rfl, iteF (q _ _ _ _ _ _ s2 p1 e1 (.dat (.bl _)))⟩)
theorem em_or (ha : EM X a ρ m) (hb : EM X (.BoolOp .Or (b :: rest) pos) ρ (bW mw)) : EM X (.BoolOp .Or (a :: b :: rest) pos) ρ (bW (orM (bvM m) mw)) := fun p s Q q =>
  sE_of (pe_or pe_s pe_s) (ha p (sat_bind (sat_bind (sat_bind s))) _ fun w h1 v φ1 Hk1 Hr1 s1 p1 e1 hv => by
    obtain ⟨k, hk, s2⟩ := sat_lf s1
    have := asBW_eq hk
    subst this
    obtain rfl := vr_bool (X := X) hv
    cases k with
    | false => exact ⟨false, rfl, iteF (hb p1 (sat_of s2) Q fun w2 h2 v2 φ2 Hk2 Hr2 s3 p2 e2 hv2 => q _ _ _ _ _ _ s3 p2 (e1.trans e2) hv2)⟩
    | true => exact ⟨true, rfl, iteT (q _ _ _ _ _ _ s2 p1 e1 (.dat (.bl _)))⟩)
def ifM {α : Type} (c : M Bool) (m1 m2 : M α) : M α := bd c fun k => match k with | true => m1 | false => m2
theorem em_if (hc : TM X c ρ mc) (ha : EM X a ρ m1) (hb : EM X b ρ m2) : EM X (.IfExp c a b pos) ρ (ifM mc m1 m2) := fun p s Q q =>
  sE_of (pe_ifExp pt_s pe_s pe_s) (hc p (sat_bind s) _ fun k h1 φ1 Hk1 Hr1 s1 p1 e1 => by
    cases k with
    | true => exact iteT (ha p1 s1 Q fun w2 h2 v2 φ2 Hk2 Hr2 s3 p2 e2 hv2 => q _ _ _ _ _ _ s3 p2 (e1.trans e2) hv2)
    | false => exact iteF (hb p1 s1 Q fun w2 h2 v2 φ2 Hk2 Hr2 s3 p2 e2 hv2 => q _ _ _ _ _ _ s3 p2 (e1.trans e2) hv2))
def asIW : W → Option Int
  | .dat (.int b) => some b
  | _ => none
theorem asIW_eq {w : W} {k : Int} (h : asIW w = some k) : w = .dat (.int k) := by
  unfold asIW at h
  split at h
  · cases h; rfl
  · cases h
theorem vr_int {φ : List Addr} {H : Hp} {v : V} {k : Int} (h : VR X.K X.w φ H (.dat (.int k)) v) : v = .int k := by
  cases h with
  | dat h => cases h; rfl
def negM (m : M W) : M W := bd m fun w => lf ((asIW w).map fun i => .dat (.int (-i)))
theorem em_neg (ha : EM X a ρ m) : EM X (.UnaryOp .USub a pos) ρ (negM m) := fun p s Q q =>
  sE_of (pe_un un_neg pe_s) (ha p (sat_bind s) _ fun w h1 v φ1 Hk1 Hr1 s1 p1 e1 hv => by
    obtain ⟨u, hk, s2⟩ := sat_lf s1
    obtain ⟨i, h2, h3⟩ := mpd hk
    have := asIW_eq h2
    subst this; subst h3
    obtain rfl := vr_int (X := X) hv
    exact ⟨i, rfl, q _ _ _ _ _ _ s2 p1 e1 (.dat (.int _))⟩)
/-! displays -/
def tupM (ma : M (List W)) : M W := bd ma fun ws => lf (gd (short ws.length) (some (mkT ws)))
theorem em_tup (h : AM X es ρ ma) : EM X (.Tuple es n pos) ρ (tupM ma) := fun p s Q q =>
  sE_of (pe_tup pa_s) (h p (sat_bind s) _ fun ws h1 vs φ1 Hk1 Hr1 s1 p1 e1 hv => by
    obtain ⟨u, hk, s2⟩ := sat_lf s1
    obtain ⟨g1, g2⟩ := gd_some hk
    cases g2
    refine ⟨by rw [VRs.len hv]; exact le_line (short_le g1), fun t ht => ?_⟩
    have e2 := Ex.gro (φ := φ1) p1.I.kr (H2 := upd Hr1 t (.tup vs))
    exact q _ _ _ _ _ _ s2 (p1.go (p1.I.gro (new_same ht _)) e2) (e1.trans e2) (VR.mkT (.inl (.inl (by rw [gro_new ht, upd_same]))) (hv.ex e2)))
def lstM (ma : M (List W)) : M (List W) := bd ma fun ws => lf (gd (short ws.length) (some ws))
theorem lm_lst (h : AM X es ρ ma) : LM X (.List es pos) ρ (lstM ma) := fun p s Q q =>
  sE_of (pe_lst pa_s) (h p (sat_bind s) _ fun ws h1 vs φ1 Hk1 Hr1 s1 p1 e1 hv => by
    obtain ⟨u, hk, s2⟩ := sat_lf s1
    obtain ⟨g1, g2⟩ := gd_some hk
    cases g2
    refine ⟨by rw [VRs.len hv]; exact le_line (short_le g1), fun t ht => ?_⟩
    have nk : Hk1 t = none := by
      cases z : Hk1 t with
      | none => rfl
      | some o => rw [p1.I.kr _ _ z] at ht; cases ht
    have no : ∀ {Ho : Hp}, Same Ho Hr1 → Ho t = none := fun {Ho} so => by
      cases z : Ho t with
      | none => rfl
      | some o => rw [so _ _ z] at ht; cases ht
    exact q ws _ t vs φ1 Hk1 _ s2 (p1.I.outer ht) (no p1.I.out) nk e1 hv)
theorem em_frz (h : LM X e ρ ml) : EM X e ρ (frzW ml) := fun p s Q q => h p (sat_bind s) Q fun ws h1 t vs φ1 Hk1 Hr1 s1 I1 no nk e1 hv => by
  obtain ⟨I2, e2, hw⟩ := I1.claimF no nk hv
  exact q _ _ _ _ _ _ s1 (p.go I2 (e1.trans e2)) (e1.trans e2) hw
theorem em_own (h : LM X e ρ ml) : EM X e ρ (ownW ml) := fun p s Q q => h p (sat_bind s) Q fun ws h1 t vs φ1 Hk1 Hr1 s1 I1 no nk e1 hv => by
  obtain ⟨I2, e2, hw⟩ := I1.claimN no nk hv
  exact q _ _ _ _ _ _ s1 (p.go I2 (e1.trans e2)) (e1.trans e2) hw
end
end Hx
noncomputable section
namespace Hx
open PySem L2 Pd Gn PySem.Spec PyProof.Rows Zq
/-! sequences -/
def seqW : W → Option (List W)
  | .dat (.tuple ds) => some (ds.map .dat)
  | .dat (.list ds) => some (ds.map .dat)
  | .tup ws => some ws
  | .lst ws => some ws
  | _ => none
def itemsH (h : Hs) (w : W) : Option (List W) := seqW (view h w)
section
variable {K : PySem.W.Frag} {wd : World} {φ : List Addr} {hs : Hs} {Ho Hk Hr H : Hp} {w : W} {v : V} {ws : List W} {vs : List V}
theorem VR.seq (h : VR K wd φ H w v) (e : seqW w = some ws) : ∃ t a vs, v = .ref a ∧ gSq K t H a vs ∧ VRs K wd φ H ws vs := by
  unfold seqW at e
  split at e
  · obtain ⟨a, vs, h1, h2, h3⟩ := h.asT (ws := ws) e
    exact ⟨true, a, vs, h1, h2, h3⟩
  · obtain ⟨a, vs, h1, h2, h3⟩ := h.asL (ws := ws) e
    exact ⟨false, a, vs, h1, h2, h3⟩
  · obtain ⟨a, vs, h1, h2, h3⟩ := h.asT (ws := ws) e
    exact ⟨true, a, vs, h1, h2, h3⟩
  · obtain ⟨a, vs, h1, h2, h3⟩ := h.asL (ws := ws) e
    exact ⟨false, a, vs, h1, h2, h3⟩
  · cases e
theorem seq_mkL (ws : List W) : seqW (mkL ws) = some ws := by
  unfold mkL
  split
  · rename_i ds e
    rw [datsOf_eq e]
    rfl
  · rfl
/-- what stands at an address that may change: its items, known -/
theorem VR.items (I : Ok K wd φ hs Ho Hk Hr) (h : VR K wd φ Hk w v) (e : itemsH hs w = some ws) : ∃ t a vs, v = .ref a ∧ gSq K t Hr a vs ∧ VRs K wd φ Hk ws vs := by
  unfold itemsH at e
  have go : ∀ {w : W}, VR K wd φ Hk w v → seqW w = some ws → ∃ t a vs, v = .ref a ∧ gSq K t Hr a vs ∧ VRs K wd φ Hk ws vs := fun {w} h e => by
    obtain ⟨t, a, vs, h1, h2, h3⟩ := h.seq e
    exact ⟨t, a, vs, h1, same_g I.kr h2, h3⟩
  cases w with
  | ref i =>
    have e : seqW (viewR i (hs.get i)) = some ws := e
    cases g : hs.get i with
    | none => rw [g] at e; cases e
    | some o =>
      rw [g] at e
      cases o with
      | lst us =>
        have e : seqW (Hx.mkL us) = some ws := e
        rw [seq_mkL] at e
        cases e
        cases h with
        | ref ha =>
          obtain ⟨a, q1, q2, q3, vs, q4, q5⟩ := I.obj i _ g
          rw [ha] at q1
          cases q1
          exact ⟨false, _, vs, rfl, .inl (.inl q4), q5⟩
      | _ => cases e
  | _ => exact go h e
theorem VRs.at (h : VRs K wd φ H ws vs) {i : Int} (e : atI ws i = some w) : ∃ v, atI vs i = some v ∧ VR K wd φ H w v := by
  unfold atI at e ⊢
  rw [VRs.len h]
  cases z : ixN ws.length i with
  | none => rw [z] at e; cases e
  | some m =>
    rw [z] at e
    exact VRs.get h e
def cutW (ws : List W) (lo hi : Option Int) : List W := (ws.drop (HT.sIx ws.length 0 lo)).take (HT.sIx ws.length ws.length hi - HT.sIx ws.length 0 lo)
theorem VRs.cut {l u : Option Int} (h : VRs K wd φ H ws vs) : VRs K wd φ H (cutW ws l u) (cutV vs l u) := by
  unfold cutW cutV
  rw [VRs.len h]
  exact VRs.take _ (VRs.drop _ h)
end
section
variable {X : Cx} {a b c e : Expr} {es rest : List Expr} {ρ : Rho} {m m1 m2 : M W} {ma : M (List W)} {ml : M (List W)} {mc mw mt : M Bool} {n k : Nat} {pos p0 p1 p2 : Pos} {x : Str} {w : W}
/-! x[i] -/
def ixM (m1 m2 : M W) : M W := bd m1 fun x => bd m2 fun y => fun h => lf ((asIW y).bind fun i => (itemsH h x).bind fun ws => atI ws i) h
theorem em_ix (ha : EM X a ρ m1) (hb : EM X b ρ m2) (hs : PlainIx b := by exact fun _ _ => rfl) : EM X (.Subscript a b pos) ρ (ixM m1 m2) := fun p s Q q => by
  refine sE_of (pe_ix wIx_r pe_s pe_s hs) (ha p (sat_bind s) _ fun x h1 u φ1 Hk1 Hr1 s1 p1 e1 hu => hb p1 (sat_bind s1) _ fun y h2 v φ2 Hk2 Hr2 s2 p2 e2 hv => ?_)
  obtain ⟨w, hw, s3⟩ := sat_lf s2
  obtain ⟨i, h3, hw1⟩ := bnd hw
  obtain ⟨ws, h4, hw2⟩ := bnd hw1
  clear hw hw1
  have := asIW_eq h3
  subst this
  obtain rfl := vr_int (X := X) hv
  obtain ⟨t, ad, vs, rfl, g1, g2⟩ := (hu.ex e2).items p2.I h4
  obtain ⟨z, z1, z2⟩ := g2.at (i := i) (w := w) hw2
  cases t
  · exact wIx_of ix_list ⟨_, _, _, _, rfl, rfl, g1, z1, q _ _ _ _ _ _ s3 p2 (e1.trans e2) z2⟩
  · exact wIx_of ix_tup ⟨_, _, _, _, rfl, rfl, g1, z1, q _ _ _ _ _ _ s3 p2 (e1.trans e2) z2⟩
/-! x[l:u] -/
def OM (X : Cx) (e : Option Expr) (ρ : Rho) (m : M (Option Int)) : Prop := ∃ t, PO X e t ∧
  ∀ {Wx : WX} {E : Xc → Hs → Prop} {P : Option Int → Hs → Prop} {hs : Hs} {φ : List Addr} {Ho Hk Hr : Hp} {σ : L2.St}, Pt X Wx E ρ hs φ Ho Hk Hr σ → (m hs).sat P E →
    ∀ Q : Option Int → Hp → Prop, (∀ i hs' φ' Hk' Hr', P i hs' → Pt X Wx E ρ hs' φ' Ho Hk' Hr' σ → Ex φ Hk φ' Hk' → Q i Hr') → t σ Hr Q
theorem om_none : OM X none ρ (rt none) := ⟨_, po_none, fun p s Q q => q _ _ _ _ _ s p Ex.refl⟩
def soM (m : M W) : M (Option Int) := bd m fun w => lf ((asIW w).map some)
theorem om_some (h : EM X e ρ m) : OM X (some e) ρ (soM m) := ⟨_, po_some pe_s, fun p s Q q => h p (sat_bind s) _ fun w h1 v φ1 Hk1 Hr1 s1 p1 e1 hv => by
  obtain ⟨i, h3, s2⟩ := sat_lf s1
  obtain ⟨j, h4, h5⟩ := mpd h3
  have := asIW_eq h4
  subst this; subst h5
  obtain rfl := vr_int (X := X) hv
  exact ⟨j, rfl, q _ _ _ _ _ s2 p1 e1⟩⟩
def kindT : W → Bool
  | .dat (.tuple _) => true
  | .tup _ => true
  | _ => false
def slM (m1 : M W) (ml mu : M (Option Int)) : M W := bd m1 fun x => bd ml fun l => bd mu fun u => fun h => lf ((itemsH h x).map fun ws => match kindT x with | true => mkT (cutW ws l u) | false => mkL (cutW ws l u)) h
theorem VR.kT {φ : List Addr} {H : Hp} {v : V} {ws : List W} {hs : Hs} (h : VR X.K X.w φ H w v) (e : kindT w = true) (g : itemsH hs w = some ws) : ∃ a vs, v = .ref a ∧ SqT X.K H a vs ∧ VRs X.K X.w φ H ws vs := by
  unfold kindT at e
  split at e
  · exact h.asT g
  · exact h.asT g
  · cases e
theorem VR.kF {φ : List Addr} {hs : Hs} {Ho Hk Hr : Hp} {v : V} {ws : List W} (I : Ok X.K X.w φ hs Ho Hk Hr) (h : VR X.K X.w φ Hk w v) (e : kindT w = false) (g : itemsH hs w = some ws) : ∃ a vs, v = .ref a ∧ SqL X.K Hr a vs ∧ VRs X.K X.w φ Hk ws vs := by
  cases w with
  | ref i =>
    have g : seqW (viewR i (hs.get i)) = some ws := g
    cases z : hs.get i with
    | none => rw [z] at g; cases g
    | some o =>
      rw [z] at g
      cases o with
      | lst us =>
        have g : seqW (Hx.mkL us) = some ws := g
        rw [seq_mkL] at g
        cases g
        cases h with
        | ref ha =>
          obtain ⟨a, q1, q2, q3, vs, q4, q5⟩ := I.obj i _ z
          rw [ha] at q1
          cases q1
          exact ⟨_, vs, rfl, .inl (.inl q4), q5⟩
      | _ => cases g
  | dat d =>
    cases d with
    | list ds =>
      obtain ⟨a, vs, h1, h2, h3⟩ := h.asL (ws := ws) g
      exact ⟨a, vs, h1, same_l I.kr h2, h3⟩
    | tuple ds => cases e
    | _ => cases g
  | tup us => cases e
  | lst us =>
    obtain ⟨a, vs, h1, h2, h3⟩ := h.asL (ws := ws) g
    exact ⟨a, vs, h1, same_l I.kr h2, h3⟩
  | _ => cases g
theorem cutW_all {ws : List W} {l u : Option Int} (hz : HT.sIx ws.length 0 l = 0 ∧ HT.sIx ws.length ws.length u = ws.length) : cutW ws l u = ws := by
  unfold cutW
  rw [hz.1, hz.2]
  simp
theorem em_cut {lo hi : Option Expr} {ml mu : M (Option Int)} (ha : EM X a ρ m1) (hl : OM X lo ρ ml) (hu : OM X hi ρ mu) : EM X (.Subscript a (.Slice lo hi none p2) pos) ρ (slM m1 ml mu) := fun p s Q q => by
  obtain ⟨tl, pl, hl⟩ := hl
  obtain ⟨tu, pu, hu⟩ := hu
  refine sE_of (pe_slice wSl_r pe_s pl pu) (ha p (sat_bind s) _ fun x h1 v φ1 Hk1 Hr1 s1 p1 e1 hv => hl p1 (sat_bind s1) _ fun l h2 φ2 Hk2 Hr2 s2 p2 e2 => hu p2 (sat_bind s2) _ fun u h3 φ3 Hk3 Hr3 s3 p3 e3 => ?_)
  obtain ⟨w, hw, s4⟩ := sat_lf s3
  obtain ⟨ws, h4, hw⟩ := mpd hw
  subst hw
  have e23 := e2.trans e3
  have e123 := e1.trans e23
  have hx := hv.ex e23
  cases z : kindT x with
  | true =>
    rw [z] at s4
    obtain ⟨ad, vs, rfl, g1, g2⟩ := VR.kT (X := X) hx z h4
    refine wSl_of sl_tupA ⟨_, _, rfl, same_t p3.I.kr g1, fun hz => ?_, fun _ t ht => ?_⟩
    · rw [VRs.len g2] at hz
      refine q _ _ _ _ _ _ s4 p3 e123 ?_
      show VR X.K X.w φ3 Hk3 (mkT (cutW ws l u)) _
      rw [cutW_all hz]
      exact VR.mkT g1 g2
    · have e4 := Ex.gro (φ := φ3) p3.I.kr (H2 := upd Hr3 t (.tup (cutV vs l u)))
      exact q _ _ _ _ _ _ s4 (p3.go (p3.I.gro (new_same ht _)) e4) (e123.trans e4) (VR.mkT (.inl (.inl (by rw [gro_new ht, upd_same]))) ((g2.cut).ex e4))
  | false =>
    rw [z] at s4
    obtain ⟨ad, vs, rfl, g1, g2⟩ := VR.kF (X := X) p3.I hx z h4
    refine wSl_of sl_list ⟨_, _, rfl, g1, fun t ht => ?_⟩
    have e4 := Ex.gro (φ := φ3) p3.I.kr (H2 := upd Hr3 t (.lst (cutV vs l u)))
    exact q _ _ _ _ _ _ s4 (p3.go (p3.I.gro (new_same ht _)) e4) (e123.trans e4) (VR.mkL (.inl (.inl (by rw [gro_new ht, upd_same]))) ((g2.cut).ex e4))
/-! built-in functions whose answers are scalars: lists are read as they stand -/
def BF (X : Cx) (f : Value) (F : List W → Option W) : Prop := ∀ ws w, F ws = some w → scal w = true ∧ ∃ r, CallR X f r ∧ RWs X.K X.w r ws w
def biM (F : List W → Option W) (ma : M (List W)) : M W := bd ma fun ws => fun h => lf (F (ws.map (view h))) h
theorem em_B {id : String} {F : List W → Option W} (hf : BF X (.builtin id) F) (hm : X.mg x = none) (hv : bootBuiltins x = some (.builtin id)) (ha : AM X (e :: es) ρ ma) (hg : Gl X x := by rfl) (hn : x ≠ "__name__" := by decide) (hdb : (x == ("__debug__" : Str)) = false := by decide)
    (he : starEach (e :: es) X.env = (false, eval e X.env) :: starEach es X.env := by rfl) (hpl : (backTo pos (starEach es X.env)).any (·.1) = false := by rfl) : EM X (.Call (.Name x p0) (e :: es) [] pos) ρ (biM F ma) := fun p s Q q => by
  refine sE_of (pe_callB wCall_r hg hm hv pa_s hn hdb he hpl) (ha p (sat_bind s) _ fun ws h1 vs φ1 Hk1 Hr1 s1 p1 e1 hvs => ?_)
  obtain ⟨w, hw, s2⟩ := sat_lf s1
  obtain ⟨sc, r, o, g⟩ := hf _ _ hw
  exact wCall_of o (g φ1 vs Hr1 Hr1 (Same.refl _) (hvs.view p1.I) Q fun z H2 e hz => q _ _ _ _ _ _ s2 (p1.go (p1.I.gro e) (Ex.gro p1.I.kr)) (e1.trans (Ex.gro p1.I.kr)) (hz.scal sc))
theorem em_Ty {id : String} {F : List W → Option W} (hf : BF X (.type id) F) (hm : X.mg x = none) (hv : bootBuiltins x = some (.type id)) (ha : AM X (e :: es) ρ ma) (hg : Gl X x := by rfl) (hn : x ≠ "__name__" := by decide) (hdb : (x == ("__debug__" : Str)) = false := by decide)
    (he : starEach (e :: es) X.env = (false, eval e X.env) :: starEach es X.env := by rfl) (hpl : (backTo pos (starEach es X.env)).any (·.1) = false := by rfl) : EM X (.Call (.Name x p0) (e :: es) [] pos) ρ (biM F ma) := fun p s Q q => by
  refine sE_of (pe_callTy wCall_r hg hm hv pa_s hn hdb he hpl) (ha p (sat_bind s) _ fun ws h1 vs φ1 Hk1 Hr1 s1 p1 e1 hvs => ?_)
  obtain ⟨w, hw, s2⟩ := sat_lf s1
  obtain ⟨sc, r, o, g⟩ := hf _ _ hw
  exact wCall_of o (g φ1 vs Hr1 Hr1 (Same.refl _) (hvs.view p1.I) Q fun z H2 e hz => q _ _ _ _ _ _ s2 (p1.go (p1.I.gro e) (Ex.gro p1.I.kr)) (e1.trans (Ex.gro p1.I.kr)) (hz.scal sc))
def u1 (f : PyData → Option PyData) : List W → Option W
  | [.dat x] => (f x).map .dat
  | _ => none
theorem scal_dat {d : PyData} (h : isScal d = true) : scal (.dat d) = true := by cases d <;> first | rfl | cases h
theorem bf_u1 {f : Value} {F : PyData → Option PyData} (h : ∀ x d, F x = some d → isScal d = true ∧ ∃ r, CallR X f r ∧ RA X.K r [x] d) : BF X f (u1 F) := fun ws w e => by
  unfold u1 at e
  split at e
  · obtain ⟨d, h1, h2⟩ := mpd e
    subst h2
    obtain ⟨s, r, o, g⟩ := h _ _ h1
    exact ⟨scal_dat s, r, o, rws_of g⟩
  · cases e
def u2 (f : PyData → PyData → Option PyData) : List W → Option W
  | [.dat x, .dat y] => (f x y).map .dat
  | _ => none
theorem bf_u2 {f : Value} {F : PyData → PyData → Option PyData} (h : ∀ x y d, F x y = some d → isScal d = true ∧ ∃ r, CallR X f r ∧ RA X.K r [x, y] d) : BF X f (u2 F) := fun ws w e => by
  unfold u2 at e
  split at e
  · obtain ⟨d, h1, h2⟩ := mpd e
    subst h2
    obtain ⟨s, r, o, g⟩ := h _ _ _ h1
    exact ⟨scal_dat s, r, o, rws_of (ds := [_, _]) g⟩
  · cases e
def fLen : List W → Option W
  | [w] => (seqW w).map fun ws => .dat (.int (ws.length : Nat))
  | _ => none
theorem len_f : BF X (.builtin "len") fLen := fun ws w e => by
  unfold fLen at e
  split at e
  · obtain ⟨us, h1, h2⟩ := mpd e
    subst h2
    refine ⟨rfl, _, call_len_seq, fun φ vs Hk Hr kr hv Q q => ?_⟩
    cases hv with
    | cons h2 h3 =>
      cases h3
      obtain ⟨t, ad, vs, rfl, g1, g2⟩ := h2.seq h1
      refine ⟨_, vs, rfl, ?_, by rw [VRs.len g2]; exact q _ Hr (Same.refl _) (.dat (.int _))⟩
      cases t
      · exact .inl (same_l kr g1)
      · exact .inr (same_t kr g1)
  · cases e
def dAbs (x : PyData) : Option PyData := (asI x).map fun i => .int (if i < 0 then -i else i)
theorem abs_f : BF X (.builtin "abs") (u1 dAbs) := bf_u1 fun x d h => by
  obtain ⟨i, h1, h2⟩ := mpd h
  subst h2
  rw [asI_eq h1]
  exact ⟨rfl, _, call_abs, ra_abs⟩
def dInt (x : PyData) : Option PyData := match x with | .int i => some (.int i) | .bool k => some (.int (if k then 1 else 0)) | _ => none
theorem int_f : BF X (.type "int") (u1 dInt) := bf_u1 fun x d h => by
  unfold dInt at h
  split at h
  · cases h; exact ⟨rfl, _, call_int1, ra_int⟩
  · cases h
    refine ⟨rfl, _, call_int1, fun vs Hk Hr kr h Q q => ?_⟩
    cases h with
    | cons h1 h2 =>
      cases h2
      cases h1
      exact .inr ⟨_, rfl, q _ Hr (Same.refl _) (.int _)⟩
  · cases h
theorem min_f (hc : X.calm = true) : BF X (.builtin "min") (u2 pMin) := bf_u2 fun x y d h => by
  unfold pMin at h
  split at h
  · cases h; exact ⟨rfl, _, call_min2 hc, ra_min2⟩
  · cases h
theorem max_f (hc : X.calm = true) : BF X (.builtin "max") (u2 pMax) := bf_u2 fun x y d h => by
  unfold pMax at h
  split at h
  · cases h; exact ⟨rfl, _, call_max2 hc, ra_max2⟩
  · cases h
theorem sum_f (hc : X.calm = true) : BF X (.builtin "sum") (u1 pSum) := bf_u1 fun x d h => by
  unfold pSum at h
  split at h
  · obtain ⟨ns, h1, h2⟩ := mpd h
    subst h2
    rw [intsOf_eq h1]
    refine ⟨rfl, _, cr_sum hc, fun vs Hk Hr kr h Q q => ?_⟩
    cases h with
    | cons h1 h2 =>
      cases h2
      cases h1 with
      | lst hs ha =>
        have := DpAll.ints ha
        subst this
        exact ⟨_, ns, rfl, same_l kr hs, q _ Hr (Same.refl _) (.int _)⟩
  · obtain ⟨ns, h1, h2⟩ := mpd h
    subst h2
    rw [intsOf_eq h1]
    refine ⟨rfl, _, cr_sumT hc, fun vs Hk Hr kr h Q q => ?_⟩
    cases h with
    | cons h1 h2 =>
      cases h2
      cases h1 with
      | tup hs ha =>
        have := DpAll.ints ha
        subst this
        exact ⟨_, ns, rfl, same_t kr hs, q _ Hr (Same.refl _) (.int _)⟩
  · cases h
def dAll (x : PyData) : Option PyData := (pAll x).map .bool
def dAny (x : PyData) : Option PyData := (pAny x).map .bool
theorem all_f (hc : X.calm = true) : BF X (.builtin "all") (u1 dAll) := bf_u1 fun x d h => by
  obtain ⟨r, h1, h2⟩ := mpd h
  subst h2
  unfold pAll at h1
  split at h1
  · obtain ⟨bs, h3, h4⟩ := mpd h1
    subst h4
    rw [boolsOf_eq h3]
    refine ⟨rfl, _, cr_all hc, fun vs Hk Hr kr h Q q => ?_⟩
    cases h with
    | cons h1 h2 =>
      cases h2
      cases h1 with
      | lst hs ha =>
        have := DpAll.bools ha
        subst this
        exact ⟨_, bs, rfl, same_l kr hs, q _ Hr (Same.refl _) (.bl _)⟩
  · cases h1
theorem any_f (hc : X.calm = true) : BF X (.builtin "any") (u1 dAny) := bf_u1 fun x d h => by
  obtain ⟨r, h1, h2⟩ := mpd h
  subst h2
  unfold pAny at h1
  split at h1
  · obtain ⟨bs, h3, h4⟩ := mpd h1
    subst h4
    rw [boolsOf_eq h3]
    refine ⟨rfl, _, cr_any hc, fun vs Hk Hr kr h Q q => ?_⟩
    cases h with
    | cons h1 h2 =>
      cases h2
      cases h1 with
      | lst hs ha =>
        have := DpAll.bools ha
        subst this
        exact ⟨_, bs, rfl, same_l kr hs, q _ Hr (Same.refl _) (.bl _)⟩
  · cases h1
theorem maxS_f (hr : Room k X.A) (hc : X.calm = true) : BF X (.builtin "max") (u1 pMaxS) := bf_u1 fun x d h => by
  obtain ⟨ds, h2, g2⟩ := bnd h
  obtain ⟨ns, h3, g3⟩ := bnd g2
  cases ns with
  | nil => cases g3
  | cons n ns =>
    have g4 := Option.some.inj g3
    rw [← g4, ← foldmax]
    have e0 := intsOf_eq h3
    rw [e0] at h2
    refine ⟨rfl, _, call_maxG hr hc, fun vs Hk Hr kr hv Q q => ?_⟩
    cases hv with
    | cons v1 vr =>
      cases vr
      obtain ⟨t1, a1, xs, rfl, g1, d1⟩ := dpSeq v1 h2
      have e1 := DpAll.ints d1
      rw [e1] at g1
      exact ⟨t1, a1, n, ns, rfl, same_g kr g1, q _ Hr (Same.refl _) (.int _)⟩
/-! list(..), tuple(..) -/
theorem am_one (ha : EM X e ρ m) (he : starEach [e] X.env = [(false, eval e X.env)]) {Wx : WX} {E : Xc → Hs → Prop} {P : W → Hs → Prop} {hs : Hs} {φ : List Addr} {Ho Hk Hr : Hp} {σ : L2.St} (p : Pt X Wx E ρ hs φ Ho Hk Hr σ) (s : (m hs).sat P E)
    (Q : List V → Hp → Prop) (q : ∀ w hs' v φ' Hk' Hr', P w hs' → Pt X Wx E ρ hs' φ' Ho Hk' Hr' σ → Ex φ Hk φ' Hk' → VR X.K X.w φ' Hk' w v → Q [v] Hr') : sA X [e] σ Hr Q :=
  sA_of (pa_cons pe_s pa_nil he) (ha p s _ fun w h1 v φ1 Hk1 Hr1 s1 p1 e1 hv => q _ _ _ _ _ _ s1 p1 e1 hv)
theorem far_of {Ho Hr : Hp} {l : Addr} (e : Same Ho Hr) (h : Hr l = none) : Ho l = none := by
  cases z : Ho l with
  | none => rfl
  | some o => rw [e _ _ z] at h; cases h
def loM (m : M W) : M (List W) := bd m fun x => fun h => lf (itemsH h x) h
theorem lm_list (hm : X.mg "list" = none) (ha : EM X e ρ m) (hg : Gl X "list" := by rfl) (he : starEach [e] X.env = [(false, eval e X.env)] := by rfl) (hpl : (backTo pos (starEach ([] : List Expr) X.env)).any (·.1) = false := by rfl) : LM X (.Call (.Name "list" p0) [e] [] pos) ρ (loM m) := fun p s Q q => by
  refine sE_of (pe_callTy call_list_of hg hm (by decide +kernel) pa_s (by decide) (by decide) he hpl) (am_one ha he p (sat_bind s) _ fun w h1 v φ1 Hk1 Hr1 s1 p1 e1 h2 => ?_)
  obtain ⟨us, hw, s2⟩ := sat_lf s1
  obtain ⟨t, ad, vs, rfl, g1, g2⟩ := h2.items p1.I hw
  refine ⟨_, vs, rfl, by cases t; exact .inl g1; exact .inr g1, fun l hl => ?_⟩
  exact q us _ l vs φ1 Hk1 _ s2 (p1.I.outer hl) (far_of p1.I.out hl) (far_of p1.I.kr hl) e1 g2
def toM (m : M W) : M W := bd m fun x => fun h => lf ((itemsH h x).map mkT) h
theorem em_tuple (hm : X.mg "tuple" = none) (ha : EM X e ρ m) (hg : Gl X "tuple" := by rfl) (he : starEach [e] X.env = [(false, eval e X.env)] := by rfl) (hpl : (backTo pos (starEach ([] : List Expr) X.env)).any (·.1) = false := by rfl) : EM X (.Call (.Name "tuple" p0) [e] [] pos) ρ (toM m) := fun p s Q q => by
  refine sE_of (pe_callTy call_tuple_of hg hm (by decide +kernel) pa_s (by decide) (by decide) he hpl) (am_one ha he p (sat_bind s) _ fun w h1 v φ1 Hk1 Hr1 s1 p1 e1 h2 => ?_)
  obtain ⟨us, hw, s2⟩ := sat_lf s1
  obtain ⟨ws, h4, hw⟩ := mpd hw
  subst hw
  cases z : kindT w with
  | true =>
    obtain ⟨ad, vs, rfl, g1, g2⟩ := VR.kT (X := X) h2 z h4
    exact ⟨_, vs, rfl, .inr ⟨same_t p1.I.kr g1, q _ _ _ _ _ _ s2 p1 e1 (VR.mkT g1 g2)⟩⟩
  | false =>
    obtain ⟨ad, vs, rfl, g1, g2⟩ := VR.kF (X := X) p1.I h2 z h4
    refine ⟨_, vs, rfl, .inl ⟨g1, fun l hl => ?_⟩⟩
    have e4 := Ex.gro (φ := φ1) p1.I.kr (H2 := upd Hr1 l (.tup vs))
    exact q _ _ _ _ _ _ s2 (p1.go (p1.I.gro (new_same hl _)) e4) (e1.trans e4) (VR.mkT (.inl (.inl (by rw [gro_new hl, upd_same]))) (g2.ex e4))
end
end Hx
noncomputable section
namespace Hx
open PySem L2 Pd Gn PySem.Spec PyProof.Rows Zq
/-- slots of which less is said -/
inductive LeR : Rho → Rho → Prop
  | nil : LeR [] []
  | keep {x : Option W} {r s : Rho} : LeR r s → LeR (x :: r) (x :: s)
  | drop {x : Option W} {r s : Rho} : LeR r s → LeR (none :: r) (x :: s)
theorem LeR.len : ∀ {r s : Rho}, LeR r s → r.length = s.length
  | _, _, .nil => rfl
  | _, _, .keep h => by rw [List.length_cons, List.length_cons, h.len]
  | _, _, .drop h => by rw [List.length_cons, List.length_cons, h.len]
theorem LeR.at : ∀ {r s : Rho} {i : Nat} {w : W}, LeR r s → r[i]? = some (some w) → s[i]? = some (some w)
  | _, _, _, _, .nil, h => by simp at h
  | _, _, 0, _, .keep h, g => by simpa using g
  | _, _, i + 1, _, .keep h, g => by
    have : _ := h.at (i := i) (by simpa using g)
    simpa using this
  | _, _, 0, _, .drop h, g => by simp at g
  | _, _, i + 1, _, .drop h, g => by
    have : _ := h.at (i := i) (by simpa using g)
    simpa using this
theorem LeR.set : ∀ {r s : Rho} {i : Nat} {x : Option W}, LeR r s → r[i]? = some none → LeR r (s.set i x)
  | _, _, _, _, .nil, h => by simp at h
  | _, _, 0, _, .keep h, g => by
    simp at g
    subst g
    exact .drop h
  | _, _, i + 1, _, .keep h, g => .keep (h.set (i := i) (by simpa using g))
  | _, _, 0, _, .drop h, g => .drop h
  | _, _, i + 1, _, .drop h, g => .drop (h.set (i := i) (by simpa using g))
theorem LeR.refl : ∀ {r : Rho}, LeR r r
  | [] => .nil
  | _ :: _ => .keep LeR.refl
theorem LeR.no : ∀ {s : Rho}, LeR (List.replicate s.length none) s
  | [] => .nil
  | _ :: s => .drop (LeR.no (s := s))
theorem LeR.sr {K : PySem.W.Frag} {wd : World} {φ : List Addr} {Hk : Hp} {r s : Rho} {σ : L2.St} (h : LeR r s) (R : SR K wd φ Hk s σ) : SR K wd φ Hk r σ := R.sub (by rw [h.len, R.len]) fun i w g => ⟨h.at g, rfl⟩
/-- where one stands, between statements; ρE: what is known of the slots when an error flies -/
structure Ps (X : Cx) (Wx : WX) (E : Xc → Hs → Prop) (ρE ρ : Rho) (hs : Hs) (φ : List Addr) (Ho Hk Hr : Hp) (σ : L2.St) : Prop where
  tk : L2.Takes X Wx
  I : Ok X.K X.w φ hs Ho Hk Hr
  R : SR X.K X.w φ Hk ρ σ
  sub : LeR ρE ρ
  x : ∀ x hs' C d φ' Hk' Hr' σ', E x hs' → Ok X.K X.w φ' hs' Ho Hk' Hr' → Ex φ Hk φ' Hk' → XA X.K X.mg x C d Hr' → SR X.K X.w φ' Hk' ρE σ' → Wx (.ref C) d σ' Hr'
section
variable {X : Cx} {Wx : WX} {E : Xc → Hs → Prop} {ρE ρ ρ' : Rho} {hs hs' : Hs} {φ φ' : List Addr} {Ho Hk Hk' Hr Hr' : Hp} {σ σ' : L2.St}
theorem Ps.pt (p : Ps X Wx E ρE ρ hs φ Ho Hk Hr σ) : Pt X Wx E ρ hs φ Ho Hk Hr σ := ⟨p.tk, p.I, p.R, fun x hs' C d φ' Hk' Hr' h I e a => p.x x hs' C d φ' Hk' Hr' σ h I e a (p.sub.sr (p.R.ex e))⟩
theorem Ps.to (p : Ps X Wx E ρE ρ hs φ Ho Hk Hr σ) (I : Ok X.K X.w φ' hs' Ho Hk' Hr') (e : Ex φ Hk φ' Hk') (R : SR X.K X.w φ' Hk' ρ' σ') (sub : LeR ρE ρ') : Ps X Wx E ρE ρ' hs' φ' Ho Hk' Hr' σ' :=
  ⟨p.tk, I, R, sub, fun x hs'' C d φ'' Hk'' Hr'' σ'' h I' e' a r => p.x x hs'' C d φ'' Hk'' Hr'' σ'' h I' (e.trans e') a r⟩
theorem Ps.of (p : Ps X Wx E ρE ρ hs φ Ho Hk Hr σ) (q : Pt X Wx E ρ hs' φ' Ho Hk' Hr' σ) (e : Ex φ Hk φ' Hk') : Ps X Wx E ρE ρ hs' φ' Ho Hk' Hr' σ := p.to q.I e q.R p.sub
end
def SM {α : Type} (X : Cx) (ρE : Rho) (sts : List Stmt) (ρ : Rho) (m : M (Res W α)) (g : α → Rho) : Prop :=
  ∀ {Wx : WX} {E : Xc → Hs → Prop} {P : Res W α → Hs → Prop} {hs : Hs} {φ : List Addr} {Ho Hk Hr : Hp} {σ : L2.St}, Ps X Wx E ρE ρ hs φ Ho Hk Hr σ → (m hs).sat P E → ∀ D : Ends,
    (∀ a hs' φ' Hk' Hr' σ', P (.nxt a) hs' → Ps X Wx E ρE (g a) hs' φ' Ho Hk' Hr' σ' → Ex φ Hk φ' Hk' → D.nx σ' Hr') →
    (∀ w hs' v φ' Hk' Hr', P (.ret w) hs' → Ok X.K X.w φ' hs' Ho Hk' Hr' → Ex φ Hk φ' Hk' → VR X.K X.w φ' Hk' w v → D.rt v Hr') → sSs X sts D σ Hr
/-! targets -/
def GM (K : PySem.W.Frag) (wd : World) {β : Type} (ρ : Rho) (g : TG) (u : W → Option β) (f : β → Rho) : Prop :=
  ∀ w b, u w = some b → ∀ φ Hk Hr σ v, Same Hk Hr → SR K wd φ Hk ρ σ → VR K wd φ Hk w v → ∀ Q : L2.St → Hp → Prop, (∀ σ', SR K wd φ Hk (f b) σ' → Q σ' Hr) → g v σ Hr Q
def GMs (K : PySem.W.Frag) (wd : World) {β : Type} (ρ : Rho) (g : TGs) (u : List W → Option β) (f : β → Rho) : Prop :=
  ∀ ws b, u ws = some b → ∀ φ Hk Hr σ vs, Same Hk Hr → SR K wd φ Hk ρ σ → VRs K wd φ Hk ws vs → ∀ Q : L2.St → Hp → Prop, (∀ σ', SR K wd φ Hk (f b) σ' → Q σ' Hr) → g vs σ Hr Q
section
variable {K : PySem.W.Frag} {wd : World} {ρ : Rho} {β γ : Type} {g : TG} {ts : TGs} {n : Nat}
def tgN : W → Option W := some
theorem gm_name : GM K wd ρ (gName n) tgN (fun w => ρ.set n (some w)) := fun w b h φ Hk Hr σ v kr R hv Q q => by
  cases h
  exact q _ (R.set hv)
def tgs0 : List W → Option Unit
  | [] => some ()
  | _ => none
theorem gms_nil : GMs K wd ρ gNil tgs0 (fun _ => ρ) := fun ws b h φ Hk Hr σ vs kr R hv Q q => by
  cases hv with
  | nil => exact ⟨rfl, q _ R⟩
  | cons _ _ => cases h
def tgsC (u : W → Option β) (us : List W → Option γ) : List W → Option (β × γ)
  | w :: r => (u w).bind fun b => (us r).map fun c => (b, c)
  | [] => none
theorem gms_cons {u : W → Option β} {us : List W → Option γ} {f : β → Rho} {fs : β → γ → Rho} (h1 : GM K wd ρ g u f) (h2 : ∀ b, GMs K wd (f b) ts us (fs b)) : GMs K wd ρ (gCons g ts) (tgsC u us) (fun p => fs p.1 p.2) := fun ws b h φ Hk Hr σ vs kr R hv Q q => by
  cases hv with
  | nil => cases h
  | cons hv hvs =>
    obtain ⟨b1, e1, h⟩ := bnd h
    obtain ⟨b2, e2, h⟩ := mpd h
    subst h
    exact ⟨_, _, rfl, h1 _ _ e1 φ Hk Hr σ _ kr R hv _ fun σ' R' => h2 b1 _ _ e2 φ Hk Hr σ' _ kr R' hvs _ q⟩
def tgT (n : Nat) (us : List W → Option γ) (w : W) : Option γ := (asT w).bind fun ws => match Nat.beq ws.length n with | true => us ws | false => none
theorem gm_tup {us : List W → Option γ} {f : γ → Rho} (h : GMs K wd ρ ts us f) : GM K wd ρ (gTup K n ts) (tgT n us) f := fun w b e φ Hk Hr σ v kr R hv Q q => by
  obtain ⟨ws, e1, e2⟩ := bnd e
  obtain ⟨a, vs, rfl, h1, h2⟩ := hv.asT e1
  cases z : Nat.beq ws.length n with
  | false => rw [z] at e2; cases e2
  | true =>
    rw [z] at e2
    exact ⟨a, vs, rfl, same_t kr h1, by rw [VRs.len h2]; exact Nat.eq_of_beq_eq_true z, h _ _ e2 φ Hk Hr σ _ kr R h2 _ q⟩
end
/-! statements -/
def retE {α : Type} (m : M (Res W Empty)) : M (Res W α) := bd m fun r => match r with | .ret w => rt (.ret w) | .nxt e => nomatch e
def seqM {α β : Type} (m : M (Res W α)) (k : α → M (Res W β)) : M (Res W β) := bd m fun r => match r with | .ret w => rt (.ret w) | .nxt a => k a
def frzM (w : W) : M W := fun h => match w with
  | .ref i => match h.get i with | some (.lst ws) => .ok (mkL ws) (h.del i) | _ => .bad
  | w => .ok w h
def whM {α : Type} (c : α → M Bool) (b : α → M (Res W α)) : Nat → α → M (Res W α)
  | 0, _ => fun _ => .bad
  | n + 1, a => bd (c a) fun k => match k with | true => seqM (b a) (whM c b n) | false => rt (.nxt a)
section
variable {X : Cx} {ρE ρ : Rho} {a b c e tg : Expr} {es : List Expr} {rest body tb eb sts : List Stmt} {m m1 m2 : M W} {ma : M (List W)} {mc : M Bool} {n i j k' : Nat} {pos p0 p1 p2 : Pos} {x y : Str} {w : W} {α β γ : Type} {g : α → Rho} {g1 : β → Rho}
theorem sm_nil {z : α} (h : LeR (g z) ρ) (h2 : LeR ρE (g z)) : SM X ρE [] ρ (rt (.nxt z)) g := fun p s D nx r => sSs_of pss_nil (nx z _ _ _ _ _ s (p.to p.I Ex.refl (h.sr p.R) h2) Ex.refl)
theorem sm_set {k : W → M (Res W α)} (hN : X.N.Nodup) (hi : X.N[n]? = some x) (hE : ρE[n]? = some none) (he : EM X e ρ m) (hr : ∀ w, SM X ρE rest (ρ.set n (some w)) (k w) g) (hx : Loc X.env.scope x := by first | exact Or.inl rfl | exact Or.inr rfl)
    (hs : swapsWith e (some (.Name x p0)) pos.line X.env = pure false := by rfl) (hf : X.fn x = true ∨ X.env.scope.names.lookup x = some .local := by first | exact .inl rfl | exact .inr rfl) : SM X ρE (.Assign [.Name x p0] e pos :: rest) ρ (bd m k) g := fun p s D nx r =>
  sSs_of (pss_cons (ps_set hN hi hx pe_s hs hf) pss_s) (he p.pt (sat_bind s) _ fun w h1 v φ1 Hk1 Hr1 s1 p1 e1 hv =>
    hr w (p.to p1.I e1 (p1.R.set hv) (p.sub.set hE)) s1 D (fun a hs' φ' Hk' Hr' σ' h q e' => nx a hs' φ' Hk' Hr' σ' h q (e1.trans e')) (fun w hs' v φ' Hk' Hr' h I e' hv => r w hs' v φ' Hk' Hr' h I (e1.trans e') hv))
/-- target = value -/
theorem sm_asg {gt : TG} {u : W → Option β} {f : β → Rho} {k : β → M (Res W α)} (he : EM X e ρ m) (hg : PG X tg gt) (hu : GM X.K X.w ρ gt u f) (hE : ∀ b, LeR ρE (f b)) (hr : ∀ b, SM X ρE rest (f b) (k b) g)
    (hs : swapsWithSole [tg] e pos.line X.env = pure false := by rfl) (hw : swappedStores [tg] e X.env = pure none := by rfl) (h1 : (assignEach [tg] X.env).map (·.2) = [assign tg X.env] := by rfl) : SM X ρE (.Assign [tg] e pos :: rest) ρ (bd m fun w => bd (lf (u w)) k) g := fun p s D nx r =>
  sSs_of (pss_cons (ps_asg pe_s hg hs hw h1) pss_s) (he p.pt (sat_bind s) _ fun w h1 v φ1 Hk1 Hr1 s1 p1 e1 hv => by
    obtain ⟨b, hb, s2⟩ := sat_lf (sat_bind s1)
    exact hu w b hb φ1 Hk1 Hr1 _ v p1.I.kr p1.R hv _ fun σ' R' => hr b (p.to p1.I e1 R' (hE b)) s2 D (fun a hs' φ' Hk' Hr' σ' h q e' => nx a hs' φ' Hk' Hr' σ' h q (e1.trans e')) (fun w hs' v φ' Hk' Hr' h I e' hv => r w hs' v φ' Hk' Hr' h I (e1.trans e') hv))
/-- x, y = a, b -/
theorem sm_par {k : W → W → M (Res W α)} {kt k2 : Nat} {px py pt pt2 : Pos} (hc : X.calm = true) (hN : X.N.Nodup) (hi : X.N[i]? = some x) (hj : X.N[j]? = some y) (hij : i ≠ j) (hEi : ρE[i]? = some none) (hEj : ρE[j]? = some none) (ha : EM X a ρ m1) (hb : EM X b ρ m2) (hr : ∀ v w, SM X ρE rest ((ρ.set i (some v)).set j (some w)) (k v w) g)
    (hp : PS X (.Assign [.Tuple [.Name x px, .Name y py] kt pt] (.Tuple [a, b] k2 pt2) pos) (tPar i j (sA X [a, b]))) (hs : starEach [a, b] X.env = (false, eval a X.env) :: starEach [b] X.env := by rfl) (hs2 : starEach [b] X.env = (false, eval b X.env) :: starEach [] X.env := by rfl) :
    SM X ρE (.Assign [.Tuple [.Name x px, .Name y py] kt pt] (.Tuple [a, b] k2 pt2) pos :: rest) ρ (bd m1 fun v => bd m2 fun w => k v w) g := fun p s D nx r =>
  sSs_of (pss_cons hp pss_s) (sA_of (pa_cons pe_s (pa_cons pe_s pa_nil hs2) hs) (ha p.pt (sat_bind s) _ fun w1 h1 v1 φ1 Hk1 Hr1 s1 p1 e1 hv1 => hb p1 (sat_bind s1) _ fun w2 h2 v2 φ2 Hk2 Hr2 s2 p2 e2 hv2 => by
    have e12 := e1.trans e2
    exact ⟨v1, v2, rfl, hr w1 w2 (p.to p2.I e12 ((p2.R.set (hv1.ex e2)).set hv2) ((p.sub.set hEi).set hEj)) s2 D (fun a hs' φ' Hk' Hr' σ' h q e' => nx a hs' φ' Hk' Hr' σ' h q (e12.trans e')) (fun w hs' v φ' Hk' Hr' h I e' hv => r w hs' v φ' Hk' Hr' h I (e12.trans e') hv)⟩))
theorem sm_expr {k : M (Res W α)} (he : EM X e ρ m) (hr : SM X ρE rest ρ k g) (hs : swapsWith e none pos.line X.env = pure false := by rfl) : SM X ρE (.Expr e pos :: rest) ρ (bd m fun _ => k) g := fun p s D nx r =>
  sSs_of (pss_cons (ps_expr pe_s hs) pss_s) (he p.pt (sat_bind s) _ fun w h1 v φ1 Hk1 Hr1 s1 p1 e1 hv =>
    hr (p.of p1 e1) s1 D (fun a hs' φ' Hk' Hr' σ' h q e' => nx a hs' φ' Hk' Hr' σ' h q (e1.trans e')) (fun w hs' v φ' Hk' Hr' h I e' hv => r w hs' v φ' Hk' Hr' h I (e1.trans e') hv))
theorem sm_ret (he : EM X e ρ m) : SM X ρE (.Return (some e) pos :: rest) ρ (bd m fun w => rt (.ret w)) g := fun p s D nx r =>
  sSs_of (pss_cons (ps_ret pe_s) pss_s) (he p.pt (sat_bind s) _ fun w h1 v φ1 Hk1 Hr1 s1 p1 e1 hv => r w _ v _ _ _ s1 p1.I e1 hv)
theorem sm_retN : SM X ρE (.Return none pos :: rest) ρ (rt (.ret (.dat .none))) g := fun p s D nx r =>
  sSs_of (pss_cons ps_retN pss_s) (r _ _ .non _ _ _ s p.I Ex.refl (.dat .non))
theorem sm_if {k : β → M (Res W α)} {s1 s2 : M (Res W β)} (hc : TM X c ρ mc) (ha : SM X ρE tb ρ s1 g1) (hb : SM X ρE eb ρ s2 g1) (hr : ∀ z, SM X ρE rest (g1 z) (k z) g) : SM X ρE (.If c tb eb pos :: rest) ρ (seqM (ifM mc s1 s2) k) g := fun p s D nx r =>
  sSs_of (pss_cons (ps_if pt_s pss_s pss_s) pss_s) (hc p.pt (sat_bind (sat_bind s)) _ fun kk h1 φ1 Hk1 Hr1 t1 p1 e1 => by
    cases kk with
    | true => exact iteT (ha (p.of p1 e1) t1 _ (fun z hs' φ' Hk' Hr' σ' h q e' => hr z q h D (fun a hs' φ2 Hk2 Hr2 σ2 h q e2 => nx a hs' φ2 Hk2 Hr2 σ2 h q (e1.trans (e'.trans e2))) (fun w hs' v φ2 Hk2 Hr2 h I e2 hv => r w hs' v φ2 Hk2 Hr2 h I (e1.trans (e'.trans e2)) hv)) (fun w hs' v φ' Hk' Hr' h I e' hv => r w hs' v φ' Hk' Hr' h I (e1.trans e') hv))
    | false => exact iteF (hb (p.of p1 e1) t1 _ (fun z hs' φ' Hk' Hr' σ' h q e' => hr z q h D (fun a hs' φ2 Hk2 Hr2 σ2 h q e2 => nx a hs' φ2 Hk2 Hr2 σ2 h q (e1.trans (e'.trans e2))) (fun w hs' v φ2 Hk2 Hr2 h I e2 hv => r w hs' v φ2 Hk2 Hr2 h I (e1.trans (e'.trans e2)) hv)) (fun w hs' v φ' Hk' Hr' h I e' hv => r w hs' v φ' Hk' Hr' h I (e1.trans e') hv)))
/-- an if without else whose suite hands back -/
theorem sm_ifR {k : M (Res W α)} {s1 : M (Res W Empty)} {g0 : Empty → Rho} (hc : TM X c ρ mc) (ha : SM X ρE tb ρ s1 g0) (hr : SM X ρE rest ρ k g) : SM X ρE (.If c tb [] pos :: rest) ρ (ifM mc (retE s1) k) g := fun p s D nx r =>
  sSs_of (pss_cons (ps_if pt_s pss_s pss_s) pss_s) (hc p.pt (sat_bind s) _ fun kk h1 φ1 Hk1 Hr1 t1 p1 e1 => by
    cases kk with
    | true => exact iteT (ha (p.of p1 e1) (sat_bind t1) _ (fun z _ _ _ _ _ _ _ _ => nomatch z) (fun w hs' v φ' Hk' Hr' h I e' hv => r w hs' v φ' Hk' Hr' h I (e1.trans e') hv))
    | false => exact iteF (sSs_of pss_nil (hr (p.of p1 e1) t1 D (fun a hs' φ' Hk' Hr' σ' h q e' => nx a hs' φ' Hk' Hr' σ' h q (e1.trans e')) (fun w hs' v φ' Hk' Hr' h I e' hv => r w hs' v φ' Hk' Hr' h I (e1.trans e') hv))))
theorem sm_forget {mm : M (Res W α)} (hE : LeR ρE (ρ.set n none)) (hr : SM X ρE sts (ρ.set n none) mm g) : SM X ρE sts ρ mm g := fun p s D nx r => hr (p.to p.I Ex.refl p.R.no hE) s D nx r
theorem frz_ok {K : PySem.W.Frag} {wd : World} {φ : List Addr} {hs : Hs} {Ho Hk Hr : Hp} {v : V} {P : W → Hs → Prop} {E : Xc → Hs → Prop} (I : Ok K wd φ hs Ho Hk Hr) (hv : VR K wd φ Hk w v) (s : (frzM w hs).sat P E) : ∃ w' hs' Hk', Ok K wd φ hs' Ho Hk' Hr ∧ Same Hk Hk' ∧ VR K wd φ Hk' w' v ∧ P w' hs' := by
  have other : (frzM w hs = .ok w hs) → ∃ w' hs' Hk', Ok K wd φ hs' Ho Hk' Hr ∧ Same Hk Hk' ∧ VR K wd φ Hk' w' v ∧ P w' hs' := fun e => by
    rw [e] at s
    exact ⟨w, hs, Hk, I, Same.refl _, hv, s⟩
  cases w with
  | ref i =>
    have s1 : (match hs.get i with | some (.lst ws) => T.ok (mkL ws) (hs.del i) | _ => T.bad : T W).sat P E := s
    cases g : hs.get i with
    | none =>
      rw [g] at s1
      exact s1.elim
    | some o =>
      rw [g] at s1
      cases o with
      | lst ws =>
        obtain ⟨a, Hk', f1, f2, I2, f3⟩ := I.fix g
        cases hv with
        | ref ha =>
          rw [ha] at f1
          cases f1
          exact ⟨_, _, Hk', I2, f2, f3, s1⟩
      | _ => exact s1.elim
  | _ => exact other rfl
theorem set_same {σ : L2.St} {v : V} (h : σ[n]? = some (some v)) : σ.set n (some v) = σ := by
  refine List.ext_getElem? fun j => ?_
  by_cases q : n = j
  · subst q
    have := (List.getElem?_eq_some_iff.mp h).1
    rw [List.getElem?_set_self this, h]
  · rw [List.getElem?_set_ne q]
theorem sm_frz {k : W → M (Res W α)} (h : ρ[n]? = some (some w)) (hE : ρE[n]? = some none) (hr : ∀ w, SM X ρE sts (ρ.set n (some w)) (k w) g) : SM X ρE sts ρ (bd (frzM w) k) g := fun {Wx E P hs φ Ho Hk Hr σ} p s D nx r => by
  obtain ⟨v, q1, q2⟩ := p.R.at_ n w h
  obtain ⟨w', hs', Hk', I2, e2, hv, s2⟩ := frz_ok p.I q2 (sat_bind s)
  have ee : Ex φ Hk φ Hk' := ⟨Fx.refl, e2⟩
  have R := (p.R.ex ee).set hv (n := n)
  rw [set_same q1] at R
  exact hr w' (p.to I2 ee R (p.sub.set hE)) s2 D (fun a hs' φ' Hk' Hr' σ' h q e' => nx a hs' φ' Hk' Hr' σ' h q (ee.trans e')) (fun w hs' v φ' Hk' Hr' h I e' hv => r w hs' v φ' Hk' Hr' h I (ee.trans e') hv)
/-- while -/
theorem sm_while {f : β → Rho} {mcw : β → M Bool} {mb : β → M (Res W β)} {k : β → M (Res W α)} {N : Nat} {z0 : β} (h0 : f z0 = ρ) (hc : ∀ z, TM X c (f z) (mcw z)) (hb : ∀ z, SM X ρE body (f z) (mb z) f) (hr : ∀ z, SM X ρE rest (f z) (k z) g)
    (hp : PassesOwn (model X.prog X.w) X.A X.env X.xe) : SM X ρE (.While c body [] pos :: rest) ρ (seqM (whM mcw mb N z0) k) g := fun {Wx E P hs φ Ho Hk Hr σ} p s D nx r => by
  subst h0
  refine sSs_of (pss_cons (ps_while hp pt_s pss_s) pss_s) ?_
  refine ⟨fun n σ' Hr' => ∃ z hs' φ' Hk', Ps X Wx E ρE (f z) hs' φ' Ho Hk' Hr' σ' ∧ Ex φ Hk φ' Hk' ∧ (seqM (whM mcw mb n z) k hs').sat P E, ⟨N, z0, hs, φ, Hk, p, Ex.refl, s⟩, fun n σ' Hr' hW => ?_⟩
  obtain ⟨z, hs', φ', Hk', p', e', s'⟩ := hW
  cases n with
  | zero => exact s'.elim
  | succ n =>
    refine hc z p'.pt (sat_bind (sat_bind s')) _ fun kk h1 φ1 Hk1 Hr1 t1 p1 e1 => ?_
    cases kk with
    | true =>
      refine iteT ⟨fun σ2 H2 => ∃ m', m' < n + 1 ∧ ∃ z hs' φ' Hk', Ps X Wx E ρE (f z) hs' φ' Ho Hk' H2 σ2 ∧ Ex φ Hk φ' Hk' ∧ (seqM (whM mcw mb m' z) k hs').sat P E, fun σ2 H2 hN => hN, ?_⟩
      have t2 : ((mb z h1).bind fun r h => ((match r with | .ret w => rt (.ret w) | .nxt a => whM mcw mb n a : M (Res W β)) h)).sat (fun a h => ((match a with | .ret w => rt (.ret w) | .nxt a => k a : M (Res W α)) h).sat P E) E := t1
      exact hb z (p'.of p1 e1) (sat_bind t2) _ (fun z2 hs2 φ2 Hk2 Hr2 σ2 h q e2 => ⟨n, Nat.lt_succ_self n, z2, hs2, φ2, Hk2, q, e'.trans (e1.trans e2), sat_of h⟩) (fun w hs2 v φ2 Hk2 Hr2 h I e2 hv => r w hs2 v φ2 Hk2 Hr2 h I (e'.trans (e1.trans e2)) hv)
    | false => exact iteF (hr z (p'.of p1 e1) t1 D (fun a hs2 φ2 Hk2 Hr2 σ2 h q e2 => nx a hs2 φ2 Hk2 Hr2 σ2 h q (e'.trans (e1.trans e2))) (fun w hs2 v φ2 Hk2 Hr2 h I e2 hv => r w hs2 v φ2 Hk2 Hr2 h I (e'.trans (e1.trans e2)) hv))
end
end Hx
noncomputable section
namespace Hx
open PySem L2 Pd Gn PySem.Spec PyProof.Rows Zq RZ RT
/-! what is walked -/
def WkM (K : PySem.W.Frag) (wd : World) (φ : List Addr) (J : It) (ws : List W) (Hk : Hp) : Prop := ∀ i Hr, Same Hk Hr →
  (i < ws.length → J.go i Hr) ∧ (i = ws.length → J.stop i Hr) ∧ ∀ x H', J.yld i Hr x H' → Same Hr H' ∧ ∀ w, ws[i]? = some w → VR K wd φ (gro Hk Hr H') w x
theorem wkm_of {K : PySem.W.Frag} {wd : World} {φ : List Addr} {J : It} {ds : List PyData} {Hk : Hp} (h : Wk K J ds Hk) : WkM K wd φ J (ds.map .dat) Hk := fun i Hr e => by
  obtain ⟨h1, h2, h3⟩ := h i Hr e
  refine ⟨fun q => h1 (by simpa using q), fun q => h2 (by simpa using q), fun x H' hy => ?_⟩
  obtain ⟨g1, g2⟩ := h3 x H' hy
  refine ⟨g1, fun w hw => ?_⟩
  rw [List.getElem?_map] at hw
  cases z : ds[i]? with
  | none => rw [z] at hw; cases hw
  | some d =>
    rw [z] at hw
    cases hw
    exact .dat (g2 d z)
def wI (X : Cx) (tg iter : Expr) : TI := fun σ H R => ∀ (pins : List (Addr × Obj)) (s : Shared), Inv X pins σ H s → wpAny (model X.prog X.w) X.A (eval iter X.env) (fun v s1 => wpAny (model X.prog X.w) X.A (pyIter v) (PIE X pins σ tg R) X.xe s1) X.xe s
theorem pi_w {X : Cx} {tg iter : Expr} : PI X tg iter (wI X tg iter) := ⟨fun pins s σ H R I h => h pins s I⟩
theorem wI_of {X : Cx} {tg iter : Expr} {wi : TI} {σ : L2.St} {H : Hp} {R : It → Hp → Prop} (h : PI X tg iter wi) (q : wi σ H R) : wI X tg iter σ H R := fun pins s I => h.run pins s σ H R I q
def IM (X : Cx) (tg iter : Expr) (ρ : Rho) (m : M (List W)) : Prop :=
  ∀ {Wx : WX} {E : Xc → Hs → Prop} {P : List W → Hs → Prop} {hs : Hs} {φ : List Addr} {Ho Hk Hr : Hp} {σ : L2.St}, Pt X Wx E ρ hs φ Ho Hk Hr σ → (m hs).sat P E →
    ∀ R : It → Hp → Prop, (∀ ws hs' J φ' Hk' Hr', P ws hs' → Pt X Wx E ρ hs' φ' Ho Hk' Hr' σ → Ex φ Hk φ' Hk' → WkM X.K X.w φ' J ws Hk' → R J Hr') → wI X tg iter σ Hr R
def itG (K : PySem.W.Frag) (t : Bool) (a : Addr) : It := match t with | false => Itl K a | true => Itt K a
theorem wkm_g {K : PySem.W.Frag} {wd : World} {φ : List Addr} {Hk : Hp} {t : Bool} {a : Addr} {xs : List V} {ws : List W} (hs : gSq K t Hk a xs) (hx : VRs K wd φ Hk ws xs) : WkM K wd φ (itG K t a) ws Hk := fun i Hr e => by
  have l1 := VRs.len hx
  cases t
  · have hs' : SqL K Hr a xs := same_l e hs
    refine ⟨fun hi => ⟨xs, _, hs', List.getElem?_eq_getElem (by omega)⟩, fun hi => ⟨xs, hs', by omega⟩, fun x H' hy => ?_⟩
    obtain ⟨rfl, f⟩ := hy
    refine ⟨Same.refl _, fun w hw => ?_⟩
    obtain ⟨v, s1, s2⟩ := VRs.get hx hw
    have := f _ hs'
    rw [s1] at this
    cases this
    exact s2.mono Fx.refl (gro_same e)
  · have hs' : SqT K Hr a xs := same_t e hs
    refine ⟨fun hi => ⟨xs, _, hs', List.getElem?_eq_getElem (by omega)⟩, fun hi => ⟨xs, hs', by omega⟩, fun x H' hy => ?_⟩
    obtain ⟨rfl, f⟩ := hy
    refine ⟨Same.refl _, fun w hw => ?_⟩
    obtain ⟨v, s1, s2⟩ := VRs.get hx hw
    have := f _ hs'
    rw [s1] at this
    cases this
    exact s2.mono Fx.refl (gro_same e)
def stepM {α β : Type} (u : W → Option β) (mb : β → α → M (Res W α)) (w : W) (a : α) : M (Res W α) := bd (lf (u w)) fun b => mb b a
def forM {α : Type} (st : W → α → M (Res W α)) : List W → α → M (Res W α)
  | [], a => rt (.nxt a)
  | w :: ws, a => seqM (st w a) (forM st ws)
section
variable {X : Cx} {ρE ρ : Rho} {a b c e tg iter : Expr} {es tgs : List Expr} {rest body tb eb sts : List Stmt} {m m1 m2 m3 : M W} {ma mi : M (List W)} {mc : M Bool} {n i j k' tn : Nat} {pos p0 p1 p2 tpos : Pos} {x y : Str} {w : W} {α β γ : Type} {g : α → Rho}
/-- a value, walked -/
theorem pi_any {te : TE} (hl : PE X iter te) : PI X tg iter (fun σ H R => te σ H fun x H1 => ∃ t a xs, x = .ref a ∧ gSq X.K t H1 a xs ∧ R (itG X.K t a) H1) := by
  refine ⟨fun pins s σ H R I h => ?_⟩
  refine thn (hl.run pins s σ H _ I h) fun v s1 ⟨x, H1, I1, r1, q1⟩ => ?_
  obtain ⟨t, a, xs, e, hq, q⟩ := q1
  subst e
  cases r1
  cases t
  · obtain ⟨its, rv, p, hz⟩ := I1.list hq
    refine wpAny_pyIter_list p.isList ?_
    refine ⟨s1.heap.objs.size, [s1.heap.objs.size], _, _, H1, rfl, I1.kept (t' := s1.toks) fun b o e => Heap.get?_push_of_some _ e, turn_list a _, ⟨_, Heap.get?_push_size _ rfl, rfl, rfl⟩, fun b hb => ?_, q⟩
    have e : b = s1.heap.objs.size := by simpa using hb
    subst e
    exact I1.fpOk (Nat.le_refl _) (I1.hok.fresh (Nat.le_refl _))
  · obtain ⟨its, rv, p, hz⟩ := I1.tuple hq
    refine wpAny_pyIter_tuple (show s1.heap.IsTuple a its.toArray from p) ?_
    refine ⟨s1.heap.objs.size, [s1.heap.objs.size], _, _, H1, rfl, I1.kept (t' := s1.toks) fun b o e => Heap.get?_push_of_some _ e, turn_tuple a _, ⟨_, Heap.get?_push_size _ rfl, rfl, rfl⟩, fun b hb => ?_, q⟩
    have e : b = s1.heap.objs.size := by simpa using hb
    subst e
    exact I1.fpOk (Nat.le_refl _) (I1.hok.fresh (Nat.le_refl _))
def sqM (m : M W) : M (List W) := bd m fun w => lf (seqW w)
theorem im_val (ha : EM X iter ρ m) : IM X tg iter ρ (sqM m) := fun p s R q => wI_of (pi_any pe_s) (ha p (sat_bind s) _ fun w h1 v φ1 Hk1 Hr1 s1 p1 e1 hv => by
  obtain ⟨ws, h2, s2⟩ := sat_lf s1
  obtain ⟨t, a, xs, rfl, g1, g2⟩ := hv.seq h2
  exact ⟨t, a, xs, rfl, same_g p1.I.kr g1, q _ _ _ _ _ _ s2 p1 e1 (wkm_g g1 g2)⟩)
def rg1 (m : M W) : M (List W) := bd m fun w => lf ((asIW w).bind fun j => gd (small j) (some ((rngD 0 j.toNat).map .dat)))
theorem im_range1 (hm : X.mg "range" = none) (ha : EM X a ρ m) (hg : Gl X "range" := by rfl) (hs : starEach [a] X.env = [(false, eval a X.env)] := by rfl) : IM X tg (.Call (.Name "range" p0) [a] [] pos) ρ (rg1 m) := fun p s R q => by
  refine wI_of (pi_range1 hg hm pa_s hs) (am_one ha hs p (sat_bind s) _ fun w h1 v φ1 Hk1 Hr1 s1 p1 e1 hv => ?_)
  obtain ⟨ws, h2, s2⟩ := sat_lf s1
  obtain ⟨j, h3, h4⟩ := bnd h2
  obtain ⟨g1, g2⟩ := gd_some h4
  have := small_at g1
  cases g2
  have := asIW_eq h3
  subst this
  obtain rfl := vr_int (X := X) hv
  exact ⟨j, rfl, by omega, by omega, q _ _ _ _ _ _ s2 p1 e1 (wkm_of wk_rng)⟩
theorem am_two (ha : EM X a ρ m1) (hb : EM X b ρ m2) (he : starEach [a, b] X.env = (false, eval a X.env) :: starEach [b] X.env) (he2 : starEach [b] X.env = (false, eval b X.env) :: starEach [] X.env) {Wx : WX} {E : Xc → Hs → Prop} {P : W → Hs → Prop} {hs : Hs} {φ : List Addr} {Ho Hk Hr : Hp} {σ : L2.St} (p : Pt X Wx E ρ hs φ Ho Hk Hr σ) {mm : W → W → M β} {P : β → Hs → Prop} (s : (bd m1 (fun x => bd m2 fun y => mm x y) hs).sat P E)
    (Q : List V → Hp → Prop) (q : ∀ w1 w2 hs' v1 v2 φ' Hk' Hr', (mm w1 w2 hs').sat P E → Pt X Wx E ρ hs' φ' Ho Hk' Hr' σ → Ex φ Hk φ' Hk' → VR X.K X.w φ' Hk' w1 v1 → VR X.K X.w φ' Hk' w2 v2 → Q [v1, v2] Hr') : sA X [a, b] σ Hr Q :=
  sA_of (pa_cons pe_s (pa_cons pe_s pa_nil he2) he) (ha p (sat_bind s) _ fun w1 h1 v1 φ1 Hk1 Hr1 s1 p1 e1 hv1 => hb p1 (sat_bind s1) _ fun w2 h2 v2 φ2 Hk2 Hr2 s2 p2 e2 hv2 => q _ _ _ _ _ _ _ _ s2 p2 (e1.trans e2) (hv1.ex e2) hv2)
def rg2 (m1 m2 : M W) : M (List W) := bd m1 fun x => bd m2 fun y => lf ((asIW x).bind fun i => (asIW y).bind fun j => gd (small i && small j) (some ((rngD i (j - i).toNat).map .dat)))
theorem im_range2 (hm : X.mg "range" = none) (ha : EM X a ρ m1) (hb : EM X b ρ m2) (hg : Gl X "range" := by rfl) (hs : starEach [a, b] X.env = [(false, eval a X.env), (false, eval b X.env)] := by rfl) (hs2 : starEach [b] X.env = [(false, eval b X.env)] := by rfl) : IM X tg (.Call (.Name "range" p0) [a, b] [] pos) ρ (rg2 m1 m2) := fun p s R q => by
  refine wI_of (pi_range2 hg hm pa_s hs hs2) (am_two (P := fun _ _ => True) ha hb (by rw [hs, hs2]) (by rw [hs2]; rfl) p s _ fun w1 w2 h1 v1 v2 φ1 Hk1 Hr1 s1 p1 e1 hv1 hv2 => ?_)
  obtain ⟨ws, h2, s2⟩ := sat_lf s1
  obtain ⟨i, h3, h4⟩ := bnd h2
  obtain ⟨j, h5, h6⟩ := bnd h4
  obtain ⟨g1, g2⟩ := gd_some h6
  rw [Bool.and_eq_true] at g1
  have b1 := small_at g1.1
  have b2 := small_at g1.2
  cases g2
  have := asIW_eq h3
  subst this
  have := asIW_eq h5
  subst this
  obtain rfl := vr_int (X := X) hv1
  obtain rfl := vr_int (X := X) hv2
  exact ⟨i, j, rfl, ⟨by omega, by omega, by omega, by omega⟩, q _ _ _ _ _ _ s2 p1 e1 (wkm_of wk_rng)⟩
/-- range(i, j, -1) -/
def rgD (m1 m2 : M W) : M (List W) := bd m1 fun x => bd m2 fun y => lf ((asIW x).bind fun i => (asIW y).bind fun j => gd (small i && small j) (some ((dwnD i (i - j).toNat).map .dat)))
theorem im_down {q1 q2 : Pos} {cn : Nat} (hm : X.mg "range" = none) (ha : EM X a ρ m1) (hb : EM X b ρ m2) (hg : Gl X "range" := by rfl) (hs : starEach [a, b, .UnaryOp .USub (.Constant (.int 1) cn q1) q2] X.env = (false, eval a X.env) :: starEach [b, .UnaryOp .USub (.Constant (.int 1) cn q1) q2] X.env := by rfl)
    (hs1 : starEach [b, .UnaryOp .USub (.Constant (.int 1) cn q1) q2] X.env = (false, eval b X.env) :: starEach [.UnaryOp .USub (.Constant (.int 1) cn q1) q2] X.env := by rfl) (hs2 : starEach [.UnaryOp .USub (.Constant (.int 1) cn q1) q2] X.env = (false, eval (.UnaryOp .USub (.Constant (.int 1) cn q1) q2) X.env) :: starEach [] X.env := by rfl)
    (hpl : (backTo pos (starEach [b, .UnaryOp .USub (.Constant (.int 1) cn q1) q2] X.env)).any (·.1) = false := by rfl) : IM X tg (.Call (.Name "range" p0) [a, b, .UnaryOp .USub (.Constant (.int 1) cn q1) q2] [] pos) ρ (rgD m1 m2) := fun p s R q => by
  refine wI_of (pi_range3 hg hm pa_s hs hpl) (sA_of (pa_cons pe_s (pa_cons pe_s (pa_cons (pe_un un_neg pe_int) pa_nil hs2) hs1) hs) (ha p (sat_bind s) _ fun w1 h1 v1 φ1 Hk1 Hr1 s1 p1 e1 hv1 => hb p1 (sat_bind s1) _ fun w2 h2 v2 φ2 Hk2 Hr2 s2 p2 e2 hv2 => ?_))
  obtain ⟨ws, h2, s3⟩ := sat_lf s2
  obtain ⟨i, h3, h4⟩ := bnd h2
  obtain ⟨j, h5, h6⟩ := bnd h4
  obtain ⟨g1, g2⟩ := gd_some h6
  rw [Bool.and_eq_true] at g1
  have b1 := small_at g1.1
  have b2 := small_at g1.2
  cases g2
  have := asIW_eq h3
  subst this
  have := asIW_eq h5
  subst this
  obtain rfl := vr_int (X := X) hv1
  obtain rfl := vr_int (X := X) hv2
  exact ⟨1, rfl, i, j, -1, (i - j).toNat, rfl, RgC.neg (by omega) (by omega) (by omega) (by omega), q _ _ _ _ _ _ s3 p2 (e1.trans e2) (wkm_of wk_dwn)⟩
/-! zip, enumerate -/
def zipW : List W → List W → List W
  | x :: xs, y :: ys => mkT [x, y] :: zipW xs ys
  | _, _ => []
theorem zipW_len : ∀ {xs ys : List W}, (zipW xs ys).length = min xs.length ys.length
  | [], ys => by simp [zipW]
  | x :: xs, [] => by simp [zipW]
  | x :: xs, y :: ys => by simp [zipW, zipW_len (xs := xs) (ys := ys)]
theorem zipW_get : ∀ {xs ys : List W} {n : Nat} {w : W}, (zipW xs ys)[n]? = some w → ∃ x y, xs[n]? = some x ∧ ys[n]? = some y ∧ w = mkT [x, y]
  | [], ys, n, w, h => by simp [zipW] at h
  | x :: xs, [], n, w, h => by simp [zipW] at h
  | x :: xs, y :: ys, 0, w, h => by
    simp [zipW] at h
    exact ⟨x, y, rfl, rfl, h.symm⟩
  | x :: xs, y :: ys, n + 1, w, h => by
    obtain ⟨u, v, h1, h2, h3⟩ := zipW_get (xs := xs) (ys := ys) (n := n) (by simpa [zipW] using h)
    exact ⟨u, v, by simpa using h1, by simpa using h2, h3⟩
theorem gro_mk {K : PySem.W.Frag} {wd : World} {φ : List Addr} {Hk Hr : Hp} {t : Addr} {ws : List W} {vs : List V} (kr : Same Hk Hr) (ht : Hr t = none) (h : VRs K wd φ Hk ws vs) : VR K wd φ (gro Hk Hr (upd Hr t (.tup vs))) (mkT ws) (.ref t) :=
  VR.mkT (.inl (.inl (by rw [gro_new ht, upd_same]))) (h.mono Fx.refl (gro_same kr))
theorem wkm_z2 {K : PySem.W.Frag} {wd : World} {φ : List Addr} {Hk : Hp} {t1 t2 : Bool} {a b : Addr} {xs ys : List V} {ws us : List W} (hs : gSq K t1 Hk a xs) (ht : gSq K t2 Hk b ys) (hx : VRs K wd φ Hk ws xs) (hy : VRs K wd φ Hk us ys) : WkM K wd φ (ItG K t1 t2 a b) (zipW ws us) Hk := fun i Hr e => by
  have l1 := VRs.len hx
  have l2 := VRs.len hy
  have hs' := same_g e hs
  have ht' := same_g e ht
  refine ⟨fun hi => ?_, fun hi => ?_, fun x H' h => ?_⟩
  · rw [zipW_len] at hi
    exact ⟨xs, ys, _, _, hs', ht', List.getElem?_eq_getElem (by omega), List.getElem?_eq_getElem (by omega)⟩
  · rw [zipW_len] at hi
    exact ⟨xs, ys, hs', ht', by omega, by omega, by omega⟩
  · obtain ⟨T, x', y', rfl, hn, rfl, f1, f2⟩ := h
    refine ⟨new_same hn _, fun w hw => ?_⟩
    obtain ⟨u, v, q1, q2, rfl⟩ := zipW_get hw
    obtain ⟨u', s1, s2⟩ := VRs.get hx q1
    obtain ⟨v', s3, s4⟩ := VRs.get hy q2
    have g1 := f1 _ hs'
    have g2 := f2 _ ht'
    rw [s1] at g1
    rw [s3] at g2
    cases g1
    cases g2
    exact gro_mk e hn (.cons s2 (.cons s4 .nil))
def z2M (m1 m2 : M W) : M (List W) := bd m1 fun x => bd m2 fun y => lf ((seqW x).bind fun ws => (seqW y).map fun us => zipW ws us)
theorem im_z2 (hm : X.mg "zip" = none) (ha : EM X a ρ m1) (hb : EM X b ρ m2) (hg : Gl X "zip" := by rfl) (hs : starEach [a, b] X.env = (false, eval a X.env) :: starEach [b] X.env := by rfl) (hs2 : starEach [b] X.env = (false, eval b X.env) :: starEach [] X.env := by rfl) (hpl : (backTo pos (starEach [b] X.env)).any (·.1) = false := by rfl) :
    IM X (.Tuple tgs tn tpos) (.Call (.Name "zip" p0) [a, b] [] pos) ρ (z2M m1 m2) := fun p s R q => by
  refine wI_of (pi_z2 hg hm pa_s hs hpl) (am_two (P := fun _ _ => True) ha hb hs hs2 p s _ fun w1 w2 h1 v1 v2 φ1 Hk1 Hr1 s1 p1 e1 hv1 hv2 => ?_)
  obtain ⟨ws, h2, s2⟩ := sat_lf s1
  obtain ⟨us1, h3, h4⟩ := bnd h2
  obtain ⟨us2, h5, h6⟩ := mpd h4
  subst h6
  obtain ⟨t1, a1, xs, rfl, g1, d1⟩ := hv1.seq h3
  obtain ⟨t2, a2, ys, rfl, g2, d2⟩ := hv2.seq h5
  exact ⟨t1, t2, a1, a2, xs, ys, rfl, same_g p1.I.kr g1, same_g p1.I.kr g2, q _ _ _ _ _ _ s2 p1 e1 (wkm_z2 g1 g2 d1 d2)⟩
def zip3W : List W → List W → List W → List W
  | x :: xs, y :: ys, z :: zs => mkT [x, y, z] :: zip3W xs ys zs
  | _, _, _ => []
theorem zip3W_len : ∀ {xs ys zs : List W}, (zip3W xs ys zs).length = min xs.length (min ys.length zs.length)
  | [], ys, zs => by simp [zip3W]
  | x :: xs, [], zs => by simp [zip3W]
  | x :: xs, y :: ys, [] => by simp [zip3W]
  | x :: xs, y :: ys, z :: zs => by
    simp only [zip3W, List.length_cons, zip3W_len (xs := xs) (ys := ys) (zs := zs)]
    omega
theorem zip3W_get : ∀ {xs ys zs : List W} {n : Nat} {w : W}, (zip3W xs ys zs)[n]? = some w → ∃ x y z, xs[n]? = some x ∧ ys[n]? = some y ∧ zs[n]? = some z ∧ w = mkT [x, y, z]
  | [], ys, zs, n, w, h => by simp [zip3W] at h
  | x :: xs, [], zs, n, w, h => by simp [zip3W] at h
  | x :: xs, y :: ys, [], n, w, h => by simp [zip3W] at h
  | x :: xs, y :: ys, z :: zs, 0, w, h => by
    simp [zip3W] at h
    exact ⟨x, y, z, rfl, rfl, rfl, h.symm⟩
  | x :: xs, y :: ys, z :: zs, n + 1, w, h => by
    obtain ⟨u, v, r, h1, h2, h3, h4⟩ := zip3W_get (xs := xs) (ys := ys) (zs := zs) (n := n) (by simpa [zip3W] using h)
    exact ⟨u, v, r, by simpa using h1, by simpa using h2, by simpa using h3, h4⟩
theorem wkm_z3 {K : PySem.W.Frag} {wd : World} {φ : List Addr} {Hk : Hp} {t1 t2 t3 : Bool} {a b c : Addr} {xs ys zs : List V} {ws us rs : List W} (hs : gSq K t1 Hk a xs) (ht : gSq K t2 Hk b ys) (hu : gSq K t3 Hk c zs) (hx : VRs K wd φ Hk ws xs) (hy : VRs K wd φ Hk us ys) (hz : VRs K wd φ Hk rs zs) : WkM K wd φ (ItH K t1 t2 t3 a b c) (zip3W ws us rs) Hk := fun i Hr e => by
  have l1 := VRs.len hx
  have l2 := VRs.len hy
  have l3 := VRs.len hz
  have hs' := same_g e hs
  have ht' := same_g e ht
  have hu' := same_g e hu
  refine ⟨fun hi => ?_, fun hi => ?_, fun x H' h => ?_⟩
  · rw [zip3W_len] at hi
    exact ⟨xs, ys, zs, _, _, _, hs', ht', hu', List.getElem?_eq_getElem (by omega), List.getElem?_eq_getElem (by omega), List.getElem?_eq_getElem (by omega)⟩
  · rw [zip3W_len] at hi
    exact ⟨xs, ys, zs, hs', ht', hu', by omega, by omega, by omega, by omega⟩
  · obtain ⟨T, x', y', z', rfl, hn, rfl, f1, f2, f3⟩ := h
    refine ⟨new_same hn _, fun w hw => ?_⟩
    obtain ⟨u, v, r, q1, q2, q3, rfl⟩ := zip3W_get hw
    obtain ⟨u', s1, s2⟩ := VRs.get hx q1
    obtain ⟨v', s3, s4⟩ := VRs.get hy q2
    obtain ⟨r', s5, s6⟩ := VRs.get hz q3
    have g1 := f1 _ hs'
    have g2 := f2 _ ht'
    have g3 := f3 _ hu'
    rw [s1] at g1
    rw [s3] at g2
    rw [s5] at g3
    cases g1
    cases g2
    cases g3
    exact gro_mk e hn (.cons s2 (.cons s4 (.cons s6 .nil)))
def z3M (m1 m2 m3 : M W) : M (List W) := bd m1 fun x => bd m2 fun y => bd m3 fun z => lf ((seqW x).bind fun ws => (seqW y).bind fun us => (seqW z).map fun rs => zip3W ws us rs)
theorem im_z3 (hm : X.mg "zip" = none) (ha : EM X a ρ m1) (hb : EM X b ρ m2) (hc : EM X c ρ m3) (hg : Gl X "zip" := by rfl) (hs : starEach [a, b, c] X.env = (false, eval a X.env) :: starEach [b, c] X.env := by rfl) (hs1 : starEach [b, c] X.env = (false, eval b X.env) :: starEach [c] X.env := by rfl) (hs2 : starEach [c] X.env = (false, eval c X.env) :: starEach [] X.env := by rfl) (hpl : (backTo pos (starEach [b, c] X.env)).any (·.1) = false := by rfl) :
    IM X (.Tuple tgs tn tpos) (.Call (.Name "zip" p0) [a, b, c] [] pos) ρ (z3M m1 m2 m3) := fun p s R q => by
  refine wI_of (pi_z3 hg hm pa_s hs hpl) (sA_of (pa_cons pe_s (pa_cons pe_s (pa_cons pe_s pa_nil hs2) hs1) hs) (ha p (sat_bind s) _ fun w1 h1 v1 φ1 Hk1 Hr1 s1 p1 e1 hv1 => hb p1 (sat_bind s1) _ fun w2 h2 v2 φ2 Hk2 Hr2 s2 p2 e2 hv2 => hc p2 (sat_bind s2) _ fun w3 h3 v3 φ3 Hk3 Hr3 s3 p3 e3 hv3 => ?_))
  obtain ⟨ws, h2, s4⟩ := sat_lf s3
  obtain ⟨us1, g3, h4⟩ := bnd h2
  obtain ⟨us2, g5, h6⟩ := bnd h4
  obtain ⟨us3, g7, h8⟩ := mpd h6
  subst h8
  have hv1 := hv1.ex (e2.trans e3)
  have hv2 := hv2.ex e3
  obtain ⟨t1, a1, xs, rfl, f1, d1⟩ := hv1.seq g3
  obtain ⟨t2, a2, ys, rfl, f2, d2⟩ := hv2.seq g5
  obtain ⟨t3, a3, zs, rfl, f3, d3⟩ := hv3.seq g7
  exact ⟨t1, t2, t3, a1, a2, a3, xs, ys, zs, rfl, same_g p3.I.kr f1, same_g p3.I.kr f2, same_g p3.I.kr f3, q _ _ _ _ _ _ s4 p3 (e1.trans (e2.trans e3)) (wkm_z3 f1 f2 f3 d1 d2 d3)⟩
def enumW : Nat → List W → List W
  | _, [] => []
  | i, d :: ds => mkT [.dat (.int (i : Nat)), d] :: enumW (i + 1) ds
theorem enumW_len : ∀ {ds : List W} {k : Nat}, (enumW k ds).length = ds.length
  | [], _ => rfl
  | _ :: ds, k => by simp [enumW, enumW_len (ds := ds)]
theorem enumW_get : ∀ {ds : List W} {k n : Nat} {d : W}, (enumW k ds)[n]? = some d → ∃ x, ds[n]? = some x ∧ d = mkT [.dat (.int ((k + n : Nat) : Int)), x]
  | [], _, _, _, h => by simp [enumW] at h
  | x :: ds, k, 0, d, h => by
    simp only [enumW, List.getElem?_cons_zero, Option.some.injEq] at h
    exact ⟨x, rfl, h.symm⟩
  | x :: ds, k, n + 1, d, h => by
    simp only [enumW, List.getElem?_cons_succ] at h
    obtain ⟨y, h1, h2⟩ := enumW_get h
    refine ⟨y, by simpa using h1, ?_⟩
    rw [h2, show k + 1 + n = k + (n + 1) by omega]
theorem wkm_N {K : PySem.W.Frag} {wd : World} {φ : List Addr} {Hk : Hp} {t : Bool} {a : Addr} {xs : List V} {ws : List W} (hs : gSq K t Hk a xs) (hx : VRs K wd φ Hk ws xs) : WkM K wd φ (ItN K t a) (enumW 0 ws) Hk := fun i Hr e => by
  have l1 := VRs.len hx
  have hs' := same_g e hs
  refine ⟨fun hi => ?_, fun hi => ?_, fun x H' h => ?_⟩
  · rw [enumW_len] at hi
    exact ⟨xs, _, hs', List.getElem?_eq_getElem (by omega)⟩
  · rw [enumW_len] at hi
    exact ⟨xs, hs', by omega⟩
  · obtain ⟨T, x', rfl, hn, rfl, f1⟩ := h
    refine ⟨new_same hn _, fun w hw => ?_⟩
    obtain ⟨u, q1, rfl⟩ := enumW_get hw
    obtain ⟨u', s1, s2⟩ := VRs.get hx q1
    have g1 := f1 _ hs'
    rw [s1] at g1
    cases g1
    rw [Nat.zero_add]
    exact gro_mk e hn (.cons (.dat (.int _)) (.cons s2 .nil))
def enM (m : M W) : M (List W) := bd m fun x => lf ((seqW x).map (enumW 0))
theorem im_enum (hm : X.mg "enumerate" = none) (ha : EM X a ρ m) (hg : Gl X "enumerate" := by rfl) (hs : starEach [a] X.env = [(false, eval a X.env)] := by rfl) : IM X (.Tuple tgs tn tpos) (.Call (.Name "enumerate" p0) [a] [] pos) ρ (enM m) := fun p s R q => by
  refine wI_of (pi_N hg hm pa_s hs) (am_one ha hs p (sat_bind s) _ fun w h1 v φ1 Hk1 Hr1 s1 p1 e1 hv => ?_)
  obtain ⟨ws, h2, s2⟩ := sat_lf s1
  obtain ⟨us1, h3, h4⟩ := mpd h2
  subst h4
  obtain ⟨t1, a1, xs, rfl, g1, d1⟩ := hv.seq h3
  exact ⟨t1, a1, xs, rfl, same_g p1.I.kr g1, q _ _ _ _ _ _ s2 p1 e1 (wkm_N g1 d1)⟩
/-! for -/
theorem forM_drop {st : W → α → M (Res W α)} {ws : List W} {i : Nat} {w : W} {z : α} (h : ws[i]? = some w) : forM st (ws.drop i) z = seqM (st w z) (forM st (ws.drop (i + 1))) := by
  obtain ⟨hl, he⟩ := List.getElem?_eq_some_iff.mp h
  rw [List.drop_eq_getElem_cons hl, he]
  rfl
theorem sm_for {gt : TG} {u : W → Option γ} {F : β → Rho} {Fb : γ → β → Rho} {mb : γ → β → M (Res W β)} {k : β → M (Res W α)} {z0 : β} (hi : IM X tg iter ρ mi) (hg : PG X tg gt) (h0 : LeR (F z0) ρ) (hE0 : LeR ρE (F z0)) (hu : ∀ z, GM X.K X.w (F z) gt u (fun b => Fb b z)) (hE : ∀ b z, LeR ρE (Fb b z))
    (hb : ∀ b z, SM X ρE body (Fb b z) (mb b z) F) (hr : ∀ z, SM X ρE rest (F z) (k z) g) (hp : PassesOwn (model X.prog X.w) X.A X.env X.xe) (hc : X.calm = true := by rfl) (hs : ∀ x, foldedSetIterable iter X.env x = pure x := by intro _; rfl) :
    SM X ρE (.For tg iter body [] pos :: rest) ρ (bd mi fun ws => seqM (forM (stepM u mb) ws z0) k) g := fun {Wx E P hs0 φ0 Ho Hk0 Hr0 σ0} p0 s0 D nx r => by
  refine sSs_of (pss_cons (ps_for hp hc pi_w hg pss_s hs) pss_s) (hi p0.pt (sat_bind s0) _ fun ws h1 J φ1 Hk1 Hr1 s1 p1 e1 wk => ?_)
  refine ⟨fun i m σ' Hr' => i + m = ws.length ∧ ∃ z hs' φ' Hk', Ps X Wx E ρE (F z) hs' φ' Ho Hk' Hr' σ' ∧ Ex φ1 Hk1 φ' Hk' ∧ (seqM (forM (stepM u mb) (ws.drop i) z) k hs').sat P E,
    ⟨ws.length, by omega, z0, h1, φ1, Hk1, p0.to p1.I e1 (h0.sr p1.R) hE0, Ex.refl, by rw [List.drop_zero]; exact s1⟩, fun i m σ' Hr' hW => ?_⟩
  obtain ⟨em, z, hs', φ', Hk', p', e', s'⟩ := hW
  obtain ⟨w1, w2, w3⟩ := wk i Hr' (e'.k.trans p'.I.kr)
  by_cases hi : i < ws.length
  · refine .inr ⟨w1 hi, fun σ2 H2 => ∃ z hs' φ' Hk', Ps X Wx E ρE (F z) hs' φ' Ho Hk' H2 σ2 ∧ Ex φ1 Hk1 φ' Hk' ∧ (seqM (forM (stepM u mb) (ws.drop (i + 1)) z) k hs').sat P E, fun σ2 H2 hN => ⟨m - 1, by omega, by omega, hN⟩, fun xv H2 hy => ?_⟩
    obtain ⟨e2, fd⟩ := w3 xv H2 hy
    have hd := List.getElem?_eq_getElem hi
    rw [forM_drop hd] at s'
    have s2 := sat_bind (sat_bind s')
    obtain ⟨b, hb', s3⟩ := sat_lf (sat_bind s2)
    have I2 := p'.I.gro e2
    have eg := Ex.gro (φ := φ') p'.I.kr (H2 := H2)
    have hv : VR X.K X.w φ' (gro Hk' Hr' H2) (ws[i]) xv := (fd _ hd).mono e'.f (gro_le e'.k)
    refine hu z _ b hb' φ' _ H2 σ' xv I2.kr (p'.R.ex eg) hv _ fun σ3 R3 => ?_
    exact hb b z (p'.to I2 eg R3 (hE b z)) s3 _ (fun z2 hs2 φ2 Hk2 Hr2 σ2 h q e2 => ⟨z2, hs2, φ2, Hk2, q, e'.trans (eg.trans e2), sat_of h⟩) (fun w hs2 v φ2 Hk2 Hr2 h I e2 hv => r w hs2 v φ2 Hk2 Hr2 h I (e1.trans (e'.trans (eg.trans e2))) hv)
  · have : i = ws.length := by omega
    subst this
    rw [List.drop_length] at s'
    exact .inl ⟨w2 rfl, hr z p' s' D (fun a hs2 φ2 Hk2 Hr2 σ2 h q e2 => nx a hs2 φ2 Hk2 Hr2 σ2 h q (e1.trans (e'.trans e2))) (fun w hs2 v φ2 Hk2 Hr2 h I e2 hv => r w hs2 v φ2 Hk2 Hr2 h I (e1.trans (e'.trans e2)) hv)⟩
end
end Hx
noncomputable section
namespace Hx
open PySem L2 Pd Gn PySem.Spec PyProof.Rows Zq
/-! readings -/
def FF : Xc → Hs → Prop := fun _ _ => False
def GEm (K : PySem.W.Frag) (wd : World) (te : TE) (ρ : Rho) (m : M W) : Prop := ∀ {P : W → Hs → Prop} {hs : Hs} {φ : List Addr} {Ho Hk Hr : Hp} {σ : L2.St}, Ok K wd φ hs Ho Hk Hr → SR K wd φ Hk ρ σ → (m hs).sat P FF →
  ∀ Q : VK, (∀ w hs' v φ' Hk' Hr', P w hs' → Ok K wd φ' hs' Ho Hk' Hr' → Ex φ Hk φ' Hk' → VR K wd φ' Hk' w v → Q v Hr') → te σ Hr Q
def GTm (K : PySem.W.Frag) (wd : World) (tt : TT) (ρ : Rho) (m : M Bool) : Prop := ∀ {P : Bool → Hs → Prop} {hs : Hs} {φ : List Addr} {Ho Hk Hr : Hp} {σ : L2.St}, Ok K wd φ hs Ho Hk Hr → SR K wd φ Hk ρ σ → (m hs).sat P FF →
  ∀ Q : Bool → Hp → Prop, (∀ w hs' φ' Hk' Hr', P w hs' → Ok K wd φ' hs' Ho Hk' Hr' → Ex φ Hk φ' Hk' → Q w Hr') → tt σ Hr Q
def GIm (K : PySem.W.Frag) (wd : World) (wi : TI) (ρ : Rho) (m : M (List W)) : Prop := ∀ {P : List W → Hs → Prop} {hs : Hs} {φ : List Addr} {Ho Hk Hr : Hp} {σ : L2.St}, Ok K wd φ hs Ho Hk Hr → SR K wd φ Hk ρ σ → (m hs).sat P FF →
  ∀ R : It → Hp → Prop, (∀ ws hs' J φ' Hk' Hr', P ws hs' → Ok K wd φ' hs' Ho Hk' Hr' → Ex φ Hk φ' Hk' → WkM K wd φ' J ws Hk' → R J Hr') → wi σ Hr R
theorem gtm_yes {K : PySem.W.Frag} {wd : World} {ρ : Rho} : GTm K wd tYes ρ (rt true) := fun I R s Q q => q _ _ _ _ _ s I Ex.refl
def bI (X : Cx) (scope : Scope) (tg iter : Expr) : TI := fun σ H R => ∀ (s : Shared) (H1 : Hp) (C : Addr) (cl : List (Str × Addr)) (fp : List Addr), wI (X.blk s H1 scope (compEnvC scope cl C X.env) fp) tg iter σ H R
theorem pi_b {X : Cx} {scope : Scope} {tg iter : Expr} (s : Shared) (H : Hp) (C : Addr) (cl : List (Str × Addr)) (fp : List Addr) : PI (X.blk s H scope (compEnvC scope cl C X.env) fp) tg iter (bI X scope tg iter) := ⟨fun pins s' _ _ _ I h => h s H C cl fp pins s' I⟩
/-- in each block of a comprehension -/
def BM (X : Cx) (scope : Scope) (e : Expr) (ρ : Rho) (m : M W) : Prop := ∀ (s : Shared) (H : Hp) (C : Addr) (cl : List (Str × Addr)) (fp : List Addr), EM (X.blk s H scope (compEnvC scope cl C X.env) fp) e ρ m
def BTm (X : Cx) (scope : Scope) (e : Expr) (ρ : Rho) (m : M Bool) : Prop := ∀ (s : Shared) (H : Hp) (C : Addr) (cl : List (Str × Addr)) (fp : List Addr), TM (X.blk s H scope (compEnvC scope cl C X.env) fp) e ρ m
def BIm (X : Cx) (scope : Scope) (tg iter : Expr) (ρ : Rho) (m : M (List W)) : Prop := ∀ (s : Shared) (H : Hp) (C : Addr) (cl : List (Str × Addr)) (fp : List Addr), IM (X.blk s H scope (compEnvC scope cl C X.env) fp) tg iter ρ m
section
variable {X : Cx} {scope : Scope} {e tg iter : Expr} {ρ : Rho} {m : M W} {mc : M Bool} {mi : M (List W)}
theorem BM.ge (h : BM X scope e ρ m) : GEm X.K X.w (bE X scope e) ρ m := fun {P hs φ Ho Hk Hr σ} I R s Q q st H C cl fp => h st H C cl fp (Wx := fun _ _ _ _ => False) (E := FF) ⟨takes0, I, R, fun _ _ _ _ _ _ _ h => h.elim⟩ s Q fun w hs' v φ' Hk' Hr' hp p e hv => q w hs' v φ' Hk' Hr' hp p.I e hv
theorem BTm.gt (h : BTm X scope e ρ mc) : GTm X.K X.w (bT X scope e) ρ mc := fun {P hs φ Ho Hk Hr σ} I R s Q q st H C cl fp => h st H C cl fp (Wx := fun _ _ _ _ => False) (E := FF) ⟨takes0, I, R, fun _ _ _ _ _ _ _ h => h.elim⟩ s Q fun w hs' φ' Hk' Hr' hp p e => q w hs' φ' Hk' Hr' hp p.I e
theorem BIm.gi (h : BIm X scope tg iter ρ mi) : GIm X.K X.w (bI X scope tg iter) ρ mi := fun {P hs φ Ho Hk Hr σ} I R s Q q st H C cl fp => h st H C cl fp (Wx := fun _ _ _ _ => False) (E := FF) ⟨takes0, I, R, fun _ _ _ _ _ _ _ h => h.elim⟩ s Q fun w hs' J φ' Hk' Hr' hp p e hv => q w hs' J φ' Hk' Hr' hp p.I e hv
end
/-- a new list, by its reading -/
def LR (X : Cx) (t : TE) (ρ : Rho) (m : M (List W)) : Prop :=
  ∀ {Wx : WX} {E : Xc → Hs → Prop} {P : List W → Hs → Prop} {hs : Hs} {φ : List Addr} {Ho Hk Hr : Hp} {σ : L2.St}, Pt X Wx E ρ hs φ Ho Hk Hr σ → (m hs).sat P E →
    ∀ Q : VK, (∀ ws hs' p vs φ' Hk' Hr', P ws hs' → Ok X.K X.w φ' hs' (upd Ho p (.lst vs)) Hk' Hr' → Ho p = none → Hk' p = none → Ex φ Hk φ' Hk' → VRs X.K X.w φ' Hk' ws vs → Q (.ref p) Hr') → t σ Hr Q
theorem LR.lm {X : Cx} {t : TE} {e : Expr} {ρ : Rho} {m : M (List W)} (h : LR X t ρ m) (pe : PE X e t) : LM X e ρ m := fun p s Q q => sE_of pe (h p s Q q)
theorem Ok.output {K : PySem.W.Frag} {wd : World} {φ : List Addr} {hs : Hs} {Ho Hk Hr : Hp} {p : Addr} {u u' : HO} (I : Ok K wd φ hs (upd Ho p u) Hk Hr) (nk : Hk p = none) : Ok K wd φ hs (upd Ho p u') Hk (upd Hr p u') := by
  have hp : Hr p = some u := I.out _ _ upd_same
  refine ⟨fun b o g => ?_, fun b o g => ?_, I.len, I.low, fun i o g => ?_, I.inj, fun b o g => ?_⟩
  · rw [upd_ne (ne_of_none g nk)]
    exact I.kr _ _ g
  · by_cases q : b = p
    · subst q
      rw [upd_same] at g ⊢
      exact g
    · rw [upd_ne q] at g ⊢
      exact I.out b o (by rw [upd_ne q]; exact g)
  · obtain ⟨a, q1, q2, q3, q4⟩ := I.obj i o g
    have ne : a ≠ p := fun z => by rw [z, upd_same] at q3; cases q3
    rw [upd_ne ne] at q3
    exact ⟨a, q1, q2, by rw [upd_ne ne]; exact q3, q4.mono Fx.refl (Same.refl _) fun v hv => by rw [upd_ne ne]; exact hv⟩
  · by_cases q : b = p
    · rw [q]; exact nk
    · rw [upd_ne q] at g
      exact I.dis b o (by rw [upd_ne q]; exact g)
theorem Ok.nk {K : PySem.W.Frag} {wd : World} {φ : List Addr} {hs : Hs} {Ho Hk Hr : Hp} {p : Addr} {u : HO} (I : Ok K wd φ hs (upd Ho p u) Hk Hr) : Hk p = none := I.dis p u upd_same
theorem SR.wipe {K : PySem.W.Frag} {wd : World} {φ : List Addr} {Hk : Hp} {ρ : Rho} {σ : L2.St} {vs : List Nat} (R : SR K wd φ Hk ρ σ) (hv : ∀ i ∈ vs, ρ[i]? = some none) : SR K wd φ Hk ρ (L2.wipe σ vs) := R.sub (by rw [wipe_length, R.len]) fun i w h => ⟨h, wipe_out fun z => by
  rw [hv i z] at h
  cases h⟩
def lcM {β : Type} (u : W → Option β) (mt : β → M Bool) (me : β → M W) : List W → M (List W)
  | [] => rt []
  | w :: ws => bd (lf (u w)) fun b => bd (mt b) fun k => match k with
    | true => bd (me b) fun x => bd (lcM u mt me ws) fun r => rt (x :: r)
    | false => lcM u mt me ws
def lc1 {β : Type} (u : W → Option β) (mt : β → M Bool) (me : β → M W) (mi : M (List W)) : M (List W) := bd mi fun ws => bd (lf (gd (short ws.length) (some ()))) fun _ => nox (lcM u mt me ws)
section
variable {X : Cx} {tg iter : Expr} {ρ : Rho} {mi : M (List W)} {β γ : Type} {vs vs1 : List Nat} {gt gt1 : TG} {tt tt1 : TT} {te : TE} {wi1 : TI}
theorem lcM_drop {u : W → Option β} {mt : β → M Bool} {me : β → M W} {ws : List W} {i : Nat} {w : W} (h : ws[i]? = some w) : lcM u mt me (ws.drop i) = bd (lf (u w)) fun b => bd (mt b) fun k => match k with
    | true => bd (me b) fun x => bd (lcM u mt me (ws.drop (i + 1))) fun r => rt (x :: r)
    | false => lcM u mt me (ws.drop (i + 1)) := by
  obtain ⟨hl, he⟩ := List.getElem?_eq_some_iff.mp h
  rw [List.drop_eq_getElem_cons hl, he]
  rfl
theorem lr_lc {u : W → Option β} {f : β → Rho} {mt : β → M Bool} {me : β → M W} (hi : IM X tg iter ρ mi) (hw : GW gt vs) (hv : ∀ i ∈ vs, ρ[i]? = some none) (hu : GM X.K X.w ρ gt u f) (ht : ∀ b, GTm X.K X.w tt (f b) (mt b)) (he : ∀ b, GEm X.K X.w te (f b) (me b)) :
    LR X (tLc (wI X tg iter) gt tt te vs) ρ (lc1 u mt me mi) := fun {Wx E P hs0 φ0 Ho Hk0 Hr0 σ} p s Q q => by
  refine hi p (sat_bind s) _ fun ws h1 J φ1 Hk1 Hr1 s1 p1 e1 wk D nD => ?_
  obtain ⟨_, hsh, s2⟩ := sat_lf (sat_bind s1)
  have hlen := short_le (gd_some hsh).1
  have s3 := sat_nox s2
  refine ⟨fun i m H => i + m = ws.length ∧ ∃ acc avs hs' φ' Hk', acc.length ≤ i ∧ Ok X.K X.w φ' hs' (upd Ho D (.lst avs)) Hk' H ∧ Hk' D = none ∧ Ex φ1 Hk1 φ' Hk' ∧ VRs X.K X.w φ' Hk' acc avs ∧ (lcM u mt me (ws.drop i) hs').sat (fun r h => P (acc ++ r) h) FF,
    ⟨ws.length, by omega, [], [], h1, φ1, Hk1, Nat.le_refl _, p1.I.outer nD, far_of p1.I.kr nD, Ex.refl, .nil, by rw [List.drop_zero]; exact s3⟩, fun i m H hW => ?_⟩
  obtain ⟨em, acc, avs, hs', φ', Hk', hla, I', nk, e', hacc, s'⟩ := hW
  obtain ⟨w1, w2, w3⟩ := wk i H (e'.k.trans I'.kr)
  by_cases hi : i < ws.length
  · refine .inr ⟨w1 hi, fun H2 => ∃ acc avs hs' φ' Hk', acc.length ≤ i + 1 ∧ Ok X.K X.w φ' hs' (upd Ho D (.lst avs)) Hk' H2 ∧ Hk' D = none ∧ Ex φ1 Hk1 φ' Hk' ∧ VRs X.K X.w φ' Hk' acc avs ∧ (lcM u mt me (ws.drop (i + 1)) hs').sat (fun r h => P (acc ++ r) h) FF,
      fun H2 hN => ⟨m - 1, by omega, by omega, hN⟩, fun xv H2 hy => ?_⟩
    obtain ⟨e2, fd⟩ := w3 xv H2 hy
    have hd := List.getElem?_eq_getElem hi
    rw [lcM_drop hd] at s'
    obtain ⟨b, hb, s4⟩ := sat_lf (sat_bind s')
    have I2 := I'.gro e2
    have eg := Ex.gro (φ := φ') I'.kr (H2 := H2)
    have nk2 : gro Hk' H H2 D = none := by rw [gro_old (I'.out _ _ upd_same)]; exact nk
    have hxv : VR X.K X.w φ' (gro Hk' H H2) (ws[i]) xv := (fd _ hd).mono e'.f (gro_le e'.k)
    have Rw : SR X.K X.w φ' (gro Hk' H H2) ρ (L2.wipe σ vs) := ((p1.R.ex e').ex eg).wipe hv
    refine hw _ _ _ _ (hu _ b hb φ' _ H2 _ xv I2.kr Rw hxv _ fun σ3 R3 wz => ?_)
    refine ht b I2 R3 (sat_bind s4) _ fun k h4 φ4 Hk4 Hr4 s5 I4 e4 => ?_
    cases k with
    | true =>
      refine iteT (he b I4 (R3.ex e4) (sat_bind s5) _ fun x h5 yv φ5 Hk5 Hr5 s6 I5 e5 hyv => ?_)
      have ee : Ex φ' Hk' φ5 Hk5 := eg.trans (e4.trans e5)
      refine ⟨avs, I5.out _ _ upd_same, by rw [VRs.len hacc]; exact lt_line (by omega), acc ++ [x], avs ++ [yv], h5, φ5, Hk5, by rw [List.length_append, List.length_singleton]; omega, I5.output I5.nk, I5.nk, e'.trans ee, (hacc.ex ee).app (.cons hyv .nil), ?_⟩
      refine sat_mono (fun r h hp => ?_) (fun _ _ h => h) (sat_bind s6)
      have hp : P (acc ++ (x :: r)) h := hp
      rw [List.append_assoc]
      exact hp
    | false => exact iteF ⟨acc, avs, h4, φ4, Hk4, by omega, I4, I4.nk, e'.trans (eg.trans e4), hacc.ex (eg.trans e4), s5⟩
  · have : i = ws.length := by omega
    subst this
    rw [List.drop_length] at s'
    have s5 : P (acc ++ []) hs' := s'
    rw [List.append_nil] at s5
    exact .inl ⟨w2 rfl, q acc hs' D avs φ' Hk' H s5 I' (far_of p1.I.out nD) nk (e1.trans e') hacc⟩
end
end Hx
noncomputable section
namespace Hx
open PySem L2 Pd Gn PySem.Spec PyProof.Rows Zq
/-! two clauses -/
def lcM2 {β γ : Type} (u : W → Option β) (mt : β → M Bool) (mj : β → M (List W)) (u1 : W → Option γ) (mt1 : β → γ → M Bool) (me : β → γ → M W) : List W → Nat → M (List W)
  | [], _ => rt []
  | w :: ws, n => bd (lf (u w)) fun b => bd (mt b) fun k => match k with
    | true => bd (mj b) fun us => bd (lf (gd (short (n + us.length)) (some ()))) fun _ => bd (lcM u1 (mt1 b) (me b) us) fun r1 => bd (lcM2 u mt mj u1 mt1 me ws (n + us.length)) fun r2 => rt (r1 ++ r2)
    | false => lcM2 u mt mj u1 mt1 me ws n
def lc2 {β γ : Type} (u : W → Option β) (mt : β → M Bool) (mj : β → M (List W)) (u1 : W → Option γ) (mt1 : β → γ → M Bool) (me : β → γ → M W) (mi : M (List W)) : M (List W) := bd mi fun ws => nox (lcM2 u mt mj u1 mt1 me ws 0)
section
variable {X : Cx} {tg iter : Expr} {ρ : Rho} {mi : M (List W)} {β γ : Type} {vs vs1 : List Nat} {gt gt1 : TG} {tt tt1 : TT} {te : TE} {wi1 : TI}
theorem lcM2_drop {u : W → Option β} {mt : β → M Bool} {mj : β → M (List W)} {u1 : W → Option γ} {mt1 : β → γ → M Bool} {me : β → γ → M W} {ws : List W} {i n : Nat} {w : W} (h : ws[i]? = some w) : lcM2 u mt mj u1 mt1 me (ws.drop i) n = bd (lf (u w)) fun b => bd (mt b) fun k => match k with
    | true => bd (mj b) fun us => bd (lf (gd (short (n + us.length)) (some ()))) fun _ => bd (lcM u1 (mt1 b) (me b) us) fun r1 => bd (lcM2 u mt mj u1 mt1 me (ws.drop (i + 1)) (n + us.length)) fun r2 => rt (r1 ++ r2)
    | false => lcM2 u mt mj u1 mt1 me (ws.drop (i + 1)) n := by
  obtain ⟨hl, he⟩ := List.getElem?_eq_some_iff.mp h
  rw [List.drop_eq_getElem_cons hl, he]
  rfl
theorem lr_lc2 {u : W → Option β} {f : β → Rho} {mt : β → M Bool} {mj : β → M (List W)} {u1 : W → Option γ} {f1 : β → γ → Rho} {mt1 : β → γ → M Bool} {me : β → γ → M W} (hi : IM X tg iter ρ mi) (hw : GW gt vs) (hw1 : GW gt1 vs1) (hv : ∀ i ∈ vs, ρ[i]? = some none) (hv1 : ∀ b, ∀ i ∈ vs1, (f b)[i]? = some none)
    (hu : GM X.K X.w ρ gt u f) (ht : ∀ b, GTm X.K X.w tt (f b) (mt b)) (hj : ∀ b, GIm X.K X.w wi1 (f b) (mj b)) (hu1 : ∀ b, GM X.K X.w (f b) gt1 u1 (f1 b)) (ht1 : ∀ b c, GTm X.K X.w tt1 (f1 b c) (mt1 b c)) (he : ∀ b c, GEm X.K X.w te (f1 b c) (me b c)) :
    LR X (tLc2 (wI X tg iter) gt tt wi1 gt1 tt1 te vs vs1) ρ (lc2 u mt mj u1 mt1 me mi) := fun {Wx E P hs0 φ0 Ho Hk0 Hr0 σ} p s Q q => by
  refine hi p (sat_bind s) _ fun ws h1 J φ1 Hk1 Hr1 s1 p1 e1 wk D nD => ?_
  have s3 := sat_nox s1
  refine ⟨fun i m H => i + m = ws.length ∧ ∃ n acc avs hs' φ' Hk', acc.length ≤ n ∧ Ok X.K X.w φ' hs' (upd Ho D (.lst avs)) Hk' H ∧ Ex φ1 Hk1 φ' Hk' ∧ VRs X.K X.w φ' Hk' acc avs ∧ (lcM2 u mt mj u1 mt1 me (ws.drop i) n hs').sat (fun r h => P (acc ++ r) h) FF,
    ⟨ws.length, by omega, 0, [], [], h1, φ1, Hk1, Nat.le_refl _, p1.I.outer nD, Ex.refl, .nil, by rw [List.drop_zero]; exact s3⟩, fun i m H hW => ?_⟩
  obtain ⟨em, n, acc, avs, hs', φ', Hk', hla, I', e', hacc, s'⟩ := hW
  obtain ⟨w1, w2, w3⟩ := wk i H (e'.k.trans I'.kr)
  by_cases hi : i < ws.length
  · refine .inr ⟨w1 hi, fun H2 => ∃ n acc avs hs' φ' Hk', acc.length ≤ n ∧ Ok X.K X.w φ' hs' (upd Ho D (.lst avs)) Hk' H2 ∧ Ex φ1 Hk1 φ' Hk' ∧ VRs X.K X.w φ' Hk' acc avs ∧ (lcM2 u mt mj u1 mt1 me (ws.drop (i + 1)) n hs').sat (fun r h => P (acc ++ r) h) FF,
      fun H2 hN => ⟨m - 1, by omega, by omega, hN⟩, fun xv H2 hy => ?_⟩
    obtain ⟨e2, fd⟩ := w3 xv H2 hy
    have hd := List.getElem?_eq_getElem hi
    rw [lcM2_drop hd] at s'
    obtain ⟨b, hb, s4⟩ := sat_lf (sat_bind s')
    have I2 := I'.gro e2
    have eg := Ex.gro (φ := φ') I'.kr (H2 := H2)
    have hxv : VR X.K X.w φ' (gro Hk' H H2) (ws[i]) xv := (fd _ hd).mono e'.f (gro_le e'.k)
    have Rw : SR X.K X.w φ' (gro Hk' H H2) ρ (L2.wipe σ vs) := ((p1.R.ex e').ex eg).wipe hv
    refine hw _ _ _ _ (hu _ b hb φ' _ H2 _ xv I2.kr Rw hxv _ fun σ3 R3 wz => ?_)
    refine ht b I2 R3 (sat_bind s4) _ fun k h4 φ4 Hk4 Hr4 s5 I4 e4 => ?_
    cases k with
    | false => exact iteF ⟨n, acc, avs, h4, φ4, Hk4, hla, I4, e'.trans (eg.trans e4), hacc.ex (eg.trans e4), s5⟩
    | true =>
      refine iteT (hj b I4 (R3.ex e4) (sat_bind s5) _ fun us h5 J1 φ5 Hk5 Hr5 s6 I5 e5 wk1 => ?_)
      obtain ⟨_, hsh, s7⟩ := sat_lf (sat_bind s6)
      have hlen := short_le (gd_some hsh).1
      have ee : Ex φ' Hk' φ5 Hk5 := eg.trans (e4.trans e5)
      have R5 := (R3.ex e4).ex e5
      have s8 := sat_bind s7
      refine ⟨fun j k H => j + k = us.length ∧ ∃ acc avs hs' φ' Hk', acc.length ≤ n + j ∧ Ok X.K X.w φ' hs' (upd Ho D (.lst avs)) Hk' H ∧ Ex φ5 Hk5 φ' Hk' ∧ VRs X.K X.w φ' Hk' acc avs ∧ (lcM u1 (mt1 b) (me b) (us.drop j) hs').sat (fun r1 h => (lcM2 u mt mj u1 mt1 me (ws.drop (i + 1)) (n + us.length) h).sat (fun r2 h => P (acc ++ (r1 ++ r2)) h) FF) FF,
        ⟨us.length, by omega, acc, avs, h5, φ5, Hk5, by omega, I5, Ex.refl, hacc.ex ee, by rw [List.drop_zero]; exact sat_mono (fun r1 h hp => sat_bind hp) (fun _ _ h => h) s8⟩, fun j k H3 hW1 => ?_⟩
      obtain ⟨em1, acc1, avs1, hs1, φ6, Hk6, hla1, I6, e6, hacc1, s9⟩ := hW1
      obtain ⟨v1, v2, v3⟩ := wk1 j H3 (e6.k.trans I6.kr)
      by_cases hj1 : j < us.length
      · refine .inr ⟨v1 hj1, fun H4 => ∃ acc avs hs' φ' Hk', acc.length ≤ n + (j + 1) ∧ Ok X.K X.w φ' hs' (upd Ho D (.lst avs)) Hk' H4 ∧ Ex φ5 Hk5 φ' Hk' ∧ VRs X.K X.w φ' Hk' acc avs ∧ (lcM u1 (mt1 b) (me b) (us.drop (j + 1)) hs').sat (fun r1 h => (lcM2 u mt mj u1 mt1 me (ws.drop (i + 1)) (n + us.length) h).sat (fun r2 h => P (acc ++ (r1 ++ r2)) h) FF) FF,
          fun H4 hN => ⟨k - 1, by omega, by omega, hN⟩, fun yv H4 hy1 => ?_⟩
        obtain ⟨e7, fd1⟩ := v3 yv H4 hy1
        have hd1 := List.getElem?_eq_getElem hj1
        rw [lcM_drop hd1] at s9
        obtain ⟨c, hc', s10⟩ := sat_lf (sat_bind s9)
        have I7 := I6.gro e7
        have eg1 := Ex.gro (φ := φ6) I6.kr (H2 := H4)
        have hyv : VR X.K X.w φ6 (gro Hk6 H3 H4) (us[j]) yv := (fd1 _ hd1).mono e6.f (gro_le e6.k)
        have Rw1 : SR X.K X.w φ6 (gro Hk6 H3 H4) (f b) (L2.wipe σ3 vs1) := ((R5.ex e6).ex eg1).wipe (hv1 b)
        refine hw1 _ _ _ _ (hu1 b _ c hc' φ6 _ H4 _ yv I7.kr Rw1 hyv _ fun σ4 R7 wz1 => ?_)
        refine ht1 b c I7 R7 (sat_bind s10) _ fun k2 h8 φ8 Hk8 Hr8 s11 I8 e8 => ?_
        cases k2 with
        | true =>
          refine iteT (he b c I8 (R7.ex e8) (sat_bind s11) _ fun x h9 zv φ9 Hk9 Hr9 s12 I9 e9 hzv => ?_)
          have ee1 : Ex φ6 Hk6 φ9 Hk9 := eg1.trans (e8.trans e9)
          refine ⟨avs1, I9.out _ _ upd_same, by rw [VRs.len hacc1]; exact lt_line (by omega), acc1 ++ [x], avs1 ++ [zv], h9, φ9, Hk9, by rw [List.length_append, List.length_singleton]; omega, I9.output I9.nk, e6.trans ee1, (hacc1.ex ee1).app (.cons hzv .nil), ?_⟩
          have s13 := sat_bind (t := lcM u1 (mt1 b) (me b) (List.drop (j + 1) us) h9) (f := fun r h => rt (x :: r) h) s12
          refine sat_mono (fun r h hp => sat_mono (fun r2 h hp => ?_) (fun _ _ h => h) (show (lcM2 u mt mj u1 mt1 me (List.drop (i + 1) ws) (n + us.length) h).sat (fun r2 h => P (acc1 ++ (x :: r ++ r2)) h) FF from hp)) (fun _ _ h => h) s13
          have hp : P (acc1 ++ (x :: r ++ r2)) h := hp
          rw [List.append_assoc]
          exact hp
        | false => exact iteF ⟨acc1, avs1, h8, φ8, Hk8, by omega, I8, e6.trans (eg1.trans e8), hacc1.ex (eg1.trans e8), s11⟩
      · have : j = us.length := by omega
        subst this
        rw [List.drop_length] at s9
        exact .inl ⟨v2 rfl, n + us.length, acc1, avs1, hs1, φ6, Hk6, hla1, I6, e'.trans (ee.trans e6), hacc1, s9⟩
  · have : i = ws.length := by omega
    subst this
    rw [List.drop_length] at s'
    have s5 : P (acc ++ []) hs' := s'
    rw [List.append_nil] at s5
    exact .inl ⟨w2 rfl, q acc hs' D avs φ' Hk' H s5 I' (far_of p1.I.out nD) I'.nk (e1.trans e') hacc⟩
end
section
variable {X : Cx} {ρE ρ : Rho} {elt c c1 tg iter tg1 iter1 : Expr} {mi : M (List W)} {α β γ : Type} {vs1 : List Nat} {gt gt1 : TG} {scope : Scope} {own : List (Str × Nat)} {pos cpos py : Pos} {u : W → Option β} {f : β → Rho} {mt : β → M Bool} {me : β → M W} {n : Nat} {y : Str} {rest : List Stmt} {g : α → Rho} {st : Stmt} {t : TE} {ml : M (List W)}
abbrev PGb (X : Cx) (scope : Scope) (tg : Expr) (gt : TG) : Prop := ∀ (s : Shared) (H : Hp) (C : Addr) (cl : List (Str × Addr)) (fp : List Addr), PG (X.blk s H scope (compEnvC scope cl C X.env) fp) tg gt
/-- [elt for tg in iter]: the expression, its reading -/
structure LcP (X : Cx) (e : Expr) (scope : Scope) (t : TE) (ρ : Rho) (m : M (List W)) : Prop where
  pe : PE X e t
  ps : ∀ {n : Nat} {y : Str} {py pos : Pos}, X.N.Nodup → X.N[n]? = some y → X.env.scope.names.lookup y = some .local → swapsWith e (some (.Name y py)) pos.line X.env = pure true → PS X (.Assign [.Name y py] e pos) (tAsg t (gName n))
  lr : LR X t ρ m
theorem lcp0 (hi : IM X tg iter ρ mi) (hw : GW gt (own.map (·.2))) (hv : ∀ i ∈ own.map (·.2), ρ[i]? = some none) (hu : GM X.K X.w ρ gt u f) (he : ∀ b, BM X scope elt (f b) (me b)) (hN : X.N.Nodup) (ok : BlkOk X.N X.env.scope scope own) (hg : PGb X scope tg gt)
    (hc : X.calm = true := by rfl) (hs : ∀ x, foldedSetIterable iter X.env x = pure x := by intro _; rfl) : LcP X (.ListComp elt [⟨tg, iter, [], 0⟩] scope pos) scope (tLc (wI X tg iter) gt tYes (bE X scope elt) (own.map (·.2))) ρ (lc1 u (fun _ => rt true) me mi) :=
  ⟨pe_lc hc hN pi_w ok hg (fun _ _ _ _ _ => pts_nil) pe_b hs, fun hN hy hyl hsw => ps_setLc hc hN hy hyl hsw pi_w ok hg (fun _ _ _ _ _ => pts_nil) pe_b hs, lr_lc hi hw hv hu (fun _ => gtm_yes) fun b => (he b).ge⟩
theorem lcp1 (hi : IM X tg iter ρ mi) (hw : GW gt (own.map (·.2))) (hv : ∀ i ∈ own.map (·.2), ρ[i]? = some none) (hu : GM X.K X.w ρ gt u f) (ht : ∀ b, BTm X scope c (f b) (mt b)) (he : ∀ b, BM X scope elt (f b) (me b)) (hN : X.N.Nodup) (ok : BlkOk X.N X.env.scope scope own) (hg : PGb X scope tg gt)
    (hc : X.calm = true := by rfl) (hs : ∀ x, foldedSetIterable iter X.env x = pure x := by intro _; rfl) : LcP X (.ListComp elt [⟨tg, iter, [c], 0⟩] scope pos) scope (tLc (wI X tg iter) gt (bT X scope c) (bE X scope elt) (own.map (·.2))) ρ (lc1 u mt me mi) :=
  ⟨pe_lc hc hN pi_w ok hg (fun s H C cl fp => pts_one (pt_b s H C cl fp)) pe_b hs, fun hN hy hyl hsw => ps_setLc hc hN hy hyl hsw pi_w ok hg (fun s H C cl fp => pts_one (pt_b s H C cl fp)) pe_b hs, lr_lc hi hw hv hu (fun b => (ht b).gt) fun b => (he b).ge⟩
variable {mj : β → M (List W)} {u1 : W → Option γ} {f1 : β → γ → Rho} {mt1 : β → γ → M Bool} {me2 : β → γ → M W} {ifs ifs1 : List Expr} {tt tt1 : TT}
/-- two clauses, each with a test or none -/
theorem lcp2 (hi : IM X tg iter ρ mi) (hw : GW gt (own.map (·.2))) (hw1 : GW gt1 vs1) (hv : ∀ i ∈ own.map (·.2), ρ[i]? = some none) (hv1 : ∀ b, ∀ i ∈ vs1, (f b)[i]? = some none) (hu : GM X.K X.w ρ gt u f) (ht : ∀ b, GTm X.K X.w tt (f b) (mt b)) (hj : ∀ b, BIm X scope tg1 iter1 (f b) (mj b)) (hu1 : ∀ b, GM X.K X.w (f b) gt1 u1 (f1 b)) (ht1 : ∀ b c, GTm X.K X.w tt1 (f1 b c) (mt1 b c)) (he : ∀ b c, BM X scope elt (f1 b c) (me2 b c))
    (hN : X.N.Nodup) (ok : BlkOk X.N X.env.scope scope own) (hsub : ∀ i ∈ vs1, i ∈ own.map (·.2)) (hg : PGb X scope tg gt) (hg1 : PGb X scope tg1 gt1) (hp : ∀ (s : Shared) (H : Hp) (C : Addr) (cl : List (Str × Addr)) (fp : List Addr), PTs (X.blk s H scope (compEnvC scope cl C X.env) fp) ifs tt) (hp1 : ∀ (s : Shared) (H : Hp) (C : Addr) (cl : List (Str × Addr)) (fp : List Addr), PTs (X.blk s H scope (compEnvC scope cl C X.env) fp) ifs1 tt1)
    (hc : X.calm = true := by rfl) (hs : ∀ x, foldedSetIterable iter X.env x = pure x := by intro _; rfl) (hs1 : ∀ env x, foldedSetIterable iter1 env x = pure x := by intro _ _; rfl) :
    LcP X (.ListComp elt [⟨tg, iter, ifs, 0⟩, ⟨tg1, iter1, ifs1, 0⟩] scope pos) scope (tLc2 (wI X tg iter) gt tt (bI X scope tg1 iter1) gt1 tt1 (bE X scope elt) (own.map (·.2)) vs1) ρ (lc2 u mt mj u1 mt1 me2 mi) :=
  ⟨pe_lc2 hc hN pi_w ok hsub hg hp pi_b hg1 hp1 pe_b hs hs1, fun hN hy hyl hsw => ps_setLc2 hc hN hy hyl hsw pi_w ok hsub hg hp pi_b hg1 hp1 pe_b hs hs1, lr_lc2 hi hw hw1 hv hv1 hu ht (fun b => (hj b).gi) hu1 ht1 fun b c => (he b c).ge⟩
theorem pts0 : ∀ (s : Shared) (H : Hp) (C : Addr) (cl : List (Str × Addr)) (fp : List Addr), PTs (X.blk s H scope (compEnvC scope cl C X.env) fp) [] tYes := fun _ _ _ _ _ => pts_nil
theorem pts1 : ∀ (s : Shared) (H : Hp) (C : Addr) (cl : List (Str × Addr)) (fp : List Addr), PTs (X.blk s H scope (compEnvC scope cl C X.env) fp) [c] (bT X scope c) := fun s H C cl fp => pts_one (pt_b s H C cl fp)
theorem LcP.lm {e : Expr} (h : LcP X e scope t ρ ml) : LM X e ρ ml := LR.lm h.lr h.pe
/-- name = [..] -/
theorem sm_setF {k : W → M (Res W α)} {e : Expr} (h : LcP X e scope t ρ ml) (hN : X.N.Nodup) (hy : X.N[n]? = some y) (hyl : X.env.scope.names.lookup y = some .local) (hsw : swapsWith e (some (.Name y py)) pos.line X.env = pure true) (hE : ρE[n]? = some none) (hr : ∀ w, SM X ρE rest (ρ.set n (some w)) (k w) g) : SM X ρE (.Assign [.Name y py] e pos :: rest) ρ (bd (frzW ml) k) g := fun p s D nx r =>
  sSs_of (pss_cons (h.ps hN hy hyl hsw) pss_s) (h.lr p.pt (sat_bind (sat_bind s)) _ fun ws h1 t vs φ1 Hk1 Hr1 s1 I1 no nk e1 hv => by
    obtain ⟨I2, e2, hw⟩ := I1.claimF no nk hv
    have e12 := e1.trans e2
    exact hr _ (p.to I2 e12 ((p.R.ex e12).set hw) (p.sub.set hE)) s1 D (fun a hs' φ' Hk' Hr' σ' h q e' => nx a hs' φ' Hk' Hr' σ' h q (e12.trans e')) (fun w hs' v φ' Hk' Hr' h I e' hv => r w hs' v φ' Hk' Hr' h I (e12.trans e') hv))
theorem sm_setO {k : W → M (Res W α)} {e : Expr} (h : LcP X e scope t ρ ml) (hN : X.N.Nodup) (hy : X.N[n]? = some y) (hyl : X.env.scope.names.lookup y = some .local) (hsw : swapsWith e (some (.Name y py)) pos.line X.env = pure true) (hE : ρE[n]? = some none) (hr : ∀ w, SM X ρE rest (ρ.set n (some w)) (k w) g) : SM X ρE (.Assign [.Name y py] e pos :: rest) ρ (bd (ownW ml) k) g := fun p s D nx r =>
  sSs_of (pss_cons (h.ps hN hy hyl hsw) pss_s) (h.lr p.pt (sat_bind (sat_bind s)) _ fun ws h1 t vs φ1 Hk1 Hr1 s1 I1 no nk e1 hv => by
    obtain ⟨I2, e2, hw⟩ := I1.claimN no nk hv
    have e12 := e1.trans e2
    exact hr _ (p.to I2 e12 ((p.R.ex e12).set hw) (p.sub.set hE)) s1 D (fun a hs' φ' Hk' Hr' σ' h q e' => nx a hs' φ' Hk' Hr' σ' h q (e12.trans e')) (fun w hs' v φ' Hk' Hr' h I e' hv => r w hs' v φ' Hk' Hr' h I (e12.trans e') hv))
end
/-! lists that change -/
def isL (o : W) : M (Nat × List W) := fun h => match o with
  | .ref i => match h.get i with | some (.lst ws) => .ok (i, ws) h | _ => .bad
  | _ => .bad
theorem isL_ok {o : W} {h : Hs} {P : Nat × List W → Hs → Prop} {E : Xc → Hs → Prop} (s : (isL o h).sat P E) : ∃ i ws, o = .ref i ∧ h.get i = some (.lst ws) ∧ P (i, ws) h := by
  cases o with
  | ref i =>
    have s : (match h.get i with | some (.lst ws) => T.ok (i, ws) h | _ => T.bad : T (Nat × List W)).sat P E := s
    cases g : h.get i with
    | none => rw [g] at s; exact s.elim
    | some u =>
      rw [g] at s
      cases u with
      | lst ws => exact ⟨i, ws, rfl, g, s⟩
      | _ => exact s.elim
  | _ => exact s.elim
/-- the list at i becomes ws -/
def putL (i : Nat) (ws : List W) : M Unit := fun h => .ok () (h.put i (.lst ws))
section
variable {X : Cx} {ρE ρ : Rho} {o e ix : Expr} {m1 m2 m3 : M W} {ml : M (List W)} {p0 p1 pos : Pos} {rest : List Stmt} {α : Type} {g : α → Rho}
def appM (m1 m2 : M W) : M W := bd m1 fun o => bd (isL o) fun _ => bd m2 fun w => bd (isL o) fun p => bd (lf (gd (shortS p.2.length) (some ()))) fun _ => bd (putL p.1 (p.2 ++ [w])) fun _ => rt (.dat .none)
theorem Ok.putL {K : PySem.W.Frag} {wd : World} {φ : List Addr} {hs : Hs} {Ho Hk Hr : Hp} {i : Nat} {a : Addr} {ws us : List W} {vs xs : List V} (I : Ok K wd φ hs Ho Hk Hr) (h : hs.get i = some (.lst ws)) (ha : φ[i]? = some a) (hv : VRs K wd φ Hk us xs) : Ok K wd φ (hs.put i (.lst us)) Ho Hk (upd Hr a (.lst xs)) := I.put h ha ⟨xs, upd_same, hv⟩
theorem at_lst {K : PySem.W.Frag} {wd : World} {φ : List Addr} {hs : Hs} {Ho Hk Hr : Hp} {i : Nat} {a : Addr} {ws : List W} (I : Ok K wd φ hs Ho Hk Hr) (h : hs.get i = some (.lst ws)) (ha : φ[i]? = some a) : ∃ vs, Hr a = some (.lst vs) ∧ VRs K wd φ Hk ws vs := by
  obtain ⟨b, q1, q2, q3, vs, q4, q5⟩ := I.obj i _ h
  rw [ha] at q1
  cases q1
  exact ⟨vs, q4, q5⟩
theorem em_append (ho : EM X o ρ m1) (he : EM X e ρ m2) (hp : PE X (.Call (.Attribute o "append" p1) [e] [] pos) (tBM X.K "list" rAppend (sE X o) (tCons (sE X e) tNil))) : EM X (.Call (.Attribute o "append" p1) [e] [] pos) ρ (appM m1 m2) := fun p s Q q => by
  refine sE_of hp (ho p (sat_bind s) _ fun ow h1 ov φ1 Hk1 Hr1 s1 p1 e1 hov => ?_)
  obtain ⟨i, ws, rfl, g1, s2⟩ := isL_ok (sat_bind s1)
  cases hov with
  | ref ha =>
    obtain ⟨vs, t1, t2⟩ := at_lst p1.I g1 ha
    refine ⟨.inl ⟨rfl, _, .inl (.inl t1)⟩, he p1 (sat_bind s2) _ fun w h2 v φ2 Hk2 Hr2 s3 p2 e2 hv => ?_⟩
    obtain ⟨i', ws', e0, g2, s4⟩ := isL_ok (sat_bind s3)
    cases e0
    have ha2 := e2.f _ _ ha
    obtain ⟨vs2, t3, t4⟩ := at_lst p2.I g2 ha2
    obtain ⟨_, hsh, s5⟩ := sat_lf (sat_bind s4)
    have hl := shortS_lt (gd_some hsh).1
    refine ⟨_, vs2, v, rfl, rfl, t3, by rw [VRs.len t4]; exact lt_line hl, ?_⟩
    have I3 := p2.I.putL (vs := vs2) g2 ha2 (t4.app (.cons hv .nil))
    exact q _ _ _ _ _ _ s5 (p2.go I3 Ex.refl) (e1.trans e2) (.dat .non)
/-- x[i] = e -/
def setM (m3 m1 m2 : M W) : M Unit := bd m3 fun v => bd m1 fun o => bd m2 fun i => bd (isL o) fun p => bd (lf ((asIW i).bind fun j => ixN p.2.length j)) fun k => putL p.1 (p.2.set k v)
theorem sm_put {k : M (Res W α)} (he : EM X e ρ m3) (ho : EM X o ρ m1) (hi : EM X ix ρ m2) (hr : SM X ρE rest ρ k g) (hp : PS X (.Assign [.Subscript o ix p1] e pos) (tAsg (sE X e) (gSub (sE X o) (sE X ix) rSetL))) : SM X ρE (.Assign [.Subscript o ix p1] e pos :: rest) ρ (bd (setM m3 m1 m2) fun _ => k) g := fun p s D nx r => by
  refine sSs_of (pss_cons hp pss_s) (he p.pt (sat_bind (sat_bind s)) _ fun w h1 v φ1 Hk1 Hr1 s1 p1 e1 hv => ho p1 (sat_bind s1) _ fun ow h2 ov φ2 Hk2 Hr2 s2 p2 e2 hov => hi p2 (sat_bind s2) _ fun iw h3 iv φ3 Hk3 Hr3 s3 p3 e3 hiv => ?_)
  obtain ⟨i, ws, rfl, g1, s4⟩ := isL_ok (sat_bind s3)
  obtain ⟨k', hk, s5⟩ := sat_lf (sat_bind s4)
  obtain ⟨j, hj, hk⟩ := bnd hk
  have := asIW_eq hj
  subst this
  obtain rfl := vr_int (X := X) hiv
  have hov := hov.ex e3
  cases hov with
  | ref ha =>
    obtain ⟨vs, t1, t2⟩ := at_lst p3.I g1 ha
    have e123 := e1.trans (e2.trans e3)
    refine ⟨_, vs, j, k', rfl, rfl, t1, by rw [VRs.len t2]; exact hk, ?_⟩
    have I4 := p3.I.putL (vs := vs) g1 ha (t2.set k' (hv.ex (e2.trans e3)))
    exact hr (p.to I4 e123 p3.R p.sub) s5 D (fun a hs' φ' Hk' Hr' σ' h q e' => nx a hs' φ' Hk' Hr' σ' h q (e123.trans e')) (fun w hs' v φ' Hk' Hr' h I e' hv => r w hs' v φ' Hk' Hr' h I (e123.trans e') hv)
/-- x.extend(a new list) -/
def extM (m1 : M W) (ml : M (List W)) : M W := bd m1 fun o => bd (isL o) fun _ => bd ml fun us => bd (isL o) fun p => bd (lf (gd (short (p.2.length + us.length)) (some ()))) fun _ => bd (putL p.1 (p.2 ++ us)) fun _ => rt (.dat .none)
theorem em_extend (ho : EM X o ρ m1) (he : LM X e ρ ml) (hp : PE X (.Call (.Attribute o "extend" p1) [e] [] pos) (tBM X.K "list" rExtend (sE X o) (tCons (sE X e) tNil))) : EM X (.Call (.Attribute o "extend" p1) [e] [] pos) ρ (extM m1 ml) := fun p s Q q => by
  refine sE_of hp (ho p (sat_bind s) _ fun ow h1 ov φ1 Hk1 Hr1 s1 p1 e1 hov => ?_)
  obtain ⟨i, ws, rfl, g1, s2⟩ := isL_ok (sat_bind s1)
  cases hov with
  | ref ha =>
    obtain ⟨vs, t1, t2⟩ := at_lst p1.I g1 ha
    refine ⟨.inl ⟨rfl, _, .inl (.inl t1)⟩, he p1 (sat_bind s2) _ fun us h2 l xs φ2 Hk2 Hr2 s3 I2 no nk e2 hv => ?_⟩
    obtain ⟨I3, e3, _⟩ := I2.claimF no nk hv
    obtain ⟨i', ws', e0, g2, s4⟩ := isL_ok (sat_bind s3)
    cases e0
    have e23 := e2.trans e3
    have ha2 := e23.f _ _ ha
    obtain ⟨vs2, t3, t4⟩ := at_lst I3 g2 ha2
    obtain ⟨_, hsh, s5⟩ := sat_lf (sat_bind s4)
    have hl := short_le (gd_some hsh).1
    have hv3 := hv.ex e3
    refine ⟨_, l, vs2, xs, rfl, rfl, t3, I2.out _ _ upd_same, by rw [VRs.len t4, VRs.len hv]; exact le_line hl, ?_⟩
    have I4 := I3.putL (vs := vs2) g2 ha2 (t4.app hv3)
    exact q _ _ _ _ _ _ s5 (p1.go I4 e23) (e1.trans e23) (.dat .non)
end
end Hx
noncomputable section
namespace Hx
open PySem L2 Pd Gn PySem.Spec PyProof.Rows Zq
/-! defs -/
def spM (K : PySem.W.Frag) (wd : World) (mg : Str → Option Value) (n : Nat) (mf : List W → M W) : Sp := fun vs H Q E => ∃ (φ : List Addr) (hs : Hs) (Ho Hk : Hp) (ws : List W) (P : W → Hs → Prop) (Ex' : Xc → Hs → Prop), ws.length = n ∧ Ok K wd φ hs Ho Hk H ∧ VRs K wd φ Hk ws vs ∧ (mf ws hs).sat P Ex' ∧
  (∀ w hs' v φ' Hk' H', P w hs' → Ok K wd φ' hs' Ho Hk' H' → Ex φ Hk φ' Hk' → VR K wd φ' Hk' w v → Q v H') ∧ (∀ x hs' C d φ' Hk' H', Ex' x hs' → Ok K wd φ' hs' Ho Hk' H' → Ex φ Hk φ' Hk' → XA K mg x C d H' → E (.ref C) d H')
def finM (m : M (Res W Unit)) : M W := bd m fun r => match r with | .ret w => rt w | .nxt _ => rt (.dat .none)
def rhoW (ws : List W) (m : Nat) : Rho := ws.map some ++ List.replicate m none
def noR (n : Nat) : Rho := List.replicate n none
section
variable {P : Program} {w : World} {K : PySem.W.Frag} {wd : World} {mg : Str → Option Value} {base : Heap} {x qual : Str} {st : Stmt} {f : Addr} {fd : FuncData} {N ps : List Str} {k : Nat}
theorem start_sr {φ : List Addr} {Hk : Hp} {ws : List W} {vs : List V} (h : VRs K wd φ Hk ws vs) (hl : ws.length = ps.length) (hn : ps.length ≤ N.length) : SR K wd φ Hk (rhoW ws (N.length - ps.length)) (L2.start N vs) := by
  have lv := VRs.len h
  refine ⟨by unfold rhoW L2.start; simp [hl, lv], fun i w q => ?_⟩
  unfold rhoW at q
  by_cases z : i < ws.length
  · rw [List.getElem?_append_left (by simpa using z), List.getElem?_map, List.getElem?_eq_getElem z] at q
    obtain ⟨v, s1, s2⟩ := VRs.get h (List.getElem?_eq_getElem z)
    have q := Option.some.inj (Option.some.inj q)
    subst q
    exact ⟨v, start_get s1, s2⟩
  · rw [List.getElem?_append_right (by simpa using z), List.getElem?_replicate] at q
    split at q
    · cases Option.some.inj q
    · cases q
theorem le_noR : ∀ {r : Rho} {n : Nat}, r.length = n → LeR (noR n) r
  | [], 0, _ => .nil
  | [], n + 1, h => by simp at h
  | _ :: r, 0, h => by simp at h
  | x :: r, n + 1, h => .drop (le_noR (r := r) (by simpa using h))
theorem rhoW_len {ws : List W} (hl : ws.length = ps.length) (hn : ps.length ≤ N.length) : (rhoW ws (N.length - ps.length)).length = N.length := by
  unfold rhoW
  rw [List.length_append, List.length_map, List.length_replicate]
  omega
theorem FunY.okX {sp : Sp} (F : FunY K x qual st f fd) (S : FnScope N ps (defScope st)) (len : ∀ vs H Q E, sp vs H Q E → vs.length = ps.length)
    (hbody : ∀ (cdv : Value) (A : Around) (outer : List Env) (s : Shared) (H : Hp) (vs : List V) (Q : VK) (E : XK), Room k (A.deeper (envOfC qual (defScope st) s.heap.objs.size f cdv)) → sp vs H Q E →
      ∃ t, PSs (cxOf (L2.CX P w) P w K mg base N qual (defScope st) f cdv A outer s H E) (defBody st) t ∧ t { nx := fun _ H' => Q .non H', rt := Q } (L2.start N vs) H) : FnOk P w K mg base (L2.CX P w) (k + 1) f fd ps sp := by
  obtain ⟨oc, od, dV, kV, doc, pm, an, cdv, ct, osl, rfl, lk, hcd⟩ := F.ex
  exact fn_of lk hcd S len fun A outer s H vs Q E hr hsp => hbody cdv A outer s H vs Q E hr hsp
theorem Fun.y (F : Fun K x qual st f fd) : FunY K x qual st f fd := by
  obtain ⟨oc, od, kV, doc, pm, an, cdv, ct, osl, e, lk, hcd⟩ := F.ex
  exact ⟨⟨oc, od, _, kV, doc, pm, an, cdv, ct, osl, e, lk, hcd⟩, F.kp⟩
theorem defM {mb : List W → M (Res W Unit)} {g : Unit → Rho} (F : FunY K x qual st f fd) (S : FnScope N ps (defScope st)) (hl : ps.length ≤ N.length)
    (body : ∀ (cdv : Value) (A : Around) (outer : List Env) (s : Shared) (H : Hp) (E : XK), Room k (A.deeper (envOfC qual (defScope st) s.heap.objs.size f cdv)) →
      PassesOwn (model P w) (cxOf (L2.CX P w) P w K mg base N qual (defScope st) f cdv A outer s H E).A (cxOf (L2.CX P w) P w K mg base N qual (defScope st) f cdv A outer s H E).env (cxOf (L2.CX P w) P w K mg base N qual (defScope st) f cdv A outer s H E).xe → ∀ ws : List W, ws.length = ps.length →
      SM (cxOf (L2.CX P w) P w K mg base N qual (defScope st) f cdv A outer s H E) (noR N.length) (defBody st) (rhoW ws (N.length - ps.length)) (mb ws) g) :
    FnOk P w K mg base (L2.CX P w) (k + 1) f fd ps (spM K w mg ps.length fun ws => finM (mb ws)) := by
  refine FunY.okX F S (fun vs H Q E h => ?_) (fun cdv A outer s H vs Q E hr h => ?_)
  · obtain ⟨φ, hs, Ho, Hk, ws, P', Ex', h1, _, h2, _⟩ := h
    rw [VRs.len h2, h1]
  · obtain ⟨φ, hs, Ho, Hk, ws, P', Ex', h1, I, h2, s1, q1, q2⟩ := h
    refine ⟨_, pss_s, body cdv A outer s H E hr (passes_of rfl) ws h1 (Wx := fun cls d _ H => E cls d H) ⟨takes_of rfl rfl rfl rfl, I, start_sr h2 h1 hl, le_noR (rhoW_len h1 hl), fun x hs' C d φ' Hk' Hr' σ' e I' ee a _ => q2 x hs' C d φ' Hk' Hr' e I' ee a⟩ (sat_bind s1) _ (fun a hs' φ' Hk' Hr' σ' hp p' e' => ?_) (fun w hs' v φ' Hk' Hr' hp I' e' hv => ?_)⟩
    · exact q1 _ hs' .non φ' Hk' Hr' hp p'.I e' (.dat .non)
    · exact q1 w hs' v φ' Hk' Hr' hp I' e' hv
/-- where nothing is raised: the law -/
def spM0 (K : PySem.W.Frag) (wd : World) (n : Nat) (mf : List W → M W) : Sp := fun vs H Q _ => ∃ (φ : List Addr) (hs : Hs) (Ho Hk : Hp) (ws : List W) (P : W → Hs → Prop), ws.length = n ∧ Ok K wd φ hs Ho Hk H ∧ VRs K wd φ Hk ws vs ∧ (mf ws hs).sat P FF ∧
  (∀ w hs' v φ' Hk' H', P w hs' → Ok K wd φ' hs' Ho Hk' H' → Ex φ Hk φ' Hk' → VR K wd φ' Hk' w v → Q v H')
theorem defM0 {mb : List W → M (Res W Unit)} {g : Unit → Rho} (F : Fun K x qual st f fd) (S : FnScope N ps (defScope st)) (hl : ps.length ≤ N.length)
    (body : ∀ (cdv : Value) (A : Around) (outer : List Env) (s : Shared) (H : Hp) (E : XK), Room k (A.deeper (envOfC qual (defScope st) s.heap.objs.size f cdv)) →
      PassesOwn (model P w) (cxOf CX0 P w K mg base N qual (defScope st) f cdv A outer s H E).nox.A (cxOf CX0 P w K mg base N qual (defScope st) f cdv A outer s H E).nox.env (cxOf CX0 P w K mg base N qual (defScope st) f cdv A outer s H E).nox.xe → ∀ ws : List W, ws.length = ps.length →
      SM (cxOf CX0 P w K mg base N qual (defScope st) f cdv A outer s H E).nox (noR N.length) (defBody st) (rhoW ws (N.length - ps.length)) (mb ws) g) :
    FnOk P w K mg base CX0 (k + 1) f fd ps (spM0 K w ps.length fun ws => finM (mb ws)) := by
  refine F.ok S (fun vs H Q E h => ?_) (fun cdv A outer s H vs Q E hr h => ?_)
  · obtain ⟨φ, hs, Ho, Hk, ws, P', h1, _, h2, _⟩ := h
    rw [VRs.len h2, h1]
  · obtain ⟨φ, hs, Ho, Hk, ws, P', h1, I, h2, s1, q1⟩ := h
    have b : SM _ _ _ _ _ _ := fun {Wx E' P hs φ Ho Hk Hr σ} => body cdv A outer s H E hr PassesOwn.never ws h1 (Wx := Wx) (P := P) (hs := hs) (φ := φ) (Ho := Ho) (Hk := Hk) (Hr := Hr) (σ := σ)
    refine ⟨_, pss_s, b (Wx := fun _ _ _ _ => False) (E := FF) ⟨takes0, I, start_sr h2 h1 hl, le_noR (rhoW_len h1 hl), fun x hs' C d φ' Hk' Hr' σ' e => e.elim⟩ (sat_bind s1) _ (fun a hs' φ' Hk' Hr' σ' hp p' e' => ?_) (fun w hs' v φ' Hk' Hr' hp I' e' hv => ?_)⟩
    · exact q1 _ hs' .non φ' Hk' Hr' hp p'.I e' (.dat .non)
    · exact q1 w hs' v φ' Hk' Hr' hp I' e' hv
theorem FnOk.bad {CX : CXT} {n : Nat} (fl : ps.length = n) : FnOk P w K mg base CX k f fd ps (spM K w mg n fun _ => fun _ => .bad) :=
  ⟨fun vs H Q E h => by obtain ⟨φ, hs, Ho, Hk, ws, P', Ex', h1, I, h2, s1, q1, q2⟩ := h; exact s1.elim, fun A outer s H args us vs Q E hr he hb hv h => by obtain ⟨φ, hs, Ho, Hk, ws, P', Ex', h1, I, h2, s1, q1, q2⟩ := h; exact s1.elim⟩
/-- a def that raises nothing, for callers that may -/
theorem FnOk.x0 {sp : Sp} (F : FnOk P w K mg base CX0 k f fd ps sp) : FnOk P w K mg base (L2.CX P w) k f fd ps sp :=
  ⟨F.len, fun A outer s H args us vs Q E hr he hb hv hs => codeAny_mono (F.run A outer s H args us vs Q E hr he hb hv hs) fun r s' h => by
    cases r with
    | error e => exact (show False from h).elim
    | ok fl => cases fl <;> exact h⟩
end
/-! calls -/
structure CalM (P : Program) (w : World) (K : PySem.W.Frag) (mg : Str → Option Value) (base : Heap) (k : Nat) (x : Str) (ps : List Str) (n : Nat) (m : List W → M W) : Prop where
  ex : ∃ (f : Addr) (fd : FuncData), FnOk P w K mg base (L2.CX P w) k f fd ps (spM K w mg n m) ∧ mg x = some (.ref f) ∧ PySem.W.keepIn K (.ref f) = true ∧ Binds K fd ps []
def callM (n : Nat) (ma : M (List W)) (m : List W → M W) : M W := bd ma fun ws => bd (lf (gd (Nat.beq ws.length n) (some ()))) fun _ => m ws
section
variable {X : Cx} {ρ : Rho} {e : Expr} {es : List Expr} {ma : M (List W)} {m : List W → M W} {k n : Nat} {x : Str} {ps : List Str} {p0 pos : Pos}
theorem em_call (cl : CalM X.prog X.w X.K X.mg X.base k x ps n m) (hr : Room k X.A) (ha : AM X (e :: es) ρ ma) (hg : Gl X x := by rfl) (hdb : (x == ("__debug__" : Str)) = false := by decide) (he : starEach (e :: es) X.env = (false, eval e X.env) :: starEach es X.env := by rfl) (hpl : (backTo pos (starEach es X.env)).any (·.1) = false := by rfl) :
    EM X (.Call (.Name x p0) (e :: es) [] pos) ρ (callM n ma m) := fun p s Q q => by
  obtain ⟨f, fd, F, hm, hk, hb⟩ := cl.ex
  refine sE_of (pe_callS F hr hg hm hk hb (fun σ => passAt p.tk σ) pa_s hdb he hpl) (ha p (sat_bind s) _ fun ws h1 vs φ1 Hk1 Hr1 s1 p1 e1 hvs => ?_)
  obtain ⟨_, hn, s2⟩ := sat_lf (sat_bind s1)
  exact ⟨φ1, h1, _, Hk1, ws, _, _, Nat.eq_of_beq_eq_true (gd_some hn).1, p1.I, hvs, s2, fun w hs' v φ' Hk' H' hp I e hv => q w hs' v φ' Hk' H' hp (p1.go I e) (e1.trans e) hv, fun x hs' C d φ' Hk' H' hp I e ha => p1.x x hs' C d φ' Hk' H' hp I e ha⟩
end
/-! the law's state -/
def mState (ws : List W) : M W := fun h => match ws with
  | [.scr] => .ok (.ref h.nx) (h.new .st)
  | _ => .bad
def mTake (ws : List W) : M W := fun h => match ws with
  | [.ref i, .dat (.int m)] => match h.get i with
    | some .st => match decide (0 < m) && decide (m < 1000000) with
      | true => .draw m.toNat fun v => .ok (.dat (.int (v : Nat))) h
      | false => .bad
    | _ => .bad
  | _ => .bad
section
variable {P : Program} {w : World} {K : PySem.W.Frag} {wd : World} {mg : Str → Option Value} {base : Heap} {f : Addr} {fd : FuncData} {ps : List Str} {k : Nat}
theorem fn_state {φ : List PyData → List Int → Prop} (hφ : ∀ ns : List Int, ∃ s t, φ [.list (ns.map .int)] [s, t]) (F : FnOk P w K mg base CX0 k f fd ps (spN K 1 φ)) : FnOk P w K mg base (L2.CX P w) k f fd ps (spM K w mg 1 mState) :=
  FnOk.x0 (F.imp fun vs H Q E h => by
    obtain ⟨ph, hs, Ho, Hk, ws, P', Ex', h1, I, h2, s1, q1, q2⟩ := h
    unfold mState at s1
    split at s1
    · cases h2 with
      | cons h2 h3 =>
        cases h3
        cases h2 with
        | scr hl hd =>
          rename_i v ns
          obtain ⟨s, t, hst⟩ := hφ ns
          refine ⟨Hk, [.list (ns.map .int)], [s, t], hst, rfl, I.kr, .cons hd .nil, fun p H' e np hp => ?_⟩
          have I2 : Ok K w (ph ++ [p]) (hs.new .st) Ho Hk H' := I.new np e ⟨s, t, hp⟩
          refine q1 _ _ (.ref p) (ph ++ [p]) Hk H' s1 I2 ⟨Fx.app, Same.refl _⟩ (.ref ?_)
          rw [← I.len]
          simp
    · exact s1.elim)
theorem fn_take {φ : List PyData → List PyData → PyData → List PyData → Prop} (hφ : ∀ s t m : Int, 0 < m → m < 1000000 → ∃ (v : Nat) (s' t' : Int), (v : Int) < m ∧ φ [.int s, .int t] [.int m] (.int (v : Nat)) [.int s', .int t']) (F : FnOk P w K mg base CX0 k f fd ps (spB K 1 φ)) : FnOk P w K mg base (L2.CX P w) k f fd ps (spM K w mg 2 mTake) :=
  FnOk.x0 (F.imp fun vs H Q E h => by
    obtain ⟨ph, hs, Ho, Hk, ws, P', Ex', h1, I, h2, s1, q1, q2⟩ := h
    unfold mTake at s1
    split at s1
    · rename_i i m
      cases h2 with
      | cons h2 h3 =>
        cases h2 with
        | ref ha =>
          cases h3 with
          | cons h3 h4 =>
            cases h4
            cases h3 with
            | dat h3 =>
              cases h3
              cases g : hs.get i with
              | none => rw [g] at s1; exact s1.elim
              | some o =>
                rw [g] at s1
                cases o with
                | st =>
                  obtain ⟨a, r1, r2, r3, s, t, r4⟩ := I.obj i _ g
                  rw [ha] at r1
                  cases r1
                  cases z : (decide (0 < m) && decide (m < 1000000)) with
                  | false => simp only [z] at s1; exact s1.elim
                  | true =>
                    simp only [z] at s1
                    rw [Bool.and_eq_true] at z
                    obtain ⟨v, s', t', hv, hst⟩ := hφ s t m (of_decide_eq_true z.1) (of_decide_eq_true z.2)
                    refine ⟨Hk, _, [.int m], [.int s, .int t], [.int s, .int t], [.int m], .int (v : Nat), [.int s', .int t'], hst, rfl, rfl, r4, r2, I.kr, .cons (.int _) (.cons (.int _) .nil), .cons (.int _) .nil, fun vv H' us' far hus hdp hdv => ?_⟩
                    cases hdv
                    have e1 := DpAll.ints (ns := [s', t']) hdp
                    subst e1
                    have s2 : P' (.dat (.int (v : Nat))) hs := s1 v (by omega)
                    refine q1 _ hs (.int (v : Nat)) ph Hk H' s2 ⟨fun b o hb => far b o (ne_of_none hb r2) (I.kr _ _ hb), fun b o hb => far b o (ne_of_none hb r3) (I.out _ _ hb), I.len, I.low, fun j o hj => ?_, I.inj, I.dis⟩ Ex.refl (.dat (.int _))
                    obtain ⟨b, t1, t2, t3, t4⟩ := I.obj j o hj
                    refine ⟨b, t1, t2, t3, ?_⟩
                    by_cases q : j = i
                    · subst q
                      rw [g] at hj
                      cases hj
                      rw [ha] at t1
                      cases t1
                      exact ⟨s', t', hus⟩
                    · exact t4.mono Fx.refl (Same.refl _) fun u hu => far b u (fun z => q (I.inj j i b (by rw [hj]; exact fun z => nomatch z) (by rw [g]; exact fun z => nomatch z) t1 (by rw [z]; exact ha))) hu
                | _ => exact s1.elim
    · exact s1.elim)
/-- the law's own promise -/
theorem law_M {m : List W → M W} (hm : (m [.scr] ⟨0, []⟩).sat (fun w _ => w = .dat (.bool true)) FF) (F : FnOk P w K mg base CX0 k f fd ["script"] (spM0 K w 1 m)) : FnOk P w K mg base CX0 k f fd ["script"] (spLaw K) :=
  F.imp fun vs H Q E h => by
    obtain ⟨a, ns, rfl, hs, hl, q⟩ := h
    refine ⟨[], ⟨0, []⟩, fun _ => none, H, [.scr], _, rfl, ⟨Same.refl _, fun _ _ z => (nomatch z), rfl, fun i o z => (nomatch z), fun i o z => (nomatch z), fun i j a z => absurd rfl z, fun _ _ z => (nomatch z)⟩, .cons (.scr hl (.lst hs (DpAll.of_ints ns))) .nil, hm, fun w hs' v φ' Hk' H' hw _ _ hv => ?_⟩
    subst hw
    cases hv with
    | dat hv =>
      cases hv
      exact q H'
end
end Hx
noncomputable section
namespace Hx
open PySem L2 Pd Gn PySem.Spec PyProof.Rows Zq
/-! targets that write these slots alone -/
def GWx (g : TG) (vs : List Nat) : Prop := ∀ v τ H (Q : L2.St → Hp → Prop), (g v τ H fun σ2 H2 => wipe σ2 vs = wipe τ vs → Q σ2 H2) → g v τ H fun σ2 H2 => wipe σ2 vs = wipe τ vs ∧ Q σ2 H2
def GWxs (g : TGs) (vs : List Nat) : Prop := ∀ us τ H (Q : L2.St → Hp → Prop), (g us τ H fun σ2 H2 => wipe σ2 vs = wipe τ vs → Q σ2 H2) → g us τ H fun σ2 H2 => wipe σ2 vs = wipe τ vs ∧ Q σ2 H2
theorem gwx_name {n : Nat} {vs : List Nat} (h : n ∈ vs) : GWx (gName n) vs := fun v τ H Q q => ⟨wipe_set h, q (wipe_set h)⟩
theorem gwxs_nil {vs : List Nat} : GWxs gNil vs := fun us τ H Q q => ⟨q.1, rfl, q.2 rfl⟩
/-- the wish may be weakened -/
def MonG (g : TG) : Prop := ∀ v τ H (Q Q' : L2.St → Hp → Prop), (∀ σ2 H2, Q σ2 H2 → Q' σ2 H2) → g v τ H Q → g v τ H Q'
def MonGs (g : TGs) : Prop := ∀ v τ H (Q Q' : L2.St → Hp → Prop), (∀ σ2 H2, Q σ2 H2 → Q' σ2 H2) → g v τ H Q → g v τ H Q'
theorem mon_name {n : Nat} : MonG (gName n) := fun v τ H Q Q' h q => h _ _ q
theorem mons_nil : MonGs gNil := fun v τ H Q Q' h q => ⟨q.1, h _ _ q.2⟩
theorem mons_cons {g : TG} {ts : TGs} (m1 : MonG g) (m2 : MonGs ts) : MonGs (gCons g ts) := fun vs τ H Q Q' h q => by
  obtain ⟨v, r, e, q⟩ := q
  exact ⟨v, r, e, m1 _ _ _ _ _ (fun σ2 H2 q2 => m2 _ _ _ _ _ h q2) q⟩
theorem mon_tup {K : PySem.W.Frag} {n : Nat} {ts : TGs} (m : MonGs ts) : MonG (gTup K n ts) := fun v τ H Q Q' h q => by
  obtain ⟨a, xs, e, h1, h2, q⟩ := q
  exact ⟨a, xs, e, h1, h2, m _ _ _ _ _ h q⟩
theorem gwxs_cons {g : TG} {ts : TGs} {vs : List Nat} (w1 : GWx g vs) (m1 : MonG g) (w2 : GWxs ts vs) (m2 : MonGs ts) : GWxs (gCons g ts) vs := fun us τ H Q q => by
  obtain ⟨v, r, e, q⟩ := q
  refine ⟨v, r, e, ?_⟩
  refine m1 _ _ _ _ _ (fun σ2 H2 q2 => ?_) (w1 v τ H (fun σ2 H2 => wipe σ2 vs = wipe τ vs ∧ ts r σ2 H2 fun σ3 H3 => wipe σ3 vs = wipe τ vs → Q σ3 H3) (m1 _ _ _ _ _ (fun σ2 H2 q2 e2 => ⟨e2, q2⟩) q))
  obtain ⟨_, e2, q2⟩ := q2
  refine m2 _ _ _ _ _ (fun σ3 H3 q3 => ?_) (w2 r σ2 H2 Q (m2 _ _ _ _ _ (fun σ3 H3 q3 e3 => q3 (e3.trans e2)) q2))
  exact ⟨q3.1.trans e2, q3.2⟩
theorem gwx_tup {K : PySem.W.Frag} {n : Nat} {ts : TGs} {vs : List Nat} (w : GWxs ts vs) : GWx (gTup K n ts) vs := fun v τ H Q q => by
  obtain ⟨a, xs, e, h1, h2, q⟩ := q
  exact ⟨a, xs, e, h1, h2, w _ _ _ _ q⟩
theorem GWx.gw {g : TG} {vs : List Nat} (h : GWx g vs) (m : MonG g) : GW g vs := fun v σ H Q q => by
  refine m _ _ _ _ _ (fun σ2 H2 q2 => ?_) (h v (wipe σ vs) H Q (m _ _ _ _ _ (fun σ2 H2 q2 e => q2 (by rw [e, wipe_twice])) q))
  exact ⟨by rw [q2.1, wipe_twice], q2.2⟩
/-! products -/
def pMulY : PyData → PyData → Option PyData
  | .int i, .int j => gd (inR (-18446744073709551615) 18446744073709551615 i) (some (.int (i * j)))
  | .tuple ds, .int k => gd (!ds.isEmpty && inR (-1000) 1000 k && Nat.ble ds.length 1000) (some (.tuple (List.replicate k.toNat ds).flatten))
  | _, _ => none
section
variable {X : Cx} {ρ : Rho} {a b e : Expr} {m m1 m2 : M W} {ml ml2 : M (List W)} {pos p0 p1 : Pos}
theorem mul_f : OF X (binaryOp .Mult) (l2 pMulY) := of_l2 fun x y d h => by
  unfold pMulY at h
  split at h
  · obtain ⟨g1, g2⟩ := gd_some h
    obtain ⟨g3, g4⟩ := inR_at g1
    cases g2; exact ⟨_, op_mul, rd_int (.inl ⟨by omega, by omega⟩)⟩
  · obtain ⟨g1, g2⟩ := gd_some h
    rw [Bool.and_eq_true, Bool.and_eq_true] at g1
    obtain ⟨⟨q1, q2⟩, q3⟩ := g1
    obtain ⟨g3, g4⟩ := inR_at q2
    have hn : ∀ {ds : List PyData}, (!ds.isEmpty) = true → ds ≠ [] := fun h z => by subst z; cases h
    cases g2
    rename_i ds k
    by_cases hk : k ≤ 1
    · exact ⟨_, op_times, rd_times (hn q1) ⟨g3, hk⟩⟩
    · exact ⟨_, op_repT, rd_rep (hn q1) ⟨by omega, g4, Nat.le_of_ble_eq_true q3⟩⟩
  · cases h
/-- [..] * n -/
def repM (ml : M (List W)) (m : M W) : M (List W) := bd ml fun ws => bd m fun y => lf ((asIW y).bind fun k => gd (inR (-1000) 1000 k && Nat.ble ws.length 50) (some (List.replicate k.toNat ws).flatten))
theorem vrs_rep {K : PySem.W.Frag} {wd : World} {φ : List Addr} {H : Hp} {ws : List W} {vs : List V} (h : VRs K wd φ H ws vs) : ∀ m : Nat, VRs K wd φ H (List.replicate m ws).flatten (List.replicate m vs).flatten
  | 0 => .nil
  | m + 1 => by
    rw [List.replicate_succ, List.replicate_succ, List.flatten_cons, List.flatten_cons]
    exact h.app (vrs_rep h m)
theorem _root_.Hx.Ok.unout {K : PySem.W.Frag} {wd : World} {φ : List Addr} {hs : Hs} {Ho Hk Hr : Hp} {p : Addr} {u : HO} (I : Ok K wd φ hs (upd Ho p u) Hk Hr) (no : Ho p = none) : Ok K wd φ hs Ho Hk Hr := by
  refine ⟨I.kr, fun b o g => I.out _ _ (same_upd no b o g), I.len, I.low, fun i o g => ?_, I.inj, fun b o g => I.dis b o (same_upd no b o g)⟩
  obtain ⟨a, q1, q2, q3, q4⟩ := I.obj i o g
  have ne : a ≠ p := fun z => by rw [z, upd_same] at q3; cases q3
  rw [upd_ne ne] at q3
  exact ⟨a, q1, q2, q3, q4⟩
theorem _root_.Hx.Pt.out {Wx : WX} {E : Xc → Hs → Prop} {hs hs' : Hs} {φ φ' : List Addr} {Ho Hk Hk' Hr Hr' : Hp} {σ : L2.St} {q : Addr} {u : HO} (p : Pt X Wx E ρ hs φ Ho Hk Hr σ) (I : Ok X.K X.w φ' hs' (upd Ho q u) Hk' Hr') (no : Ho q = none) (e : Ex φ Hk φ' Hk') : Pt X Wx E ρ hs' φ' (upd Ho q u) Hk' Hr' σ :=
  ⟨p.tk, I, p.R.ex e, fun x hs'' C d φ'' Hk'' Hr'' h I' e' a => p.x x hs'' C d φ'' Hk'' Hr'' h (I'.unout no) (e.trans e') a⟩
theorem lm_rep (ha : LM X a ρ ml) (hb : EM X b ρ m) : LM X (.BinOp a .Mult b pos) ρ (repM ml m) := fun p s Q q => by
  refine sE_of (pe_op op_rep pe_s pe_s) (ha p (sat_bind s) _ fun ws h1 t vs φ1 Hk1 Hr1 s1 I1 no nk e1 hv => hb (p.out I1 no e1) (sat_bind s1) _ fun y h2 yv φ2 Hk2 Hr2 s2 p2 e2 hy => ?_)
  obtain ⟨us, h3, s3⟩ := sat_lf s2
  obtain ⟨k, h4, h5⟩ := bnd h3
  obtain ⟨g1, g2⟩ := gd_some h5
  rw [Bool.and_eq_true] at g1
  cases g2
  have := asIW_eq h4
  subst this
  obtain rfl := vr_int (X := X) hy
  obtain ⟨r1, r2⟩ := inR_at g1.1
  have r3 := Nat.le_of_ble_eq_true g1.2
  refine ⟨t, k, vs, rfl, rfl, p2.I.out _ _ upd_same, by omega, by omega, ?_, fun r hr => ?_⟩
  · rw [VRs.len hv]
    have z : ws.length * k.toNat ≤ 50 * 1000 := Nat.mul_le_mul r3 (by omega)
    exact le_line (by omega)
  · have I3 := p2.I.unout no
    exact q _ _ r _ φ2 Hk2 _ s3 (I3.outer hr) (far_of I3.out hr) (far_of I3.kr hr) (e1.trans e2) (vrs_rep (hv.ex e2) _)
end
end Hx
/-! swaps, pop, isinstance, errors, defaults -/
noncomputable section
namespace Hx
open PySem L2 Pd Gn PySem.Spec PyProof.Rows Zq
theorem VRs.dropLast {K : PySem.W.Frag} {wd : World} {φ : List Addr} {H : Hp} {ws : List W} {vs : List V} (h : VRs K wd φ H ws vs) : VRs K wd φ H ws.dropLast vs.dropLast := by
  rw [List.dropLast_eq_take, List.dropLast_eq_take, VRs.len h]
  exact h.take _
theorem ty_tupS {K : PySem.W.Frag} {H : Hp} {a : Addr} {vs : List V} (hs : SqT K H a vs) : TyX K H (.ref a) (.type "tuple") := by
  rcases hs with (h | ⟨o, h⟩) | h
  · exact .base (.tup h)
  · exact .fTuple h
  · obtain ⟨o, its, n, ho, hc, _⟩ := h
    exact .kTuple ho hc
theorem ty_lstS {K : PySem.W.Frag} {H : Hp} {a : Addr} {vs : List V} (hs : SqL K H a vs) : TyX K H (.ref a) (.type "list") := by
  rcases hs with (h | ⟨o, h⟩) | h
  · exact .base (.lst h)
  · exact .base (.frz h)
  · obtain ⟨o, its, n, ho, hc, _⟩ := h
    exact .kList ho hc
section
variable {X : Cx} {ρE ρ : Rho} {a b e o ix t : Expr} {es : List Expr} {rest body : List Stmt} {m m1 m2 m3 : M W} {ma : M (List W)} {p0 p1 p2 p3 px pr pos cpos tpos : Pos} {α β : Type} {g : α → Rho} {n i k1 k2 : Nat} {x y : Str}
/-- x, o[ix] = a, b -/
def swM (m1 m2 : M W) (mo mi : W → M W) (kk : W → M (Res W α)) : M (Res W α) := bd m1 fun v => bd m2 fun w => bd (mo v) fun o => bd (mi v) fun i => bd (isL o) fun p => bd (lf ((asIW i).bind fun j => ixN p.2.length j)) fun k => bd (putL p.1 (p.2.set k w)) fun _ => kk v
theorem sm_swap {mo mi : W → M W} {kk : W → M (Res W α)} (hE : ρE[n]? = some none) (ha : EM X a ρ m1) (hb : EM X b ρ m2) (ho : ∀ v, EM X o (ρ.set n (some v)) (mo v)) (hi : ∀ v, EM X ix (ρ.set n (some v)) (mi v)) (hr : ∀ v, SM X ρE rest (ρ.set n (some v)) (kk v) g)
    (hp : PS X (.Assign [.Tuple [.Name x px, .Subscript o ix p1] k1 p2] (.Tuple [a, b] k2 p3) pos) (tAsg (tTup (sA X [a, b])) (gTup X.K 2 (gCons (gName n) (gCons (gSub (sE X o) (sE X ix) rSetL) gNil)))))
    (hs : starEach [a, b] X.env = (false, eval a X.env) :: starEach [b] X.env := by rfl) (hs2 : starEach [b] X.env = (false, eval b X.env) :: starEach [] X.env := by rfl) :
    SM X ρE (.Assign [.Tuple [.Name x px, .Subscript o ix p1] k1 p2] (.Tuple [a, b] k2 p3) pos :: rest) ρ (swM m1 m2 mo mi kk) g := fun {Wx E P hs0 φ Ho Hk Hr σ} p s D nx r => by
  refine sSs_of (pss_cons hp pss_s) (sA_of (pa_cons pe_s (pa_cons pe_s pa_nil hs2) hs) (ha p.pt (sat_bind s) _ fun w1 h1 v1 φ1 Hk1 Hr1 s1 q1 e1 hv1 => hb q1 (sat_bind s1) _ fun w2 h2 v2 φ2 Hk2 Hr2 s2 q2 e2 hv2 => ?_))
  refine ⟨by show 2 ≤ sizeLine; decide, fun tp hfree => ⟨tp, [v1, v2], rfl, .inl (.inl upd_same), rfl, v1, [v2], rfl, v2, [], rfl, ?_⟩⟩
  have e3 := Ex.gro (φ := φ2) q2.I.kr (H2 := upd Hr2 tp (.tup [v1, v2]))
  have I3 := q2.I.gro (new_same hfree (.tup [v1, v2]))
  have e123 := (e1.trans e2).trans e3
  have P3 : Ps X Wx E ρE (ρ.set n (some w1)) h2 φ2 Ho _ _ (σ.set n (some v1)) := p.to I3 e123 ((q2.R.ex e3).set (hv1.ex (e2.trans e3))) (p.sub.set hE)
  refine ho w1 P3.pt (sat_bind s2) _ fun ow h4 ov φ4 Hk4 Hr4 s4 q4 e4 hov => hi w1 q4 (sat_bind s4) _ fun iw h5 iv φ5 Hk5 Hr5 s5 q5 e5 hiv => ?_
  obtain ⟨i, ws, rfl, g1, s6⟩ := isL_ok (sat_bind s5)
  obtain ⟨k', hk, s7⟩ := sat_lf (sat_bind s6)
  obtain ⟨j, hj, hk⟩ := bnd hk
  have := asIW_eq hj
  subst this
  obtain rfl := vr_int (X := X) hiv
  have hov := hov.ex e5
  cases hov with
  | ref ha =>
    obtain ⟨vs, t1, t2⟩ := at_lst q5.I g1 ha
    have e45 := e4.trans e5
    have e15 := e123.trans e45
    refine ⟨_, vs, j, k', rfl, rfl, t1, by rw [VRs.len t2]; exact hk, rfl, ?_⟩
    have I6 := q5.I.putL (vs := vs) g1 ha (t2.set k' (hv2.ex (e3.trans e45)))
    exact hr w1 (P3.to I6 e45 q5.R P3.sub) s7 D (fun a hs' φ' Hk' Hr' σ' h q e' => nx a hs' φ' Hk' Hr' σ' h q (e15.trans e')) (fun w hs' v φ' Hk' Hr' h I e' hv => r w hs' v φ' Hk' Hr' h I (e15.trans e') hv)
/-- x.pop() -/
def popM (m1 : M W) : M W := bd m1 fun o => bd (isL o) fun p => bd (lf (p.2[p.2.length - 1]?)) fun y => bd (putL p.1 p.2.dropLast) fun _ => rt y
theorem em_pop (ho : EM X o ρ m1) (hp : PE X (.Call (.Attribute o "pop" p1) [] [] cpos) (tBM0 X.K "list" rPop (sE X o))) : EM X (.Call (.Attribute o "pop" p1) [] [] cpos) ρ (popM m1) := fun p s Q q => by
  refine sE_of hp (ho p (sat_bind s) _ fun ow h1 ov φ1 Hk1 Hr1 s1 p1 e1 hov => ?_)
  obtain ⟨i, ws, rfl, g1, s2⟩ := isL_ok (sat_bind s1)
  obtain ⟨y, hy, s3⟩ := sat_lf (sat_bind s2)
  cases hov with
  | ref ha =>
    obtain ⟨vs, t1, t2⟩ := at_lst p1.I g1 ha
    obtain ⟨yv, hyv, ry⟩ := t2.get hy
    refine ⟨.inl ⟨rfl, _, .inl (.inl t1)⟩, _, vs, yv, rfl, rfl, t1, by rw [VRs.len t2]; exact hyv, ?_⟩
    have I3 := p1.I.putL (vs := vs) g1 ha t2.dropLast
    exact q _ _ _ _ _ _ s3 (p1.go I3 Ex.refl) e1 ry
/-! isinstance -/
def isiW (f : PyData → Option Bool) (h : Hs) : W → Option Bool
  | .dat d => f d
  | .tup _ => f (.tuple [])
  | .lst _ => f (.list [])
  | .ref i => match h.get i with | some (.lst _) => f (.list []) | _ => none
  | _ => none
def isiM (f : PyData → Option Bool) (m : M W) : M W := bd m fun w => fun h => lf ((isiW f h w).map fun k => .dat (.bool k)) h
theorem em_isi {T : String} {f : PyData → Option Bool} (hf : ∀ d r, f d = some r → kitB (tyN d) T = some r) (hn : ∀ d, f (.dict d) = none) (ha : EM X e ρ m) (h : PE X (.Call (.Name "isinstance" p0) [e, t] [] pos) (tCB (rIsi X.K) (tCons (sE X e) (tCons (tC (.ty T)) tNil)))) : EM X (.Call (.Name "isinstance" p0) [e, t] [] pos) ρ (isiM f m) := fun p s Q q => by
  refine sE_of h (ha p (sat_bind s) _ fun w h1 v φ1 Hk1 Hr1 s1 p1 e1 hv => ?_)
  obtain ⟨kw, hkw, s2⟩ := sat_lf s1
  obtain ⟨k, hk, hkw⟩ := mpd hkw
  subst hkw
  have fin : ∀ ty : String, TyX X.K Hr1 v (.type ty) → kitB ty T = some k → rIsi X.K [v, .ty T] Hr1 Q := fun ty hty hkk =>
    ⟨v, .ty T, .type ty, .type T, k, rfl, .ty T, hty, kit_ty hkk, q _ _ _ _ _ _ s2 p1 e1 (.dat (.bl _))⟩
  cases w with
  | dat d =>
    have hk : f d = some k := hk
    cases hv with
    | dat hd =>
      have hd := Dp.mono p1.I.kr _ hd
      cases d with
      | none => exact fin _ (ty_scal hd rfl) (hf _ _ hk)
      | bool b => exact fin _ (ty_scal hd rfl) (hf _ _ hk)
      | int b => exact fin _ (ty_scal hd rfl) (hf _ _ hk)
      | str b => exact fin _ (ty_scal hd rfl) (hf _ _ hk)
      | tuple b => exact fin _ (ty_tup hd) (hf _ _ hk)
      | list b => exact fin _ (ty_lst hd) (hf _ _ hk)
      | dict b => rw [hn] at hk; cases hk
  | tup ws =>
    cases hv with
    | tup hs _ => exact fin _ (ty_tupS (same_t p1.I.kr hs)) (hf _ _ hk)
  | lst ws =>
    cases hv with
    | lst hs _ => exact fin _ (ty_lstS (same_l p1.I.kr hs)) (hf _ _ hk)
  | ref i =>
    have hk : (match h1.get i with | some (.lst _) => f (.list []) | _ => none) = some k := hk
    cases g : h1.get i with
    | none => rw [g] at hk; cases hk
    | some u =>
      rw [g] at hk
      cases u with
      | lst ws =>
        cases hv with
        | ref ha =>
          obtain ⟨vs, t1, t2⟩ := at_lst p1.I g ha
          exact fin _ (ty_lstS (.inl (.inl t1))) (hf _ _ hk)
      | _ => cases hk
  | _ => cases hk
theorem isiC {T : String} {ty : Str} (hm : X.mg "isinstance" = none) (hm2 : X.mg ty = none) (hb : bootBuiltins ty = some (.type T)) (hnn : ty ≠ ("__name__" : Str)) (hd : (ty == ("__debug__" : Str)) = false) (hg : Gl X "isinstance") (hg2 : Gl X ty) (he : starEach [e, .Name ty tpos] X.env = (false, eval e X.env) :: starEach [.Name ty tpos] X.env) (he2 : starEach [.Name ty tpos] X.env = (false, eval (.Name ty tpos) X.env) :: starEach [] X.env) (hpl : (backTo pos (starEach [.Name ty tpos] X.env)).any (·.1) = false) :
    PE X (.Call (.Name "isinstance" p0) [e, .Name ty tpos] [] pos) (tCB (rIsi X.K) (tCons (sE X e) (tCons (tC (.ty T)) tNil))) := pe_callB call_isi hg hm (by decide +kernel) (pa_cons pe_s (pa_cons (pe_bltn hg2 hm2 hb rfl hnn hd) pa_nil he2) he) (by decide) (by decide) he hpl
theorem em_isInt (hm : X.mg "isinstance" = none) (hm2 : X.mg "int" = none) (ha : EM X e ρ m) (hg : Gl X "isinstance" := by rfl) (hg2 : Gl X "int" := by rfl) (he : starEach [e, .Name "int" tpos] X.env = (false, eval e X.env) :: starEach [.Name "int" tpos] X.env := by rfl) (he2 : starEach [.Name "int" tpos] X.env = (false, eval (.Name "int" tpos) X.env) :: starEach [] X.env := by rfl) (hpl : (backTo pos (starEach [.Name "int" tpos] X.env)).any (·.1) = false := by rfl) :
    EM X (.Call (.Name "isinstance" p0) [e, .Name "int" tpos] [] pos) ρ (isiM isIntO m) := em_isi isInt_k (fun _ => rfl) ha (isiC hm hm2 (by decide +kernel) (by decide) (by decide) hg hg2 he he2 hpl)
theorem em_isBool (hm : X.mg "isinstance" = none) (hm2 : X.mg "bool" = none) (ha : EM X e ρ m) (hg : Gl X "isinstance" := by rfl) (hg2 : Gl X "bool" := by rfl) (he : starEach [e, .Name "bool" tpos] X.env = (false, eval e X.env) :: starEach [.Name "bool" tpos] X.env := by rfl) (he2 : starEach [.Name "bool" tpos] X.env = (false, eval (.Name "bool" tpos) X.env) :: starEach [] X.env := by rfl) (hpl : (backTo pos (starEach [.Name "bool" tpos] X.env)).any (·.1) = false := by rfl) :
    EM X (.Call (.Name "isinstance" p0) [e, .Name "bool" tpos] [] pos) ρ (isiM isBoolO m) := em_isi isBool_k (fun _ => rfl) ha (isiC hm hm2 (by decide +kernel) (by decide) (by decide) hg hg2 he he2 hpl)
theorem em_isTup (hm : X.mg "isinstance" = none) (hm2 : X.mg "tuple" = none) (ha : EM X e ρ m) (hg : Gl X "isinstance" := by rfl) (hg2 : Gl X "tuple" := by rfl) (he : starEach [e, .Name "tuple" tpos] X.env = (false, eval e X.env) :: starEach [.Name "tuple" tpos] X.env := by rfl) (he2 : starEach [.Name "tuple" tpos] X.env = (false, eval (.Name "tuple" tpos) X.env) :: starEach [] X.env := by rfl) (hpl : (backTo pos (starEach [.Name "tuple" tpos] X.env)).any (·.1) = false := by rfl) :
    EM X (.Call (.Name "isinstance" p0) [e, .Name "tuple" tpos] [] pos) ρ (isiM isTupO m) := em_isi isTup_k (fun _ => rfl) ha (isiC hm hm2 (by decide +kernel) (by decide) (by decide) hg hg2 he he2 hpl)
theorem em_isList (hm : X.mg "isinstance" = none) (hm2 : X.mg "list" = none) (ha : EM X e ρ m) (hg : Gl X "isinstance" := by rfl) (hg2 : Gl X "list" := by rfl) (he : starEach [e, .Name "list" tpos] X.env = (false, eval e X.env) :: starEach [.Name "list" tpos] X.env := by rfl) (he2 : starEach [.Name "list" tpos] X.env = (false, eval (.Name "list" tpos) X.env) :: starEach [] X.env := by rfl) (hpl : (backTo pos (starEach [.Name "list" tpos] X.env)).any (·.1) = false := by rfl) :
    EM X (.Call (.Name "isinstance" p0) [e, .Name "list" tpos] [] pos) ρ (isiM isListO m) := em_isi isList_k (fun _ => rfl) ha (isiC hm hm2 (by decide +kernel) (by decide) (by decide) hg hg2 he he2 hpl)
/-! errors -/
def asD : W → Option PyData
  | .dat d => some d
  | _ => none
theorem asD_eq {w : W} {d : PyData} (h : asD w = some d) : w = .dat d := by
  unfold asD at h
  split at h
  · cases h; rfl
  · cases h
def raiseM {β : Type} (c : Nat) (m : M W) : M β := bd m fun w => bd (lf (asD w)) fun d => fun h => .exc ⟨c, d⟩ h
theorem sm_raise {c : Nat} {fld p : Str} {C fI : Addr} {fd : FuncData} {k : Nat} (T : XCls X.K X.mg x fld C fI) (hxn : xName c = x) (hxf : xFld c = some fld) (F1 : FnOk X.prog X.w X.K X.mg X.base CX0 k fI fd [Str.ofString "self", p] (spI X.K C fld)) (hr : Room (k + 1) X.A) (hb : Binds X.K fd [Str.ofString "self", p] []) (he : EM X e ρ m)
    (hc : X.calm = true := by rfl) (hg : Gl X x := by rfl) (hdb : (x == ("__debug__" : Str)) = false := by decide) (hs : starEach [e] X.env = (false, eval e X.env) :: starEach [] X.env := by rfl) (hpl : (backTo cpos (starEach [] X.env)).any (·.1) = false := by rfl) :
    SM X ρE (.Raise (some (.Call (.Name x p0) [e] [] cpos)) none pos :: rest) ρ (raiseM c m : M (Res W α)) g := fun ps s D nx r =>
  sSs_of (pss_cons (ps_raise hc ps.tk (pmk_oex T.T T.iC T.tI F1 hr hb .nil pass0 hg T.gC pa_s hdb hs hpl)) pss_s) (sA_of (pa_cons pe_s pa_nil hs) (he ps.pt (sat_bind s) _ fun w h1 v φ1 Hk1 Hr1 s1 p1 e1 hv => by
    obtain ⟨d, hd, s2⟩ := sat_lf (sat_bind s1)
    have := asD_eq hd
    subst this
    cases hv with
    | dat hv =>
      refine ⟨by show 1 ≤ 1000; decide, fun a ha => ⟨a, v, rfl, upd_same, fun dx n ne => ⟨rfl, dx, [(fld, v)], upd_same, by rw [upd_ne ne, upd_same], ?_, ?_⟩⟩⟩
      · rw [upd_ne ne] at n
        exact n
      · rw [upd_ne ne] at n
        have far : Same Hr1 (upd (del (upd (upd (upd Hr1 a (exo a C none)) dx (exd dx [(fld, v)])) a (exo a C (some dx))) a) dx (.xd [(fld, v)])) := fun b o hb' => by
          have n1 : b ≠ a := ne_of_none hb' ha
          have n2 : b ≠ dx := ne_of_none hb' n
          rw [upd_ne n2, del_ne n1, upd_ne n1, upd_ne n2, upd_ne n1]
          exact hb'
        have eg := Ex.gro (φ := φ1) p1.I.kr (H2 := upd (del (upd (upd (upd Hr1 a (exo a C none)) dx (exd dx [(fld, v)])) a (exo a C (some dx))) a) dx (.xd [(fld, v)]))
        have P2 := ps.of p1 e1
        refine P2.x ⟨c, d⟩ h1 C (some dx) φ1 _ _ _ s2 (p1.I.gro far) eg ⟨by rw [hxn]; exact T.gC, ?_⟩ (ps.sub.sr (p1.R.ex eg))
        show match xFld c with | some f => _ | none => _
        rw [hxf]
        exact ⟨dx, v, rfl, upd_same, Dp.mono (fun b o hb' => far b o (p1.I.kr _ _ hb')) _ hv⟩))
/-- what comes behind a run, behind an error -/
def tcT {γ δ : Type} (f : γ → Hs → T δ) (k : Xc → Hs → T δ) : T γ → T δ
  | .ok a h => f a h
  | .exc x h => k x h
  | .draw n q => .draw n fun v => tcT f k (q v)
  | .bad => .bad
theorem sat_tc {γ δ : Type} {f : γ → Hs → T δ} {k : Xc → Hs → T δ} {P : δ → Hs → Prop} {E : Xc → Hs → Prop} : ∀ {t : T γ}, (tcT f k t).sat P E → t.sat (fun a h => (f a h).sat P E) (fun x h => (k x h).sat P E)
  | .ok a h, s => s
  | .exc x h, s => s
  | .draw n q, s => fun v hv => sat_tc (t := q v) (s v hv)
  | .bad, s => s
/-- try: .. except C as e: return F(e.fld) -/
def tryRM {β α : Type} (c : Nat) (F : PyData → Option W) (mb : M (Res W β)) (k : β → M (Res W α)) : M (Res W α) := fun h => tcT (fun r => match r with | .ret w => rt (.ret w) | .nxt a => k a) (fun x h => match Nat.beq x.c c with | true => lf ((F x.d).map .ret) h | false => .bad) (mb h)
def eqStrF (z : Str) : PyData → Option W
  | .str y => some (.dat (.bool (decide (y = z))))
  | _ => none
theorem sm_tryEq {c : Nat} {xn vn fld z : Str} {C fI : Addr} {mb : M (Res W β)} {k : β → M (Res W α)} {g1 : β → Rho} {kk : Nat} {np pos' a1 a2 cp rp sp0 : Pos} (T : XCls X.K X.mg xn fld C fI) (hxn : xName c = xn) (hxf : xFld c = some fld) (hb : ∀ pn xe, SM (X.tr pn xe) ρE body ρ mb g1) (hr : ∀ z, SM X ρE rest (g1 z) (k z) g)
    (hil : i < ρE.length) (hN : X.N.Nodup) (hi : X.N[i]? = some vn) (hln : X.env.kindOf vn = some .local) (hs : X.stack = X.env :: X.outer) (hf : X.env.frame = some X.env.locals) (hgn : Names X xn (.ref C))
    (hsuite : ∀ (a : Addr) (oe : Obj) (cls : Value) (dd : Option Addr) (pn : List (Addr × Obj)), Zc cls dd oe → (∃ vs, oe.data = .fields vs) →
      PSs (X.suite a ((a, oe) :: pn)) [.Return (some (.Compare (.Attribute (.Name vn a1) fld a2) [.Eq] [.Constant (.str z) kk sp0] cp)) rp] (tRet (tOp rEq (tXf a cls dd C fld (tVar i)) (tC (.str z))))) :
    SM X ρE (.Try body [.ExceptHandler (some (.Name xn np)) (some vn) [.Return (some (.Compare (.Attribute (.Name vn a1) fld a2) [.Eq] [.Constant (.str z) kk sp0] cp)) rp] pos'] [] [] pos :: rest) ρ (tryRM c (eqStrF z) mb k) g := fun {Wx E P hs0 φ Ho Hk Hr σ} p s D nx r => by
  have s1 := sat_tc (t := mb hs0) s
  refine sSs_of (pss_cons (ps_try_as (tb := fun W D σ H => ∀ pn xe, L2.Takes (X.tr pn xe) W → sSs (X.tr pn xe) body D σ H) hs hf hN hi hln hgn p.tk (fun W pn xe tk _ => ⟨fun pins s σ H D I h => h pn xe tk pins s I⟩) hsuite) pss_s) ?_
  intro pn xe tk
  refine hb pn xe ⟨tk, p.I, p.R, p.sub, fun x hs' C' d φ' Hk' Hr' σ' hx I' e' ha R' => ?_⟩ s1 _ (fun b hs' φ' Hk' Hr' σ' hp P' e' => ?_) (fun w hs' v φ' Hk' Hr' hp I' e' hv => r w hs' v φ' Hk' Hr' hp I' e' hv)
  · cases zc : Nat.beq x.c c with
    | false =>
      have hx : (match Nat.beq x.c c with | true => lf ((eqStrF z x.d).map Res.ret) hs' | false => Hx.T.bad : Hx.T (Res W α)).sat P E := hx
      rw [zc] at hx
      exact hx.elim
    | true =>
      have hx : (match Nat.beq x.c c with | true => lf ((eqStrF z x.d).map Res.ret) hs' | false => Hx.T.bad : Hx.T (Res W α)).sat P E := hx
      rw [zc] at hx
      obtain ⟨rw_, h1, s2⟩ := sat_lf hx
      obtain ⟨w, h2, h3⟩ := mpd h1
      subst h3
      have ec := Nat.eq_of_beq_eq_true zc
      obtain ⟨hm, hd⟩ := ha
      rw [ec, hxn, T.gC] at hm
      cases hm
      rw [ec, hxf] at hd
      obtain ⟨dd, v, rfl, hdd, hv⟩ := hd
      refine ⟨true, T.te, fun _ a na => ?_, fun q => nomatch q⟩
      have hli : i < σ'.length := by rw [← R'.len]; exact hil
      unfold eqStrF at h2
      split at h2
      · rename_i y hy
        rw [hy] at hv
        cases hv
        cases h2
        refine ⟨.ref a, by rw [List.getElem?_set_self hli], rfl, rfl, dd, [(fld, .str y)], .str y, rfl, hdd, by simp [List.lookup], rfl, ?_⟩
        have ez : decide (V.str y = V.str z) = decide (y = z) := decide_eq_decide.mpr ⟨fun h => by cases h; rfl, fun h => by rw [h]⟩
        refine r _ hs' (.bl (decide (V.str y = V.str z))) φ' Hk' Hr' s2 I' e' ?_
        rw [ez]
        exact .dat (.bl _)
      · cases h2
  · refine hr b (p.to P'.I e' P'.R P'.sub) hp D (fun a hs'' φ'' Hk'' Hr'' σ'' h q e'' => nx a hs'' φ'' Hk'' Hr'' σ'' h q (e'.trans e'')) (fun w hs'' v φ'' Hk'' Hr'' h I e'' hv => r w hs'' v φ'' Hk'' Hr'' h I (e'.trans e'') hv)
end
theorem inF {X : Cx} {k : Nat} (hr : Room k X.A) : CF X .In (c2 cIn) := cf_c2 (in_f hr)
theorem notinF {X : Cx} {k : Nat} (hr : Room k X.A) : CF X .NotIn (c2 cNotIn) := cf_c2 (notin_f hr)
/-! a def called with defaults -/
structure CalD (P : Program) (w : World) (K : PySem.W.Frag) (mg : Str → Option Value) (base : Heap) (k : Nat) (x : Str) (ps : List Str) (n : Nat) (dv : List W) (m : List W → M W) : Prop where
  ex : ∃ (f : Addr) (fd : FuncData) (us : List Value) (vs : List V), FnOk P w K mg base (L2.CX P w) k f fd ps (spM K w mg n m) ∧ mg x = some (.ref f) ∧ PySem.W.keepIn K (.ref f) = true ∧ Binds K fd ps us ∧ Vals vs us ∧ ∀ φ H, VRs K wd φ H dv vs
def callD (n : Nat) (dv : List W) (ma : M (List W)) (m : List W → M W) : M W := bd ma fun ws => bd (lf (gd (Nat.beq (ws ++ dv).length n) (some ()))) fun _ => m (ws ++ dv)
theorem em_callD {X : Cx} {ρ : Rho} {e : Expr} {es : List Expr} {ma : M (List W)} {m : List W → M W} {k n : Nat} {x : Str} {ps : List Str} {dv : List W} {p0 pos : Pos} (cl : CalD X.prog X.w X.K X.mg X.base k x ps n dv m) (hr : Room k X.A) (ha : AM X (e :: es) ρ ma) (hg : Gl X x := by rfl) (hdb : (x == ("__debug__" : Str)) = false := by decide) (he : starEach (e :: es) X.env = (false, eval e X.env) :: starEach es X.env := by rfl) (hpl : (backTo pos (starEach es X.env)).any (·.1) = false := by rfl) :
    EM X (.Call (.Name x p0) (e :: es) [] pos) ρ (callD n dv ma m) := fun p s Q q => by
  obtain ⟨f, fd, us, vs, F, hm, hk, hb, rv, hv⟩ := cl.ex
  refine sE_of (pe_callSD F hr hg hm hk hb rv (fun σ => passAt p.tk σ) pa_s hdb he hpl) (ha p (sat_bind s) _ fun ws h1 xs φ1 Hk1 Hr1 s1 p1 e1 hvs => ?_)
  obtain ⟨_, hn, s2⟩ := sat_lf (sat_bind s1)
  exact ⟨φ1, h1, _, Hk1, ws ++ dv, _, _, Nat.eq_of_beq_eq_true (gd_some hn).1, p1.I, hvs.app (hv _ _), s2, fun w hs' v φ' Hk' H' hp I e hv => q w hs' v φ' Hk' H' hp (p1.go I e) (e1.trans e) hv, fun x hs' C d φ' Hk' H' hp I e ha => p1.x x hs' C d φ' Hk' H' hp I e ha⟩
/-! a tree by its draws -/
def T.at {α : Type} : T α → Nat → T α
  | .draw _ k, v => k v
  | _, _ => .bad
def T.width {α : Type} : T α → Nat
  | .draw n _ => n
  | _ => 0
theorem allB_of {f : Nat → Bool} : ∀ {n : Nat}, (∀ v, v < n → f v = true) → allB n f = true
  | 0, _ => rfl
  | n + 1, h => by
    show (match f n with | true => allB n f | false => false) = true
    rw [h n (Nat.lt_succ_self n)]
    exact allB_of fun v hv => h v (Nat.lt_succ_of_lt hv)
/-- the whole, part by part -/
theorem chk_parts {t : T W} {n : Nat} (hn : Nat.beq t.width n = true) (h0 : Nat.blt 0 n = true) (h : ∀ v, v < n → (t.at v).chk = true) : t.chk = true := by
  have hn := Nat.eq_of_beq_eq_true hn
  have h0 : 0 < n := by
    unfold Nat.blt at h0
    exact Nat.le_of_ble_eq_true h0
  cases t with
  | draw m k =>
    have e : m = n := hn
    subst e
    show allB m (fun v => (k v).chk) = true
    exact allB_of h
  | ok a b => exact absurd hn (by show (0 : Nat) ≠ n; omega)
  | exc a b => exact absurd hn (by show (0 : Nat) ≠ n; omega)
  | bad => exact absurd hn (by show (0 : Nat) ≠ n; omega)
/-! a call without things that change: the def has a heap of its own -/
mutual
def noref : W → Bool
  | .dat _ => true
  | .ref _ => false
  | .tup ws => norefs ws
  | .lst ws => norefs ws
  | .ins _ _ => false
  | .scr => true
  | .dct kvs => norefD kvs
def norefs : List W → Bool
  | [] => true
  | w :: ws => match noref w with | true => norefs ws | false => false
def norefD : List (NestedKey × W) → Bool
  | [] => true
  | p :: r => match norefP p with | true => norefD r | false => false
def norefP : NestedKey × W → Bool
  | (_, w) => noref w
end
mutual
theorem VR.nr {K : PySem.W.Frag} {wd : World} {φ φ' : List Addr} {H : Hp} : ∀ {w : W} {v : V}, noref w = true → VR K wd φ H w v → VR K wd φ' H w v
  | _, _, e, .dat h => .dat h
  | _, _, e, .ref h => by simp [noref] at e
  | _, _, e, .tup h g => .tup h (VRs.nr (by simpa [noref] using e) g)
  | _, _, e, .lst h g => .lst h (VRs.nr (by simpa [noref] using e) g)
  | _, _, e, .scr h g => .scr h g
  | _, _, e, .dct h g => .dct h (DRs.nr (by simpa [noref] using e) g)
theorem VRs.nr {K : PySem.W.Frag} {wd : World} {φ φ' : List Addr} {H : Hp} : ∀ {ws : List W} {vs : List V}, norefs ws = true → VRs K wd φ H ws vs → VRs K wd φ' H ws vs
  | _, _, e, .nil => .nil
  | w :: ws, _, e, .cons h g => by
    unfold norefs at e
    cases z : noref w with
    | false => rw [z] at e; cases e
    | true =>
      rw [z] at e
      exact .cons (VR.nr z h) (VRs.nr e g)
theorem DRs.nr {K : PySem.W.Frag} {wd : World} {φ φ' : List Addr} {H : Hp} : ∀ {kvs : List (NestedKey × W)} {es : List (NestedKey × Addr × V)}, norefD kvs = true → DRs K wd φ H kvs es → DRs K wd φ' H kvs es
  | _, _, e, .nil => .nil
  | (k, w) :: kvs, _, e, .cons h1 h2 h3 h4 => by
    unfold norefD norefP at e
    cases z : noref w with
    | false => simp only [z] at e; cases e
    | true =>
      simp only [z] at e
      exact .cons h1 h2 (VR.nr z h3) (DRs.nr e h4)
end
def isoT (h : Hs) : T W → T W
  | .ok w _ => match noref w with | true => .ok w h | false => .bad
  | .exc x _ => .exc x h
  | .draw n k => .draw n fun v => isoT h (k v)
  | .bad => .bad
theorem sat_iso {h : Hs} {P : W → Hs → Prop} {E : Xc → Hs → Prop} : ∀ {t : T W}, (isoT h t).sat P E → t.sat (fun w _ => noref w = true ∧ P w h) (fun x _ => E x h)
  | .ok w _, s => by
    have s : (match noref w with | true => T.ok w h | false => T.bad : T W).sat P E := s
    cases z : noref w with
    | true => rw [z] at s; exact ⟨z, s⟩
    | false => rw [z] at s; exact s.elim
  | .exc x _, s => s
  | .draw n k, s => fun v hv => sat_iso (t := k v) (s v hv)
  | .bad, s => s
/-! arguments told in full: equal calls are equal terms then -/
def normI {β : Type} (i : Int) (k : Int → β) : β := match i with
  | .ofNat n => match n with
    | 0 => k (.ofNat 0)
    | p + 1 => k (.ofNat (p + 1))
  | .negSucc n => match n with
    | 0 => k (.negSucc 0)
    | p + 1 => k (.negSucc (p + 1))
theorem normI_eq {β : Type} {i : Int} {k : Int → β} : normI i k = k i := by
  cases i with
  | ofNat n => cases n <;> rfl
  | negSucc n => cases n <;> rfl
mutual
def normD {β : Type} : PyData → (PyData → β) → β
  | .none, k => k .none
  | .bool b, k => match b with | true => k (.bool true) | false => k (.bool false)
  | .int i, k => normI i fun j => k (.int j)
  | .str x, k => k (.str x)
  | .tuple ds, k => normDs ds fun es => k (.tuple es)
  | .list ds, k => normDs ds fun es => k (.list es)
  | .dict ds, k => k (.dict ds)
def normDs {β : Type} : List PyData → (List PyData → β) → β
  | [], k => k []
  | d :: ds, k => normD d fun e => normDs ds fun es => k (e :: es)
end
mutual
theorem normD_eq {β : Type} : ∀ {d : PyData} {k : PyData → β}, normD d k = k d
  | .none, k => by simp only [normD]
  | .bool b, k => by simp only [normD]; cases b <;> rfl
  | .int i, k => by simp only [normD]; exact normI_eq
  | .str x, k => by simp only [normD]
  | .tuple ds, k => by simp only [normD]; exact normDs_eq
  | .list ds, k => by simp only [normD]; exact normDs_eq
  | .dict ds, k => by simp only [normD]
theorem normDs_eq {β : Type} : ∀ {ds : List PyData} {k : List PyData → β}, normDs ds k = k ds
  | [], k => by simp only [normDs]
  | d :: ds, k => by
    simp only [normDs]
    rw [normD_eq, normDs_eq]
end
def normW {β : Type} (w : W) (k : W → β) : β := match w with
  | .dat d => normD d fun e => k (.dat e)
  | w => k w
theorem normW_eq {β : Type} {w : W} {k : W → β} : normW w k = k w := by
  cases w with
  | dat d => exact normD_eq
  | _ => rfl
def normWs {β : Type} : List W → (List W → β) → β
  | [], k => k []
  | w :: ws, k => normW w fun e => normWs ws fun es => k (e :: es)
theorem normWs_eq {β : Type} : ∀ {ws : List W} {k : List W → β}, normWs ws k = k ws
  | [], k => rfl
  | w :: ws, k => by
    show normW w (fun e => normWs ws fun es => k (e :: es)) = _
    rw [normW_eq, normWs_eq]
def callI (n : Nat) (ma : M (List W)) (m : List W → M W) : M W := bd ma fun ws => bd (lf (gd (Nat.beq ws.length n && norefs ws) (some ()))) fun _ => fun h => normWs ws fun ws => isoT h (m ws ⟨0, []⟩)
open Classical in
noncomputable def isoO (φ : List Addr) (hs : Hs) (Ho Hr : Hp) : Hp := fun b => if ∃ i o, hs.get i = some o ∧ φ[i]? = some b then Hr b else Ho b
section
variable {K : PySem.W.Frag} {wd : World} {φ φ' : List Addr} {hs hs' : Hs} {Ho Hk Hk' Hr Hr' : Hp}
theorem isoO_in {i : Nat} {o : Ob} {a : Addr} (h : hs.get i = some o) (ha : φ[i]? = some a) : isoO φ hs Ho Hr a = Hr a := if_pos ⟨i, o, h, ha⟩
theorem isoO_out {b : Addr} (I : Ok K wd φ hs Ho Hk Hr) {o : HO} (h : Ho b = some o) : isoO φ hs Ho Hr b = Ho b := if_neg fun ⟨i, u, h1, h2⟩ => by
  obtain ⟨a, q1, _, q3, _⟩ := I.obj i u h1
  rw [h2] at q1
  cases q1
  rw [h] at q3
  cases q3
theorem Ok.iso (I : Ok K wd φ hs Ho Hk Hr) : Ok K wd [] ⟨0, []⟩ (isoO φ hs Ho Hr) Hk Hr := by
  refine ⟨I.kr, fun b o g => ?_, rfl, fun i o z => (nomatch z), fun i o z => (nomatch z), fun i j a z => absurd rfl z, fun b o g => ?_⟩
  · by_cases q : ∃ i o, hs.get i = some o ∧ φ[i]? = some b
    · have e : isoO φ hs Ho Hr b = Hr b := if_pos q
      rw [e] at g; exact g
    · have e : isoO φ hs Ho Hr b = Ho b := if_neg q
      rw [e] at g; exact I.out _ _ g
  · by_cases q : ∃ i o, hs.get i = some o ∧ φ[i]? = some b
    · obtain ⟨i, u, h1, h2⟩ := q
      obtain ⟨a, q1, q2, _⟩ := I.obj i u h1
      rw [h2] at q1
      cases q1
      exact q2
    · have e : isoO φ hs Ho Hr b = Ho b := if_neg q
      rw [e] at g; exact I.dis _ _ g
theorem Ok.back (I : Ok K wd φ hs Ho Hk Hr) (J : Ok K wd φ' hs' (isoO φ hs Ho Hr) Hk' Hr') (e : Same Hk Hk') : Ok K wd φ hs Ho Hk' Hr' := by
  refine ⟨J.kr, fun b o g => J.out _ _ (by rw [isoO_out I g]; exact g), I.len, I.low, fun i o g => ?_, I.inj, fun b o g => J.dis b o (by rw [isoO_out I g]; exact g)⟩
  obtain ⟨a, q1, q2, q3, q4⟩ := I.obj i o g
  obtain ⟨u, hu⟩ := q4.there
  have eo : isoO φ hs Ho Hr a = some u := by rw [isoO_in g q1]; exact hu
  exact ⟨a, q1, J.dis a u eo, q3, q4.mono Fx.refl e fun v hv => J.out _ _ (by rw [isoO_in g q1]; exact hv)⟩
end
theorem em_callI {X : Cx} {ρ : Rho} {e : Expr} {es : List Expr} {ma : M (List W)} {m : List W → M W} {k n : Nat} {x : Str} {ps : List Str} {p0 pos : Pos} (cl : CalM X.prog X.w X.K X.mg X.base k x ps n m) (hr : Room k X.A) (ha : AM X (e :: es) ρ ma) (hg : Gl X x := by rfl) (hdb : (x == ("__debug__" : Str)) = false := by decide) (he : starEach (e :: es) X.env = (false, eval e X.env) :: starEach es X.env := by rfl) (hpl : (backTo pos (starEach es X.env)).any (·.1) = false := by rfl) :
    EM X (.Call (.Name x p0) (e :: es) [] pos) ρ (callI n ma m) := fun p s Q q => by
  obtain ⟨f, fd, F, hm, hk, hb⟩ := cl.ex
  refine sE_of (pe_callS F hr hg hm hk hb (fun σ => passAt p.tk σ) pa_s hdb he hpl) (ha p (sat_bind s) _ fun ws h1 vs φ1 Hk1 Hr1 s1 p1 e1 hvs => ?_)
  obtain ⟨_, hn, s2⟩ := sat_lf (sat_bind s1)
  have g := (gd_some hn).1
  rw [Bool.and_eq_true] at g
  rw [normWs_eq] at s2
  refine ⟨[], ⟨0, []⟩, _, Hk1, ws, _, _, Nat.eq_of_beq_eq_true g.1, p1.I.iso, VRs.nr g.2 hvs, sat_iso s2, fun w hs' v φ' Hk' H' hp I e hv => ?_, fun x hs' C d φ' Hk' H' hp I e ha => ?_⟩
  · have ee : Ex φ1 Hk1 φ1 Hk' := ⟨Fx.refl, e.k⟩
    exact q _ h1 v φ1 Hk' H' hp.2 (p1.go (p1.I.back I e.k) ee) (e1.trans ee) (VR.nr hp.1 hv)
  · have ee : Ex φ1 Hk1 φ1 Hk' := ⟨Fx.refl, e.k⟩
    exact p1.x x h1 C d φ1 Hk' H' hp (p1.I.back I e.k) ee ha
theorem em_callDI {X : Cx} {ρ : Rho} {e : Expr} {es : List Expr} {ma : M (List W)} {m : List W → M W} {k n : Nat} {x : Str} {ps : List Str} {dv : List W} {p0 pos : Pos} (cl : CalD X.prog X.w X.K X.mg X.base k x ps n dv m) (hr : Room k X.A) (ha : AM X (e :: es) ρ ma) (hg : Gl X x := by rfl) (hdb : (x == ("__debug__" : Str)) = false := by decide) (he : starEach (e :: es) X.env = (false, eval e X.env) :: starEach es X.env := by rfl) (hpl : (backTo pos (starEach es X.env)).any (·.1) = false := by rfl) :
    EM X (.Call (.Name x p0) (e :: es) [] pos) ρ (callI n (bd ma fun ws => rt (ws ++ dv)) m) := fun p s Q q => by
  obtain ⟨f, fd, us, vs, F, hm, hk, hb, rv, hv⟩ := cl.ex
  refine sE_of (pe_callSD F hr hg hm hk hb rv (fun σ => passAt p.tk σ) pa_s hdb he hpl) (ha p (sat_bind (sat_bind s)) _ fun ws h1 vs φ1 Hk1 Hr1 s1 p1 e1 hvs => ?_)
  obtain ⟨_, hn, s2⟩ := sat_lf (sat_bind s1)
  have g := (gd_some hn).1
  rw [Bool.and_eq_true] at g
  rw [normWs_eq] at s2
  refine ⟨[], ⟨0, []⟩, _, Hk1, ws ++ dv, _, _, Nat.eq_of_beq_eq_true g.1, p1.I.iso, VRs.nr g.2 (hvs.app (hv φ1 Hk1)), sat_iso s2, fun w hs' v φ' Hk' H' hp I e hv => ?_, fun x hs' C d φ' Hk' H' hp I e ha => ?_⟩
  · have ee : Ex φ1 Hk1 φ1 Hk' := ⟨Fx.refl, e.k⟩
    exact q _ h1 v φ1 Hk' H' hp.2 (p1.go (p1.I.back I e.k) ee) (e1.trans ee) (VR.nr hp.1 hv)
  · have ee : Ex φ1 Hk1 φ1 Hk' := ⟨Fx.refl, e.k⟩
    exact p1.x x h1 C d φ1 Hk' H' hp (p1.I.back I e.k) ee ha
end Hx
/-! dicts whose keys are tuples -/
noncomputable section
namespace Hx
open PySem L2 Pd Gn PySem.Spec PyProof.Rows Zq
mutual
def keyOf : PyData → Option NestedKey
  | .none => some .none
  | .int i => some (.num i)
  | .str x => some (.text x)
  | .tuple ds => (keysOf ds).map .tup
  | .bool _ => none
  | .list _ => none
  | .dict _ => none
def keysOf : List PyData → Option (List NestedKey)
  | [] => some []
  | d :: ds => (keyOf d).bind fun k => (keysOf ds).map fun ks => k :: ks
end
mutual
theorem keyOf_data : ∀ {d : PyData} {k : NestedKey}, keyOf d = some k → k.data = d
  | .none, k, h => by simp only [keyOf] at h; cases h; rfl
  | .int i, k, h => by simp only [keyOf] at h; cases h; rfl
  | .str x, k, h => by simp only [keyOf] at h; cases h; rfl
  | .tuple ds, k, h => by
    simp only [keyOf] at h
    obtain ⟨ks, h1, h2⟩ := mpd h
    subst h2
    show PyData.tuple (NestedKey.datas ks) = _
    rw [keysOf_data h1]
  | .bool _, k, h => by simp [keyOf] at h
  | .list _, k, h => by simp [keyOf] at h
  | .dict _, k, h => by simp [keyOf] at h
theorem keysOf_data : ∀ {ds : List PyData} {ks : List NestedKey}, keysOf ds = some ks → NestedKey.datas ks = ds
  | [], ks, h => by simp only [keysOf] at h; cases h; rfl
  | d :: ds, ks, h => by
    simp only [keysOf] at h
    obtain ⟨k, h1, h⟩ := bnd h
    obtain ⟨ks', h2, h⟩ := mpd h
    subst h
    show k.data :: NestedKey.datas ks' = _
    rw [keyOf_data h1, keysOf_data h2]
end
/-- a value as a key: a tuple -/
def tkey (w : W) : Option NestedKey := match w with
  | .dat (.tuple ds) => (keyOf (.tuple ds)).bind fun k => gd (Nat.ble k.depth 8) (some k)
  | _ => none
theorem tkey_ok {K : PySem.W.Frag} {wd : World} {φ : List Addr} {H : Hp} {w : W} {v : V} {k : NestedKey} (e : tkey w = some k) (h : VR K wd φ H w v) : ∃ b, v = .ref b ∧ Dp K H (.ref b) k.data ∧ k.depth ≤ 8 := by
  unfold tkey at e
  split at e
  · obtain ⟨k', h1, h2⟩ := bnd e
    obtain ⟨g1, g2⟩ := gd_some h2
    cases g2
    cases h with
    | dat h =>
      cases h with
      | tup hs ha => exact ⟨_, rfl, by rw [keyOf_data h1]; exact .tup hs ha, Nat.le_of_ble_eq_true g1⟩
  · cases e
abbrev EX : List (NestedKey × Addr × V) → List (NestedKey × Addr × Value) → Prop := Paired (fun (p : NestedKey × Addr × V) (q : NestedKey × Addr × Value) => p.1 = q.1 ∧ p.2.1 = q.2.1 ∧ RelV p.2.2 q.2.2)
section
variable {X : Cx} {pins : List (Addr × Obj)} {σ : L2.St} {H : Hp} {s : Shared} {φ : List Addr}
mutual
theorem nk_is (I : Inv X pins σ H s) : ∀ {k : NestedKey} {v : V} {u : Value}, Dp X.K H v k.data → RelV v u → NestedIs s.heap k u
  | .none, v, u, h, r => by
    have h : Dp X.K H v .none := h
    cases h
    have r : u = .none := r
    subst r
    exact .none
  | .num i, v, u, h, r => by
    have h : Dp X.K H v (.int i) := h
    cases h
    obtain ⟨t, rfl⟩ := r
    exact .int i t
  | .text i, v, u, h, r => by
    have h : Dp X.K H v (.str i) := h
    cases h
    obtain ⟨t, rfl⟩ := r
    exact .text i t
  | .tup ks, v, u, h, r => by
    have h : Dp X.K H v (.tuple (NestedKey.datas ks)) := h
    cases h with
    | tup hs ha =>
      have r : u = .ref _ := r
      subst r
      obtain ⟨its, rv, ⟨o, ho, hc, n, hd⟩, _⟩ := I.tuple hs
      exact .tup ho hc hd (by simpa using nks_is I ha rv)
theorem nks_is (I : Inv X pins σ H s) : ∀ {ks : List NestedKey} {vs : List V} {us : List Value}, DpAll X.K H vs (NestedKey.datas ks) → Vals vs us → NestedAll s.heap ks us
  | [], vs, us, h, r => by
    have h : DpAll X.K H vs [] := h
    cases h
    cases r
    exact .nil
  | k :: ks, vs, us, h, r => by
    have h : DpAll X.K H vs (k.data :: NestedKey.datas ks) := h
    cases h with
    | cons h1 h2 =>
      cases r with
      | cons r1 r2 => exact .cons (nk_is I h1 r1) (nks_is I h2 r2)
end
theorem key_is (I : Inv X pins σ H s) {k : NestedKey} {b : Addr} (h : Dp X.K H (.ref b) k.data) (hd : k.depth ≤ 8) : (nestedKind X.prog X.w).is s.heap k b := ⟨nk_is I h rfl, hd⟩
theorem ex_is (I : Inv X pins σ H s) : ∀ {kvs : List (NestedKey × W)} {es : List (NestedKey × Addr × V)} {xs : List (NestedKey × Addr × Value)}, DRs X.K X.w φ H kvs es → EX es xs → ∀ x ∈ xs, (nestedKind X.prog X.w).is s.heap x.1 x.2.1
  | _, _, _, .nil, .nil, x, hx => nomatch hx
  | _, _, _, .cons h1 h2 h3 h4, .cons (b := y) r1 r2, x, hx => by
    rcases List.mem_cons.mp hx with e | hx
    · subst e
      obtain ⟨q1, q2, q3⟩ := r1
      rw [← q1, ← q2]
      exact key_is I h2 h1
    · exact ex_is I h4 r2 x hx
theorem dic_rd (I : Inv X pins σ H s) {a : Addr} {kvs : List (NestedKey × W)} {es : List (NestedKey × Addr × V)} (e : Rd H a (DicO X.w a es)) (D : DRs X.K X.w φ H kvs es) : es.length ≤ sizeLine ∧ (a == sysModules) = false ∧ ∃ xs, EX es xs ∧ s.heap.DictOfH (nestedKind X.prog X.w) a xs := by
  obtain ⟨⟨z, y, xs, r, o, es', ep, h1, h2, h3, h4, h5⟩, _, _⟩ := (show ObjOk X.prog X.w H s.heap a (DicO X.w a es) from e.ok I.hok)
  exact ⟨z, y, xs, r, o, es', ep, h1, h2, h3, h4, ex_is I D r, h5⟩
end
/-! the entries -/
def dLook (k : NestedKey) : List (NestedKey × W) → Option W
  | [] => none
  | (j, w) :: r => match NestedKey.beq j k with | true => some w | false => dLook k r
def dPut (k : NestedKey) (w : W) : List (NestedKey × W) → List (NestedKey × W)
  | [] => [(k, w)]
  | (j, u) :: r => match NestedKey.beq j k with | true => (j, w) :: r | false => (j, u) :: dPut k w r
def ePut (k : NestedKey) (b : Addr) (v : V) : List (NestedKey × Addr × V) → List (NestedKey × Addr × V)
  | [] => [(k, b, v)]
  | (j, c, u) :: r => match NestedKey.beq j k with | true => (j, c, v) :: r | false => (j, c, u) :: ePut k b v r
def xPut (k : NestedKey) (b : Addr) (v : Value) : List (NestedKey × Addr × Value) → List (NestedKey × Addr × Value)
  | [] => [(k, b, v)]
  | (j, c, u) :: r => match NestedKey.beq j k with | true => (j, c, v) :: r | false => (j, c, u) :: xPut k b v r
theorem beq_no {a b : NestedKey} (h : NestedKey.beq a b = false) : a ≠ b := fun e => by rw [e, NestedKey.beq_self] at h; cases h
theorem atKey_cons {x : NestedKey × Addr × Value} {xs : List (NestedKey × Addr × Value)} {k : NestedKey} : atKey (x :: xs) k = match NestedKey.beq x.1 k with | true => some x.2 | false => atKey xs k := by
  cases z : NestedKey.beq x.1 k with
  | true => simp [atKey, NestedKey.eq_of_beq _ _ z]
  | false => simp [atKey, beq_no z]
section
variable {K : PySem.W.Frag} {wd : World} {φ : List Addr} {H : Hp} {k : NestedKey} {w : W} {b : Addr} {v : V} {u : Value}
theorem look_some : ∀ {kvs : List (NestedKey × W)} {es : List (NestedKey × Addr × V)} {xs : List (NestedKey × Addr × Value)}, DRs K wd φ H kvs es → EX es xs → dLook k kvs = some w → ∃ p v, atKey xs k = some p ∧ RelV v p.2 ∧ VR K wd φ H w v
  | _, _, _, .nil, .nil, h => nomatch h
  | (j, w') :: _, _, _ :: _, .cons h1 h2 h3 h4, .cons ⟨q1, q2, q3⟩ r2, h => by
    have q1 : j = _ := q1
    unfold dLook at h
    rw [atKey_cons, ← q1]
    cases z : NestedKey.beq j k with
    | true =>
      rw [z] at h
      cases h
      exact ⟨_, _, rfl, q3, h3⟩
    | false =>
      rw [z] at h
      exact look_some h4 r2 h
theorem look_none : ∀ {kvs : List (NestedKey × W)} {es : List (NestedKey × Addr × V)} {xs : List (NestedKey × Addr × Value)}, DRs K wd φ H kvs es → EX es xs → dLook k kvs = none → atKey xs k = none
  | _, _, _, .nil, .nil, h => rfl
  | (j, w') :: _, _, _ :: _, .cons h1 h2 h3 h4, .cons ⟨q1, q2, q3⟩ r2, h => by
    have q1 : j = _ := q1
    unfold dLook at h
    rw [atKey_cons, ← q1]
    cases z : NestedKey.beq j k with
    | true => rw [z] at h; cases h
    | false =>
      rw [z] at h
      exact look_none h4 r2 h
theorem put_D (hd : k.depth ≤ 8) (hk : Dp K H (.ref b) k.data) (hw : VR K wd φ H w v) : ∀ {kvs : List (NestedKey × W)} {es : List (NestedKey × Addr × V)}, DRs K wd φ H kvs es → DRs K wd φ H (dPut k w kvs) (ePut k b v es)
  | _, _, .nil => .cons hd hk hw .nil
  | (j, w') :: _, _, .cons h1 h2 h3 h4 => by
    unfold dPut ePut
    cases z : NestedKey.beq j k with
    | true => exact .cons h1 h2 hw h4
    | false => exact .cons h1 h2 h3 (put_D hd hk hw h4)
theorem put_E (hr : RelV v u) : ∀ {es : List (NestedKey × Addr × V)} {xs : List (NestedKey × Addr × Value)}, EX es xs → EX (ePut k b v es) (xPut k b u xs)
  | _, _, .nil => .cons ⟨rfl, rfl, hr⟩ .nil
  | (j, c, v') :: _, (j', c', u') :: _, .cons ⟨q1, q2, q3⟩ r => by
    have q1 : j = j' := q1
    subst q1
    unfold ePut xPut
    cases z : NestedKey.beq j k with
    | true => exact .cons ⟨rfl, q2, hr⟩ r
    | false => exact .cons ⟨rfl, q2, q3⟩ (put_E hr r)
theorem putAt_all : ∀ {xs : List (NestedKey × Addr × Value)}, k ∉ xs.map (·.1) → xs.map (putAt k u) = xs
  | [], _ => rfl
  | x :: xs, h => by
    have h1 : x.1 ≠ k := fun e => h (by rw [← e]; exact List.mem_cons_self)
    rw [List.map_cons, putAt_all fun z => h (List.mem_cons_of_mem _ z)]
    unfold putAt
    rw [if_neg h1]
theorem put_X : ∀ {xs : List (NestedKey × Addr × Value)}, (xs.map (·.1)).Nodup → storedH xs k b u = xPut k b u xs
  | [], _ => rfl
  | (j, c, u') :: xs, hn => by
    rw [List.map_cons] at hn
    obtain ⟨n1, n2⟩ := List.nodup_cons.mp hn
    have ih := put_X n2
    unfold xPut
    unfold storedH at ih ⊢
    rw [atKey_cons]
    cases z : NestedKey.beq j k with
    | true =>
      have e := NestedKey.eq_of_beq _ _ z
      subst e
      show (if true = true then _ else _) = _
      rw [if_pos rfl, List.map_cons, putAt_all n1]
      unfold putAt
      rw [if_pos rfl]
    | false =>
      show (if (atKey xs k).isSome = true then _ else _) = (j, c, u') :: xPut k b u xs
      rw [← ih]
      by_cases q : (atKey xs k).isSome = true
      · rw [if_pos q, if_pos q, List.map_cons]
        congr 1
        unfold putAt
        rw [if_neg (beq_no z)]
      · rw [if_neg q, if_neg q]
        rfl
theorem put_len : ∀ {es : List (NestedKey × Addr × V)}, (ePut k b v es).length ≤ es.length + 1
  | [] => Nat.le_refl _
  | (j, c, u) :: r => by
    unfold ePut
    cases z : NestedKey.beq j k with
    | true => exact Nat.le_succ _
    | false => exact Nat.succ_le_succ put_len
theorem DRs.len : ∀ {kvs : List (NestedKey × W)} {es : List (NestedKey × Addr × V)}, DRs K wd φ H kvs es → es.length = kvs.length
  | _, _, .nil => rfl
  | _, _, .cons _ _ _ h => by rw [List.length_cons, List.length_cons, DRs.len h]
end
theorem roomD {P : Program} {wd : World} {A : Around} {k : Nat} (hr : Room k A) : (nestedKind P wd).room A.in1 := by
  have := hr.un
  show A.units + 1 + 8 < cLine
  omega
end Hx
/-! what is done with dicts -/
noncomputable section
namespace Hx
open PySem L2 Pd Gn PySem.Spec PyProof.Rows Zq
def isDR : Option Ob → Option (List (NestedKey × W))
  | some (.dic kvs) => some kvs
  | _ => none
def isD (h : Hs) : W → Option (List (NestedKey × W))
  | .dct kvs => some kvs
  | .ref i => isDR (h.get i)
  | _ => none
theorem isD_ok {K : PySem.W.Frag} {wd : World} {φ : List Addr} {hs : Hs} {Ho Hk Hr : Hp} {w : W} {v : V} {kvs : List (NestedKey × W)} (I : Ok K wd φ hs Ho Hk Hr) (hv : VR K wd φ Hk w v) (e : isD hs w = some kvs) : ∃ a es, v = .ref a ∧ Rd Hr a (DicO wd a es) ∧ DRs K wd φ Hk kvs es := by
  cases w with
  | dct l =>
    cases e
    cases hv with
    | dct h1 h2 => exact ⟨_, _, rfl, .inr ⟨_, I.kr _ _ h1⟩, h2⟩
  | ref i =>
    have e : isDR (hs.get i) = some kvs := e
    cases g : hs.get i with
    | none => rw [g] at e; cases e
    | some o =>
      rw [g] at e
      cases o with
      | dic l =>
        cases e
        cases hv with
        | ref ha =>
          obtain ⟨a, q1, q2, q3, es, q4, q5⟩ := I.obj i _ g
          rw [ha] at q1
          cases q1
          exact ⟨_, es, rfl, .inl q4, q5⟩
      | _ => cases e
  | _ => cases e
section
variable {X : Cx} {ρE ρ : Rho} {a b o e f ix tg iter : Expr} {rest sts : List Stmt} {m m1 m2 m3 : M W} {p0 p1 p2 pos apos cpos : Pos} {α β : Type} {g : α → Rho} {n i : Nat} {x : Str} {w : W}
/-- x[y], x a dict or a list, a tuple -/
def ixA (h : Hs) (x y : W) : Option W := match isD h x with
  | some kvs => (tkey y).bind fun k => dLook k kvs
  | none => (asIW y).bind fun i => (itemsH h x).bind fun ws => atI ws i
def ixD (m1 m2 : M W) : M W := bd m1 fun x => bd m2 fun y => fun h => lf (ixA h x y) h
theorem em_ixD (hr : Room n X.A) (ha : EM X a ρ m1) (hb : EM X b ρ m2) (hs : PlainIx b := by exact fun _ _ => rfl) : EM X (.Subscript a b pos) ρ (ixD m1 m2) := fun p s Q q => by
  refine sE_of (pe_ix wIx_r pe_s pe_s hs) (ha p (sat_bind s) _ fun x h1 u φ1 Hk1 Hr1 s1 p1 e1 hu => hb p1 (sat_bind s1) _ fun y h2 v φ2 Hk2 Hr2 s2 p2 e2 hv => ?_)
  obtain ⟨w, hw, s3⟩ := sat_lf s2
  unfold ixA at hw
  cases zd : isD h2 x with
  | some kvs =>
    rw [zd] at hw
    obtain ⟨k, h4, hw⟩ := bnd hw
    obtain ⟨ad, es, rfl, g1, g2⟩ := isD_ok p2.I (hu.ex e2) zd
    obtain ⟨bb, rfl, g3, g4⟩ := tkey_ok h4 hv
    intro value slice pins st τ vv uu I' rx ry hsub
    have rx : vv = .ref ad := rx
    subst rx
    have ry : uu = .ref bb := ry
    subst ry
    obtain ⟨z1, z2, xs, ex, dd⟩ := dic_rd I' g1 (DRs.mono Fx.refl p2.I.kr g2)
    obtain ⟨pp, v', hp, rv, hvr⟩ := look_some g2 ex hw
    exact subscriptTail_builtinR (x := pp.2) dd.typeIs PySem.F.slot_dict_getitem.lookup (wpAny_getItem_heap (Q := fun r s' => r = pp.2 ∧ EP X pins τ Q r s') (roomD hr) (key_is I' (Dp.mono p2.I.kr _ g3) g4) dd hp ⟨rfl, v', Hr2, I'.tok _, rv, q _ _ _ _ _ _ s3 p2 (e1.trans e2) hvr⟩) hsub
  | none =>
    rw [zd] at hw
    obtain ⟨i, h3, hw1⟩ := bnd hw
    obtain ⟨ws, h4, hw2⟩ := bnd hw1
    clear hw hw1
    have := asIW_eq h3
    subst this
    obtain rfl := vr_int (X := X) hv
    obtain ⟨t, ad, vs, rfl, g1, g2⟩ := (hu.ex e2).items p2.I h4
    obtain ⟨z, z1, z2⟩ := g2.at (i := i) (w := w) hw2
    cases t
    · exact wIx_of ix_list ⟨_, _, _, _, rfl, rfl, g1, z1, q _ _ _ _ _ _ s3 p2 (e1.trans e2) z2⟩
    · exact wIx_of ix_tup ⟨_, _, _, _, rfl, rfl, g1, z1, q _ _ _ _ _ _ s3 p2 (e1.trans e2) z2⟩
/-- y in x, x a dict -/
def dinM (neg : Bool) (m1 m2 : M W) : M Bool := bd m1 fun y => bd m2 fun x => fun h => lf ((isD h x).bind fun kvs => (tkey y).map fun k => neg != (dLook k kvs).isSome) h
theorem din_op (hr : Room n X.A) {neg : Bool} {hs : Hs} {φ : List Addr} {Ho Hk Hr : Hp} {x y : W} {u v : V} {k : Bool} (I : Ok X.K X.w φ hs Ho Hk Hr) (hu : VR X.K X.w φ Hk y u) (hv : VR X.K X.w φ Hk x v) (h : ((isD hs x).bind fun kvs => (tkey y).map fun k => neg != (dLook k kvs).isSome) = some k) (Q : VK) (q : Q (.bl k) Hr) : wOp X (compareOp (match neg with | true => .NotIn | false => .In)) u v Hr Q := by
  obtain ⟨kvs, h3, h⟩ := bnd h
  obtain ⟨kk, h4, h⟩ := mpd h
  obtain ⟨ad, es, rfl, g1, g2⟩ := isD_ok I hv h3
  obtain ⟨bb, rfl, g3, g4⟩ := tkey_ok h4 hu
  intro pins st τ vv uu I' rx ry
  have rx : vv = .ref bb := rx
  subst rx
  have ry : uu = .ref ad := ry
  subst ry
  obtain ⟨z1, z2, xs, ex, dd⟩ := dic_rd I' g1 (DRs.mono Fx.refl I.kr g2)
  have ee : (atKey xs kk).isSome = (dLook kk kvs).isSome := by
    cases z : dLook kk kvs with
    | none => rw [look_none g2 ex z]; rfl
    | some w =>
      obtain ⟨pp, v', hp, _⟩ := look_some g2 ex z
      rw [hp]
      rfl
  cases neg with
  | false =>
    refine wpAny_in_heap (roomD hr) (key_is I' (Dp.mono I.kr _ g3) g4) z2 dd ⟨.bl k, Hr, I'.tok _, ?_, q⟩
    show Value.bool _ = Value.bool _
    rw [ee, ← h]
    cases (dLook kk kvs).isSome <;> rfl
  | true =>
    refine wpAny_notIn_heap (roomD hr) (key_is I' (Dp.mono I.kr _ g3) g4) z2 dd ⟨.bl k, Hr, I'.tok _, ?_, q⟩
    show Value.bool _ = Value.bool _
    rw [ee, ← h]
    cases (dLook kk kvs).isSome <;> rfl
theorem em_din (hr : Room n X.A) (ha : EM X a ρ m1) (hb : EM X b ρ m2) (hm : behindInMarks .In b = false := by rfl) : EM X (.Compare a [.In] [b] pos) ρ (bW (dinM false m1 m2)) := fun p s Q q => by
  refine sE_of (pe_cmpR wOp_r pe_s pe_s hm) (ha p (sat_bind (sat_bind s)) _ fun y h1 u φ1 Hk1 Hr1 s1 p1 e1 hu => hb p1 (sat_bind s1) _ fun x h2 v φ2 Hk2 Hr2 s2 p2 e2 hv => ?_)
  obtain ⟨k, hk, s3⟩ := sat_lf s2
  exact din_op hr (neg := false) p2.I (hu.ex e2) hv hk Q (q _ _ _ _ _ _ s3 p2 (e1.trans e2) (.dat (.bl _)))
theorem tm_din (hr : Room n X.A) (ha : EM X a ρ m1) (hb : EM X b ρ m2) (hm : behindInMarks .In b = false := by rfl) : TM X (.Compare a [.In] [b] pos) ρ (dinM false m1 m2) := fun p s Q q => by
  refine sT_of (pt_cmpR wOp_r pe_s pe_s hm) (ha p (sat_bind s) _ fun y h1 u φ1 Hk1 Hr1 s1 p1 e1 hu => hb p1 (sat_bind s1) _ fun x h2 v φ2 Hk2 Hr2 s2 p2 e2 hv => ?_)
  obtain ⟨k, hk, s3⟩ := sat_lf s2
  exact din_op hr (neg := false) p2.I (hu.ex e2) hv hk _ ⟨k, rfl, q _ _ _ _ _ s3 p2 (e1.trans e2)⟩
theorem tm_dnotin (hr : Room n X.A) (ha : EM X a ρ m1) (hb : EM X b ρ m2) (hm : behindInMarks .NotIn b = false := by rfl) : TM X (.Compare a [.NotIn] [b] pos) ρ (dinM true m1 m2) := fun p s Q q => by
  refine sT_of (pt_cmpR wOp_r pe_s pe_s hm) (ha p (sat_bind s) _ fun y h1 u φ1 Hk1 Hr1 s1 p1 e1 hu => hb p1 (sat_bind s1) _ fun x h2 v φ2 Hk2 Hr2 s2 p2 e2 hv => ?_)
  obtain ⟨k, hk, s3⟩ := sat_lf s2
  exact din_op hr (neg := true) p2.I (hu.ex e2) hv hk _ ⟨k, rfl, q _ _ _ _ _ s3 p2 (e1.trans e2)⟩
/-! methods with two arguments -/
def wMt (X : Cx) (id : String) (xs : List V) (H : Hp) (Q : VK) : Prop := ∀ (pins : List (Addr × Obj)) (s : Shared) (σ : L2.St) (us : List Value), Inv X pins σ H s → Vals xs us → wpAny (model X.prog X.w) X.A (call (.builtin id) us) (EP X pins σ Q) X.xe s
theorem dic_type {pins : List (Addr × Obj)} {σ : L2.St} {H : Hp} {s : Shared} {ad : Addr} {es : List (NestedKey × Addr × V)} (I : Inv X pins σ H s) (h : Rd H ad (DicO X.w ad es)) : s.TypeIs (.ref ad) "dict" ∧ ∀ a, Value.ref ad = .ref a → ∃ ob, s.heap.get? a = some ob ∧ ob.dict = none := by
  obtain ⟨⟨z, y, xs, r, o, es', ep, h1, h2, h3, h4, h5⟩, _, _⟩ := (show ObjOk X.prog X.w H s.heap ad (DicO X.w ad es) from h.ok I.hok)
  exact ⟨⟨o, h1, h2.1⟩, fun a e => by cases e; exact ⟨o, h1, h2.2.1⟩⟩
def tDm2 (X : Cx) (id : String) (to te tf : TE) : TE := fun σ H Q => to σ H fun x H1 => (∃ ad es, x = .ref ad ∧ Rd H1 ad (DicO X.w ad es)) ∧ te σ H1 fun y H2 => tf σ H2 fun z H3 => wMt X id [x, y, z] H3 Q
theorem pe_dm2 {nm : Str} {id : String} {to te tf : TE} (slot : Slot "dict" nm id) (hty : typeOf (.builtin id) = pure (.type "method_descriptor")) (ho : PE X o to) (he : PE X e te) (hf : PE X f tf) (md : M2 X o nm apos e f cpos) : PE X (.Call (.Attribute o nm apos) [e, f] [] cpos) (tDm2 X id to te tf) := by
  refine ⟨fun pins s σ H Q I h => ?_⟩
  refine wpAny_Call_method md.base md.few md.line PySem.F.plainAttrs_dict slot hty (thn (ho.run pins s σ H _ I h) fun u s1 ⟨x, H1, I1, rx, ⟨ad, es, ex, d⟩, q1⟩ => ?_)
  subst ex
  obtain rfl : u = Value.ref ad := rx
  obtain ⟨t1, t2⟩ := dic_type I1 d
  refine ⟨t1, t2, ?_⟩
  rw [md.trees]
  refine Calls.callWith_builtin rfl (Calls.evalArgs_plain (Calls.spliced_cons (thn (he.run pins s1 σ H1 _ I1 q1) fun iv s2 ⟨y, H2, I2, ry, q2⟩ =>
    Calls.spliced_cons (thn (hf.run pins s2 σ H2 _ I2 q2) fun fv s3 ⟨z, H3, I3, rz, q3⟩ => Calls.spliced_nil ?_))))
  exact q3 pins s3 σ _ I3 (.cons rfl (.cons ry (.cons rz .nil)))
/-- d.get(k, x) -/
def dgetM (mo me mf : M W) : M W := bd mo fun x => bd (fun h => lf (isD h x) h) fun _ => bd me fun y => bd mf fun z => fun h => lf ((isD h x).bind fun kvs => (tkey y).map fun k => (dLook k kvs).getD z) h
theorem em_dgetD {mo me mf : M W} (hr : Room n X.A) (ho : EM X o ρ mo) (he : EM X e ρ me) (hf : EM X f ρ mf) (md : M2 X o "get" apos e f cpos := by exact ⟨rfl, rfl, rfl, rfl⟩) : EM X (.Call (.Attribute o "get" apos) [e, f] [] cpos) ρ (dgetM mo me mf) := fun p s Q q => by
  refine sE_of (pe_dm2 PySem.F.slot_dict_get PySem.F.type_dict_get pe_s pe_s pe_s md) (ho p (sat_bind s) _ fun x h1 xv φ1 Hk1 Hr1 s1 p1 e1 hx => ?_)
  obtain ⟨kv0, hk0, s1⟩ := sat_lf (sat_bind s1)
  obtain ⟨ad0, es0, rfl, g0, _⟩ := isD_ok p1.I hx hk0
  refine ⟨⟨ad0, es0, rfl, g0⟩, he p1 (sat_bind s1) _ fun y h2 yv φ2 Hk2 Hr2 s2 p2 e2 hy => hf p2 (sat_bind s2) _ fun z h3 zv φ3 Hk3 Hr3 s3 p3 e3 hz => ?_⟩
  obtain ⟨w, hw, s4⟩ := sat_lf s3
  obtain ⟨kvs, h4, hw⟩ := bnd hw
  obtain ⟨k, h5, hw⟩ := mpd hw
  obtain ⟨ad, es, ea, g1, g2⟩ := isD_ok p3.I (hx.ex (e2.trans e3)) h4
  cases ea
  obtain ⟨bb, rfl, g3, g4⟩ := tkey_ok h5 (hy.ex e3)
  intro pins st τ us I' rv
  cases rv with
  | @cons _ u1 _ _ r1 rv =>
    cases rv with
    | @cons _ u2 _ _ r2 rv =>
      cases rv with
      | @cons _ u3 _ _ r3 rv =>
        cases rv
        have r1 : u1 = .ref ad0 := r1
        subst r1
        have r2 : u2 = .ref bb := r2
        subst r2
        obtain ⟨z1, z2, xs, ex, dd⟩ := dic_rd I' g1 (DRs.mono Fx.refl p3.I.kr g2)
        refine call_meetsIn PySem.F.slot_dict_get dd.typeIs PySem.F.entry_dict_get (PySem.F.args_dict_get_3 _ _ _) (meetsH_dict_get_default (nestedKind X.prog X.w) ad0 bb z2 u3) ⟨roomD hr, k, xs, key_is I' (Dp.mono p3.I.kr _ g3) g4, dd, ?_⟩
        have ee := e1.trans (e2.trans e3)
        cases zz : dLook k kvs with
        | none =>
          rw [zz] at hw
          rw [look_none g2 ex zz]
          exact ⟨zv, Hr3, I'.tok _, r3, by rw [← hw] at s4; exact q _ _ _ _ _ _ s4 p3 ee hz⟩
        | some w' =>
          rw [zz] at hw
          obtain ⟨pp, v', hp, rv', hvr⟩ := look_some g2 ex zz
          rw [hp]
          exact ⟨v', Hr3, I'.tok _, rv', by rw [← hw] at s4; exact q _ _ _ _ _ _ s4 p3 ee hvr⟩
/-! d[k] = v -/
def isDm (o : W) : M (Nat × List (NestedKey × W)) := fun h => match o with
  | .ref i => match h.get i with | some (.dic kvs) => .ok (i, kvs) h | _ => .bad
  | _ => .bad
theorem isDm_ok {o : W} {h : Hs} {P : Nat × List (NestedKey × W) → Hs → Prop} {E : Xc → Hs → Prop} (s : (isDm o h).sat P E) : ∃ i kvs, o = .ref i ∧ h.get i = some (.dic kvs) ∧ P (i, kvs) h := by
  cases o with
  | ref i =>
    have s : (match h.get i with | some (.dic kvs) => T.ok (i, kvs) h | _ => T.bad : T (Nat × List (NestedKey × W))).sat P E := s
    cases g : h.get i with
    | none => rw [g] at s; exact s.elim
    | some u =>
      rw [g] at s
      cases u with
      | dic ws => exact ⟨i, ws, rfl, g, s⟩
      | _ => exact s.elim
  | _ => exact s.elim
def putDm (i : Nat) (kvs : List (NestedKey × W)) : M Unit := fun h => .ok () (h.put i (.dic kvs))
theorem dicO_ok {P : Program} {wd : World} {H : Hp} {h : Heap} {a : Addr} {es : List (NestedKey × Addr × V)} {xs : List (NestedKey × Addr × Value)} (z : es.length ≤ sizeLine) (y : (a == sysModules) = false) (r : EX es xs) (d : h.DictOfH (nestedKind P wd) a xs) : ObjOk P wd H h a (DicO wd a es) := by
  obtain ⟨o, es', ep, h1, h2, h3, h4, _, h5⟩ := d
  exact ⟨⟨z, y, xs, r, o, es', ep, h1, h2, h3, h4, h5⟩, ⟨o, h1⟩, fun g1 g2 ⟨z, y, xs, r, o, es', ep, h1, h2, h3, h4, h5⟩ k => ⟨z, y, xs, r, o, es', ep, k _ h1, h2, h3, h4, h5⟩⟩
def wSet (X : Cx) : TSet := fun o i v H K => ∀ (pins : List (Addr × Obj)) (s : Shared) (σ : L2.St) (ov iv u : Value), Inv X pins σ H s → RelV o ov → RelV i iv → RelV v u → wpAny (model X.prog X.w) X.A (setItem ov iv u) (fun _ s' => ∃ H', Inv X pins σ H' s' ∧ K H') X.xe s
theorem wSet_r : PSet X (wSet X) := fun pins s σ H o i v ov iv u Q I r1 r2 r3 h => h pins s σ ov iv u I r1 r2 r3
/-- x[y] = v, x a dict or a list -/
def setD (m3 m1 m2 : M W) : M Unit := bd m3 fun v => bd m1 fun o => bd m2 fun i => fun h => match isD h o with
  | some _ => (bd (isDm o) fun p => bd (lf (gd (shortS p.2.length) (tkey i))) fun k => putDm p.1 (dPut k v p.2)) h
  | none => (bd (isL o) fun p => bd (lf ((asIW i).bind fun j => ixN p.2.length j)) fun k => putL p.1 (p.2.set k v)) h
theorem sm_putD {k : M (Res W α)} (hr0 : Room n X.A) (he : EM X e ρ m3) (ho : EM X o ρ m1) (hi : EM X ix ρ m2) (hr : SM X ρE rest ρ k g) (hp : PS X (.Assign [.Subscript o ix p1] e pos) (tAsg (sE X e) (gSub (sE X o) (sE X ix) (wSet X)))) : SM X ρE (.Assign [.Subscript o ix p1] e pos :: rest) ρ (bd (setD m3 m1 m2) fun _ => k) g := fun p s D nx r => by
  refine sSs_of (pss_cons hp pss_s) (he p.pt (sat_bind (sat_bind s)) _ fun w h1 v φ1 Hk1 Hr1 s1 p1 e1 hv => ho p1 (sat_bind s1) _ fun ow h2 ov φ2 Hk2 Hr2 s2 p2 e2 hov => hi p2 (sat_bind s2) _ fun iw h3 iv φ3 Hk3 Hr3 s3 p3 e3 hiv => ?_)
  have e123 := e1.trans (e2.trans e3)
  have hv3 := hv.ex (e2.trans e3)
  have hov := hov.ex e3
  have fin : ∀ {hs' : Hs} {H' : Hp}, Ok X.K X.w φ3 hs' _ Hk3 H' → (k hs').sat _ _ → _ := fun {hs' H'} I4 s5 => hr (p.to I4 e123 p3.R p.sub) s5 D (fun a hs' φ' Hk' Hr' σ' h q e' => nx a hs' φ' Hk' Hr' σ' h q (e123.trans e')) (fun w hs' v φ' Hk' Hr' h I e' hv => r w hs' v φ' Hk' Hr' h I (e123.trans e') hv)
  cases zd : isD h3 ow with
  | some l =>
    rw [zd] at s3
    obtain ⟨i, kvs, rfl, g1, s4⟩ := isDm_ok (sat_bind s3)
    obtain ⟨kk, hk, s5⟩ := sat_lf (sat_bind s4)
    obtain ⟨hl, hk⟩ := gd_some hk
    have hl : kvs.length < 100000 := shortS_lt hl
    obtain ⟨bb, rfl, g3, g4⟩ := tkey_ok hk hiv
    cases hov with
    | @ref _ a0 ha =>
      obtain ⟨ad, q1, q2, q3, es, q4, q5⟩ := p3.I.obj i _ g1
      rw [ha] at q1
      cases q1
      intro pins st τ vo vi vv I' r1 r2 r3
      have r1 : vo = .ref a0 := r1
      subst r1
      have r2 : vi = .ref bb := r2
      subst r2
      obtain ⟨z1, z2, xs, ex, dd⟩ := dic_rd I' (.inl q4) (DRs.mono Fx.refl p3.I.kr q5)
      have lx : xs.length = es.length := (Paired.length ex).symm
      have le := DRs.len q5
      have hlen : (ePut kk bb v es).length ≤ sizeLine := by
        have := put_len (k := kk) (b := bb) (v := v) (es := es)
        have := le_line (n := kvs.length + 1) (by omega)
        omega
      refine wpAny_setItem_heap (hsz := by rw [lx]; exact z1) (roomD hr0) (key_is I' (Dp.mono p3.I.kr _ g3) g4) dd fun h' dd' hs => ?_
      have nod : (xs.map (·.1)).Nodup := by
        obtain ⟨_, _, _, _, _, _, _, _, hn⟩ := dd
        exact hn
      rw [put_X nod] at dd'
      have hq : ∃ q, h'.get? a0 = some q := by
        obtain ⟨o', _, _, ho', _⟩ := dd'
        exact ⟨o', ho'⟩
      refine ⟨_, d_write (ob := DicO X.w a0 (ePut kk bb v es)) I' (by rw [q4]; exact True.intro) hs hq (dicO_ok hlen z2 (put_E r3 ex) dd'), ?_⟩
      exact fin (p3.I.put (o' := .dic (dPut kk w kvs)) g1 ha ⟨_, upd_same, put_D g4 g3 hv3 q5⟩) s5
  | none =>
    rw [zd] at s3
    obtain ⟨i, ws, rfl, g1, s4⟩ := isL_ok (sat_bind s3)
    obtain ⟨k', hk, s5⟩ := sat_lf (sat_bind s4)
    obtain ⟨j, hj, hk⟩ := bnd hk
    have := asIW_eq hj
    subst this
    obtain rfl := vr_int (X := X) hiv
    cases hov with
    | ref ha =>
      obtain ⟨vs, t1, t2⟩ := at_lst p3.I g1 ha
      intro pins st τ vo vi vv I' r1 r2 r3
      exact set_list pins st τ Hr3 _ _ _ vo vi vv _ I' r1 r2 r3 ⟨_, vs, j, k', rfl, rfl, t1, by rw [VRs.len t2]; exact hk, fin (p3.I.putL (vs := vs) g1 ha (t2.set k' hv3)) s5⟩
end
end Hx
/-! dicts: new, displayed, walked; sorted numbers; the numbers of a script -/
noncomputable section
namespace Hx
open PySem L2 Pd Gn PySem.Spec PyProof.Rows Zq
def dnewM : M W := fun h => .ok (.ref h.nx) (h.new (.dic []))
def ddspM (mk mv : M W) : M W := bd mk fun k => bd mv fun v => bd (lf (tkey k)) fun q => rt (.dct [(q, v)])
def frzDM (w : W) : M W := fun h => match w with
  | .ref i => match h.get i with | some (.dic kvs) => .ok (.dct kvs) (h.del i) | _ => .bad
  | .dct kvs => .ok (.dct kvs) h
  | _ => .bad
def keysW : List (NestedKey × W) → List W
  | [] => []
  | (k, _) :: r => .dat k.data :: keysW r
def itW : W → Option (List W)
  | .dct kvs => some (keysW kvs)
  | w => seqW w
def sqD (m : M W) : M (List W) := bd m fun w => lf (itW w)
def insR (x : Int) : List Int → List Int
  | [] => [x]
  | y :: r => match decide (x ≤ y) with | true => y :: insR x r | false => x :: y :: r
def sortR : List Int → List Int
  | [] => []
  | x :: r => insR x (sortR r)
def intsW : List W → Option (List Int)
  | [] => some []
  | .dat (.int i) :: r => (intsW r).map fun ns => i :: ns
  | _ => none
def srtRM (m : M W) : M (List W) := bd m fun w => fun h => lf (match kindT w with | true => none | false => (itemsH h w).bind fun ws => (intsW ws).map fun ns => (sortR ns).map fun i => .dat (.int i)) h
def fMin3 : List W → Option W
  | [.dat (.int a), .dat (.int b), .dat (.int c)] => some (.dat (.int (min (min a b) c)))
  | _ => none
def mNumbers (ws : List W) : M W := fun h => match ws with
  | [.scr] => .ok (.ref h.nx) (h.new .nums)
  | _ => .bad
def mNext (ws : List W) : M W := fun h => match ws with
  | [.ref i, .dat (.int m)] => match h.get i with
    | some .nums => match decide (0 < m) && decide (m < 1000000) with
      | true => .draw m.toNat fun v => .ok (.dat (.int (v : Nat))) h
      | false => .bad
    | _ => .bad
  | _ => .bad
end Hx
namespace Hx
open PySem L2 Pd Gn PySem.Spec PyProof.Rows Zq
theorem Ok.claimD {K : PySem.W.Frag} {wd : World} {φ : List Addr} {hs : Hs} {Ho Hk Hr : Hp} {d : Addr} {u : HO} (I : Ok K wd φ hs (upd Ho d u) Hk Hr) (no : Ho d = none) (u' : HO) : Ok K wd φ hs Ho (upd Hk d u') (upd Hr d u') ∧ Same Hk (upd Hk d u') := by
  have nk : Hk d = none := I.dis d u upd_same
  have e : Same Hk (upd Hk d u') := new_same nk _
  refine ⟨⟨fun b v g => ?_, fun b v g => ?_, I.len, I.low, fun i o g => ?_, I.inj, fun b v g => ?_⟩, e⟩
  · by_cases q : b = d
    · subst q
      rw [upd_same] at g ⊢
      exact g
    · rw [upd_ne q] at g ⊢
      exact I.kr _ _ g
  · rw [upd_ne (ne_of_none g no)]
    exact I.out _ _ (same_upd no b v g)
  · obtain ⟨a, q1, q2, q3, q4⟩ := I.obj i o g
    have ne : a ≠ d := fun z => by rw [z, upd_same] at q3; cases q3
    rw [upd_ne ne] at q3
    exact ⟨a, q1, by rw [upd_ne ne]; exact q2, q3, q4.mono2 Fx.refl e (by rw [upd_ne ne])⟩
  · rw [upd_ne (ne_of_none g no)]
    exact I.dis b v (same_upd no b v g)
section
variable {X : Cx} {ρE ρ : Rho} {a b o e f ix tg iter : Expr} {es : List Expr} {rest sts : List Stmt} {m m1 m2 m3 : M W} {ma : M (List W)} {p0 p1 p2 pos apos cpos kpos : Pos} {α β : Type} {g : α → Rho} {n i : Nat} {x : Str} {w : W}
theorem em_notV (ha : EM X a ρ m) : EM X (.UnaryOp .Not a pos) ρ (bW (notM (tvM m))) := fun p s Q q =>
  sE_of (pe_notT pe_s) (ha p (sat_bind (sat_bind (sat_bind s))) _ fun w h1 v φ1 Hk1 Hr1 s1 p1 e1 hv => by
    obtain ⟨k, hk, s2⟩ := sat_lf s1
    exact ⟨k, truthW_ok (hv.view p1.I) hk, q _ _ _ _ _ _ s2 p1 e1 (.dat (.bl _))⟩)
/-! new dicts -/
theorem em_dnew : EM X (.Dict [] [] pos) ρ dnewM := fun {Wx E P hs φ Ho Hk Hr σ} p s Q q pins st I => by
  have hn := I.hok.fresh (Nat.le_refl st.heap.objs.size)
  have new : ObjOk X.prog X.w (upd Hr st.heap.objs.size (DicO X.w st.heap.objs.size [])) (st.heap.push { cls := .type "dict", data := .dict #[] }) st.heap.objs.size (DicO X.w st.heap.objs.size []) :=
    dicO_ok (xs := []) (Nat.zero_le _) (beq_eq_false_iff_ne.mpr (Ne.symm (Nat.ne_of_lt I.big))) .nil (Heap.DictOfH.new _)
  have I2 : Ok X.K X.w (φ ++ [st.heap.objs.size]) (hs.new (.dic [])) Ho Hk (upd Hr st.heap.objs.size (DicO X.w st.heap.objs.size [])) := p.I.new hn (new_same hn _) ⟨[], upd_same, .nil⟩
  have ee : Ex φ Hk (φ ++ [st.heap.objs.size]) Hk := ⟨Fx.app, Same.refl _⟩
  exact wpAny_Dict_empty ⟨.ref st.heap.objs.size, _, I.laid (a := st.heap.objs.size) (o := DicO X.w st.heap.objs.size []) (t' := st.toks) (fun _ _ q => Heap.get?_push_of_some _ q) (Nat.le_refl _) new, rfl, q (.ref hs.nx) _ _ _ _ _ s (p.go I2 ee) ee (.ref (by rw [← p.I.len]; simp))⟩
/-! from here on a dict is not changed -/
theorem sSs_lock {D : Ends} {σ : L2.St} {H : Hp} {d : Addr} {u : HO} (h : H d = some u) (mu : Mut (some u)) (q : ∀ od, sSs X sts D σ (upd H d (.frz od u))) : sSs X sts D σ H := fun pins s I => by
  obtain ⟨od, I'⟩ := I.lock h mu
  exact q od pins s I'
theorem sm_frzD {k : W → M (Res W α)} (h : ρ[n]? = some (some w)) (hE : ρE[n]? = some none) (hr : ∀ w, SM X ρE sts (ρ.set n (some w)) (k w) g) : SM X ρE sts ρ (bd (frzDM w) k) g := fun {Wx E P hs φ Ho Hk Hr σ} p s D nx r => by
  obtain ⟨v, q1, q2⟩ := p.R.at_ n w h
  have s1 := sat_bind s
  cases w with
  | ref i =>
    have s1 : (match hs.get i with | some (.dic kvs) => T.ok (.dct kvs) (hs.del i) | _ => T.bad : T W).sat _ E := s1
    cases gg : hs.get i with
    | none => rw [gg] at s1; exact s1.elim
    | some o =>
      rw [gg] at s1
      cases o with
      | dic kvs =>
        cases q2 with
        | @ref _ a0 ha =>
          obtain ⟨ad, f1, f2, f3, es, f4, f5⟩ := p.I.obj i _ gg
          rw [ha] at f1
          cases f1
          refine sSs_lock f4 True.intro fun od => ?_
          obtain ⟨e2, I2⟩ := p.I.fix1 (.frz od (DicO X.w a0 es)) gg ha
          have ee : Ex φ Hk φ _ := ⟨Fx.refl, e2⟩
          have R := (p.R.ex ee).set (n := n) (VR.dct (kvs := kvs) upd_same (DRs.mono Fx.refl e2 f5))
          rw [set_same q1] at R
          exact hr _ (p.to I2 ee R (p.sub.set hE)) s1 D (fun a hs' φ' Hk' Hr' σ' h q e' => nx a hs' φ' Hk' Hr' σ' h q (ee.trans e')) (fun w hs' v φ' Hk' Hr' h I e' hv => r w hs' v φ' Hk' Hr' h I (ee.trans e') hv)
      | _ => exact s1.elim
  | dct kvs =>
    have R := p.R.set (n := n) q2
    rw [set_same q1] at R
    exact hr _ (p.to p.I Ex.refl R (p.sub.set hE)) s1 D nx r
  | _ => exact s1.elim
/-! {k: v}, not changed later -/
theorem em_ddsp {kk : Expr} {v : Expr} (hr : Room i X.A) (ha : EM X kk ρ m1) (hb : EM X v ρ m2) : EM X (.Dict [some kk] [v] pos) ρ (ddspM m1 m2) := fun {Wx E P hs φ Ho Hk Hr σ} p s Q q pins st I => by
  have hn := I.hok.fresh (Nat.le_refl st.heap.objs.size)
  have hsys : (st.heap.objs.size == sysModules) = false := beq_eq_false_iff_ne.mpr (Ne.symm (Nat.ne_of_lt I.big))
  have new : ObjOk X.prog X.w (upd Hr st.heap.objs.size (DicO X.w st.heap.objs.size [])) (st.heap.push { cls := .type "dict", data := .dict #[] }) st.heap.objs.size (DicO X.w st.heap.objs.size []) :=
    dicO_ok (xs := []) (Nat.zero_le _) hsys .nil (Heap.DictOfH.new _)
  have I1 := I.laid (a := st.heap.objs.size) (o := DicO X.w st.heap.objs.size []) (t' := st.toks) (fun _ _ q => Heap.get?_push_of_some _ q) (Nat.le_refl _) new
  have no := far_of p.I.out hn
  have p0 := p.out (p.I.outer (u := DicO X.w st.heap.objs.size []) hn) no Ex.refl
  refine wpAny_Dict_any rfl rfl (by simp) (by show 1 ≤ 15; omega) (pairTrees_cons_walk (thn (ha p0 (sat_bind s) (fun x H1 => ∀ s1 u, Inv X pins σ H1 s1 → L2.RelV x u → wpAny (model X.prog X.w) X.A (eval v X.env) (fun vv s₂ => wpAny (model X.prog X.w) X.A (evalPairs (pairTrees [] [] X.env pos)) (fun r s₃ => wpAny (model X.prog X.w) X.A (storeAll st.heap.objs.size ((u, vv) :: r)) (fun _ s₂ => EP X pins σ Q (.ref st.heap.objs.size) s₂) X.xe s₃) X.xe s₂) X.xe s1) (fun kw h1 kv φ1 Hk1 Hr1 s1 p1 e1 hk => ?_) pins _ I1) fun u s1 ⟨x, H1, I1, rx, hq⟩ => hq s1 u I1 rx))
  intro st1 u I1 ru
  refine thn (hb p1 (sat_bind s1) (fun y H2 => ∀ s2 vv, Inv X pins σ H2 s2 → L2.RelV y vv → wpAny (model X.prog X.w) X.A (storeAll st.heap.objs.size ((u, vv) :: [])) (fun _ s₂ => EP X pins σ Q (.ref st.heap.objs.size) s₂) X.xe s2) (fun vw h2 vv φ2 Hk2 Hr2 s2 p2 e2 hv => ?_) pins _ I1) fun vv s2 ⟨y, H2, I2, ry, hq⟩ => pairTrees_nil_walk (hq s2 vv I2 ry)
  intro st2 uu I2 rv
  obtain ⟨k, hkk, s3⟩ := sat_lf (sat_bind s2)
  obtain ⟨bb, rfl, g3, g4⟩ := tkey_ok hkk (hk.ex e2)
  have ru : u = .ref bb := ru
  subst ru
  have hd := p2.I.out _ _ (upd_same (o := DicO X.w st.heap.objs.size []) (a := st.heap.objs.size))
  obtain ⟨z1, z2, xs, ex, dd⟩ := dic_rd (φ := φ2) (kvs := []) I2 (.inl hd) .nil
  cases ex
  have hkey := key_is I2 (Dp.mono p2.I.kr _ g3) g4
  refine wpAny_storeAllH (knd := nestedKind X.prog X.w) (by have := hr.un; show X.A.units + 8 < cLine; omega) _ [(k, bb, uu)] [] st2 _ ⟨rfl, rfl, hkey, True.intro⟩ dd (by show 0 + 1 ≤ sizeLine; decide) fun h' tk dd' hs' => ?_
  have exx : EX [(k, bb, vv)] [(k, bb, uu)] := .cons ⟨rfl, rfl, rv⟩ .nil
  have hq : ∃ q, h'.get? st.heap.objs.size = some q := by
    obtain ⟨o', _, _, ho', _⟩ := dd'
    exact ⟨o', ho'⟩
  have I3 := d_write (ob := DicO X.w st.heap.objs.size [(k, bb, vv)]) (t' := tk) I2 (by rw [hd]; exact True.intro) hs' hq (dicO_ok (by show 1 ≤ sizeLine; decide) hsys exx dd')
  obtain ⟨od, I4⟩ := I3.lock (d := st.heap.objs.size) (u := DicO X.w st.heap.objs.size [(k, bb, vv)]) upd_same True.intro
  rw [upd_upd] at I4
  obtain ⟨I5, e5⟩ := p2.I.claimD no (.frz od (DicO X.w st.heap.objs.size [(k, bb, vv)]))
  have ee : Ex φ2 Hk2 φ2 _ := ⟨Fx.refl, e5⟩
  have e125 := e1.trans (e2.trans ee)
  exact ⟨.ref st.heap.objs.size, _, I4, rfl, q (.dct [(k, vw)]) h2 _ φ2 _ _ s3 (p.go I5 e125) e125 (.dct upd_same (.cons g4 (Dp.mono e5 _ g3) (hv.mono Fx.refl e5) .nil))⟩
end
end Hx
/-! dicts walked; sorted numbers; min of three -/
noncomputable section
namespace Hx
open PySem L2 Pd Gn PySem.Spec PyProof.Rows Zq
def Itq (wd : World) (d : Addr) (o : Obj) (es : List (NestedKey × Addr × V)) : It :=
  ⟨fun i H => H d = some (.frz o (DicO wd d es)) ∧ i < es.length, fun i H x H' => H' = H ∧ ∃ k b v, es[i]? = some (k, b, v) ∧ x = .ref b, fun i H => H d = some (.frz o (DicO wd d es)) ∧ es.length ≤ i⟩
theorem frzQ {X : Cx} {pins : List (Addr × Obj)} {σ : L2.St} {H : Hp} {s : Shared} {d : Addr} {o : Obj} {es : List (NestedKey × Addr × V)} (I : Inv X pins σ H s) (h : H d = some (.frz o (DicO X.w d es))) :
    (d == sysModules) = false ∧ s.heap.get? d = some o ∧ o.ExactDict ∧ ∃ (es' : Array DictEntry) (ep : Nat), o.data = .dict es' ep ∧ es'.size = es.length ∧ ∀ (i : Nat) (k : NestedKey) (b : Addr) (v : V), es[i]? = some (k, b, v) → ∃ en : DictEntry, es'[i]? = some en ∧ en.key = .ref b := by
  obtain ⟨hd, ⟨z, y, xs, r, o', es', ep, h1, h2, h3, h4, h5⟩, _, _⟩ := I.hok d _ h
  rw [hd] at h1
  cases h1
  refine ⟨y, hd, h2, es', ep, h3, ?_, fun i k b v e => ?_⟩
  · have l1 : es'.size = xs.length := by rw [← Array.length_toList, h4, List.length_map]
    have l2 : es.length = xs.length := Paired.length r
    omega
  · obtain ⟨q, hq, e1, e2, _⟩ := paired_get r e
    have ee : es'[i]? = (xs[i]?).map (fun x => (⟨x.1.hash X.w, .ref x.2.1, x.2.2⟩ : DictEntry)) := by rw [← Array.getElem?_toList, h4, List.getElem?_map]
    rw [hq] at ee
    exact ⟨_, ee, by show Value.ref q.2.1 = .ref b; rw [← e2]⟩
theorem turn_keysQ {P : Program} {w : World} {K : PySem.W.Frag} {tg : Expr} {d : Addr} {o : Obj} {es : List (NestedKey × Addr × V)} {es0 : Array DictEntry} {ep : Nat} (it : Addr) (hod : o.data = .dict es0 ep) : Turn P w K tg (Itq w d o es) [it] it (fun i h => h.IsKeyIter it d i es.length ep) where
  mem := by simp
  obj := fun i h st b hb => by
    have e : b = it := by simpa using hb
    subst e
    obtain ⟨oi, e, c, dd⟩ := st
    exact ⟨oi, e, fun v z => by rw [dd] at z; cases z⟩
  keep := fun i h h' st k => st.at fun oi e => k it (by simp) oi e
  item := by
    intro X hP hw hK hc i pins s σ H E I hf st hg
    subst hP hw hK
    obtain ⟨hd, hi⟩ := hg
    obtain ⟨f0, f1, f2, f3, f4, f5⟩ := hf it (by simp)
    obtain ⟨hs, hgd, hx, es', ep', hdt, hsz, ent⟩ := frzQ I hd
    obtain ⟨rfl, rfl⟩ := dict_ep hod hdt
    obtain ⟨⟨k, b, v⟩, hkv⟩ : ∃ p, es[i]? = some p := ⟨es[i], List.getElem?_eq_getElem hi⟩
    obtain ⟨en, hen, hkey⟩ := ent i k b v hkv
    refine next_key_item st hgd hdt hsz hen fun h' st' sb => ?_
    have I1 : Inv X pins σ H { s with heap := h' } := I.turned (t' := s.toks) (fun b ob hb e => (sb.2 b hb).trans e) f0 f1 f3 f4 f5
    obtain ⟨oi, e, c, dd⟩ := id st'
    exact ⟨en.key, rfl, go_of (s := { s with heap := h' }) e c dd (by decide) ⟨.ref b, H, I1, hkey, ⟨rfl, k, b, v, hkv, rfl⟩, st', fun b hb => (hf b hb).1⟩⟩
  done := by
    intro X hP hw hK hc i pins s σ H E I hf st hg
    subst hP hw hK
    obtain ⟨hd, hi⟩ := hg
    obtain ⟨f0, f1, f2, f3, f4, f5⟩ := hf it (by simp)
    obtain ⟨hs, hgd, hx, es', ep', hdt, hsz, ent⟩ := frzQ I hd
    obtain ⟨rfl, rfl⟩ := dict_ep hod hdt
    exact next_key_end (I.ok.hd hc) st hgd hdt hsz hi fun h' eb => ⟨rfl, I.turned (t' := s.toks) (fun b ob hb e => eb b ob hb e) f0 f1 f3 f4 f5⟩
  self := fun A i s Q E st h => by
    refine wpAny_pyIter_slot st.typeIs F.slot_dict_keyiterator_iter (wpAny_call_entry F.slot_dict_keyiterator_iter st.typeIs F.entry_dict_keyiterator_iter ?_ (F.args_dict_keyiterator_iter_1 _))
    show wpAny _ _ (ret (.ref it)) _ _ s
    exact wpAny_pure ⟨_, rfl, "dict_keyiterator", _, st.typeIs, F.slot_dict_keyiterator_next.lookup, h⟩
theorem keys_at {K : PySem.W.Frag} {wd : World} {φ : List Addr} {H : Hp} {k : NestedKey} {b : Addr} {v : V} {w : W} : ∀ {i : Nat} {kvs : List (NestedKey × W)} {es : List (NestedKey × Addr × V)}, DRs K wd φ H kvs es → es[i]? = some (k, b, v) → (keysW kvs)[i]? = some w → w = .dat k.data ∧ Dp K H (.ref b) k.data
  | i, _, _, .nil, h, _ => by simp at h
  | 0, _, _, .cons h1 h2 h3 h4, h, g => by
    simp only [List.getElem?_cons_zero, Option.some.injEq] at h
    cases h
    simp only [keysW, List.getElem?_cons_zero, Option.some.injEq] at g
    exact ⟨g.symm, h2⟩
  | i + 1, _, _, .cons h1 h2 h3 h4, h, g => keys_at (i := i) h4 (by simpa using h) (by simpa [keysW] using g)
theorem keysW_len : ∀ {kvs : List (NestedKey × W)}, (keysW kvs).length = kvs.length
  | [] => rfl
  | (k, w) :: r => by
    show (keysW r).length + 1 = _
    rw [keysW_len]
    rfl
theorem wkm_q {K : PySem.W.Frag} {wd : World} {φ : List Addr} {Hk : Hp} {d : Addr} {o : Obj} {kvs : List (NestedKey × W)} {es : List (NestedKey × Addr × V)} (h : Hk d = some (.frz o (DicO wd d es))) (D : DRs K wd φ Hk kvs es) : WkM K wd φ (Itq wd d o es) (keysW kvs) Hk := fun i Hr e => by
  have l := DRs.len D
  rw [keysW_len]
  refine ⟨fun hi => ⟨e _ _ h, by omega⟩, fun hi => ⟨e _ _ h, by omega⟩, fun x H' hy => ?_⟩
  obtain ⟨rfl, k, b, v, he, rfl⟩ := hy
  refine ⟨Same.refl _, fun w hw => ?_⟩
  obtain ⟨rfl, hd⟩ := keys_at D he hw
  exact .dat (Dp.mono (gro_same e) _ hd)
section
variable {X : Cx} {tg iter e : Expr} {ρ : Rho} {m : M W} {p0 pos cp kp : Pos} {n1 : Nat}
def tvD (X : Cx) (te : TE) : TI := fun σ H R => te σ H fun x H1 => (∃ t a xs, x = .ref a ∧ gSq X.K t H1 a xs ∧ R (itG X.K t a) H1) ∨ ∃ d o es, x = .ref d ∧ H1 d = some (.frz o (DicO X.w d es)) ∧ R (Itq X.w d o es) H1
theorem pi_valD {te : TE} (hl : PE X iter te) : PI X tg iter (tvD X te) := by
  refine ⟨fun pins s σ H R I h => ?_⟩
  refine thn (hl.run pins s σ H _ I h) fun v s1 ⟨x, H1, I1, r1, q1⟩ => ?_
  rcases q1 with ⟨t, a, xs, e, hq, q⟩ | ⟨d, o, es, e, hd, q⟩
  · subst e
    cases r1
    cases t
    · obtain ⟨its, rv, p, hz⟩ := I1.list hq
      refine wpAny_pyIter_list p.isList ?_
      refine ⟨s1.heap.objs.size, [s1.heap.objs.size], _, _, H1, rfl, I1.kept (t' := s1.toks) fun b o e => Heap.get?_push_of_some _ e, turn_list a _, ⟨_, Heap.get?_push_size _ rfl, rfl, rfl⟩, fun b hb => ?_, q⟩
      have e : b = s1.heap.objs.size := by simpa using hb
      subst e
      exact I1.fpOk (Nat.le_refl _) (I1.hok.fresh (Nat.le_refl _))
    · obtain ⟨its, rv, p, hz⟩ := I1.tuple hq
      refine wpAny_pyIter_tuple (show s1.heap.IsTuple a its.toArray from p) ?_
      refine ⟨s1.heap.objs.size, [s1.heap.objs.size], _, _, H1, rfl, I1.kept (t' := s1.toks) fun b o e => Heap.get?_push_of_some _ e, turn_tuple a _, ⟨_, Heap.get?_push_size _ rfl, rfl, rfl⟩, fun b hb => ?_, q⟩
      have e : b = s1.heap.objs.size := by simpa using hb
      subst e
      exact I1.fpOk (Nat.le_refl _) (I1.hok.fresh (Nat.le_refl _))
  · subst e
    obtain rfl : v = Value.ref d := r1
    obtain ⟨hs, hgd, hx, es', ep, hdt, hsz, ent⟩ := frzQ I1 hd
    refine iter_keys hs hgd hx hdt (pi_one (tk := s1.toks) I1 _ (turn_keysQ _ hdt) ⟨_, Heap.get?_push_size _ rfl, rfl, ?_⟩ q)
    rw [hsz] <;> rfl
theorem im_valD (ha : EM X iter ρ m) : IM X tg iter ρ (sqD m) := fun p s R q => wI_of (pi_valD pe_s) (ha p (sat_bind s) _ fun w h1 v φ1 Hk1 Hr1 s1 p1 e1 hv => by
  obtain ⟨ws, hw, s2⟩ := sat_lf s1
  cases w with
  | dct kvs =>
    cases hw
    cases hv with
    | dct g1 g2 => exact .inr ⟨_, _, _, rfl, p1.I.kr _ _ g1, q _ _ _ _ _ _ s2 p1 e1 (wkm_q g1 g2)⟩
  | dat d =>
    obtain ⟨t, a, xs, rfl, g1, g2⟩ := hv.seq (ws := ws) hw
    exact .inl ⟨t, a, xs, rfl, same_g p1.I.kr g1, q _ _ _ _ _ _ s2 p1 e1 (wkm_g g1 g2)⟩
  | tup d =>
    obtain ⟨t, a, xs, rfl, g1, g2⟩ := hv.seq (ws := ws) hw
    exact .inl ⟨t, a, xs, rfl, same_g p1.I.kr g1, q _ _ _ _ _ _ s2 p1 e1 (wkm_g g1 g2)⟩
  | lst d =>
    obtain ⟨t, a, xs, rfl, g1, g2⟩ := hv.seq (ws := ws) hw
    exact .inl ⟨t, a, xs, rfl, same_g p1.I.kr g1, q _ _ _ _ _ _ s2 p1 e1 (wkm_g g1 g2)⟩
  | _ => cases hw)
end
/-! sorted, from the greatest -/
theorem insR_perm {x : Int} : ∀ {l : List Int}, (insR x l).Perm (x :: l)
  | [] => .refl _
  | y :: r => by
    unfold insR
    cases q : decide (x ≤ y) with
    | true => exact (List.Perm.cons y insR_perm).trans (.swap x y r)
    | false => exact .refl _
theorem sortR_perm : ∀ {l : List Int}, (sortR l).Perm l
  | [] => .refl _
  | x :: r => insR_perm.trans (.cons x sortR_perm)
theorem insR_ord {x : Int} : ∀ {l : List Int}, l.Pairwise (· ≥ ·) → (insR x l).Pairwise (· ≥ ·)
  | [], _ => by unfold insR; exact List.pairwise_singleton _ _
  | y :: r, h => by
    obtain ⟨h1, h2⟩ := List.pairwise_cons.mp h
    unfold insR
    cases q : decide (x ≤ y) with
    | true =>
      refine List.pairwise_cons.mpr ⟨fun z hz => ?_, insR_ord h2⟩
      rcases List.mem_cons.mp (insR_perm.mem_iff.mp hz) with e | hz
      · rw [e]; exact of_decide_eq_true q
      · exact h1 z hz
    | false =>
      have q := of_decide_eq_false q
      refine List.pairwise_cons.mpr ⟨fun z hz => ?_, h⟩
      rcases List.mem_cons.mp hz with e | hz
      · rw [e]; omega
      · have := h1 z hz; omega
theorem sortR_ord : ∀ {l : List Int}, (sortR l).Pairwise (· ≥ ·)
  | [] => .nil
  | x :: r => insR_ord sortR_ord
theorem ord_uniq : ∀ {l m : List Int}, l.Perm m → l.Pairwise (· ≥ ·) → m.Pairwise (· ≥ ·) → l = m
  | [], m, h, _, _ => by rw [List.Perm.eq_nil h.symm]
  | x :: l, [], h, _, _ => by cases List.Perm.eq_nil h
  | x :: l, y :: m, h, h1, h2 => by
    obtain ⟨a1, a2⟩ := List.pairwise_cons.mp h1
    obtain ⟨b1, b2⟩ := List.pairwise_cons.mp h2
    have e : x = y := by
      rcases List.mem_cons.mp (h.mem_iff.mp (List.mem_cons_self (a := x) (l := l))) with e | hx
      · exact e
      · rcases List.mem_cons.mp (h.mem_iff.mpr (List.mem_cons_self (a := y) (l := m))) with e | hy
        · exact e.symm
        · have := b1 x hx
          have := a1 y hy
          omega
    subst e
    rw [ord_uniq (List.Perm.cons_inv h) a2 b2]
theorem intsW_eq : ∀ {ws : List W} {ns : List Int}, intsW ws = some ns → ws = ns.map fun i => .dat (.int i)
  | [], ns, h => by cases h; rfl
  | w :: r, ns, h => by
    unfold intsW at h
    split at h
    · rename_i e; cases e
    · rename_i i r' e
      cases e
      obtain ⟨l, h1, h2⟩ := mpd h
      subst h2
      rw [intsW_eq h1]
      rfl
    · cases h
theorem vrs_ints {K : PySem.W.Frag} {wd : World} {φ : List Addr} {H : Hp} : ∀ {ns : List Int} {vs : List V}, VRs K wd φ H (ns.map fun i => .dat (.int i)) vs → vs = ns.map V.int
  | [], _, .nil => rfl
  | n :: ns, _, .cons h1 h2 => by
    cases h1 with
    | dat h1 =>
      cases h1
      rw [vrs_ints h2]
      rfl
theorem vrs_of_ints {K : PySem.W.Frag} {wd : World} {φ : List Addr} {H : Hp} : ∀ {ns : List Int}, VRs K wd φ H (ns.map fun i => .dat (.int i)) (ns.map V.int)
  | [] => .nil
  | n :: ns => .cons (.dat (.int n)) vrs_of_ints
section
variable {X : Cx} {tg iter e : Expr} {ρ : Rho} {m : M W} {p0 pos cp kp : Pos} {n1 : Nat}
theorem lm_sortR (hm : X.mg "sorted" = none) (ha : EM X e ρ m) (hg : Gl X "sorted" := by rfl) (hs : starEach [e] X.env = (false, eval e X.env) :: starEach [] X.env := by rfl)
    (hp : PE X (.Call (.Name "sorted" p0) [e] [⟨some "reverse", .Constant (.bool true) n1 cp, kp⟩] pos) (tCKw (rSortedKw X.K true [.bl true]) (sA X [e]) (fun σ H Q => Q [.bl true] H))) :
    LM X (.Call (.Name "sorted" p0) [e] [⟨some "reverse", .Constant (.bool true) n1 cp, kp⟩] pos) ρ (srtRM m) := fun p s Q q => by
  refine sE_of hp (sA_of (pa_cons pe_s pa_nil hs) (ha p (sat_bind s) _ fun w h1 v φ1 Hk1 Hr1 s1 p1 e1 hv => ?_))
  obtain ⟨us, hw, s2⟩ := sat_lf s1
  cases zk : kindT w with
  | true => rw [zk] at hw; cases hw
  | false =>
    rw [zk] at hw
    obtain ⟨ws, h4, hw⟩ := bnd hw
    obtain ⟨ns, h5, hw⟩ := mpd hw
    obtain ⟨ad, vs, rfl, g1, g2⟩ := VR.kF (X := X) p1.I hv zk h4
    rw [intsW_eq h5] at g2
    have ev := vrs_ints g2
    subst ev
    refine ⟨ad, ns, rfl, rfl, g1, fun ns' p hperm hord hnone => ?_⟩
    have en : ns' = sortR ns := ord_uniq (hperm.trans sortR_perm.symm) hord sortR_ord
    subst en
    subst hw
    exact q _ _ p _ φ1 Hk1 _ s2 (p1.I.outer hnone) (far_of p1.I.out hnone) (far_of p1.I.kr hnone) e1 vrs_of_ints
theorem nuMin2_int {a b : Int} : nuMin2 (.int a) (.int b) = some (.int (min a b)) := by
  show some (if decide (b < a) = true then V.int b else V.int a) = _
  by_cases q : b < a
  · rw [if_pos (decide_eq_true q)]
    have : min a b = b := by omega
    rw [this]
  · rw [if_neg (by rw [decide_eq_false q]; exact Bool.false_ne_true)]
    have : min a b = a := by omega
    rw [this]
theorem min3_f (hc : X.calm = true) : BF X (.builtin "min") fMin3 := fun ws w h => by
  unfold fMin3 at h
  split at h
  · rename_i a b c
    cases h
    refine ⟨rfl, _, call_min3Nu hc, fun φ us Hk Hr kr hv Q q => ?_⟩
    cases hv with
    | cons h1 hv =>
      cases hv with
      | cons h2 hv =>
        cases hv with
        | cons h3 hv =>
          cases hv
          cases h1 with
          | dat h1 =>
            cases h1
            cases h2 with
            | dat h2 =>
              cases h2
              cases h3 with
              | dat h3 =>
                cases h3
                refine ⟨_, _, _, .int (min (min a b) c), rfl, ?_, q _ Hr (Same.refl _) (.dat (.int _))⟩
                show (nuMin2 (.int a) (.int b)).bind (fun m => nuMin2 m (.int c)) = _
                rw [nuMin2_int]
                exact nuMin2_int
  · cases h
end
end Hx
/-! pop(0), a power; runs told by hand -/
noncomputable section
namespace Hx
open PySem L2 Pd Gn PySem.Spec PyProof.Rows Zq
def pPow18 : PyData → PyData → Option PyData
  | .int i, .int j => gd (decide (i = 10) && decide (j = 18)) (some (.int (10 ^ 18)))
  | _, _ => none
theorem pow_f {X : Cx} : OF X (binaryOp .Pow) (l2 pPow18) := of_l2 fun x y d h => by
  unfold pPow18 at h
  split at h
  · obtain ⟨g1, g2⟩ := gd_some h
    rw [Bool.and_eq_true] at g1
    have h1 := of_decide_eq_true g1.1
    have h2 := of_decide_eq_true g1.2
    subst h1 h2
    cases g2
    exact ⟨_, op_pow, rd_int (i := 10) (j := 18) ⟨by decide, by decide, by decide⟩⟩
  · cases h
/-- x.pop(0) -/
def pop0M (m1 : M W) : M W := bd m1 fun o => bd (isL o) fun p => bd (lf (p.2[0]?)) fun y => bd (putL p.1 (p.2.eraseIdx 0)) fun _ => rt y
theorem VRs.erase0 {K : PySem.W.Frag} {wd : World} {φ : List Addr} {H : Hp} : ∀ {ws : List W} {vs : List V}, VRs K wd φ H ws vs → VRs K wd φ H (ws.eraseIdx 0) (vs.eraseIdx 0)
  | _, _, .nil => .nil
  | _, _, .cons _ h => h
theorem em_pop0 {X : Cx} {ρ : Rho} {o e : Expr} {m1 : M W} {p1 cpos : Pos} (ho : EM X o ρ m1) (hp : PE X (.Call (.Attribute o "pop" p1) [e] [] cpos) (tBM X.K "list" rPopAt (sE X o) (tCons (tC (.int 0)) tNil))) : EM X (.Call (.Attribute o "pop" p1) [e] [] cpos) ρ (pop0M m1) := fun p s Q q => by
  refine sE_of hp (ho p (sat_bind s) _ fun ow h1 ov φ1 Hk1 Hr1 s1 p1 e1 hov => ?_)
  obtain ⟨i, ws, rfl, g1, s2⟩ := isL_ok (sat_bind s1)
  obtain ⟨y, hy, s3⟩ := sat_lf (sat_bind s2)
  cases hov with
  | ref ha =>
    obtain ⟨vs, t1, t2⟩ := at_lst p1.I g1 ha
    obtain ⟨yv, hyv, ry⟩ := t2.get hy
    have lp : 0 < vs.length := (List.getElem?_eq_some_iff.mp hyv).1
    refine ⟨.inl ⟨rfl, _, .inl (.inl t1)⟩, _, vs, 0, 0, yv, rfl, rfl, t1, by decide, by decide, ?_, hyv, ?_⟩
    · exact seqIndex_of (by decide) (by exact_mod_cast lp)
    · have I3 := p1.I.putL (vs := vs) g1 ha t2.erase0
      exact q _ _ _ _ _ _ s3 (p1.go I3 Ex.refl) e1 ry
theorem sat_bd {α β : Type} {m : M α} {f : α → M β} {h : Hs} {P : β → Hs → Prop} {E : Xc → Hs → Prop} (s : (m h).sat (fun a h' => (f a h').sat P E) E) : (bd m f h).sat P E := sat_of (t := m h) s
theorem sat_forM {β : Type} {st : W → β → M (Res W β)} {J : Nat → β → Hs → Prop} {E : Xc → Hs → Prop} : ∀ {ws : List W} {n : Nat} {z : β} {h : Hs}, (∀ i w z h, ws[i]? = some w → J (n + i) z h → (st w z h).sat (fun r h' => ∃ z', r = .nxt z' ∧ J (n + i + 1) z' h') E) → J n z h → (forM st ws z h).sat (fun r h' => ∃ z', r = .nxt z' ∧ J (n + ws.length) z' h') E
  | [], n, z, h, _, j => ⟨z, rfl, j⟩
  | w :: ws, n, z, h, hs, j => by
    show (bd (st w z) _ h).sat _ _
    refine sat_bd (sat_mono (fun r h' hr => ?_) (fun _ _ x => x) (hs 0 w z h rfl j))
    obtain ⟨z', rfl, j'⟩ := hr
    have ih := sat_forM (st := st) (J := J) (E := E) (ws := ws) (n := n + 1) (z := z') (h := h') (fun i w z h hi ji => by
      have := hs (i + 1) w z h (by simpa using hi) (by rw [show n + (i + 1) = n + 1 + i by omega]; exact ji)
      rw [show n + (i + 1) + 1 = n + 1 + i + 1 by omega] at this
      exact this) j'
    rw [show n + (w :: ws).length = n + 1 + ws.length by rw [List.length_cons]; omega]
    exact ih
def HL (l : List W) : Hs := ⟨1, [(0, .lst l)]⟩
/-- numbers below 1009, at most n of them -/
def NumOK (l : List W) (n : Nat) : Prop := l.length ≤ n ∧ ∀ w ∈ l, ∃ i : Int, w = .dat (.int i) ∧ 0 ≤ i ∧ i < 1009
theorem NumOK.le {l : List W} {n m : Nat} (h : NumOK l n) (e : n ≤ m) : NumOK l m := ⟨Nat.le_trans h.1 e, h.2⟩
theorem NumOK.add {l : List W} {n : Nat} (h : NumOK l n) {c : Int} : NumOK (l ++ [.dat (.int (c % 1009))]) (n + 1) := by
  refine ⟨by rw [List.length_append]; exact Nat.succ_le_succ h.1, fun w hw => ?_⟩
  rcases List.mem_append.mp hw with hw | hw
  · exact h.2 w hw
  · have := List.mem_singleton.mp hw
    subst this
    exact ⟨_, rfl, by omega, by omega⟩
theorem NumOK.ints : ∀ {l : List W} {n : Nat}, NumOK l n → ∃ ns : List Int, l = ns.map (fun i => .dat (.int i)) ∧ ns.length ≤ n ∧ ∀ x ∈ ns, 0 ≤ x ∧ x < 1009
  | [], n, _ => ⟨[], rfl, Nat.zero_le _, fun _ h => nomatch h⟩
  | w :: l, n, h => by
    obtain ⟨i, rfl, h1, h2⟩ := h.2 w List.mem_cons_self
    have hl := h.1
    rw [List.length_cons] at hl
    obtain ⟨ns, e, g1, g2⟩ := NumOK.ints (l := l) (n := n - 1) ⟨by omega, fun w hw => h.2 w (List.mem_cons_of_mem _ hw)⟩
    refine ⟨i :: ns, by rw [e]; rfl, by rw [List.length_cons]; omega, fun x hx => ?_⟩
    rcases List.mem_cons.mp hx with e | hx
    · rw [e]; exact ⟨h1, h2⟩
    · exact g2 x hx
theorem app_HL {l : List W} {w : W} {m2 : M W} {P : W → Hs → Prop} {E : Xc → Hs → Prop} (hl : l.length < 100000) (h2 : m2 (HL l) = .ok w (HL l)) (q : P (.dat .none) (HL (l ++ [w]))) : (appM (rt (.ref 0)) m2 (HL l)).sat P E := by
  unfold appM
  refine sat_bd (show (T.ok (W.ref 0) (HL l)).sat _ _ from ?_)
  refine sat_bd (show (T.ok (0, l) (HL l)).sat _ _ from ?_)
  refine sat_bd ?_
  rw [h2]
  refine sat_bd (show (T.ok (0, l) (HL l)).sat _ _ from ?_)
  refine sat_bd ?_
  have e : shortS l.length = true := by
    unfold shortS Nat.blt
    exact Nat.ble_eq_true_of_le hl
  show (lf (gd (shortS l.length) (some ())) (HL l)).sat _ _
  rw [e]
  exact q
end Hx
/-! the numbers of a script -/
noncomputable section
namespace Hx
open PySem L2 Pd Gn PySem.Spec PyProof.Rows Zq
abbrev intW (ns : List Int) : List W := ns.map fun i => .dat (.int i)
theorem setO_setO {i : Nat} {x y : Ob} : ∀ {l : List (Nat × Ob)}, setO i y (setO i x l) = setO i y l
  | [] => rfl
  | (j, o) :: r => by
    unfold setO
    cases q : Nat.beq i j with
    | true => simp only [setO, q]
    | false =>
      simp only [setO, q]
      rw [setO_setO]
theorem setO_same {i : Nat} {x : Ob} : ∀ {l : List (Nat × Ob)}, getO i l = some x → setO i x l = l
  | [], _ => rfl
  | (j, o) :: r, h => by
    unfold getO at h
    unfold setO
    cases q : Nat.beq i j with
    | true =>
      rw [q] at h
      cases h
      rfl
    | false =>
      rw [q] at h
      show (j, o) :: setO i x r = _
      rw [setO_same h]
theorem put_put {h : Hs} {i : Nat} {x y : Ob} : (h.put i x).put i y = h.put i y := by
  unfold Hs.put
  rw [setO_setO]
theorem put_same {h : Hs} {i : Nat} {x : Ob} (e : h.get i = some x) : h.put i x = h := by
  unfold Hs.put
  rw [setO_same e]
theorem new_put {h : Hs} {x y : Ob} : (h.new x).put h.nx y = h.new y := by
  show (⟨h.nx + 1, setO h.nx y ((h.nx, x) :: h.os)⟩ : Hs) = ⟨h.nx + 1, (h.nx, y) :: h.os⟩
  unfold setO
  rw [beq_self]
section
variable {K : PySem.W.Frag} {wd : World} {φ : List Addr} {hs : Hs} {Ho Hk Hr : Hp}
theorem Ok.retype (I : Ok K wd φ hs Ho Hk Hr) {i : Nat} {o : Ob} (o' : Ob) (h : hs.get i = some o) (ho : ∀ a, OR K wd φ Hk Hr a o → OR K wd φ Hk Hr a o') : Ok K wd φ (hs.put i o') Ho Hk Hr := by
  have gs : (hs.put i o').get i = some o' := getO_set_self h
  have gn : ∀ j, j ≠ i → (hs.put i o').get j = hs.get j := fun j e => getO_set_ne e
  have gz : ∀ j, (hs.put i o').get j ≠ none → hs.get j ≠ none := fun j e => by
    by_cases q : j = i
    · rw [q, h]; exact fun z => nomatch z
    · rw [gn j q] at e; exact e
  refine ⟨I.kr, I.out, I.len, fun j v g => ?_, fun j v g => ?_, fun j k b hj hk h1 h2 => I.inj j k b (gz j hj) (gz k hk) h1 h2, I.dis⟩
  · by_cases q : j = i
    · rw [q]; exact I.low i o h
    · rw [gn j q] at g; exact I.low j v g
  · by_cases q : j = i
    · subst q
      rw [gs] at g
      cases g
      obtain ⟨a, q1, q2, q3, q4⟩ := I.obj j o h
      exact ⟨a, q1, q2, q3, ho a q4⟩
    · rw [gn j q] at g
      exact I.obj j v g
theorem nums_lst {a : Addr} {ns : List Int} (hl : ns.length ≤ 4000) (hb : ∀ x ∈ ns, 0 ≤ x ∧ x < 1009) (h : OR K wd φ Hk Hr a (.lst (intW ns))) : OR K wd φ Hk Hr a .nums := by
  obtain ⟨vs, h1, h2⟩ := h
  have e := vrs_ints h2
  subst e
  exact ⟨ns, h1, hl, hb⟩
end
section
variable {P : Program} {w : World} {K : PySem.W.Frag} {mg : Str → Option Value} {base : Heap} {f : Addr} {fd : FuncData} {ps : List Str} {k : Nat}
theorem fn_next {mc : List W → M W} (hmc : ∀ (i : Nat) (m : Int) (hs : Hs) (ns : List Int), hs.get i = some (.lst (intW ns)) → (∀ x ∈ ns, 0 ≤ x) → 0 < m →
      (mc [.ref i, .dat (.int m)] hs).sat (fun w h => ∃ v : Nat, (v : Int) < m ∧ w = .dat (.int (v : Nat)) ∧ ∃ ns', h = hs.put i (.lst (intW ns')) ∧ ns'.length ≤ ns.length ∧ ∀ x ∈ ns', x ∈ ns) FF)
    (F : FnOk P w K mg base (L2.CX P w) k f fd ps (spM K w mg 2 mc)) : FnOk P w K mg base (L2.CX P w) k f fd ps (spM K w mg 2 mNext) :=
  F.imp fun vs H Q E h => by
    obtain ⟨ph, hs, Ho, Hk, ws, P', Ex', h1, I, h2, s1, q1, q2⟩ := h
    unfold mNext at s1
    split at s1
    · rename_i i m
      cases g : hs.get i with
      | none => rw [g] at s1; exact s1.elim
      | some o =>
        rw [g] at s1
        cases o with
        | nums =>
          cases z : (decide (0 < m) && decide (m < 1000000)) with
          | false => simp only [z] at s1; exact s1.elim
          | true =>
            simp only [z] at s1
            rw [Bool.and_eq_true] at z
            have hm := of_decide_eq_true z.1
            obtain ⟨a, r1, r2, r3, ns, r4, r5, r6⟩ := I.obj i _ g
            have I1 : Ok K w ph (hs.put i (.lst (intW ns))) Ho Hk H := by
              have hI := I
              have gs : (hs.put i (.lst (intW ns))).get i = some (.lst (intW ns)) := getO_set_self g
              refine ⟨I.kr, I.out, I.len, fun j v g' => ?_, fun j v g' => ?_, fun j k b hj hk h1 h2 => I.inj j k b ?_ ?_ h1 h2, I.dis⟩
              · by_cases q : j = i
                · rw [q]; exact I.low i _ g
                · rw [show (hs.put i (.lst (intW ns))).get j = hs.get j from getO_set_ne q] at g'
                  exact I.low j v g'
              · by_cases q : j = i
                · subst q
                  rw [gs] at g'
                  cases g'
                  exact ⟨a, r1, r2, r3, _, r4, vrs_of_ints⟩
                · rw [show (hs.put i (.lst (intW ns))).get j = hs.get j from getO_set_ne q] at g'
                  exact I.obj j v g'
              · by_cases q : j = i
                · rw [q, g]; exact fun z => nomatch z
                · rw [show (hs.put i (.lst (intW ns))).get j = hs.get j from getO_set_ne q] at hj
                  exact hj
              · by_cases q : k = i
                · rw [q, g]; exact fun z => nomatch z
                · rw [show (hs.put i (.lst (intW ns))).get k = hs.get k from getO_set_ne q] at hk
                  exact hk
            refine ⟨ph, hs.put i (.lst (intW ns)), Ho, Hk, [.ref i, .dat (.int m)], _, FF, rfl, I1, h2, hmc i m _ ns (getO_set_self g) (fun x hx => (r6 x hx).1) hm, fun w' hs' v φ' Hk' H' hp I' e hv => ?_, fun _ _ _ _ _ _ _ e => e.elim⟩
            obtain ⟨vv, hv1, rfl, ns', rfl, hl, hsub⟩ := hp
            rw [put_put] at I'
            have I2 := I'.retype .nums (getO_set_self g) fun a h => nums_lst (by omega) (fun x hx => r6 x (hsub x hx)) h
            rw [put_put, put_same g] at I2
            exact q1 _ hs v φ' Hk' H' (s1 vv (by omega)) I2 e hv
        | _ => exact s1.elim
    · exact s1.elim
theorem fn_numbers {mc : List W → M W} (hmc : ∀ ns : List Int, ns.length ≤ 63 → (mc [.dat (.list (ns.map .int))] ⟨0, []⟩).sat (fun w h => w = .ref 0 ∧ ∃ l, h = HL l ∧ NumOK l 4000) FF)
    (F : FnOk P w K mg base (L2.CX P w) k f fd ps (spM K w mg 1 mc)) : FnOk P w K mg base (L2.CX P w) k f fd ps (spM K w mg 1 mNumbers) :=
  F.imp fun vs H Q E h => by
    obtain ⟨ph, hs, Ho, Hk, ws, P', Ex', h1, I, h2, s1, q1, q2⟩ := h
    unfold mNumbers at s1
    split at s1
    · cases h2 with
      | cons h2 h3 =>
        cases h3
        cases h2 with
        | scr hl hd =>
          rename_i v ns
          refine ⟨[], ⟨0, []⟩, _, Hk, [.dat (.list (ns.map .int))], _, FF, rfl, I.iso, .cons (.dat hd) .nil, hmc ns hl, fun w' hs' v φ' Hk' H' hp I' e hv => ?_, fun _ _ _ _ _ _ _ e => e.elim⟩
          obtain ⟨rfl, l, rfl, hn⟩ := hp
          obtain ⟨ns', rfl, hl', hb'⟩ := hn.ints
          cases hv with
          | @ref _ a ha =>
            have J := I.back I' e.k
            have g0 : (HL (intW ns')).get 0 = some (.lst (intW ns')) := rfl
            obtain ⟨a', r1, r2, r3, vs', r4, r5⟩ := I'.obj 0 _ g0
            rw [ha] at r1
            cases r1
            have ev := vrs_ints r5
            subst ev
            have no : Ho a = none := by
              cases z : Ho a with
              | none => rfl
              | some u =>
                rw [isoO_out I z, z] at r3
                cases r3
            have ne : ∀ (i : Nat) (o : Ob) (b : Addr), hs.get i = some o → ph[i]? = some b → b ≠ a := fun i o b g q z => by
              subst z
              obtain ⟨c, q1, _, _, q4⟩ := I.obj i o g
              obtain ⟨u, hu⟩ := q4.there
              rw [q] at q1
              cases q1
              rw [isoO_in g q, hu] at r3
              cases r3
            have J2 : Ok K w ph hs (upd Ho a (.lst (ns'.map V.int))) Hk' H' := by
              refine ⟨J.kr, fun b u g => ?_, J.len, J.low, fun i o g => ?_, J.inj, fun b u g => ?_⟩
              · by_cases q : b = a
                · subst q
                  rw [upd_same] at g
                  rw [r4]; exact g
                · rw [upd_ne q] at g
                  exact J.out _ _ g
              · obtain ⟨b, q1, q2, q3, q4⟩ := J.obj i o g
                exact ⟨b, q1, q2, by rw [upd_ne (ne i o b g q1)]; exact q3, q4⟩
              · by_cases q : b = a
                · rw [q]; exact r2
                · rw [upd_ne q] at g
                  exact J.dis _ _ g
            obtain ⟨I3, e3, hv3⟩ := J2.claimN no r2 (vrs_of_ints (ns := ns'))
            have I4 := I3.retype .nums get_new_self fun a h => nums_lst hl' hb' h
            rw [new_put] at I4
            exact q1 _ _ _ _ Hk' H' s1 I4 ⟨e3.f, e.k.trans e3.k⟩ hv3
    · exact s1.elim
end
end Hx
/-! sorted, of data of any kind; what is never reached -/
noncomputable section
namespace Hx
open PySem L2 Pd Gn PySem.Spec PyProof.Rows Zq
theorem sm_bad {X : Cx} {ρE ρ : Rho} {sts : List Stmt} {α : Type} {g : α → Rho} : SM X ρE sts ρ (fun _ => .bad : M (Res W α)) g := fun p s => s.elim
theorem em_bad {X : Cx} {ρ : Rho} {e : Expr} : EM X e ρ (fun _ => .bad) := fun p s => s.elim
/-! data, read -/
section
variable {X : Cx} {pins : List (Addr × Obj)} {σ : L2.St} {H B : Hp} {s : Shared}
mutual
theorem dp_reads (I : Inv X pins σ H s) (sm : Same B H) : ∀ {d : PyData} {v : V} {u : Value}, Dp X.K B v d → L2.RelV v u → ∃ as, Reads s.heap u d as
  | .none, v, u, h, r => by
    cases h
    have r : u = .none := r
    subst r
    exact ⟨_, .none⟩
  | .bool b, v, u, h, r => by
    cases h
    have r : u = .bool b := r
    subst r
    exact ⟨_, .bool b⟩
  | .int i, v, u, h, r => by
    cases h
    obtain ⟨t, rfl⟩ := r
    exact ⟨_, .int i t⟩
  | .str x, v, u, h, r => by
    cases h
    obtain ⟨t, rfl⟩ := r
    exact ⟨_, .str x t⟩
  | .tuple ds, v, u, h, r => by
    cases h with
    | tup hs ha =>
      have r : u = .ref _ := r
      subst r
      obtain ⟨its, rv, ⟨o, ho, hc, n, hd⟩, _⟩ := I.tuple (same_t sm hs)
      obtain ⟨as, ra⟩ := dps_reads I sm ha rv
      exact ⟨as, .tuple ho hc hd (by simpa using ra)⟩
  | .list ds, v, u, h, r => by
    cases h with
    | lst hs ha =>
      have r : u = .ref _ := r
      subst r
      obtain ⟨its, rv, ⟨o, n, ho, hc, _, hd⟩, _⟩ := I.list (same_l sm hs)
      obtain ⟨as, ra⟩ := dps_reads I sm ha rv
      exact ⟨_, .list ho hc hd (by simpa using ra)⟩
  | .dict ds, v, u, h, r => by cases h
theorem dps_reads (I : Inv X pins σ H s) (sm : Same B H) : ∀ {ds : List PyData} {vs : List V} {us : List Value}, DpAll X.K B vs ds → Vals vs us → ∃ as, ReadsAll s.heap us ds as
  | [], vs, us, h, r => by
    cases h
    cases r
    exact ⟨_, .nil⟩
  | d :: ds, vs, us, h, r => by
    cases h with
    | cons h1 h2 =>
      cases r with
      | cons r1 r2 =>
        obtain ⟨as, q1⟩ := dp_reads I sm h1 r1
        obtain ⟨bs, q2⟩ := dps_reads I sm h2 r2
        exact ⟨_, .cons q1 q2⟩
end
theorem each_dps : ∀ {ds : List PyData} {vs : List V} {us : List Value}, DpAll X.K B vs ds → Vals vs us → PySem.W.EachIs (fun u d => ∃ v, L2.RelV v u ∧ Dp X.K B v d) us ds
  | [], _, _, h, r => by
    cases h
    cases r
    exact .nil
  | d :: ds, _, _, h, r => by
    cases h with
    | cons h1 h2 =>
      cases r with
      | cons r1 r2 => exact .cons ⟨_, r1, h1⟩ (each_dps h2 r2)
theorem each_reads (I : Inv X pins σ H s) (sm : Same B H) : ∀ {ds : List PyData} {us : List Value}, PySem.W.EachIs (fun u d => ∃ v, L2.RelV v u ∧ Dp X.K B v d) us ds → PySem.W.EachIs (fun u d => ∃ as, Reads s.heap u d as) us ds
  | [], _, .nil => .nil
  | _ :: _, _, .cons ⟨v, r, h⟩ t => .cons (dp_reads I sm h r) (each_reads I sm t)
theorem each_back {K : PySem.W.Frag} : ∀ {ds : List PyData} {us : List Value}, PySem.W.EachIs (fun u d => ∃ v, L2.RelV v u ∧ Dp K B v d) us ds → ∃ ys, Vals ys us ∧ DpAll K B ys ds
  | [], _, .nil => ⟨[], .nil, .nil⟩
  | _ :: _, _, .cons ⟨v, r, h⟩ t => by
    obtain ⟨ys, q1, q2⟩ := each_back t
    exact ⟨v :: ys, .cons r q1, .cons h q2⟩
end
/-- sorted(xs), xs data -/
def rSortedD (K : PySem.W.Frag) : List V → Hp → VK → Prop := fun vs H Q => ∃ (a : Addr) (xs : List V) (ds : List PyData) (B : Hp), vs = [V.ref a] ∧ SqL K H a xs ∧ Same B H ∧ DpAll K B xs ds ∧ PySem.W.AllAlike ds ∧ PySem.W.Sortable ds ∧ (∀ d ∈ ds, d.depth ≤ 32) ∧
  ∀ (ys : List V) (p : Addr), DpAll K B ys (ds.mergeSort (PySem.W.dataLe false id)) → H p = none → Q (.ref p) (upd H p (.lst ys))
theorem cr_sortedD {X : Cx} (hu : X.A.units + 100 < cLine) : CallR X (.builtin "sorted") (rSortedD X.K) := by
  intro pins s σ H vs us Q I r h
  obtain ⟨a, xs, ds, B, rfl, hs, sm, hd, hal, hso, hdp, q⟩ := h
  obtain rfl := Vals.ref1 r
  obtain ⟨its, rv, hl, hz⟩ := I.list hs
  have e1 := each_dps (X := X) hd rv
  have e2 := each_reads I sm e1
  have hlen : ds.length = xs.length := by rw [DpAll.len hd]
  refine PySem.W.sorted_data (enc := id) hl.isList e1 e2 (by simpa using hal) (by simpa using hso) (by rw [hlen]; exact hz) (fun d hd' => ?_) fun out ol oe => ?_
  · have := hdp d hd'
    show X.A.units + 2 + d.depth < cLine
    omega
  · obtain ⟨ys, k1, k2⟩ := each_back oe
    obtain ⟨ep, he'⟩ := PyProof.Rows.sortedAll_at s.heap its out.toArray
    have hyl : ys.length ≤ sizeLine := by rw [k1.length, ol, hlen]; exact hz
    exact ⟨.ref _, upd H (s.heap.objs.size + 1) (.lst ys), I.laid (t' := s.toks) (fun _ _ => PyProof.Rows.sortedAll_old) (Nat.le_succ _) ⟨hyl, out, ep, k1, he'⟩, rfl, q ys _ k2 (I.hok.fresh (Nat.le_succ _))⟩
end Hx
/-! sorted, of data: its mirror -/
noncomputable section
namespace Hx
open PySem L2 Pd Gn PySem.Spec PyProof.Rows Zq
/-- at most one item -/
def rSorted1 (K : PySem.W.Frag) : List V → Hp → VK → Prop := fun vs H Q => ∃ (a : Addr) (xs : List V), vs = [V.ref a] ∧ SqL K H a xs ∧ xs.length ≤ 1 ∧ ∀ p : Addr, H p = none → Q (.ref p) (upd H p (.lst xs))
theorem cr_sorted1 {X : Cx} : CallR X (.builtin "sorted") (rSorted1 X.K) := by
  intro pins s σ H vs us Q I r h
  obtain ⟨a, xs, rfl, hs, h1, q⟩ := h
  obtain rfl := Vals.ref1 r
  obtain ⟨its, rv, hl, hz⟩ := I.list hs
  have hle : its.length ≤ 1 := by rw [← rv.length]; exact h1
  refine SrtO.sorted_ord swo_none hl.isList (by rw [← rv.length]; exact hz) (fun h2 => absurd h2 (by omega)) fun out _ hb => ?_
  have hp : out.Perm its := hb.perm
  have e : out = its := by
    match its, hle, hp with
    | [], _, hp => exact hp.eq_nil
    | [x], _, hp => exact List.perm_singleton.mp hp
    | _ :: _ :: _, hle, _ => simp only [List.length_cons] at hle; omega
  subst e
  obtain ⟨ep, he'⟩ := PyProof.Rows.sortedAll_at s.heap out out.toArray
  exact ⟨.ref _, upd H (s.heap.objs.size + 1) (.lst xs), I.laid (t' := s.toks) (fun _ _ => PyProof.Rows.sortedAll_old) (Nat.le_succ _) ⟨hz, out, ep, rv, he'⟩, rfl, q _ (I.hok.fresh (Nat.le_succ _))⟩
/-! the order -/
abbrev dLt (a b : PyData) : Bool := PySem.W.dataLt a b
theorem dLt_trans {a b c : PyData} (h : dLt a b = true) (g : dLt b c = true) : dLt a c = true := PyProof.Rows.lex_trans _ _ _ h g
theorem dLt_irr {a : PyData} : dLt a a = false := PyProof.Rows.lex_irrefl _
theorem dLt_asymm {a b : PyData} (h : dLt a b = true) : dLt b a = false := by
  cases q : dLt b a with
  | false => rfl
  | true =>
    have := dLt_trans h q
    rw [dLt_irr] at this
    cases this
theorem le_trans' (a b c : PyData) (h : PySem.W.dataLe false id a b = true) (g : PySem.W.dataLe false id b c = true) : PySem.W.dataLe false id a c = true := by
  have h : (!dLt b a) = true := h
  have g : (!dLt c b) = true := g
  show (!dLt c a) = true
  cases q : dLt c a with
  | false => rfl
  | true =>
    rcases PyProof.Rows.lex_negTrans _ (PySem.W.keyToks b) _ q with z | z
    · have z : dLt c b = true := z
      rw [z] at g
      cases g
    · have z : dLt b a = true := z
      rw [z] at h
      cases h
theorem le_total' (a b : PyData) : (PySem.W.dataLe false id a b || PySem.W.dataLe false id b a) = true := by
  show ((!dLt b a) || (!dLt a b)) = true
  cases q : dLt b a with
  | false => rfl
  | true =>
    rw [dLt_asymm q]
    rfl
def insD (x : PyData) : List PyData → List PyData
  | [] => [x]
  | y :: r => match dLt y x with | true => y :: insD x r | false => x :: y :: r
def srtD : List PyData → List PyData
  | [] => []
  | x :: r => insD x (srtD r)
def ascD : List PyData → Bool
  | [] => true
  | x :: r => match r with | [] => true | y :: _ => match dLt x y with | true => ascD r | false => false
theorem insD_perm {x : PyData} : ∀ {l : List PyData}, (insD x l).Perm (x :: l)
  | [] => .refl _
  | y :: r => by
    unfold insD
    cases q : dLt y x with
    | true => exact (List.Perm.cons y insD_perm).trans (.swap x y r)
    | false => exact .refl _
theorem srtD_perm : ∀ {l : List PyData}, (srtD l).Perm l
  | [] => .refl _
  | x :: r => insD_perm.trans (.cons x srtD_perm)
theorem ascD_pw : ∀ {l : List PyData}, ascD l = true → l.Pairwise (fun a b => dLt a b = true)
  | [], _ => .nil
  | [x], _ => List.pairwise_singleton _ _
  | x :: y :: r, h => by
    unfold ascD at h
    cases q : dLt x y with
    | false => simp only [q] at h; cases h
    | true =>
      simp only [q] at h
      have ih := ascD_pw (l := y :: r) h
      refine List.pairwise_cons.mpr ⟨fun z hz => ?_, ih⟩
      rcases List.mem_cons.mp hz with e | hz
      · rw [e]; exact q
      · exact dLt_trans q ((List.pairwise_cons.mp ih).1 z hz)
theorem ms_uniq : ∀ {l m : List PyData}, m.Perm l → l.Pairwise (fun a b => dLt a b = true) → m.Pairwise (fun a b => PySem.W.dataLe false id a b = true) → m = l
  | [], m, h, _, _ => h.eq_nil
  | x :: l, [], h, _, _ => by cases h.symm.eq_nil
  | x :: l, y :: m, h, h1, h2 => by
    obtain ⟨a1, a2⟩ := List.pairwise_cons.mp h1
    obtain ⟨b1, b2⟩ := List.pairwise_cons.mp h2
    have e : y = x := by
      rcases List.mem_cons.mp (h.mem_iff.mp (List.mem_cons_self (a := y) (l := m))) with e | hy
      · exact e
      · have lt := a1 y hy
        rcases List.mem_cons.mp (h.mem_iff.mpr (List.mem_cons_self (a := x) (l := l))) with e | hx
        · exact e.symm
        · have : (!dLt x y) = true := b1 x hx
          rw [lt] at this
          cases this
    subst e
    rw [ms_uniq (List.Perm.cons_inv h) a2 b2]
theorem ms_eq {ds : List PyData} (h : ascD (srtD ds) = true) : ds.mergeSort (PySem.W.dataLe false id) = srtD ds :=
  ms_uniq ((List.mergeSort_perm _ _).trans srtD_perm.symm) (ascD_pw h) (List.pairwise_mergeSort le_trans' le_total' ds)
def tupNE : PyData → Bool
  | .tuple (_ :: _) => true
  | _ => false
def okSort (ds : List PyData) : Bool := ascD (srtD ds) && (ds.all (fun a => ds.all fun b => PySem.W.alike a b) && (ds.all tupNE && ds.all fun d => Nat.ble d.depth 32))
def srtDM (m : M W) : M (List W) := bd m fun w => fun h => lf (match kindT w with
  | true => none
  | false => (itemsH h w).bind fun ws => match Nat.ble ws.length 1 with
    | true => some ws
    | false => (datsOf ws).bind fun ds => gd (okSort ds) (some ((srtD ds).map .dat))) h
theorem lm_sortD {X : Cx} {ρ : Rho} {e : Expr} {m : M W} {p0 pos : Pos} {k : Nat} (hr : Room k X.A) (hm : X.mg "sorted" = none) (ha : EM X e ρ m) (hg : Gl X "sorted" := by rfl) (he : starEach [e] X.env = (false, eval e X.env) :: starEach [] X.env := by rfl) (hpl : (backTo pos (starEach ([] : List Expr) X.env)).any (·.1) = false := by rfl) :
    LM X (.Call (.Name "sorted" p0) [e] [] pos) ρ (srtDM m) := fun p s Q q => by
  refine sE_of (pe_callB (id := "sorted") wCall_r hg hm (by decide +kernel) (pa_cons pe_s pa_nil he) (by decide) (by decide) he hpl) (ha p (sat_bind s) _ fun w h1 v φ1 Hk1 Hr1 s1 p1 e1 hv => ?_)
  obtain ⟨us, hw, s2⟩ := sat_lf s1
  cases zk : kindT w with
  | true => rw [zk] at hw; cases hw
  | false =>
    rw [zk] at hw
    obtain ⟨ws, h4, hw⟩ := bnd hw
    obtain ⟨ad, vs, rfl, g1, g2⟩ := VR.kF (X := X) p1.I hv zk h4
    cases zl : Nat.ble ws.length 1 with
    | true =>
      rw [zl] at hw
      cases hw
      exact wCall_of cr_sorted1 ⟨ad, vs, rfl, g1, by rw [VRs.len g2]; exact Nat.le_of_ble_eq_true zl, fun p hnone => q _ _ p _ φ1 Hk1 _ s2 (p1.I.outer hnone) (far_of p1.I.out hnone) (far_of p1.I.kr hnone) e1 g2⟩
    | false =>
      rw [zl] at hw
      obtain ⟨ds, h5, hw⟩ := bnd hw
      obtain ⟨g, hw⟩ := gd_some hw
      cases hw
      unfold okSort at g
      rw [Bool.and_eq_true, Bool.and_eq_true, Bool.and_eq_true] at g
      obtain ⟨k1, k2, k3, k4⟩ := g
      have eds := datsOf_eq h5
      subst eds
      refine wCall_of (cr_sortedD (by have := hr.un; omega)) ⟨ad, vs, ds, Hk1, rfl, g1, p1.I.kr, VRs.dats g2, fun d hd d' hd' => List.all_eq_true.mp (List.all_eq_true.mp k2 d hd) d' hd', .inl fun d hd => ?_, fun d hd => Nat.le_of_ble_eq_true (List.all_eq_true.mp k4 d hd), fun ys p hy hnone => ?_⟩
      · have := List.all_eq_true.mp k3 d hd
        unfold tupNE at this
        split at this
        · exact ⟨_, _, rfl⟩
        · cases this
      · rw [ms_eq k1] at hy
        exact q _ _ p _ φ1 Hk1 _ s2 (p1.I.outer hnone) (far_of p1.I.out hnone) (far_of p1.I.kr hnone) e1 (VRs.of_dats hy)
end Hx
/-! xs[::-1]; a, b = a list; xs.index(y); d.setdefault(k, []) -/
noncomputable section
namespace Hx
open PySem L2 Pd Gn PySem.Spec PyProof.Rows Zq
theorem VRs.rev {K : PySem.W.Frag} {wd : World} {φ : List Addr} {H : Hp} : ∀ {ws : List W} {vs : List V}, VRs K wd φ H ws vs → VRs K wd φ H ws.reverse vs.reverse
  | _, _, .nil => .nil
  | _, _, .cons h1 h2 => by
    rw [List.reverse_cons, List.reverse_cons]
    exact (VRs.rev h2).app (.cons h1 .nil)
section
variable {X : Cx} {ρE ρ : Rho} {a b o e f : Expr} {m m1 m2 : M W} {p1 p2 p3 pos apos cpos : Pos} {n k : Nat}
/-- xs[::-1], xs a list -/
def revM (m : M W) : M (List W) := bd m fun w => fun h => lf (match kindT w with | true => none | false => (itemsH h w).map List.reverse) h
theorem lm_rev (ha : EM X e ρ m) : LM X (.Subscript e (.Slice none none (some (.UnaryOp .USub (.Constant (.int 1) k p1) p2)) p3) pos) ρ (revM m) := fun p s Q q => by
  refine sE_of (pe_revL pe_s) (ha p (sat_bind s) _ fun w h1 v φ1 Hk1 Hr1 s1 p1' e1 hv => ?_)
  obtain ⟨us, hw, s2⟩ := sat_lf s1
  cases zk : kindT w with
  | true => rw [zk] at hw; cases hw
  | false =>
    rw [zk] at hw
    obtain ⟨ws, h4, hw⟩ := mpd hw
    subst hw
    obtain ⟨ad, vs, rfl, g1, g2⟩ := VR.kF (X := X) p1'.I hv zk h4
    exact ⟨ad, vs, rfl, g1, fun pp hnone => q _ _ pp _ φ1 Hk1 _ s2 (p1'.I.outer hnone) (far_of p1'.I.out hnone) (far_of p1'.I.kr hnone) e1 g2.rev⟩
end
/-- targets that take a list -/
def tgL {γ : Type} (n : Nat) (us : List W → Option γ) (w : W) : Option γ := (asL w).bind fun ws => match Nat.beq ws.length n with | true => us ws | false => none
theorem gm_lst {K : PySem.W.Frag} {wd : World} {ρ : Rho} {γ : Type} {ts : TGs} {n : Nat} {us : List W → Option γ} {f : γ → Rho} (h : GMs K wd ρ ts us f) : GM K wd ρ (gLst K n ts) (tgL n us) f := fun w b e φ Hk Hr σ v kr R hv Q q => by
  obtain ⟨ws, e1, e2⟩ := bnd e
  obtain ⟨a, vs, rfl, h1, h2⟩ := hv.asL e1
  cases z : Nat.beq ws.length n with
  | false => rw [z] at e2; cases e2
  | true =>
    rw [z] at e2
    exact ⟨a, vs, rfl, same_l kr h1, by rw [VRs.len h2]; exact Nat.eq_of_beq_eq_true z, h _ _ e2 φ Hk Hr σ _ kr R h2 _ q⟩
end Hx
/-! d.setdefault(k, x); a dict of lists is not changed any more -/
noncomputable section
namespace Hx
open PySem L2 Pd Gn PySem.Spec PyProof.Rows Zq
section
variable {X : Cx} {ρE ρ : Rho} {a b o e f : Expr} {sts : List Stmt} {m m1 m2 : M W} {p1 p2 p3 pos apos cpos : Pos} {n k : Nat} {α : Type} {g : α → Rho} {w : W}
def setdM (mo me mf : M W) : M W := bd mo fun x => bd (fun h => lf (isD h x) h) fun _ => bd me fun y => bd mf fun z => bd (isDm x) fun p => bd (lf (tkey y)) fun k => match dLook k p.2 with
  | some w => rt w
  | none => bd (lf (gd (shortS p.2.length) (some ()))) fun _ => bd (putDm p.1 (dPut k z p.2)) fun _ => rt z
theorem em_setd {mo me mf : M W} (hr : Room n X.A) (ho : EM X o ρ mo) (he : EM X e ρ me) (hf : EM X f ρ mf) (md : M2 X o "setdefault" apos e f cpos := by exact ⟨rfl, rfl, rfl, rfl⟩) : EM X (.Call (.Attribute o "setdefault" apos) [e, f] [] cpos) ρ (setdM mo me mf) := fun p s Q q => by
  refine sE_of (pe_dm2 PySem.F.slot_dict_setdefault PySem.F.type_dict_setdefault pe_s pe_s pe_s md) (ho p (sat_bind s) _ fun x h1 xv φ1 Hk1 Hr1 s1 p1 e1 hx => ?_)
  obtain ⟨kv0, hk0, s1⟩ := sat_lf (sat_bind s1)
  obtain ⟨ad0, es0, rfl, g0, _⟩ := isD_ok p1.I hx hk0
  refine ⟨⟨ad0, es0, rfl, g0⟩, he p1 (sat_bind s1) _ fun y h2 yv φ2 Hk2 Hr2 s2 p2 e2 hy => hf p2 (sat_bind s2) _ fun z h3 zv φ3 Hk3 Hr3 s3 p3 e3 hz => ?_⟩
  obtain ⟨i, kvs, rfl, gi, s4⟩ := isDm_ok (sat_bind s3)
  obtain ⟨k, h5, s5⟩ := sat_lf (sat_bind s4)
  obtain ⟨bb, rfl, g3, g4⟩ := tkey_ok h5 (hy.ex e3)
  have hx3 := hx.ex (e2.trans e3)
  have ee := e1.trans (e2.trans e3)
  cases hx3 with
  | ref ha =>
    obtain ⟨ad, q1, q2, q3, es, q4, q5⟩ := p3.I.obj i _ gi
    rw [ha] at q1
    cases q1
    intro pins st τ us I' rv
    cases rv with
    | @cons _ u1 _ _ r1 rv =>
      cases rv with
      | @cons _ u2 _ _ r2 rv =>
        cases rv with
        | @cons _ u3 _ _ r3 rv =>
          cases rv
          have r1 : u1 = .ref ad0 := r1
          subst r1
          have r2 : u2 = .ref bb := r2
          subst r2
          obtain ⟨z1, z2, xs, ex, dd⟩ := dic_rd I' (.inl q4) (DRs.mono Fx.refl p3.I.kr q5)
          have lx : xs.length = es.length := (Paired.length ex).symm
          have le := DRs.len q5
          have nod : (xs.map (·.1)).Nodup := by
            obtain ⟨_, _, _, _, _, _, _, _, hn⟩ := dd
            exact hn
          refine call_setdefault_heap (hsz := by rw [lx]; exact z1) (roomD hr) (key_is I' (Dp.mono p3.I.kr _ g3) g4) z2 dd (fun pp hp => ?_) (fun hnone h' dd' hs => ?_)
          · cases zz : dLook k kvs with
            | none => rw [look_none q5 ex zz] at hp; cases hp
            | some w' =>
              simp only [zz] at s5
              obtain ⟨pp', v', hp', rv', hvr⟩ := look_some q5 ex zz
              rw [hp] at hp'
              cases hp'
              exact ⟨v', Hr3, I'.tok _, rv', q _ _ _ _ _ _ s5 p3 ee hvr⟩
          · cases zz : dLook k kvs with
            | some w' =>
              obtain ⟨pp', v', hp', _, _⟩ := look_some q5 ex zz
              rw [hnone] at hp'
              cases hp'
            | none =>
              simp only [zz] at s5
              obtain ⟨_, hl, s6⟩ := sat_lf (sat_bind s5)
              have hl : kvs.length < 100000 := shortS_lt (gd_some hl).1
              have hlen : (ePut k bb zv es).length ≤ sizeLine := by
                have := put_len (k := k) (b := bb) (v := zv) (es := es)
                have := le_line (n := kvs.length + 1) (by omega)
                omega
              rw [put_X nod] at dd'
              have hq : ∃ q, h'.get? ad0 = some q := by
                obtain ⟨o', _, _, ho', _⟩ := dd'
                exact ⟨o', ho'⟩
              have J := p3.I.put (o' := .dic (dPut k z kvs)) (u := DicO X.w ad0 (ePut k bb zv es)) gi ha ⟨_, upd_same, put_D g4 g3 hz q5⟩
              exact ⟨zv, _, d_write (ob := DicO X.w ad0 (ePut k bb zv es)) I' (by rw [q4]; exact True.intro) hs hq (dicO_ok hlen z2 (put_E r3 ex) dd'), r3, q _ _ _ _ _ _ s6 (p3.go J Ex.refl) ee hz⟩
/-! all of a dict of lists -/
def frzEs : List (NestedKey × W) → M (List (NestedKey × W))
  | [] => rt []
  | (k, w) :: r => bd (frzM w) fun w' => bd (frzEs r) fun r' => rt ((k, w') :: r')
theorem frzEs_ok {K : PySem.W.Frag} {wd : World} {φ : List Addr} {Ho Hr : Hp} {E : Xc → Hs → Prop} : ∀ {kvs : List (NestedKey × W)} {es : List (NestedKey × Addr × V)} {hs : Hs} {Hk : Hp} {P : List (NestedKey × W) → Hs → Prop}, Ok K wd φ hs Ho Hk Hr → DRs K wd φ Hk kvs es → (frzEs kvs hs).sat P E →
    ∃ kvs' hs' Hk', Ok K wd φ hs' Ho Hk' Hr ∧ Same Hk Hk' ∧ DRs K wd φ Hk' kvs' es ∧ P kvs' hs'
  | [], _, hs, Hk, P, I, .nil, s => ⟨[], hs, Hk, I, Same.refl _, .nil, s⟩
  | (k, w) :: r, _, hs, Hk, P, I, .cons h1 h2 h3 h4, s => by
    obtain ⟨w', hs1, Hk1, I1, e1, v1, s1⟩ := frz_ok I h3 (sat_bind s)
    obtain ⟨r', hs2, Hk2, I2, e2, d2, s2⟩ := frzEs_ok I1 (h4.mono Fx.refl e1) (sat_bind s1)
    exact ⟨_, hs2, Hk2, I2, e1.trans e2, .cons h1 (Dp.mono (e1.trans e2) _ h2) (v1.mono Fx.refl e2) d2, s2⟩
def frzDDM (w : W) : M W := fun h => match w with
  | .ref i => match h.get i with
    | some (.dic kvs) => T.bind (frzEs kvs h) fun kvs' h' => match h'.get i with | some _ => .ok (.dct kvs') (h'.del i) | none => .bad
    | _ => .bad
  | .dct kvs => .ok (.dct kvs) h
  | _ => .bad
theorem sm_frzDD {k : W → M (Res W α)} (h : ρ[n]? = some (some w)) (hE : ρE[n]? = some none) (hr : ∀ w, SM X ρE sts (ρ.set n (some w)) (k w) g) : SM X ρE sts ρ (bd (frzDDM w) k) g := fun {Wx E P hs φ Ho Hk Hr σ} p s D nx r => by
  obtain ⟨v, q1, q2⟩ := p.R.at_ n w h
  have s1 := sat_bind s
  cases w with
  | ref i =>
    have s1 : (match hs.get i with | some (.dic kvs) => T.bind (frzEs kvs hs) (fun kvs' h' => match h'.get i with | some _ => T.ok (W.dct kvs') (h'.del i) | none => T.bad) | _ => T.bad : T W).sat _ E := s1
    cases gg : hs.get i with
    | none => rw [gg] at s1; exact s1.elim
    | some o =>
      rw [gg] at s1
      cases o with
      | dic kvs =>
        cases q2 with
        | @ref _ a0 ha =>
          obtain ⟨ad, f1, f2, f3, es, f4, f5⟩ := p.I.obj i _ gg
          rw [ha] at f1
          cases f1
          obtain ⟨kvs', hs1, Hk1, I1, e1, d1, s2⟩ := frzEs_ok p.I f5 (sat_bind s1)
          cases g2 : hs1.get i with
          | none => rw [g2] at s2; exact s2.elim
          | some o2 =>
            rw [g2] at s2
            refine sSs_lock f4 True.intro fun od => ?_
            obtain ⟨e2, I2⟩ := I1.fix1 (.frz od (DicO X.w a0 es)) g2 ha
            have ee : Ex φ Hk φ _ := ⟨Fx.refl, e1.trans e2⟩
            have R := (p.R.ex ee).set (n := n) (VR.dct (kvs := kvs') upd_same (DRs.mono Fx.refl e2 d1))
            rw [set_same q1] at R
            exact hr _ (p.to I2 ee R (p.sub.set hE)) s2 D (fun a hs' φ' Hk' Hr' σ' h q e' => nx a hs' φ' Hk' Hr' σ' h q (ee.trans e')) (fun w hs' v φ' Hk' Hr' h I e' hv => r w hs' v φ' Hk' Hr' h I (ee.trans e') hv)
      | _ => exact s1.elim
  | dct kvs =>
    have R := p.R.set (n := n) q2
    rw [set_same q1] at R
    exact hr _ (p.to p.I Ex.refl R (p.sub.set hE)) s1 D nx r
  | _ => exact s1.elim
end
end Hx
/-! list(d); max with a default; index -/
noncomputable section
namespace Hx
open PySem L2 Pd Gn PySem.Spec PyProof.Rows Zq
def listDM (m : M W) : M (List W) := bd m fun w => fun h => lf ((isD h w).map keysW) h
def maxdM (m md : M W) : M W := bd m fun w => bd (lf ((asL w).bind intsW)) fun ns => bd md fun d => lf (some (match ns with | [] => d | n :: r => .dat (.int (r.foldl max n))))
def idxL (y : Int) : List Int → Nat → Option Nat
  | [], _ => none
  | x :: r, n => match decide (x = y) with | true => some n | false => idxL y r (n + 1)
def idxM (m my : M W) : M W := bd m fun w => bd (lf ((asL w).bind intsW)) fun ns => bd my fun y => lf ((asIW y).bind fun i => (idxL i ns 0).map fun k => .dat (.int (k : Nat)))
end Hx
/-! a look at things that change: an expression that changes nothing and gives scalars -/
noncomputable section
namespace Hx
open PySem L2 Pd Gn PySem.Spec PyProof.Rows Zq
section
variable {K : PySem.W.Frag} {wd : World} {φ φ' : List Addr} {hs hs' : Hs} {Ho Hk Hk' Hr H2 : Hp}
theorem Ok.later (I : Ok K wd φ hs Ho Hk Hr) (e : Same Hr H2) : Ok K wd φ hs Ho Hk H2 := ⟨I.kr.trans e, I.out.trans e, I.len, I.low, fun i o g => by
  obtain ⟨a, q1, q2, q3, q4⟩ := I.obj i o g
  exact ⟨a, q1, q2, q3, q4.mono Fx.refl (Same.refl _) fun u hu => e _ _ hu⟩, I.inj, I.dis⟩
/-- all that stands is known -/
theorem Ok.all (H : Hp) : Ok K wd [] ⟨0, []⟩ (fun _ => none) H H := ⟨Same.refl _, fun _ _ z => (nomatch z), rfl, fun i o z => (nomatch z), fun i o z => (nomatch z), fun i j a z => absurd rfl z, fun _ _ z => (nomatch z)⟩
theorem Ok.addOut (I : Ok K wd φ hs Ho Hk Hr) {p : Addr} {u : HO} (hp : Hr p = none) (e : Same Hr H2) (h2 : H2 p = some u) : Ok K wd φ hs (upd Ho p u) Hk H2 := by
  have J := I.later e
  refine ⟨J.kr, fun b v g => ?_, J.len, J.low, fun i o g => ?_, J.inj, fun b v g => ?_⟩
  · by_cases q : b = p
    · subst q
      rw [upd_same] at g
      rw [h2]; exact g
    · rw [upd_ne q] at g
      exact J.out _ _ g
  · obtain ⟨a, q1, q2, q3, q4⟩ := J.obj i o g
    obtain ⟨a', q1', _, _, q4'⟩ := I.obj i o g
    rw [q1] at q1'
    cases q1'
    obtain ⟨x, hx⟩ := q4'.there
    exact ⟨a, q1, q2, by rw [upd_ne fun z => by rw [z, hp] at hx; cases hx]; exact q3, q4⟩
  · by_cases q : b = p
    · rw [q]
      cases z : Hk p with
      | none => rfl
      | some o => rw [I.kr _ _ z] at hp; cases hp
    · rw [upd_ne q] at g
      exact J.dis _ _ g
end
/-- a value as it stands, to the depth of two lists -/
def deep0 (h : Hs) : W → Option W
  | .dat d => some (.dat d)
  | .ref i => match h.get i with
    | some (.lst ws) => (datsOf ws).map fun ds => .dat (.list ds)
    | _ => none
  | _ => none
def deepL (h : Hs) : List W → Option (List W)
  | [] => some []
  | w :: r => (deep0 h w).bind fun d => (deepL h r).map fun ds => d :: ds
def deep1 (h : Hs) : W → Option W
  | .dat d => some (.dat d)
  | .ref i => match h.get i with
    | some (.lst ws) => (deepL h ws).map mkL
    | _ => none
  | _ => none
section
variable {K : PySem.W.Frag} {wd : World} {φ φ' : List Addr} {hs hs' : Hs} {Ho Hk Hk' Hr H2 : Hp}
theorem deep0_ok (I : Ok K wd φ hs Ho Hk Hr) {w d : W} {v : V} (h : VR K wd φ Hk w v) (e : deep0 hs w = some d) : VR K wd [] Hr d v := by
  cases w with
  | dat x =>
    cases e
    cases h with
    | dat h => exact .dat (Dp.mono I.kr _ h)
  | ref i =>
    have e : (match hs.get i with | some (.lst ws) => (datsOf ws).map fun ds => W.dat (.list ds) | _ => none) = some d := e
    cases g : hs.get i with
    | none => rw [g] at e; cases e
    | some o =>
      rw [g] at e
      cases o with
      | lst ws =>
        obtain ⟨ds, h1, h2⟩ := mpd e
        subst h2
        cases h with
        | ref ha =>
          obtain ⟨vs, t1, t2⟩ := at_lst I g ha
          rw [datsOf_eq h1] at t2
          exact .dat (.lst (.inl (.inl t1)) (Pd.DpAll.mono I.kr _ (VRs.dats t2)))
      | _ => cases e
  | _ => cases e
theorem deepL_ok (I : Ok K wd φ hs Ho Hk Hr) : ∀ {ws ds : List W} {vs : List V}, VRs K wd φ Hk ws vs → deepL hs ws = some ds → VRs K wd [] Hr ds vs
  | [], ds, _, .nil, e => by cases e; exact .nil
  | w :: r, ds, _, .cons h1 h2, e => by
    obtain ⟨d, e1, e⟩ := bnd e
    obtain ⟨ds', e2, e⟩ := mpd e
    subst e
    exact .cons (deep0_ok I h1 e1) (deepL_ok I h2 e2)
theorem deep1_ok (I : Ok K wd φ hs Ho Hk Hr) {w d : W} {v : V} (h : VR K wd φ Hk w v) (e : deep1 hs w = some d) : VR K wd [] Hr d v := by
  cases w with
  | dat x =>
    cases e
    cases h with
    | dat h => exact .dat (Dp.mono I.kr _ h)
  | ref i =>
    have e : (match hs.get i with | some (.lst ws) => (deepL hs ws).map mkL | _ => none) = some d := e
    cases g : hs.get i with
    | none => rw [g] at e; cases e
    | some o =>
      rw [g] at e
      cases o with
      | lst ws =>
        obtain ⟨ds, h1, h2⟩ := mpd e
        subst h2
        cases h with
        | ref ha =>
          obtain ⟨vs, t1, t2⟩ := at_lst I g ha
          exact VR.mkL (.inl (.inl t1)) (deepL_ok I t2 h1)
      | _ => cases e
  | _ => cases e
end
def scals : List W → Bool
  | [] => true
  | w :: r => match scal w with | true => scals r | false => false
theorem VRs.scal {K : PySem.W.Frag} {wd : World} {φ φ' : List Addr} {H H' : Hp} : ∀ {ws : List W} {vs : List V}, scals ws = true → VRs K wd φ H ws vs → VRs K wd φ' H' ws vs
  | [], _, _, .nil => .nil
  | w :: r, _, s, .cons h1 h2 => by
    unfold scals at s
    cases z : Hx.scal w with
    | false => rw [z] at s; cases s
    | true =>
      rw [z] at s
      exact .cons (VR.scal z h1) (VRs.scal s h2)
def peekT (h : Hs) : T (List W) → T (List W)
  | .ok ws _ => match scals ws with | true => .ok ws h | false => .bad
  | .draw n k => .draw n fun v => peekT h (k v)
  | _ => .bad
theorem sat_peek {h : Hs} {P : List W → Hs → Prop} {E : Xc → Hs → Prop} : ∀ {t : T (List W)}, (peekT h t).sat P E → t.sat (fun ws _ => scals ws = true ∧ P ws h) FF
  | .ok w _, s => by
    have s : (match scals w with | true => T.ok w h | false => T.bad : T (List W)).sat P E := s
    cases z : scals w with
    | true => rw [z] at s; exact ⟨z, s⟩
    | false => rw [z] at s; exact s.elim
  | .draw n k, s => fun v hv => sat_peek (t := k v) (s v hv)
  | .exc _ _, s => s.elim
  | .bad, s => s.elim
def peekM (w : W) (m : W → M (List W)) : M (List W) := fun h => match deep1 h w with
  | some d => peekT h (m d ⟨0, []⟩)
  | none => .bad
theorem lm_peek {X : Cx} {ρ : Rho} {e : Expr} {n N : Nat} {w : W} {m : W → M (List W)} (hn : ρ[n]? = some (some w)) (hN : ρ.length = N) (h : ∀ d, LM X.nox e ((noR N).set n (some d)) (m d)) (hx : ∀ σ H Q, sE X.nox e σ H Q → sE X e σ H Q) : LM X e ρ (peekM w m) := fun {Wx E P hs φ Ho Hk Hr σ} p s Q q => by
  obtain ⟨v, v1, v2⟩ := p.R.at_ n w hn
  have s : (match deep1 hs w with | some d => peekT hs (m d ⟨0, []⟩) | none => T.bad).sat P E := s
  cases zd : deep1 hs w with
  | none => rw [zd] at s; exact s.elim
  | some d =>
    rw [zd] at s
    have hd := deep1_ok p.I v2 zd
    have R : SR X.K X.w [] Hr ((noR N).set n (some d)) σ := by
      refine ⟨by rw [List.length_set, ← p.R.len, hN]; unfold noR; rw [List.length_replicate], fun i u hu => ?_⟩
      by_cases z : n = i
      · subst z
        have hl : n < (noR N).length := by simpa using (List.getElem?_eq_some_iff.mp hu).1
        rw [List.getElem?_set_self hl] at hu
        cases hu
        exact ⟨v, v1, hd⟩
      · rw [List.getElem?_set_ne z] at hu
        unfold noR at hu
        rw [List.getElem?_replicate] at hu
        split at hu
        · cases Option.some.inj hu
        · cases hu
    refine hx _ _ _ (h d (Wx := fun _ _ _ _ => False) (E := FF) ⟨takes0, Ok.all Hr, R, fun _ _ _ _ _ _ _ z => z.elim⟩ (sat_peek s) Q fun ws hs' pp vs φ' Hk' Hr' hp I' no nk ee hv => ?_)
    have sm : Same Hr Hr' := ee.k.trans I'.kr
    have hpn : Hr pp = none := by
      cases z : Hr pp with
      | none => rfl
      | some o => rw [ee.k _ _ z] at nk; cases nk
    exact q ws hs pp vs φ Hk Hr' hp.2 (p.I.addOut hpn sm (I'.out _ _ upd_same)) (far_of p.I.out hpn) (far_of p.I.kr hpn) Ex.refl (VRs.scal hp.1 hv)
end Hx
/-! xs.index(y) of numbers -/
noncomputable section
namespace Hx
open PySem L2 Pd Gn PySem.Spec PyProof.Rows Zq
theorem idxL_at {y : Int} : ∀ {l : List Int} {n k : Nat}, idxL y l n = some k → n ≤ k ∧ l[k - n]? = some y ∧ ∀ m z, m < k - n → l[m]? = some z → z ≠ y
  | [], _, _, h => by cases h
  | x :: r, n, k, h => by
    unfold idxL at h
    cases q : decide (x = y) with
    | true =>
      rw [q] at h
      cases h
      have := of_decide_eq_true q
      subst this
      exact ⟨Nat.le_refl _, by rw [Nat.sub_self]; rfl, fun m z hm => by omega⟩
    | false =>
      rw [q] at h
      have q := of_decide_eq_false q
      obtain ⟨h1, h2, h3⟩ := idxL_at (l := r) h
      have e : k - n = (k - (n + 1)) + 1 := by omega
      refine ⟨by omega, by rw [e]; exact h2, fun m z hm hz => ?_⟩
      cases m with
      | zero => cases hz; exact q
      | succ m => exact h3 m z (by omega) hz
theorem asL_ints {X : Cx} {φ : List Addr} {Hk : Hp} {w : W} {v : V} {ns : List Int} (hv : VR X.K X.w φ Hk w v) (h : (asL w).bind intsW = some ns) : ∃ ad, v = .ref ad ∧ SqL X.K Hk ad (ns.map V.int) := by
  obtain ⟨ws, h1, h2⟩ := bnd h
  obtain ⟨ad, vs, rfl, g1, g2⟩ := hv.asL h1
  rw [intsW_eq h2] at g2
  have ev := vrs_ints g2
  subst ev
  exact ⟨ad, rfl, g1⟩
theorem em_index {X : Cx} {ρ : Rho} {o e : Expr} {m my : M W} {p1 pos : Pos} (ho : EM X o ρ m) (he : EM X e ρ my) (hp : PE X (.Call (.Attribute o "index" p1) [e] [] pos) (tBM X.K "list" (rIndex X.K) (sE X o) (tCons (sE X e) tNil)) := by exact pe_bm PySem.F.plainAttrs_list PySem.F.slot_list_index PySem.F.type_list_index mt_index pe_s (pa_cons pe_s pa_nil)) : EM X (.Call (.Attribute o "index" p1) [e] [] pos) ρ (idxM m my) := fun p s Q q => by
  refine sE_of hp (ho p (sat_bind s) _ fun w h1 v φ1 Hk1 Hr1 s1 p1 e1 hv => ?_)
  obtain ⟨ns, hk, s2⟩ := sat_lf (sat_bind s1)
  obtain ⟨ad, rfl, g1⟩ := asL_ints hv hk
  refine ⟨.inl ⟨rfl, _, same_l p1.I.kr g1⟩, he p1 (sat_bind s2) _ fun y h2 yv φ2 Hk2 Hr2 s3 p2 e2 hy => ?_⟩
  obtain ⟨u, hu, s4⟩ := sat_lf s3
  obtain ⟨i, hi, hu⟩ := bnd hu
  obtain ⟨k, hk2, hu⟩ := mpd hu
  subst hu
  have := asIW_eq hi
  subst this
  obtain rfl := vr_int (X := X) hy
  obtain ⟨_, a1, a2⟩ := idxL_at hk2
  refine ⟨ad, ns.map V.int, .int i, k, .int i, rfl, rfl, same_l (e2.k.trans p2.I.kr) g1, rfl, ?_, ?_, ?_, fun m z hm hz => ?_, q _ _ _ _ _ _ s4 p2 (e1.trans e2) (.dat (.int _))⟩
  · rw [List.all_eq_true]
    intro z hz
    obtain ⟨n, _, rfl⟩ := List.mem_map.mp hz
    rfl
  · rw [List.getElem?_map, show ns[k]? = some i from a1]; rfl
  · show (i == i) = true
    exact beq_self_eq_true i
  · rw [List.getElem?_map] at hz
    cases zz : ns[m]? with
    | none => rw [zz] at hz; cases hz
    | some n =>
      rw [zz] at hz
      cases hz
      show (n == i) = false
      exact beq_false_of_ne (a2 m n hm zz)
end Hx
namespace Hx
open PySem L2 Pd Gn PySem.Spec PyProof.Rows Zq
theorem drs_keys {K : PySem.W.Frag} {wd : World} {φ : List Addr} {H : Hp} : ∀ {kvs : List (NestedKey × W)} {es : List (NestedKey × Addr × V)}, DRs K wd φ H kvs es → VRs K wd φ H (keysW kvs) (es.map fun e => V.ref e.2.1)
  | _, _, .nil => .nil
  | _, _, .cons h1 h2 h3 h4 => .cons (.dat h2) (drs_keys h4)
def rListQ (X : Cx) : List V → Hp → VK → Prop := fun xs H Q => ∃ p es, xs = [.ref p] ∧ Rd H p (DicO X.w p es) ∧ ∀ q, H q = none → Q (.ref q) (upd H q (.lst (es.map fun e => V.ref e.2.1)))
theorem call_list_q {X : Cx} (hc : X.calm = true) : CallR X (.type "list") (rListQ X) := by
  intro pins s σ H xs us Q I r h
  obtain ⟨p, es, e, hk, q⟩ := h
  subst e
  obtain rfl := Vals.ref1 r
  obtain ⟨⟨z, y, xs, r2, o, es', ep, h1, h2, h3, h4, h5⟩, _, _⟩ := (show ObjOk X.prog X.w H s.heap p (DicO X.w p es) from hk.ok I.hok)
  have l1 : es'.size = xs.length := by rw [← Array.length_toList, h4, List.length_map]
  have l2 : es.length = xs.length := Paired.length r2
  refine PySem.W.kdl_call (kdl_raw y h2 h3) (I.ok.hd hc) h1 (by omega) fun h' tk acc' c' hkeep hS hacc => ?_
  refine ⟨.ref s.heap.objs.size, upd H s.heap.objs.size (.lst (es.map fun e => V.ref e.2.1)), I.laid hkeep (Nat.le_refl _) (show ObjOk X.prog X.w _ _ _ (.lst (es.map fun e => V.ref e.2.1)) from ⟨?_, acc'.toList, c', ?_, ?_⟩), rfl, q _ (I.hok.fresh (Nat.le_refl _))⟩
  · rw [List.length_map]; omega
  · have el : acc'.toList.length = acc'.size := by simp
    refine vals_of_at (by rw [List.length_map, el, hacc.1]; omega) fun j x w k1 k2 => ?_
    obtain ⟨en, he, hw⟩ := hacc.2 j w (by rw [← Array.getElem?_toList]; exact k2)
    rw [List.getElem?_map] at k1
    cases ze : es[j]? with
    | none => rw [ze] at k1; cases k1
    | some e3 =>
      rw [ze] at k1
      cases k1
      obtain ⟨qq, hq, e1, e2, _⟩ := paired_get r2 ze
      have ee : es'[j]? = (xs[j]?).map (fun x => (⟨x.1.hash X.w, .ref x.2.1, x.2.2⟩ : DictEntry)) := by rw [← Array.getElem?_toList, h4, List.getElem?_map]
      rw [hq] at ee
      rw [ee] at he
      cases he
      subst hw
      show Value.ref qq.2.1 = Value.ref e3.2.1
      rw [← e2]
  · rw [Array.toArray_toList]; exact hS
theorem lm_listD {X : Cx} {ρ : Rho} {e : Expr} {m : M W} {p0 pos : Pos} (hc : X.calm = true) (hm : X.mg "list" = none) (ha : EM X e ρ m) (hg : Gl X "list" := by rfl) (he : starEach [e] X.env = [(false, eval e X.env)] := by rfl) (hpl : (backTo pos (starEach ([] : List Expr) X.env)).any (·.1) = false := by rfl) : LM X (.Call (.Name "list" p0) [e] [] pos) ρ (listDM m) := fun p s Q q => by
  refine sE_of (pe_callTy (call_list_q hc) hg hm (by decide +kernel) pa_s (by decide) (by decide) he hpl) (am_one ha he p (sat_bind s) _ fun w h1 v φ1 Hk1 Hr1 s1 p1 e1 hv => ?_)
  obtain ⟨us, hw, s2⟩ := sat_lf s1
  obtain ⟨kvs, hk, hw⟩ := mpd hw
  subst hw
  obtain ⟨ad, es, rfl, g1, g2⟩ := isD_ok p1.I hv hk
  exact ⟨ad, es, rfl, g1, fun l hl => q _ _ l _ φ1 Hk1 _ s2 (p1.I.outer hl) (far_of p1.I.out hl) (far_of p1.I.kr hl) e1 (drs_keys g2)⟩
/-! max(xs, default=d) -/
def rMaxDf (K : PySem.W.Frag) : List V → List V → Hp → VK → Prop := fun vs zs H Q => ∃ (a : Addr) (ns : List Int) (d : V), vs = [V.ref a] ∧ zs = [d] ∧ SqL K H a (ns.map V.int) ∧ (ns = [] → Q d H) ∧ ∀ m, m ∈ ns → (∀ y, y ∈ ns → y ≤ m) → Q (.int m) H
theorem cr_maxDf {X : Cx} (hc : X.calm = true) : CallRK X (.builtin "max") [Str.ofString "default"] (rMaxDf X.K) := by
  intro pins s σ H vs zs us ws Q I r rz h
  obtain ⟨a, ns, d, rfl, rfl, hs, q0, q1⟩ := h
  obtain rfl := Vals.ref1 r
  obtain ⟨w1, rfl, e1⟩ := vals1 rz
  obtain ⟨its, rv, hl, _⟩ := I.list hs
  have hi := rv.ints
  obtain ⟨xs, e⟩ := hi.allInts.items
  have hn : numsOf (intItems xs).toList = ns := by rw [← e]; exact hi.numsOf
  rw [nums_intItems] at hn
  have hl : s.heap.IsList a its.toArray := hl.isList
  rw [e] at hl
  show wpAny (model X.prog X.w) X.A (call (.builtin "max") [.ref a] [(Str.ofString "default", w1)]) _ _ s
  refine call_max_walkD (iter_intList hl fun s₂ e2 st hfp hlI => ?_)
  subst e2
  have hold : ∀ s' : Shared, Moved [s.heap.objs.size] (fun a b => b = a) { s with heap := s.heap.push { cls := .type "list_iterator", data := .fields #[.ref a, .int 0 0] } } s' → Inv X pins σ H s' := fun s' hm => by
    have k := PySem.old_kept (s := s) (l := a) hm.heap
    have h1 := hm.gens
    have h2 := hm.drawn
    have h3 := hm.os
    obtain ⟨hp, g, d, t, os⟩ := s'
    dsimp only at h1 h2 h3 k
    subst h1 h2 h3
    exact I.kept k
  have emp : ∀ (b : Addr) (o : Obj), ({} : Heap).get? b = some o → False := fun b o z => by
    simp [Heap.get?] at z
  refine ⟨_, _, _, _, _, _, _, {}, fun i j => decide (numAt xs i > numAt xs j), rfl, (Walks.list (A := X.A.in1) (I.ok.hd hc) _ a hlI (intItems xs)).toS, st, hfp, fun b o z => (emp b o z).elim, fun b o z => (emp b o z).elim, fun h0 s' hm => ⟨d, H, hold s' hm, e1, q0 ?_⟩, fun hp => ⟨fun i j vi vj s Q E _ h1 h2 q => CmpOf.ints_gt (numAt xs) (fun _ _ => intItems_at) i j vi vj s Q E h1 h2 q, fun v s' hv hm => ?_⟩⟩
  · have h0 : xs.size = 0 := by simpa [intItems] using h0
    subst hn
    apply List.eq_nil_of_length_eq_zero
    rw [List.length_map, Array.length_toList]
    exact h0
  · have hsz : 0 < xs.size := by simpa [intItems] using hp
    have hv : (intItems xs)[argBest (fun i j => decide (numAt xs i > numAt xs j)) (xs.size - 1)]? = some v := by simpa [intItems] using hv
    obtain ⟨t, rfl⟩ := intItems_at hv
    obtain ⟨h1, h2⟩ := argBest_gt (numAt xs) (xs.size - 1)
    subst hn
    refine ⟨.int _, H, hold s' hm, ⟨_, rfl⟩, q1 _ ?_ fun a ha => ?_⟩
    · rw [numAt_eq]; exact PySem.getD_mem (by rw [List.length_map, Array.length_toList]; omega)
    · obtain ⟨j, hj, rfl⟩ := mem_getD ha
      rw [List.length_map, Array.length_toList] at hj
      rw [← numAt_eq]; exact h2 j (by omega)
theorem foldl_max : ∀ {l : List Int} {n : Int}, (l.foldl max n = n ∨ l.foldl max n ∈ l) ∧ n ≤ l.foldl max n ∧ ∀ y ∈ l, y ≤ l.foldl max n
  | [], n => ⟨.inl rfl, Int.le_refl _, fun _ h => nomatch h⟩
  | x :: r, n => by
    obtain ⟨h1, h2, h3⟩ := foldl_max (l := r) (n := max n x)
    refine ⟨?_, by show n ≤ r.foldl max (max n x); omega, fun y hy => ?_⟩
    · show r.foldl max (max n x) = n ∨ r.foldl max (max n x) ∈ x :: r
      rcases h1 with h1 | h1
      · rw [h1]
        rcases Int.le_total n x with z | z
        · right; rw [Int.max_eq_right z]; exact List.mem_cons_self
        · left; exact Int.max_eq_left z
      · exact .inr (List.mem_cons_of_mem _ h1)
    · show y ≤ r.foldl max (max n x)
      rcases List.mem_cons.mp hy with rfl | hy
      · omega
      · exact h3 y hy
theorem em_maxd {X : Cx} {ρ : Rho} {e f : Expr} {m md : M W} {p0 pos kp : Pos} (hc : X.calm = true) (hm : X.mg "max" = none) (ha : EM X e ρ m) (hd : EM X f ρ md) (hs : starEach [e] X.env = (false, eval e X.env) :: starEach [] X.env := by rfl)
    (hp : PE X (.Call (.Name "max" p0) [e] [⟨some "default", f, kp⟩] pos) (tCKw (rMaxDf X.K) (sA X [e]) (tCons (sE X f) tNil)) ) :
    EM X (.Call (.Name "max" p0) [e] [⟨some "default", f, kp⟩] pos) ρ (maxdM m md) := fun p s Q q => by
  refine sE_of hp (sA_of (pa_cons pe_s pa_nil hs) (ha p (sat_bind s) _ fun w h1 v φ1 Hk1 Hr1 s1 p1 e1 hv => ?_))
  obtain ⟨ns, hk, s2⟩ := sat_lf (sat_bind s1)
  obtain ⟨ad, rfl, g1⟩ := asL_ints hv hk
  refine hd p1 (sat_bind s2) _ fun d h2 dv φ2 Hk2 Hr2 s3 p2 e2 hd => ?_
  obtain ⟨u, hu, s4⟩ := sat_lf s3
  cases hu
  refine ⟨ad, ns, dv, rfl, rfl, same_l (e2.k.trans p2.I.kr) g1, fun h0 => ?_, fun m hm1 hm2 => ?_⟩
  · subst h0
    exact q _ _ _ _ _ _ s4 p2 (e1.trans e2) hd
  · cases ns with
    | nil => exact nomatch hm1
    | cons n r =>
      obtain ⟨a1, a2, a3⟩ := foldl_max (l := r) (n := n)
      have em : m = r.foldl max n := by
        have b1 : r.foldl max n ≤ m := hm2 _ (by rcases a1 with a1 | a1; rw [a1]; exact List.mem_cons_self; exact List.mem_cons_of_mem _ a1)
        have b2 : m ≤ r.foldl max n := by
          rcases List.mem_cons.mp hm1 with rfl | h
          · exact a2
          · exact a3 _ h
        omega
      subst em
      exact q _ _ _ _ _ _ s4 p2 (e1.trans e2) (.dat (.int _))
theorem sE_nox {X : Cx} {e : Expr} {σ : L2.St} {H : Hp} {Q : VK} (h : sE X.nox e σ H Q) : sE X e σ H Q := fun pins s I => wpAny_mono (h pins s (I.wish _)) (fun _ _ ⟨v, H', I', r, q⟩ => ⟨v, H', I'.unwish, r, q⟩) fun _ _ z => False.elim z
theorem lm_peekN {X : Cx} {ρ : Rho} {e : Expr} {n N : Nat} {w : W} {m : W → M (List W)} (ρ' : W → Rho) (hn : ρ[n]? = some (some w)) (hN : ρ.length = N) (hρ : ∀ d, (noR N).set n (some d) = ρ' d) (h : ∀ d, LM X.nox e (ρ' d) (m d)) : LM X e ρ (peekM w m) := lm_peek hn hN (fun d => by rw [hρ d]; exact h d) fun _ _ _ => sE_nox
end Hx
/-! a comprehension over an own list, looked at -/
noncomputable section
namespace Hx
open PySem L2 Pd Gn PySem.Spec PyProof.Rows Zq
theorem ps_nox {X : Cx} {st : Stmt} {t : TS} (h : PS X.nox st t) : PS X st t := ⟨fun pins s σ H D I hw => wpAny_mono (h.run pins s σ H D (I.wish _) hw) (fun _ _ q => q.unwish) fun _ _ z => False.elim z⟩
theorem lr_peek {X : Cx} {ρ : Rho} {t : TE} {n N : Nat} {w : W} {m : W → M (List W)} (ρ' : W → Rho) (hn : ρ[n]? = some (some w)) (hN : ρ.length = N) (hρ : ∀ d, (noR N).set n (some d) = ρ' d) (h : ∀ d, LR X.nox t (ρ' d) (m d)) : LR X t ρ (peekM w m) := fun {Wx E P hs φ Ho Hk Hr σ} p s Q q => by
  obtain ⟨v, v1, v2⟩ := p.R.at_ n w hn
  have s : (match deep1 hs w with | some d => peekT hs (m d ⟨0, []⟩) | none => T.bad).sat P E := s
  cases zd : deep1 hs w with
  | none => rw [zd] at s; exact s.elim
  | some d =>
    rw [zd] at s
    have hd := deep1_ok p.I v2 zd
    have R : SR X.K X.w [] Hr ((noR N).set n (some d)) σ := by
      refine ⟨by rw [List.length_set, ← p.R.len, hN]; unfold noR; rw [List.length_replicate], fun i u hu => ?_⟩
      by_cases z : n = i
      · subst z
        have hl : n < (noR N).length := by simpa using (List.getElem?_eq_some_iff.mp hu).1
        rw [List.getElem?_set_self hl] at hu
        cases hu
        exact ⟨v, v1, hd⟩
      · rw [List.getElem?_set_ne z] at hu
        unfold noR at hu
        rw [List.getElem?_replicate] at hu
        split at hu
        · cases Option.some.inj hu
        · cases hu
    rw [hρ d] at R
    refine h d (Wx := fun _ _ _ _ => False) (E := FF) ⟨takes0, Ok.all Hr, R, fun _ _ _ _ _ _ _ z => z.elim⟩ (sat_peek s) Q fun ws hs' pp vs φ' Hk' Hr' hp I' no nk ee hv => ?_
    have sm : Same Hr Hr' := ee.k.trans I'.kr
    have hpn : Hr pp = none := by
      cases z : Hr pp with
      | none => rfl
      | some o => rw [ee.k _ _ z] at nk; cases nk
    exact q ws hs pp vs φ Hk Hr' hp.2 (p.I.addOut hpn sm (I'.out _ _ upd_same)) (far_of p.I.out hpn) (far_of p.I.kr hpn) Ex.refl (VRs.scal hp.1 hv)
theorem lcp_peek {X : Cx} {ρ : Rho} {e : Expr} {scope : Scope} {t : TE} {n N : Nat} {w : W} {m : W → M (List W)} (ρ' : W → Rho) (hn : ρ[n]? = some (some w)) (hN : ρ.length = N) (hρ : ∀ d, (noR N).set n (some d) = ρ' d) (h : ∀ d, LcP X.nox e scope t (ρ' d) (m d)) : LcP X e scope t ρ (peekM w m) :=
  ⟨(h (.dat .none)).pe.nox, fun a b c d => ps_nox ((h (.dat .none)).ps a b c d), lr_peek ρ' hn hN hρ fun d => (h d).lr⟩
end Hx
noncomputable section
namespace K19
open PySem L2 Pd Gn PySem.Spec PyProof.Rows
def top (i : Nat) : Stmt := PySem.Challenge.pw_fivebases_k19_whole_counts_by_pairs.main.body.getD i (.Pass ⟨0, 0, 0, 0⟩)
abbrev sState : Stmt := top 33
abbrev sTake : Stmt := top 34
theorem scState : FnScope ["script", "seed", "total", "cell"] ["script"] (defScope sState) := ⟨rfl, rfl, rfl, by decide +kernel, rfl, by decide +kernel, by decide +kernel⟩
theorem scTake : FnScope ["state", "m", "value"] ["state", "m"] (defScope sTake) := ⟨rfl, rfl, rfl, by decide +kernel, rfl, by decide +kernel, by decide +kernel⟩
/-- the built-in names that the top leaves as they are -/
structure Mg (mg : Str → Option Value) : Prop where
  len : mg "len" = none
  int : mg "int" = none
  abs : mg "abs" = none
  min : mg "min" = none
  range : mg "range" = none

/-! the script's numbers -/
def stepS (p : Int × Int) (x : Int) : Int × Int := (p.1 * 1000003 + (if x < 0 then -x else x), (p.2 * 48271 + x) % 2147483647)
def stateOf (ns : List Int) : Int × Int := (ns.take 63).foldl stepS (0, 1)
def phState : List PyData → List Int → Prop := fun ds ms => ∃ ns : List Int, ds = [.list (ns.map .int)] ∧ ms = [(stateOf ns).1, (stateOf ns).2]
theorem cut63 (ns : List Int) : Pd.cutD (ns.map PyData.int) none (some 63) = (ns.take 63).map PyData.int := by
  unfold Pd.cutD
  have e : HT.sIx (ns.map PyData.int).length (ns.map PyData.int).length (some 63) = min 63 (ns.map PyData.int).length := HT.sIx_nat _ _ 63
  rw [e]
  show ((ns.map PyData.int).drop 0).take (min 63 (ns.map PyData.int).length - 0) = _
  rw [List.drop_zero, Nat.sub_zero, ← List.map_take]
  congr 1
  rw [List.length_map, List.take_eq_take_iff]
  omega
theorem int_at {ns : List Int} {i : Nat} {d : PyData} (h : (ns.map PyData.int)[i]? = some d) : ∃ x, ns[i]? = some x ∧ d = .int x := by
  rw [List.getElem?_map] at h
  cases q : ns[i]? with
  | none => rw [q] at h; cases h
  | some x => rw [q] at h; exact ⟨x, rfl, (Option.some.inj h).symm⟩
theorem take_succ_at {α : Type} {ns : List α} {i : Nat} {x : α} (h : ns[i]? = some x) : ns.take (i + 1) = ns.take i ++ [x] := by
  rw [List.take_add_one, h]
  rfl
section
variable {P : Program} {w : World} {K : PySem.W.Frag} {mg : Str → Option Value} {base : Heap} {f : Addr} {fd : FuncData}
theorem ok_state (F : Fun K "_law_state" "_law_state" sState f fd) (T : Mg mg) : FnOk P w K mg base CX0 1 f fd ["script"] (spN K 1 phState) := by
  refine fdN_of F scState (by decide) (fun cdv A outer s H E hr ds ms h hl => ?_)
  obtain ⟨ns, rfl, rfl⟩ := h
  refine ss_set (n := 1) scState.nd rfl (by decide) ee_int ?_
  refine ss_set (n := 2) scState.nd rfl (by decide) ee_int ?_
  refine ss_for (fun i ρ => ∃ c, ρ = [.val (.list (ns.map .int)), .val (.int (((ns.take 63).take i).foldl stepS (0, 1)).1), .val (.int (((ns.take 63).take i).foldl stepS (0, 1)).2), c])
    (ei_list (ee_sliceL (ee_var (n := 0) rfl rfl) eo_none (eo_some ee_int))) (pg_name (i := 3) scState.nd rfl (.inl rfl)) ⟨_, rfl⟩ (fun i d ρi hd h => ?_) (fun ρ' h => ?_)
  · obtain ⟨c, rfl⟩ := h
    rw [cut63] at hd
    obtain ⟨x, hx, rfl⟩ := int_at hd
    refine ⟨_, eg_name (by decide), ?_⟩
    refine ss_set (n := 1) scState.nd rfl (by decide) (ee_op op_add (ee_op op_mul (ee_var (n := 1) rfl rfl) ee_int (rd_int (C := CMul) (.inr (by decide)))) (ee_abs T.abs (ee_var (n := 3) rfl rfl)) rd_int0) ?_
    refine ss_set (n := 2) scState.nd rfl (by decide) (ee_op op_mod (ee_toInt T.int (ee_op op_add (ee_op op_mul (ee_var (n := 2) rfl rfl) ee_int (rd_int (C := CMul) (.inr (by decide)))) (ee_var (n := 3) rfl rfl) rd_int0)) ee_int (rd_int (by decide))) ?_
    refine ss_nil ⟨.val (.int x), ?_⟩
    rw [take_succ_at hx, List.foldl_append]
    rfl
  · obtain ⟨c, rfl⟩ := h
    rw [cut63, List.length_map, List.take_length]
    exact ss_retNew (ns := [(stateOf ns).1, (stateOf ns).2]) (ea_cons (ee_var (n := 1) rfl rfl) (ea_cons (ee_var (n := 2) rfl rfl) ea_nil)) rfl
/-! the draws -/
end
def take (s t m : Int) : Int × Int × Int := if 0 < s then (s % m, s / m, t) else ((((t * 48271 + 11) % 2147483647) / 7) % m, s, (t * 48271 + 11) % 2147483647)
theorem take_lt (s t m : Int) (h : 0 < m) : 0 ≤ (take s t m).1 ∧ (take s t m).1 < m := by
  unfold take
  split
  · exact ⟨Int.emod_nonneg _ (by omega), Int.emod_lt_of_pos _ h⟩
  · exact ⟨Int.emod_nonneg _ (by omega), Int.emod_lt_of_pos _ h⟩
def phTake : List PyData → List PyData → PyData → List PyData → Prop := fun cs ds d cs' => ∃ s t m : Int, cs = [.int s, .int t] ∧ ds = [.int m] ∧ 0 < m ∧ m < 1000000 ∧ d = .int (take s t m).1 ∧ cs' = [.int (take s t m).2.1, .int (take s t m).2.2]
section
variable {P : Program} {w : World} {K : PySem.W.Frag} {mg : Str → Option Value} {base : Heap} {f g : Addr} {fd gd : FuncData}
theorem ok_take (F : Fun K "_law_take" "_law_take" sTake f fd) (T : Mg mg) : FnOk P w K mg base CX0 1 f fd ["state", "m"] (spB K 1 phTake) := by
  refine fdB_of F scTake rfl (by decide) (fun cdv A outer s H E hr cs ds d cs' h hl => ?_)
  obtain ⟨s, t, m, rfl, rfl, h0, h1, rfl, rfl⟩ := h
  refine ss_ifR (et_cmp op_gt (own_ix (n := 0) rfl rfl ee_int rfl) ee_int rd_cmp) (fun hs => ?_) (fun hs => ?_)
  · have hs : 0 < s := of_decide_eq_true hs
    have e : take s t m = (s % m, s / m, t) := if_pos hs
    rw [e]
    refine ss_set (n := 2) scTake.nd rfl (by decide) (ee_op op_mod (ee_toInt T.int (own_ix (n := 0) rfl rfl ee_int rfl)) (ee_var (n := 1) rfl rfl) (rd_int h0)) ?_
    refine ss_put (n := 0) rfl rfl (ee_op op_fdiv (own_ix (n := 0) rfl rfl ee_int rfl) (ee_var (n := 1) rfl rfl) (rd_int (C := CDiv) ?_)) ee_int rfl ?_ (ps_asg pe_s (pg_sub (pv 0) pe_s set_list))
    · exact ⟨h0, by omega⟩
    · exact ss_ret (ee_var (n := 2) rfl rfl) ⟨rfl, rfl⟩
  · have hs : ¬ 0 < s := of_decide_eq_false hs
    have e : take s t m = ((((t * 48271 + 11) % 2147483647) / 7) % m, s, (t * 48271 + 11) % 2147483647) := if_neg hs
    rw [e]
    refine ss_put (n := 0) rfl rfl (ee_op op_mod (ee_toInt T.int (ee_op op_add (ee_op op_mul (own_ix (n := 0) rfl rfl ee_int rfl) ee_int (rd_int (C := CMul) (.inr (by decide)))) ee_int rd_int0)) ee_int (rd_int (by decide))) ee_int rfl ?_ (ps_asg pe_s (pg_sub (pv 0) pe_s set_list))
    exact ss_ret (ee_op op_mod (ee_toInt T.int (ee_op op_fdiv (own_ix (n := 0) rfl rfl ee_int rfl) ee_int (rd_int (C := CDiv) ⟨by decide, by decide⟩))) (ee_var (n := 1) rfl rfl) (rd_int h0)) ⟨rfl, rfl⟩
end

def m__law_state : List Hx.W → Hx.M Hx.W := Hx.mState
def m__law_take : List Hx.W → Hx.M Hx.W := Hx.mTake
section
variable {P : Program} {w : World} {K : PySem.W.Frag} {mg : Str → Option Value} {base : Heap} {f : Addr} {fd : FuncData}
theorem fnState (F : Fun K "_law_state" "_law_state" sState f fd) (T : Mg mg) : FnOk P w K mg base (L2.CX P w) 1 f fd ["script"] (Hx.spM K w mg 1 m__law_state) := Hx.fn_state (φ := phState) (fun ns => ⟨_, _, ns, rfl, rfl⟩) (ok_state F T)
theorem fnTake (F : Fun K "_law_take" "_law_take" sTake f fd) (T : Mg mg) : FnOk P w K mg base (L2.CX P w) 1 f fd ["state", "m"] (Hx.spM K w mg 2 m__law_take) := Hx.fn_take (φ := phTake) (fun s t m h0 h1 => by
  have h := take_lt s t m h0
  refine ⟨(take s t m).1.toNat, (take s t m).2.1, (take s t m).2.2, by omega, s, t, m, rfl, rfl, h0, h1, ?_, rfl⟩
  exact congrArg PyData.int (by omega)) (ok_take F T)
end
end K19
noncomputable section
namespace K19
open PySem L2 Pd Gn PySem.Spec PyProof.Rows Zq Hx
abbrev s_is_integer : Stmt := top 5
theorem sc_is_integer : FnScope ["value"] ["value"] (defScope s_is_integer) := ⟨rfl, rfl, rfl, by decide +kernel, rfl, by decide +kernel, by decide +kernel⟩
def g_is_integer (value_0 : W) : M (Res W Unit) :=
  (bd (bW (andM (bvM (isiM isIntO (rt value_0))) (bvM (bW (notM (tvM (isiM isBoolO (rt value_0)))))))) fun w => rt (.ret w))
def b_is_integer : List W → M (Res W Unit)
  | [value_0] => g_is_integer value_0
  | _ => fun _ => .bad
def m_is_integer (ws : List W) : M W := finM (b_is_integer ws)
set_option maxHeartbeats 4000000 in
theorem ok_is_integer {P : Program} {w : World} {K : PySem.W.Frag} {mg : Str → Option Value} {base : Heap} {f : Addr} {fd : FuncData} (F : FunY K "is_integer" "is_integer" s_is_integer f fd) (T : MgB mg) : FnOk P w K mg base (L2.CX P w) 2 f fd ["value"] (spM K w mg 1 m_is_integer) :=
  defM (g := fun _ => noR 1) (mb := b_is_integer) F sc_is_integer (by decide) (fun cdv A outer s H E hr hp ws hlen => by
    match ws, hlen with
    | [value_0], _ =>
      show SM _ _ _ _ (g_is_integer value_0) _
      unfold g_is_integer
      exact (
(sm_ret (em_and (em_isInt T.isinstance T.int (em_var (n := 0) (w := value_0) rfl rfl)) (em_one (em_notV (em_isBool T.isinstance T.bool (em_var (n := 0) (w := value_0) rfl rfl))))))))
abbrev s_is_partition : Stmt := top 8
theorem sc_is_partition : FnScope ["value", "part", "above", "below"] ["value"] (defScope s_is_partition) := ⟨rfl, rfl, rfl, by decide +kernel, rfl, by decide +kernel, by decide +kernel⟩
def g_is_partition (value_0 : W) : M (Res W Unit) :=
  (ifM (notM (tvM (isiM isTupO (rt value_0)))) (retE (bd (rt (.dat (.bool false))) fun w => rt (.ret w))) (ifM (notM (tvM (biM (u1 dAll) (apM (frzW (lc1 tgN (fun _ => rt true) (fun x_1 => (bW (andM (bvM (callI 1 (apM (rt x_1) (rt [])) m_is_integer)) (bvM (bW (cmpM (c2 cGt) (rt x_1) (rt (.dat (.int 0))))))))) (sqM (rt value_0)))) (rt []))))) (retE (bd (rt (.dat (.bool false))) fun w => rt (.ret w))) (bd (biM (u1 dAll) (apM (frzW (lc1 (tgT 2 (tgsC tgN (tgsC tgN tgs0))) (fun _ => rt true) (fun x_2 => (bW (cmpM (c2 cGe) (rt x_2.1) (rt x_2.2.1)))) (z2M (rt value_0) (slM (rt value_0) (soM (rt (.dat (.int 1)))) (rt none))))) (rt []))) fun w => rt (.ret w))))
def b_is_partition : List W → M (Res W Unit)
  | [value_0] => g_is_partition value_0
  | _ => fun _ => .bad
def m_is_partition (ws : List W) : M W := finM (b_is_partition ws)
set_option maxHeartbeats 4000000 in
theorem ok_is_partition {P : Program} {w : World} {K : PySem.W.Frag} {mg : Str → Option Value} {base : Heap} {f : Addr} {fd : FuncData} (F : FunY K "is_partition" "is_partition" s_is_partition f fd) (T : MgB mg) (c_is_integer : CalM P w K mg base 2 "is_integer" ["value"] 1 m_is_integer) : FnOk P w K mg base (L2.CX P w) 3 f fd ["value"] (spM K w mg 1 m_is_partition) :=
  defM (g := fun _ => noR 4) (mb := b_is_partition) F sc_is_partition (by decide) (fun cdv A outer s H E hr hp ws hlen => by
    match ws, hlen with
    | [value_0], _ =>
      show SM _ _ _ _ (g_is_partition value_0) _
      unfold g_is_partition
      exact (
(sm_ifR (g0 := fun _ => noR 4) (tm_not (tm_val (em_isTup T.isinstance T.tuple (em_var (n := 0) (w := value_0) rfl rfl))))
 (sm_ret em_bl)
 (sm_ifR (g0 := fun _ => noR 4) (tm_not (tm_val (em_B (all_f rfl) T.all (by decide +kernel) (am_cons (em_frz (LcP.lm (lcp0 (own := [("part", 1)]) (im_val (em_var (n := 0) (w := value_0) rfl rfl)) (GWx.gw (gwx_name (by decide)) mon_name) (by intro k hk; simp at hk; rcases hk with rfl <;> rfl) gm_name (fun x_1 _ _ _ _ _ => (em_and (em_callI c_is_integer (hr.mono (by omega)) (am_cons (em_var (n := 1) (w := x_1) rfl rfl) am_nil)) (em_one (em_cmp gtF (em_var (n := 1) (w := x_1) rfl rfl) em_int)))) sc_is_partition.nd (blkOk_by (N := ["value", "part", "above", "below"]) (sc := defScope s_is_partition) (by decide +kernel)) (fun _ _ _ _ _ => (pg_name (i := 1) sc_is_partition.nd rfl (by first | exact .inl rfl | exact .inr rfl)))))) am_nil))))
 (sm_ret em_bl)
 (sm_ret (em_B (all_f rfl) T.all (by decide +kernel) (am_cons (em_frz (LcP.lm (lcp0 (own := [("above", 2), ("below", 3)]) (im_z2 T.zip (em_var (n := 0) (w := value_0) rfl rfl) (em_cut (em_var (n := 0) (w := value_0) rfl rfl) (om_some em_int) om_none)) (GWx.gw (gwx_tup (gwxs_cons (gwx_name (by decide)) mon_name (gwxs_cons (gwx_name (by decide)) mon_name gwxs_nil mons_nil) (mons_cons mon_name mons_nil))) (mon_tup (mons_cons mon_name (mons_cons mon_name mons_nil)))) (by intro k hk; simp at hk; rcases hk with rfl | rfl <;> rfl) (gm_tup (gms_cons gm_name fun _ => (gms_cons gm_name fun _ => gms_nil))) (fun x_2 _ _ _ _ _ => (em_cmp geF (em_var (n := 2) (w := x_2.1) rfl rfl) (em_var (n := 3) (w := x_2.2.1) rfl rfl))) sc_is_partition.nd (blkOk_by (N := ["value", "part", "above", "below"]) (sc := defScope s_is_partition) (by decide +kernel)) (fun _ _ _ _ _ => (pg_tup rfl (pgs_cons (pg_name (i := 2) sc_is_partition.nd rfl (by first | exact .inl rfl | exact .inr rfl)) (pgs_cons (pg_name (i := 3) sc_is_partition.nd rfl (by first | exact .inl rfl | exact .inr rfl)) pgs_nil))))))) am_nil)))))))
abbrev s_partitions_within : Stmt := top 10
theorem sc_partitions_within : FnScope ["n", "most", "part", "rest"] ["n", "most"] (defScope s_partitions_within) := ⟨rfl, rfl, rfl, by decide +kernel, rfl, by decide +kernel, by decide +kernel⟩
def g_partitions_within (rec : List W → M W) (n_0 most_0 : W) : M (Res W Unit) :=
  (ifM (cmpM (c2 cEq) (rt n_0) (rt (.dat (.int 0)))) (retE (bd (frzW (lstM (apM (tupM (rt [])) (rt [])))) fun w => rt (.ret w))) (bd (frzW (lc2 tgN (fun x_1 => rt true) (fun x_1 => (sqM (callI 2 (apM (binM (l2 pSub) (rt n_0) (rt x_1)) (apM (rt x_1) (rt []))) rec))) tgN (fun x_1 x_2 => rt true) (fun x_1 x_2 => (binM (l2 pAddX) (tupM (apM (rt x_1) (rt []))) (rt x_2))) (rgD (biM (u2 pMin) (apM (rt n_0) (apM (rt most_0) (rt [])))) (rt (.dat (.int 0)))))) fun w => rt (.ret w)))
def b_partitions_within (rec : List W → M W) : List W → M (Res W Unit)
  | [n_0, most_0] => g_partitions_within rec n_0 most_0
  | _ => fun _ => .bad
def r_partitions_within : Nat → List W → M W
  | 0, _ => fun _ => .bad
  | n + 1, ws => finM (b_partitions_within (r_partitions_within n) ws)
def m_partitions_within : List W → M W := r_partitions_within 13
set_option maxHeartbeats 4000000 in
theorem ok_partitions_within {P : Program} {w : World} {K : PySem.W.Frag} {mg : Str → Option Value} {base : Heap} {f : Addr} {fd : FuncData} (F : FunY K "partitions_within" "partitions_within" s_partitions_within f fd) (T : MgB mg) (m0 : mg "partitions_within" = some (.ref f)) (b0 : Binds K fd ["n", "most"] []) : ∀ n : Nat, FnOk P w K mg base (L2.CX P w) (1 + n) f fd ["n", "most"] (spM K w mg 2 (r_partitions_within n))
  | 0 => FnOk.bad rfl
  | n + 1 => by
    have ih := ok_partitions_within (P := P) (w := w) (base := base) F T m0 b0 n
    have c_partitions_within : CalM P w K mg base (1 + n) "partitions_within" ["n", "most"] 2 (r_partitions_within n) := ⟨f, fd, ih, m0, F.kp, b0⟩
    exact defM (g := fun _ => noR 4) (mb := b_partitions_within (r_partitions_within n)) F sc_partitions_within (by decide) (fun cdv A outer s H E hr hp ws hlen => by
    match ws, hlen with
    | [n_0, most_0], _ =>
      show SM _ _ _ _ (g_partitions_within (r_partitions_within n) n_0 most_0) _
      unfold g_partitions_within
      exact (
(sm_ifR (g0 := fun _ => noR 4) (tm_cmp (eqF hr) (em_var (n := 0) (w := n_0) rfl rfl) em_int)
 (sm_ret (em_frz (lm_lst (am_cons (em_tup am_nil) am_nil))))
 (sm_ret (em_frz (LcP.lm (lcp2 (own := [("part", 2), ("rest", 3)]) (vs1 := [3]) (im_down T.range (em_B (min_f rfl) T.min (by decide +kernel) (am_cons (em_var (n := 0) (w := n_0) rfl rfl) (am_cons (em_var (n := 1) (w := most_0) rfl rfl) am_nil))) em_int) (GWx.gw (gwx_name (by decide)) mon_name) (GWx.gw (gwx_name (by decide)) mon_name) (by intro k hk; simp at hk; rcases hk with rfl | rfl <;> rfl) (fun _ => (by intro k hk; simp at hk; rcases hk with rfl <;> rfl)) gm_name (fun _ => gtm_yes) (fun x_1 _ _ _ _ _ => (im_val (em_callI c_partitions_within hr (am_cons (em_bin sub_f (em_var (n := 0) (w := n_0) rfl rfl) (em_var (n := 2) (w := x_1) rfl rfl)) (am_cons (em_var (n := 2) (w := x_1) rfl rfl) am_nil))))) (fun _ => gm_name) (fun _ _ => gtm_yes) (fun x_1 x_2 _ _ _ _ _ => (em_bin add_f (em_tup (am_cons (em_var (n := 2) (w := x_1) rfl rfl) am_nil)) (em_var (n := 3) (w := x_2) rfl rfl))) sc_partitions_within.nd (blkOk_by (N := ["n", "most", "part", "rest"]) (sc := defScope s_partitions_within) (by decide +kernel)) (by decide) (fun _ _ _ _ _ => (pg_name (i := 2) sc_partitions_within.nd rfl (by first | exact .inl rfl | exact .inr rfl))) (fun _ _ _ _ _ => (pg_name (i := 3) sc_partitions_within.nd rfl (by first | exact .inl rfl | exact .inr rfl))) pts0 pts0)))))))
abbrev s_partitions : Stmt := top 9
theorem sc_partitions : FnScope ["n"] ["n"] (defScope s_partitions) := ⟨rfl, rfl, rfl, by decide +kernel, rfl, by decide +kernel, by decide +kernel⟩
def g_partitions (n_0 : W) : M (Res W Unit) :=
  (ifM (orM (notM (tvM (callI 1 (apM (rt n_0) (rt [])) m_is_integer))) (orM (cmpM (c2 cLt) (rt n_0) (rt (.dat (.int 0)))) (cmpM (c2 cGt) (rt n_0) (rt (.dat (.int 12)))))) (retE (raiseM 0 (rt (.dat (.str "large"))))) (bd (toM (callI 2 (apM (rt n_0) (apM (rt n_0) (rt []))) m_partitions_within)) fun w => rt (.ret w)))
def b_partitions : List W → M (Res W Unit)
  | [n_0] => g_partitions n_0
  | _ => fun _ => .bad
def m_partitions (ws : List W) : M W := finM (b_partitions ws)
set_option maxHeartbeats 4000000 in
theorem ok_partitions {P : Program} {w : World} {K : PySem.W.Frag} {mg : Str → Option Value} {base : Heap} {f : Addr} {fd : FuncData} (F : FunY K "partitions" "partitions" s_partitions f fd) (T : MgB mg) (c_is_integer : CalM P w K mg base 2 "is_integer" ["value"] 1 m_is_integer) (c_partitions_within : CalM P w K mg base 14 "partitions_within" ["n", "most"] 2 m_partitions_within) {C_Refused fI_Refused : Addr} {fd_Refused : FuncData} (TX_Refused : XCls K mg "Refused" "reason" C_Refused fI_Refused) (FI_Refused : FnOk P w K mg base CX0 1 fI_Refused fd_Refused [Str.ofString "self", Str.ofString "reason"] (spI K C_Refused "reason")) (bI_Refused : Binds K fd_Refused [Str.ofString "self", Str.ofString "reason"] []) {tk__MOST : Tok} (k__MOST : mg "_MOST" = some (.int 12 tk__MOST)) : FnOk P w K mg base (L2.CX P w) 15 f fd ["n"] (spM K w mg 1 m_partitions) :=
  defM (g := fun _ => noR 1) (mb := b_partitions) F sc_partitions (by decide) (fun cdv A outer s H E hr hp ws hlen => by
    match ws, hlen with
    | [n_0], _ =>
      show SM _ _ _ _ (g_partitions n_0) _
      unfold g_partitions
      exact (
(sm_ifR (g0 := fun _ => noR 1) (tm_w (wm_or (tm_not (tm_val (em_callI c_is_integer (hr.mono (by omega)) (am_cons (em_var (n := 0) (w := n_0) rfl rfl) am_nil)))) (wm_or (tm_cmp (ltF hr) (em_var (n := 0) (w := n_0) rfl rfl) em_int) (wm_or1 (tm_cmp gtF (em_var (n := 0) (w := n_0) rfl rfl) (em_glob (by exact rfl) k__MOST ⟨_, rfl⟩))))))
 (sm_raise (c := 0) TX_Refused rfl rfl FI_Refused (hr.mono (by omega)) bI_Refused em_str)
 (sm_ret (em_tuple T.tuple (em_callI c_partitions_within (hr.mono (by omega)) (am_cons (em_var (n := 0) (w := n_0) rfl rfl) (am_cons (em_var (n := 0) (w := n_0) rfl rfl) am_nil))))))))
abbrev s_holds : Stmt := top 11
theorem sc_holds : FnScope ["a", "b", "x", "y"] ["a", "b"] (defScope s_holds) := ⟨rfl, rfl, rfl, by decide +kernel, rfl, by decide +kernel, by decide +kernel⟩
def g_holds (a_0 b_0 : W) : M (Res W Unit) :=
  (bd (bW (andM (bvM (bW (cmpM (c2 cLe) (biM fLen (apM (rt b_0) (rt []))) (biM fLen (apM (rt a_0) (rt [])))))) (bvM (biM (u1 dAll) (apM (frzW (lc1 (tgT 2 (tgsC tgN (tgsC tgN tgs0))) (fun _ => rt true) (fun x_1 => (bW (cmpM (c2 cGe) (rt x_1.1) (rt x_1.2.1)))) (z2M (rt a_0) (rt b_0)))) (rt [])))))) fun w => rt (.ret w))
def b_holds : List W → M (Res W Unit)
  | [a_0, b_0] => g_holds a_0 b_0
  | _ => fun _ => .bad
def m_holds (ws : List W) : M W := finM (b_holds ws)
set_option maxHeartbeats 4000000 in
theorem ok_holds {P : Program} {w : World} {K : PySem.W.Frag} {mg : Str → Option Value} {base : Heap} {f : Addr} {fd : FuncData} (F : FunY K "holds" "holds" s_holds f fd) (T : MgB mg) : FnOk P w K mg base (L2.CX P w) 2 f fd ["a", "b"] (spM K w mg 2 m_holds) :=
  defM (g := fun _ => noR 4) (mb := b_holds) F sc_holds (by decide) (fun cdv A outer s H E hr hp ws hlen => by
    match ws, hlen with
    | [a_0, b_0], _ =>
      show SM _ _ _ _ (g_holds a_0 b_0) _
      unfold g_holds
      exact (
(sm_ret (em_and (em_cmp leF (em_B len_f T.len (by decide +kernel) (am_cons (em_var (n := 1) (w := b_0) rfl rfl) am_nil)) (em_B len_f T.len (by decide +kernel) (am_cons (em_var (n := 0) (w := a_0) rfl rfl) am_nil))) (em_one (em_B (all_f rfl) T.all (by decide +kernel) (am_cons (em_frz (LcP.lm (lcp0 (own := [("x", 2), ("y", 3)]) (im_z2 T.zip (em_var (n := 0) (w := a_0) rfl rfl) (em_var (n := 1) (w := b_0) rfl rfl)) (GWx.gw (gwx_tup (gwxs_cons (gwx_name (by decide)) mon_name (gwxs_cons (gwx_name (by decide)) mon_name gwxs_nil mons_nil) (mons_cons mon_name mons_nil))) (mon_tup (mons_cons mon_name (mons_cons mon_name mons_nil)))) (by intro k hk; simp at hk; rcases hk with rfl | rfl <;> rfl) (gm_tup (gms_cons gm_name fun _ => (gms_cons gm_name fun _ => gms_nil))) (fun x_1 _ _ _ _ _ => (em_cmp geF (em_var (n := 2) (w := x_1.1) rfl rfl) (em_var (n := 3) (w := x_1.2.1) rfl rfl))) sc_holds.nd (blkOk_by (N := ["a", "b", "x", "y"]) (sc := defScope s_holds) (by decide +kernel)) (fun _ _ _ _ _ => (pg_tup rfl (pgs_cons (pg_name (i := 2) sc_holds.nd rfl (by first | exact .inl rfl | exact .inr rfl)) (pgs_cons (pg_name (i := 3) sc_holds.nd rfl (by first | exact .inl rfl | exact .inr rfl)) pgs_nil))))))) am_nil)))))))
abbrev s_shares : Stmt := top 12
theorem sc_shares : FnScope ["limits", "k", "behind", "found", "limit", "taken", "left", "t", "_"] ["limits", "k"] (defScope s_shares) := ⟨rfl, rfl, rfl, by decide +kernel, rfl, by decide +kernel, by decide +kernel⟩
def g_shares (limits_0 k_0 : W) : M (Res W Unit) :=
  (bd (biM (u1 pSum) (apM (rt limits_0) (rt []))) fun behind_1 => (ifM (orM (cmpM (c2 cLt) (rt k_0) (rt (.dat (.int 0)))) (cmpM (c2 cGt) (rt k_0) (rt behind_1))) (retE (bd (frzW (lstM (rt []))) fun w => rt (.ret w))) (bd (frzW (lstM (apM (tupM (apM (tupM (rt [])) (apM (rt k_0) (rt [])))) (rt [])))) fun found_2 => (bd (sqM (rt limits_0)) fun ws => seqM (forM (stepM tgN fun x_3 (st_4 : W × W) => (bd (binM (l2 pSub) (rt st_4.1) (rt x_3)) fun behind_5 => (bd (frzW (lc2 (tgT 2 (tgsC tgN (tgsC tgN tgs0))) (fun x_7 => rt true) (fun x_7 => (rgD (biM (u2 pMin) (apM (rt x_7.2.1) (apM (rt x_3) (rt [])))) (binM (l2 pSub) (biM (u2 pMax) (apM (rt (.dat (.int 0))) (apM (binM (l2 pSub) (rt x_7.2.1) (rt behind_5)) (rt [])))) (rt (.dat (.int 1)))))) tgN (fun x_7 x_8 => rt true) (fun x_7 x_8 => (tupM (apM (binM (l2 pAddX) (rt x_7.1) (tupM (apM (rt x_8) (rt [])))) (apM (binM (l2 pSub) (rt x_7.2.1) (rt x_8)) (rt []))))) (sqM (rt st_4.2)))) fun found_6 => (rt (.nxt (behind_5, found_6)))))) ws (behind_1, found_2)) fun st_4 => (bd (frzW (lc1 (tgT 2 (tgsC tgN (tgsC tgN tgs0))) (fun _ => rt true) (fun x_9 => (rt x_9.1)) (sqM (rt st_4.2)))) fun w => rt (.ret w))))))
def b_shares : List W → M (Res W Unit)
  | [limits_0, k_0] => g_shares limits_0 k_0
  | _ => fun _ => .bad
def m_shares (ws : List W) : M W := finM (b_shares ws)
set_option maxHeartbeats 4000000 in
theorem ok_shares {P : Program} {w : World} {K : PySem.W.Frag} {mg : Str → Option Value} {base : Heap} {f : Addr} {fd : FuncData} (F : FunY K "shares" "shares" s_shares f fd) (T : MgB mg) : FnOk P w K mg base (L2.CX P w) 2 f fd ["limits", "k"] (spM K w mg 2 m_shares) :=
  defM (g := fun _ => noR 9) (mb := b_shares) F sc_shares (by decide) (fun cdv A outer s H E hr hp ws hlen => by
    match ws, hlen with
    | [limits_0, k_0], _ =>
      show SM _ _ _ _ (g_shares limits_0 k_0) _
      unfold g_shares
      exact (
(sm_set (n := 2) sc_shares.nd rfl rfl (em_B (sum_f rfl) T.sum (by decide +kernel) (am_cons (em_var (n := 0) (w := limits_0) rfl rfl) am_nil)) (fun behind_1 =>
 (sm_ifR (g0 := fun _ => noR 9) (tm_w (wm_or (tm_cmp (ltF hr) (em_var (n := 1) (w := k_0) rfl rfl) em_int) (wm_or1 (tm_cmp gtF (em_var (n := 1) (w := k_0) rfl rfl) (em_var (n := 2) (w := behind_1) rfl rfl)))))
 (sm_ret (em_frz (lm_lst am_nil)))
 (sm_set (n := 3) sc_shares.nd rfl rfl (em_frz (lm_lst (am_cons (em_tup (am_cons (em_tup am_nil) (am_cons (em_var (n := 1) (w := k_0) rfl rfl) am_nil))) am_nil))) (fun found_2 =>
 (sm_for (F := fun (st_4 : W × W) => [some limits_0, some k_0, some st_4.1, some st_4.2, none, none, none, none, none]) (Fb := fun x_3 (st_4 : W × W) => [some limits_0, some k_0, some st_4.1, some st_4.2, some x_3, none, none, none, none]) (z0 := (behind_1, found_2)) (im_val (em_var (n := 0) (w := limits_0) rfl rfl)) (pg_name (i := 4) sc_shares.nd rfl (by first | exact .inl rfl | exact .inr rfl)) (by exact (.keep (.keep (.keep (.keep (.drop (.drop (.drop (.drop (.drop LeR.nil)))))))))) (by exact le_noR rfl) (fun _ => gm_name) (fun _ _ => by exact le_noR rfl) (fun x_3 st_4 => by exact (
 (sm_set (n := 2) sc_shares.nd rfl rfl (em_bin sub_f (em_var (n := 2) (w := st_4.1) rfl rfl) (em_var (n := 4) (w := x_3) rfl rfl)) (fun behind_5 =>
 (sm_setF (n := 3) (lcp2 (own := [("taken", 5), ("left", 6), ("t", 7)]) (vs1 := [7]) (im_val (em_var (n := 3) (w := st_4.2) rfl rfl)) (GWx.gw (gwx_tup (gwxs_cons (gwx_name (by decide)) mon_name (gwxs_cons (gwx_name (by decide)) mon_name gwxs_nil mons_nil) (mons_cons mon_name mons_nil))) (mon_tup (mons_cons mon_name (mons_cons mon_name mons_nil)))) (GWx.gw (gwx_name (by decide)) mon_name) (by intro k hk; simp at hk; rcases hk with rfl | rfl | rfl <;> rfl) (fun _ => (by intro k hk; simp at hk; rcases hk with rfl <;> rfl)) (gm_tup (gms_cons gm_name fun _ => (gms_cons gm_name fun _ => gms_nil))) (fun _ => gtm_yes) (fun x_7 _ _ _ _ _ => (im_down T.range (em_B (min_f rfl) T.min (by decide +kernel) (am_cons (em_var (n := 6) (w := x_7.2.1) rfl rfl) (am_cons (em_var (n := 4) (w := x_3) rfl rfl) am_nil))) (em_bin sub_f (em_B (max_f rfl) T.max (by decide +kernel) (am_cons em_int (am_cons (em_bin sub_f (em_var (n := 6) (w := x_7.2.1) rfl rfl) (em_var (n := 2) (w := behind_5) rfl rfl)) am_nil))) em_int))) (fun _ => gm_name) (fun _ _ => gtm_yes) (fun x_7 x_8 _ _ _ _ _ => (em_tup (am_cons (em_bin add_f (em_var (n := 5) (w := x_7.1) rfl rfl) (em_tup (am_cons (em_var (n := 7) (w := x_8) rfl rfl) am_nil))) (am_cons (em_bin sub_f (em_var (n := 6) (w := x_7.2.1) rfl rfl) (em_var (n := 7) (w := x_8) rfl rfl)) am_nil)))) sc_shares.nd (blkOk_by (N := ["limits", "k", "behind", "found", "limit", "taken", "left", "t", "_"]) (sc := defScope s_shares) (by decide +kernel)) (by decide) (fun _ _ _ _ _ => (pg_tup rfl (pgs_cons (pg_name (i := 5) sc_shares.nd rfl (by first | exact .inl rfl | exact .inr rfl)) (pgs_cons (pg_name (i := 6) sc_shares.nd rfl (by first | exact .inl rfl | exact .inr rfl)) pgs_nil)))) (fun _ _ _ _ _ => (pg_name (i := 7) sc_shares.nd rfl (by first | exact .inl rfl | exact .inr rfl))) pts0 pts0) sc_shares.nd rfl rfl (sw_true rfl rfl rfl (by decide +kernel)) rfl (fun found_6 =>
 (sm_nil (z := (behind_5, found_6)) (by exact (.keep (.keep (.keep (.keep (.drop (.drop (.drop (.drop (.drop LeR.nil)))))))))) (by exact le_noR rfl)))))))) (fun st_4 => by exact (
 (sm_ret (em_frz (LcP.lm (lcp0 (own := [("taken", 5), ("_", 8)]) (im_val (em_var (n := 3) (w := st_4.2) rfl rfl)) (GWx.gw (gwx_tup (gwxs_cons (gwx_name (by decide)) mon_name (gwxs_cons (gwx_name (by decide)) mon_name gwxs_nil mons_nil) (mons_cons mon_name mons_nil))) (mon_tup (mons_cons mon_name (mons_cons mon_name mons_nil)))) (by intro k hk; simp at hk; rcases hk with rfl | rfl <;> rfl) (gm_tup (gms_cons gm_name fun _ => (gms_cons gm_name fun _ => gms_nil))) (fun x_9 _ _ _ _ _ => (em_var (n := 5) (w := x_9.1) rfl rfl)) sc_shares.nd (blkOk_by (N := ["limits", "k", "behind", "found", "limit", "taken", "left", "t", "_"]) (sc := defScope s_shares) (by decide +kernel)) (fun _ _ _ _ _ => (pg_tup rfl (pgs_cons (pg_name (i := 5) sc_shares.nd rfl (by first | exact .inl rfl | exact .inr rfl)) (pgs_cons (pg_name (i := 8) sc_shares.nd rfl (by first | exact .inl rfl | exact .inr rfl)) pgs_nil)))))))))) hp))))))))
abbrev s__starts : Stmt := top 14
theorem sc__starts : FnScope ["inner", "many"] ["inner", "many"] (defScope s__starts) := ⟨rfl, rfl, rfl, by decide +kernel, rfl, by decide +kernel, by decide +kernel⟩
def g__starts (inner_0 many_0 : W) : M (Res W Unit) :=
  (bd (binM (l2 pAddX) (rt inner_0) (binM (l2 pMulY) (tupM (apM (rt (.dat (.int 0))) (rt []))) (binM (l2 pSub) (rt many_0) (biM fLen (apM (rt inner_0) (rt [])))))) fun w => rt (.ret w))
def b__starts : List W → M (Res W Unit)
  | [inner_0, many_0] => g__starts inner_0 many_0
  | _ => fun _ => .bad
def m__starts (ws : List W) : M W := finM (b__starts ws)
set_option maxHeartbeats 4000000 in
theorem ok__starts {P : Program} {w : World} {K : PySem.W.Frag} {mg : Str → Option Value} {base : Heap} {f : Addr} {fd : FuncData} (F : FunY K "_starts" "_starts" s__starts f fd) (T : MgB mg) : FnOk P w K mg base (L2.CX P w) 2 f fd ["inner", "many"] (spM K w mg 2 m__starts) :=
  defM (g := fun _ => noR 2) (mb := b__starts) F sc__starts (by decide) (fun cdv A outer s H E hr hp ws hlen => by
    match ws, hlen with
    | [inner_0, many_0], _ =>
      show SM _ _ _ _ (g__starts inner_0 many_0) _
      unfold g__starts
      exact (
(sm_ret (em_bin add_f (em_var (n := 0) (w := inner_0) rfl rfl) (em_bin mul_f (em_tup (am_cons em_int am_nil)) (em_bin sub_f (em_var (n := 1) (w := many_0) rfl rfl) (em_B len_f T.len (by decide +kernel) (am_cons (em_var (n := 0) (w := inner_0) rfl rfl) am_nil))))))))
abbrev s__is_row : Stmt := top 15
theorem sc__is_row : FnScope ["row", "many", "x", "y"] ["row", "many"] (defScope s__is_row) := ⟨rfl, rfl, rfl, by decide +kernel, rfl, by decide +kernel, by decide +kernel⟩
def g__is_row (row_0 many_0 : W) : M (Res W Unit) :=
  (ifM (orM (notM (tvM (isiM isTupO (rt row_0)))) (cmpM (c2 cNe) (biM fLen (apM (rt row_0) (rt []))) (rt many_0))) (retE (bd (rt (.dat (.bool false))) fun w => rt (.ret w))) (ifM (notM (tvM (biM (u1 dAll) (apM (frzW (lc1 tgN (fun _ => rt true) (fun x_1 => (bW (andM (bvM (callI 1 (apM (rt x_1) (rt [])) m_is_integer)) (bvM (bW (cmpM (c2 cGt) (rt x_1) (rt (.dat (.int 0))))))))) (sqM (rt row_0)))) (rt []))))) (retE (bd (rt (.dat (.bool false))) fun w => rt (.ret w))) (bd (biM (u1 dAll) (apM (frzW (lc1 (tgT 2 (tgsC tgN (tgsC tgN tgs0))) (fun _ => rt true) (fun x_2 => (bW (cmpM (c2 cLe) (rt x_2.1) (rt x_2.2.1)))) (z2M (rt row_0) (slM (rt row_0) (soM (rt (.dat (.int 1)))) (rt none))))) (rt []))) fun w => rt (.ret w))))
def b__is_row : List W → M (Res W Unit)
  | [row_0, many_0] => g__is_row row_0 many_0
  | _ => fun _ => .bad
def m__is_row (ws : List W) : M W := finM (b__is_row ws)
set_option maxHeartbeats 4000000 in
theorem ok__is_row {P : Program} {w : World} {K : PySem.W.Frag} {mg : Str → Option Value} {base : Heap} {f : Addr} {fd : FuncData} (F : FunY K "_is_row" "_is_row" s__is_row f fd) (T : MgB mg) (c_is_integer : CalM P w K mg base 2 "is_integer" ["value"] 1 m_is_integer) : FnOk P w K mg base (L2.CX P w) 3 f fd ["row", "many"] (spM K w mg 2 m__is_row) :=
  defM (g := fun _ => noR 4) (mb := b__is_row) F sc__is_row (by decide) (fun cdv A outer s H E hr hp ws hlen => by
    match ws, hlen with
    | [row_0, many_0], _ =>
      show SM _ _ _ _ (g__is_row row_0 many_0) _
      unfold g__is_row
      exact (
(sm_ifR (g0 := fun _ => noR 4) (tm_w (wm_or (tm_not (tm_val (em_isTup T.isinstance T.tuple (em_var (n := 0) (w := row_0) rfl rfl)))) (wm_or1 (tm_cmp (neF hr) (em_B len_f T.len (by decide +kernel) (am_cons (em_var (n := 0) (w := row_0) rfl rfl) am_nil)) (em_var (n := 1) (w := many_0) rfl rfl)))))
 (sm_ret em_bl)
 (sm_ifR (g0 := fun _ => noR 4) (tm_not (tm_val (em_B (all_f rfl) T.all (by decide +kernel) (am_cons (em_frz (LcP.lm (lcp0 (own := [("x", 2)]) (im_val (em_var (n := 0) (w := row_0) rfl rfl)) (GWx.gw (gwx_name (by decide)) mon_name) (by intro k hk; simp at hk; rcases hk with rfl <;> rfl) gm_name (fun x_1 _ _ _ _ _ => (em_and (em_callI c_is_integer (hr.mono (by omega)) (am_cons (em_var (n := 2) (w := x_1) rfl rfl) am_nil)) (em_one (em_cmp gtF (em_var (n := 2) (w := x_1) rfl rfl) em_int)))) sc__is_row.nd (blkOk_by (N := ["row", "many", "x", "y"]) (sc := defScope s__is_row) (by decide +kernel)) (fun _ _ _ _ _ => (pg_name (i := 2) sc__is_row.nd rfl (by first | exact .inl rfl | exact .inr rfl)))))) am_nil))))
 (sm_ret em_bl)
 (sm_ret (em_B (all_f rfl) T.all (by decide +kernel) (am_cons (em_frz (LcP.lm (lcp0 (own := [("x", 2), ("y", 3)]) (im_z2 T.zip (em_var (n := 0) (w := row_0) rfl rfl) (em_cut (em_var (n := 0) (w := row_0) rfl rfl) (om_some em_int) om_none)) (GWx.gw (gwx_tup (gwxs_cons (gwx_name (by decide)) mon_name (gwxs_cons (gwx_name (by decide)) mon_name gwxs_nil mons_nil) (mons_cons mon_name mons_nil))) (mon_tup (mons_cons mon_name (mons_cons mon_name mons_nil)))) (by intro k hk; simp at hk; rcases hk with rfl | rfl <;> rfl) (gm_tup (gms_cons gm_name fun _ => (gms_cons gm_name fun _ => gms_nil))) (fun x_2 _ _ _ _ _ => (em_cmp leF (em_var (n := 2) (w := x_2.1) rfl rfl) (em_var (n := 3) (w := x_2.2.1) rfl rfl))) sc__is_row.nd (blkOk_by (N := ["row", "many", "x", "y"]) (sc := defScope s__is_row) (by decide +kernel)) (fun _ _ _ _ _ => (pg_tup rfl (pgs_cons (pg_name (i := 2) sc__is_row.nd rfl (by first | exact .inl rfl | exact .inr rfl)) (pgs_cons (pg_name (i := 3) sc__is_row.nd rfl (by first | exact .inl rfl | exact .inr rfl)) pgs_nil))))))) am_nil)))))))
abbrev s_is_filling : Stmt := top 16
theorem sc_is_filling : FnScope ["rows", "outer", "inner", "starts", "row", "part", "start", "i", "covered", "x", "y"] ["rows", "outer", "inner"] (defScope s_is_filling) := ⟨rfl, rfl, rfl, by decide +kernel, rfl, by decide +kernel, by decide +kernel⟩
def g_is_filling (rows_0 outer_0 inner_0 : W) : M (Res W Unit) :=
  (ifM (orM (notM (tvM (isiM isTupO (rt rows_0)))) (orM (cmpM (c2 cNe) (biM fLen (apM (rt rows_0) (rt []))) (biM fLen (apM (rt outer_0) (rt [])))) (notM (tvM (callI 2 (apM (rt outer_0) (apM (rt inner_0) (rt []))) m_holds))))) (retE (bd (rt (.dat (.bool false))) fun w => rt (.ret w))) (bd (callI 2 (apM (rt inner_0) (apM (biM fLen (apM (rt outer_0) (rt []))) (rt []))) m__starts) fun starts_1 => (ifM (notM (tvM (biM (u1 dAll) (apM (frzW (lc1 (tgT 3 (tgsC tgN (tgsC tgN (tgsC tgN tgs0)))) (fun _ => rt true) (fun x_2 => (callI 2 (apM (rt x_2.1) (apM (binM (l2 pSub) (rt x_2.2.1) (rt x_2.2.2.1)) (rt []))) m__is_row)) (z3M (rt rows_0) (rt outer_0) (rt starts_1)))) (rt []))))) (retE (bd (rt (.dat (.bool false))) fun w => rt (.ret w))) (bd (rg2 (rt (.dat (.int 1))) (biM fLen (apM (rt rows_0) (rt [])))) fun ws => seqM (forM (stepM tgN fun x_3 (st_4 : Unit) => (bd (slM (ixM (rt rows_0) (rt x_3)) (soM (binM (l2 pSub) (ixM (rt starts_1) (binM (l2 pSub) (rt x_3) (rt (.dat (.int 1))))) (ixM (rt starts_1) (rt x_3)))) (rt none)) fun covered_5 => (ifM (notM (tvM (biM (u1 dAll) (apM (frzW (lc1 (tgT 2 (tgsC tgN (tgsC tgN tgs0))) (fun _ => rt true) (fun x_6 => (bW (cmpM (c2 cLt) (rt x_6.1) (rt x_6.2.1)))) (z2M (ixM (rt rows_0) (binM (l2 pSub) (rt x_3) (rt (.dat (.int 1))))) (rt covered_5)))) (rt []))))) (retE (bd (rt (.dat (.bool false))) fun w => rt (.ret w))) (rt (.nxt ()))))) ws ()) fun st_4 => (bd (rt (.dat (.bool true))) fun w => rt (.ret w))))))
def b_is_filling : List W → M (Res W Unit)
  | [rows_0, outer_0, inner_0] => g_is_filling rows_0 outer_0 inner_0
  | _ => fun _ => .bad
def m_is_filling (ws : List W) : M W := finM (b_is_filling ws)
set_option maxHeartbeats 4000000 in
theorem ok_is_filling {P : Program} {w : World} {K : PySem.W.Frag} {mg : Str → Option Value} {base : Heap} {f : Addr} {fd : FuncData} (F : FunY K "is_filling" "is_filling" s_is_filling f fd) (T : MgB mg) (c_holds : CalM P w K mg base 2 "holds" ["a", "b"] 2 m_holds) (c__starts : CalM P w K mg base 2 "_starts" ["inner", "many"] 2 m__starts) (c__is_row : CalM P w K mg base 3 "_is_row" ["row", "many"] 2 m__is_row) : FnOk P w K mg base (L2.CX P w) 4 f fd ["rows", "outer", "inner"] (spM K w mg 3 m_is_filling) :=
  defM (g := fun _ => noR 11) (mb := b_is_filling) F sc_is_filling (by decide) (fun cdv A outer s H E hr hp ws hlen => by
    match ws, hlen with
    | [rows_0, outer_0, inner_0], _ =>
      show SM _ _ _ _ (g_is_filling rows_0 outer_0 inner_0) _
      unfold g_is_filling
      exact (
(sm_ifR (g0 := fun _ => noR 11) (tm_w (wm_or (tm_not (tm_val (em_isTup T.isinstance T.tuple (em_var (n := 0) (w := rows_0) rfl rfl)))) (wm_or (tm_cmp (neF hr) (em_B len_f T.len (by decide +kernel) (am_cons (em_var (n := 0) (w := rows_0) rfl rfl) am_nil)) (em_B len_f T.len (by decide +kernel) (am_cons (em_var (n := 1) (w := outer_0) rfl rfl) am_nil))) (wm_or1 (tm_not (tm_val (em_callI c_holds (hr.mono (by omega)) (am_cons (em_var (n := 1) (w := outer_0) rfl rfl) (am_cons (em_var (n := 2) (w := inner_0) rfl rfl) am_nil)))))))))
 (sm_ret em_bl)
 (sm_set (n := 3) sc_is_filling.nd rfl rfl (em_callI c__starts (hr.mono (by omega)) (am_cons (em_var (n := 2) (w := inner_0) rfl rfl) (am_cons (em_B len_f T.len (by decide +kernel) (am_cons (em_var (n := 1) (w := outer_0) rfl rfl) am_nil)) am_nil))) (fun starts_1 =>
 (sm_ifR (g0 := fun _ => noR 11) (tm_not (tm_val (em_B (all_f rfl) T.all (by decide +kernel) (am_cons (em_frz (LcP.lm (lcp0 (own := [("row", 4), ("part", 5), ("start", 6)]) (im_z3 T.zip (em_var (n := 0) (w := rows_0) rfl rfl) (em_var (n := 1) (w := outer_0) rfl rfl) (em_var (n := 3) (w := starts_1) rfl rfl)) (GWx.gw (gwx_tup (gwxs_cons (gwx_name (by decide)) mon_name (gwxs_cons (gwx_name (by decide)) mon_name (gwxs_cons (gwx_name (by decide)) mon_name gwxs_nil mons_nil) (mons_cons mon_name mons_nil)) (mons_cons mon_name (mons_cons mon_name mons_nil)))) (mon_tup (mons_cons mon_name (mons_cons mon_name (mons_cons mon_name mons_nil))))) (by intro k hk; simp at hk; rcases hk with rfl | rfl | rfl <;> rfl) (gm_tup (gms_cons gm_name fun _ => (gms_cons gm_name fun _ => (gms_cons gm_name fun _ => gms_nil)))) (fun x_2 _ _ _ _ _ => (em_callI c__is_row (hr.mono (by omega)) (am_cons (em_var (n := 4) (w := x_2.1) rfl rfl) (am_cons (em_bin sub_f (em_var (n := 5) (w := x_2.2.1) rfl rfl) (em_var (n := 6) (w := x_2.2.2.1) rfl rfl)) am_nil)))) sc_is_filling.nd (blkOk_by (N := ["rows", "outer", "inner", "starts", "row", "part", "start", "i", "covered", "x", "y"]) (sc := defScope s_is_filling) (by decide +kernel)) (fun _ _ _ _ _ => (pg_tup rfl (pgs_cons (pg_name (i := 4) sc_is_filling.nd rfl (by first | exact .inl rfl | exact .inr rfl)) (pgs_cons (pg_name (i := 5) sc_is_filling.nd rfl (by first | exact .inl rfl | exact .inr rfl)) (pgs_cons (pg_name (i := 6) sc_is_filling.nd rfl (by first | exact .inl rfl | exact .inr rfl)) pgs_nil)))))))) am_nil))))
 (sm_ret em_bl)
 (sm_for (F := fun (st_4 : Unit) => [some rows_0, some outer_0, some inner_0, some starts_1, none, none, none, none, none, none, none]) (Fb := fun x_3 (st_4 : Unit) => [some rows_0, some outer_0, some inner_0, some starts_1, none, none, none, some x_3, none, none, none]) (z0 := ()) (im_range2 T.range em_int (em_B len_f T.len (by decide +kernel) (am_cons (em_var (n := 0) (w := rows_0) rfl rfl) am_nil))) (pg_name (i := 7) sc_is_filling.nd rfl (by first | exact .inl rfl | exact .inr rfl)) (by exact (.keep (.keep (.keep (.keep (.drop (.drop (.drop (.drop (.drop (.drop (.drop LeR.nil)))))))))))) (by exact le_noR rfl) (fun _ => gm_name) (fun _ _ => by exact le_noR rfl) (fun x_3 st_4 => by exact (
 (sm_set (n := 8) sc_is_filling.nd rfl rfl (em_cut (em_ix (em_var (n := 0) (w := rows_0) rfl rfl) (em_var (n := 7) (w := x_3) rfl rfl)) (om_some (em_bin sub_f (em_ix (em_var (n := 3) (w := starts_1) rfl rfl) (em_bin sub_f (em_var (n := 7) (w := x_3) rfl rfl) em_int)) (em_ix (em_var (n := 3) (w := starts_1) rfl rfl) (em_var (n := 7) (w := x_3) rfl rfl)))) om_none) (fun covered_5 =>
 (sm_ifR (g0 := fun _ => noR 11) (tm_not (tm_val (em_B (all_f rfl) T.all (by decide +kernel) (am_cons (em_frz (LcP.lm (lcp0 (own := [("x", 9), ("y", 10)]) (im_z2 T.zip (em_ix (em_var (n := 0) (w := rows_0) rfl rfl) (em_bin sub_f (em_var (n := 7) (w := x_3) rfl rfl) em_int)) (em_var (n := 8) (w := covered_5) rfl rfl)) (GWx.gw (gwx_tup (gwxs_cons (gwx_name (by decide)) mon_name (gwxs_cons (gwx_name (by decide)) mon_name gwxs_nil mons_nil) (mons_cons mon_name mons_nil))) (mon_tup (mons_cons mon_name (mons_cons mon_name mons_nil)))) (by intro k hk; simp at hk; rcases hk with rfl | rfl <;> rfl) (gm_tup (gms_cons gm_name fun _ => (gms_cons gm_name fun _ => gms_nil))) (fun x_6 _ _ _ _ _ => (em_cmp (ltF hr) (em_var (n := 9) (w := x_6.1) rfl rfl) (em_var (n := 10) (w := x_6.2.1) rfl rfl))) sc_is_filling.nd (blkOk_by (N := ["rows", "outer", "inner", "starts", "row", "part", "start", "i", "covered", "x", "y"]) (sc := defScope s_is_filling) (by decide +kernel)) (fun _ _ _ _ _ => (pg_tup rfl (pgs_cons (pg_name (i := 9) sc_is_filling.nd rfl (by first | exact .inl rfl | exact .inr rfl)) (pgs_cons (pg_name (i := 10) sc_is_filling.nd rfl (by first | exact .inl rfl | exact .inr rfl)) pgs_nil))))))) am_nil))))
 (sm_ret em_bl)
 (sm_nil (z := ()) (by exact (.keep (.keep (.keep (.keep (.drop (.drop (.drop (.drop (.drop (.drop (.drop LeR.nil)))))))))))) (by exact le_noR rfl))))))) (fun st_4 => by exact (
 (sm_ret em_bl))) hp)))))))
abbrev s__strips_up : Stmt := top 17
theorem sc__strips_up : FnScope ["outer", "shape", "k", "later", "ahead", "least", "part", "needed", "most", "above", "low", "high", "free", "limits", "t", "shared"] ["outer", "shape", "k", "later"] (defScope s__strips_up) := ⟨rfl, rfl, rfl, by decide +kernel, rfl, by decide +kernel, by decide +kernel⟩
def g__strips_up (outer_0 shape_0 k_0 later_0 : W) : M (Res W Unit) :=
  (bd (binM (l2 pAddX) (slM (rt outer_0) (soM (rt later_0)) (rt none)) (binM (l2 pMulY) (tupM (apM (rt (.dat (.int 0))) (rt []))) (biM (u2 pMin) (apM (rt later_0) (apM (biM fLen (apM (rt outer_0) (rt []))) (rt [])))))) fun ahead_1 => (bd (frzW (lc1 (tgT 2 (tgsC tgN (tgsC tgN tgs0))) (fun _ => rt true) (fun x_3 => (biM (u2 pMax) (apM (rt x_3.1) (apM (rt x_3.2.1) (rt []))))) (z2M (rt shape_0) (rt ahead_1)))) fun least_2 => (bd (frzW (lc1 (tgT 2 (tgsC tgN (tgsC tgN tgs0))) (fun _ => rt true) (fun x_5 => (biM (u2 pMin) (apM (rt x_5.1) (apM (rt x_5.2.1) (rt []))))) (z2M (rt outer_0) (binM (l2 pAddX) (slM (rt outer_0) (rt none) (soM (rt (.dat (.int 1))))) (rt shape_0))))) fun most_4 => (ifM (tvM (biM (u1 dAny) (apM (frzW (lc1 (tgT 2 (tgsC tgN (tgsC tgN tgs0))) (fun _ => rt true) (fun x_6 => (bW (cmpM (c2 cGt) (rt x_6.1) (rt x_6.2.1)))) (z2M (rt least_2) (rt most_4)))) (rt [])))) (retE (bd (frzW (lstM (rt []))) fun w => rt (.ret w))) (bd (binM (l2 pAddX) (binM (l2 pSub) (rt k_0) (biM (u1 pSum) (apM (rt least_2) (rt [])))) (biM (u1 pSum) (apM (rt shape_0) (rt [])))) fun free_7 => (bd (frzW (lc1 (tgT 2 (tgsC tgN (tgsC tgN tgs0))) (fun _ => rt true) (fun x_9 => (binM (l2 pSub) (rt x_9.2.1) (rt x_9.1))) (z2M (rt least_2) (rt most_4)))) fun limits_8 => (bd (frzW (lc1 tgN (fun _ => rt true) (fun x_10 => (toM (frzW (lc1 (tgT 2 (tgsC tgN (tgsC tgN tgs0))) (fun _ => rt true) (fun x_11 => (binM (l2 pAddX) (rt x_11.1) (rt x_11.2.1))) (z2M (rt least_2) (rt x_10)))))) (sqM (callI 2 (apM (rt limits_8) (apM (rt free_7) (rt []))) m_shares)))) fun w => rt (.ret w))))))))
def b__strips_up : List W → M (Res W Unit)
  | [outer_0, shape_0, k_0, later_0] => g__strips_up outer_0 shape_0 k_0 later_0
  | _ => fun _ => .bad
def m__strips_up (ws : List W) : M W := finM (b__strips_up ws)
set_option maxHeartbeats 4000000 in
theorem ok__strips_up {P : Program} {w : World} {K : PySem.W.Frag} {mg : Str → Option Value} {base : Heap} {f : Addr} {fd : FuncData} (F : FunY K "_strips_up" "_strips_up" s__strips_up f fd) (T : MgB mg) (c_shares : CalM P w K mg base 2 "shares" ["limits", "k"] 2 m_shares) : FnOk P w K mg base (L2.CX P w) 3 f fd ["outer", "shape", "k", "later"] (spM K w mg 4 m__strips_up) :=
  defM (g := fun _ => noR 16) (mb := b__strips_up) F sc__strips_up (by decide) (fun cdv A outer s H E hr hp ws hlen => by
    match ws, hlen with
    | [outer_0, shape_0, k_0, later_0], _ =>
      show SM _ _ _ _ (g__strips_up outer_0 shape_0 k_0 later_0) _
      unfold g__strips_up
      exact (
(sm_set (n := 4) sc__strips_up.nd rfl rfl (em_bin add_f (em_cut (em_var (n := 0) (w := outer_0) rfl rfl) (om_some (em_var (n := 3) (w := later_0) rfl rfl)) om_none) (em_bin mul_f (em_tup (am_cons em_int am_nil)) (em_B (min_f rfl) T.min (by decide +kernel) (am_cons (em_var (n := 3) (w := later_0) rfl rfl) (am_cons (em_B len_f T.len (by decide +kernel) (am_cons (em_var (n := 0) (w := outer_0) rfl rfl) am_nil)) am_nil))))) (fun ahead_1 =>
 (sm_set (n := 5) sc__strips_up.nd rfl rfl (em_frz (LcP.lm (lcp0 (own := [("part", 6), ("needed", 7)]) (im_z2 T.zip (em_var (n := 1) (w := shape_0) rfl rfl) (em_var (n := 4) (w := ahead_1) rfl rfl)) (GWx.gw (gwx_tup (gwxs_cons (gwx_name (by decide)) mon_name (gwxs_cons (gwx_name (by decide)) mon_name gwxs_nil mons_nil) (mons_cons mon_name mons_nil))) (mon_tup (mons_cons mon_name (mons_cons mon_name mons_nil)))) (by intro k hk; simp at hk; rcases hk with rfl | rfl <;> rfl) (gm_tup (gms_cons gm_name fun _ => (gms_cons gm_name fun _ => gms_nil))) (fun x_3 _ _ _ _ _ => (em_B (max_f rfl) T.max (by decide +kernel) (am_cons (em_var (n := 6) (w := x_3.1) rfl rfl) (am_cons (em_var (n := 7) (w := x_3.2.1) rfl rfl) am_nil)))) sc__strips_up.nd (blkOk_by (N := ["outer", "shape", "k", "later", "ahead", "least", "part", "needed", "most", "above", "low", "high", "free", "limits", "t", "shared"]) (sc := defScope s__strips_up) (by decide +kernel)) (fun _ _ _ _ _ => (pg_tup rfl (pgs_cons (pg_name (i := 6) sc__strips_up.nd rfl (by first | exact .inl rfl | exact .inr rfl)) (pgs_cons (pg_name (i := 7) sc__strips_up.nd rfl (by first | exact .inl rfl | exact .inr rfl)) pgs_nil))))))) (fun least_2 =>
 (sm_setF (n := 8) (lcp0 (own := [("part", 6), ("above", 9)]) (im_z2 T.zip (em_var (n := 0) (w := outer_0) rfl rfl) (em_bin add_f (em_cut (em_var (n := 0) (w := outer_0) rfl rfl) om_none (om_some em_int)) (em_var (n := 1) (w := shape_0) rfl rfl))) (GWx.gw (gwx_tup (gwxs_cons (gwx_name (by decide)) mon_name (gwxs_cons (gwx_name (by decide)) mon_name gwxs_nil mons_nil) (mons_cons mon_name mons_nil))) (mon_tup (mons_cons mon_name (mons_cons mon_name mons_nil)))) (by intro k hk; simp at hk; rcases hk with rfl | rfl <;> rfl) (gm_tup (gms_cons gm_name fun _ => (gms_cons gm_name fun _ => gms_nil))) (fun x_5 _ _ _ _ _ => (em_B (min_f rfl) T.min (by decide +kernel) (am_cons (em_var (n := 6) (w := x_5.1) rfl rfl) (am_cons (em_var (n := 9) (w := x_5.2.1) rfl rfl) am_nil)))) sc__strips_up.nd (blkOk_by (N := ["outer", "shape", "k", "later", "ahead", "least", "part", "needed", "most", "above", "low", "high", "free", "limits", "t", "shared"]) (sc := defScope s__strips_up) (by decide +kernel)) (fun _ _ _ _ _ => (pg_tup rfl (pgs_cons (pg_name (i := 6) sc__strips_up.nd rfl (by first | exact .inl rfl | exact .inr rfl)) (pgs_cons (pg_name (i := 9) sc__strips_up.nd rfl (by first | exact .inl rfl | exact .inr rfl)) pgs_nil))))) sc__strips_up.nd rfl rfl (sw_true rfl rfl rfl (by decide +kernel)) rfl (fun most_4 =>
 (sm_ifR (g0 := fun _ => noR 16) (tm_val (em_B (any_f rfl) T.any (by decide +kernel) (am_cons (em_frz (LcP.lm (lcp0 (own := [("low", 10), ("high", 11)]) (im_z2 T.zip (em_var (n := 5) (w := least_2) rfl rfl) (em_var (n := 8) (w := most_4) rfl rfl)) (GWx.gw (gwx_tup (gwxs_cons (gwx_name (by decide)) mon_name (gwxs_cons (gwx_name (by decide)) mon_name gwxs_nil mons_nil) (mons_cons mon_name mons_nil))) (mon_tup (mons_cons mon_name (mons_cons mon_name mons_nil)))) (by intro k hk; simp at hk; rcases hk with rfl | rfl <;> rfl) (gm_tup (gms_cons gm_name fun _ => (gms_cons gm_name fun _ => gms_nil))) (fun x_6 _ _ _ _ _ => (em_cmp gtF (em_var (n := 10) (w := x_6.1) rfl rfl) (em_var (n := 11) (w := x_6.2.1) rfl rfl))) sc__strips_up.nd (blkOk_by (N := ["outer", "shape", "k", "later", "ahead", "least", "part", "needed", "most", "above", "low", "high", "free", "limits", "t", "shared"]) (sc := defScope s__strips_up) (by decide +kernel)) (fun _ _ _ _ _ => (pg_tup rfl (pgs_cons (pg_name (i := 10) sc__strips_up.nd rfl (by first | exact .inl rfl | exact .inr rfl)) (pgs_cons (pg_name (i := 11) sc__strips_up.nd rfl (by first | exact .inl rfl | exact .inr rfl)) pgs_nil))))))) am_nil)))
 (sm_ret (em_frz (lm_lst am_nil)))
 (sm_set (n := 12) sc__strips_up.nd rfl rfl (em_bin add_f (em_bin sub_f (em_var (n := 2) (w := k_0) rfl rfl) (em_B (sum_f rfl) T.sum (by decide +kernel) (am_cons (em_var (n := 5) (w := least_2) rfl rfl) am_nil))) (em_B (sum_f rfl) T.sum (by decide +kernel) (am_cons (em_var (n := 1) (w := shape_0) rfl rfl) am_nil))) (fun free_7 =>
 (sm_setF (n := 13) (lcp0 (own := [("low", 10), ("high", 11)]) (im_z2 T.zip (em_var (n := 5) (w := least_2) rfl rfl) (em_var (n := 8) (w := most_4) rfl rfl)) (GWx.gw (gwx_tup (gwxs_cons (gwx_name (by decide)) mon_name (gwxs_cons (gwx_name (by decide)) mon_name gwxs_nil mons_nil) (mons_cons mon_name mons_nil))) (mon_tup (mons_cons mon_name (mons_cons mon_name mons_nil)))) (by intro k hk; simp at hk; rcases hk with rfl | rfl <;> rfl) (gm_tup (gms_cons gm_name fun _ => (gms_cons gm_name fun _ => gms_nil))) (fun x_9 _ _ _ _ _ => (em_bin sub_f (em_var (n := 11) (w := x_9.2.1) rfl rfl) (em_var (n := 10) (w := x_9.1) rfl rfl))) sc__strips_up.nd (blkOk_by (N := ["outer", "shape", "k", "later", "ahead", "least", "part", "needed", "most", "above", "low", "high", "free", "limits", "t", "shared"]) (sc := defScope s__strips_up) (by decide +kernel)) (fun _ _ _ _ _ => (pg_tup rfl (pgs_cons (pg_name (i := 10) sc__strips_up.nd rfl (by first | exact .inl rfl | exact .inr rfl)) (pgs_cons (pg_name (i := 11) sc__strips_up.nd rfl (by first | exact .inl rfl | exact .inr rfl)) pgs_nil))))) sc__strips_up.nd rfl rfl (sw_true rfl rfl rfl (by decide +kernel)) rfl (fun limits_8 =>
 (sm_ret (em_frz (LcP.lm (lcp0 (own := [("shared", 15)]) (im_val (em_callI c_shares (hr.mono (by omega)) (am_cons (em_var (n := 13) (w := limits_8) rfl rfl) (am_cons (em_var (n := 12) (w := free_7) rfl rfl) am_nil)))) (GWx.gw (gwx_name (by decide)) mon_name) (by intro k hk; simp at hk; rcases hk with rfl <;> rfl) gm_name (fun x_10 _ _ _ _ _ => (em_tuple T.tuple (em_frz (LcP.lm (lcp0 (own := [("low", 10), ("t", 14)]) (im_z2 T.zip (em_var (n := 5) (w := least_2) rfl rfl) (em_var (n := 15) (w := x_10) rfl rfl)) (GWx.gw (gwx_tup (gwxs_cons (gwx_name (by decide)) mon_name (gwxs_cons (gwx_name (by decide)) mon_name gwxs_nil mons_nil) (mons_cons mon_name mons_nil))) (mon_tup (mons_cons mon_name (mons_cons mon_name mons_nil)))) (by intro k hk; simp at hk; rcases hk with rfl | rfl <;> rfl) (gm_tup (gms_cons gm_name fun _ => (gms_cons gm_name fun _ => gms_nil))) (fun x_11 _ _ _ _ _ => (em_bin add_f (em_var (n := 10) (w := x_11.1) rfl rfl) (em_var (n := 14) (w := x_11.2.1) rfl rfl))) sc__strips_up.nd (blkOk_by (N := ["outer", "shape", "k", "later", "ahead", "least", "part", "needed", "most", "above", "low", "high", "free", "limits", "t", "shared"]) (by rfl)) (fun _ _ _ _ _ => (pg_tup rfl (pgs_cons (pg_name (i := 10) sc__strips_up.nd rfl (by first | exact .inl rfl | exact .inr rfl)) (pgs_cons (pg_name (i := 14) sc__strips_up.nd rfl (by first | exact .inl rfl | exact .inr rfl)) pgs_nil))))))))) sc__strips_up.nd (blkOk_by (N := ["outer", "shape", "k", "later", "ahead", "least", "part", "needed", "most", "above", "low", "high", "free", "limits", "t", "shared"]) (sc := defScope s__strips_up) (by decide +kernel)) (fun _ _ _ _ _ => (pg_name (i := 15) sc__strips_up.nd rfl (by first | exact .inl rfl | exact .inr rfl))))))))))))))))))))
abbrev s__is_full : Stmt := top 18
theorem sc__is_full : FnScope ["outer", "content", "inner"] ["outer", "content", "inner"] (defScope s__is_full) := ⟨rfl, rfl, rfl, by decide +kernel, rfl, by decide +kernel, by decide +kernel⟩
def g__is_full (outer_0 content_0 inner_0 : W) : M (Res W Unit) :=
  (bd (bW (cmpM (c2 cEq) (biM (u1 pSum) (apM (rt content_0) (rt []))) (binM (l2 pSub) (biM (u1 pSum) (apM (rt outer_0) (rt []))) (biM (u1 pSum) (apM (rt inner_0) (rt [])))))) fun w => rt (.ret w))
def b__is_full : List W → M (Res W Unit)
  | [outer_0, content_0, inner_0] => g__is_full outer_0 content_0 inner_0
  | _ => fun _ => .bad
def m__is_full (ws : List W) : M W := finM (b__is_full ws)
set_option maxHeartbeats 4000000 in
theorem ok__is_full {P : Program} {w : World} {K : PySem.W.Frag} {mg : Str → Option Value} {base : Heap} {f : Addr} {fd : FuncData} (F : FunY K "_is_full" "_is_full" s__is_full f fd) (T : MgB mg) : FnOk P w K mg base (L2.CX P w) 2 f fd ["outer", "content", "inner"] (spM K w mg 3 m__is_full) :=
  defM (g := fun _ => noR 3) (mb := b__is_full) F sc__is_full (by decide) (fun cdv A outer s H E hr hp ws hlen => by
    match ws, hlen with
    | [outer_0, content_0, inner_0], _ =>
      show SM _ _ _ _ (g__is_full outer_0 content_0 inner_0) _
      unfold g__is_full
      exact (
(sm_ret (em_cmp (eqF hr) (em_B (sum_f rfl) T.sum (by decide +kernel) (am_cons (em_var (n := 1) (w := content_0) rfl rfl) am_nil)) (em_bin sub_f (em_B (sum_f rfl) T.sum (by decide +kernel) (am_cons (em_var (n := 0) (w := outer_0) rfl rfl) am_nil)) (em_B (sum_f rfl) T.sum (by decide +kernel) (am_cons (em_var (n := 2) (w := inner_0) rfl rfl) am_nil)))))))
abbrev s__layers : Stmt := top 19
theorem sc__layers : FnScope ["outer", "content", "inner", "steps", "k", "many", "shapes", "layers", "done", "number", "before", "shape", "larger"] ["outer", "content", "inner"] (defScope s__layers) := ⟨rfl, rfl, rfl, by decide +kernel, rfl, by decide +kernel, by decide +kernel⟩
def g__layers (outer_0 content_0 inner_0 : W) : M (Res W Unit) :=
  (bd (frzW (lc1 (tgT 2 (tgsC tgN (tgsC tgN tgs0))) (fun x_2 => (cmpM (c2 cGt) (rt x_2.2.1) (rt (.dat (.int 0))))) (fun x_2 => (tupM (apM (binM (l2 pAddX) (rt x_2.1) (rt (.dat (.int 1)))) (apM (rt x_2.2.1) (rt []))))) (enM (rt content_0)))) fun steps_1 => (bd (frzW (lstM (apM (callI 2 (apM (rt inner_0) (apM (biM fLen (apM (rt outer_0) (rt []))) (rt []))) m__starts) (rt [])))) fun shapes_3 => (bd (ownW (lstM (rt []))) fun layers_4 => (bd (enM (rt steps_1)) fun ws => seqM (forM (stepM (tgT 2 (tgsC tgN (tgsC (tgT 2 (tgsC tgN (tgsC tgN tgs0))) tgs0))) fun x_5 (st_6 : W) => (bd dnewM fun before_7 => (bd (sqM (rt st_6)) fun ws => seqM (forM (stepM tgN fun x_8 (st_9 : Unit) => (bd (sqM (callI 4 (apM (rt outer_0) (apM (rt x_8) (apM (rt x_5.2.1.2.1) (apM (binM (l2 pSub) (binM (l2 pSub) (biM fLen (apM (rt steps_1) (rt []))) (rt x_5.1)) (rt (.dat (.int 1)))) (rt []))))) m__strips_up)) fun ws => seqM (forM (stepM tgN fun x_10 (st_11 : Unit) => (bd (appM (setdM (rt before_7) (rt x_10) (ownW (lstM (rt [])))) (rt x_8)) fun _ => (rt (.nxt ())))) ws ()) fun st_11 => (rt (.nxt ())))) ws ()) fun st_9 => (bd (frzDDM before_7) fun before_12 => (bd (appM (rt layers_4) (tupM (apM (rt x_5.2.1.1) (apM (rt before_12) (rt []))))) fun _ => (bd (frzW (listDM (rt before_12))) fun shapes_13 => (rt (.nxt shapes_13)))))))) ws shapes_3) fun st_6 => (bd (frzM layers_4) fun layers_14 => (bd (rt layers_14) fun w => rt (.ret w)))))))
def b__layers : List W → M (Res W Unit)
  | [outer_0, content_0, inner_0] => g__layers outer_0 content_0 inner_0
  | _ => fun _ => .bad
def m__layers (ws : List W) : M W := finM (b__layers ws)
set_option maxHeartbeats 4000000 in
theorem ok__layers {P : Program} {w : World} {K : PySem.W.Frag} {mg : Str → Option Value} {base : Heap} {f : Addr} {fd : FuncData} (F : FunY K "_layers" "_layers" s__layers f fd) (T : MgB mg) (c__starts : CalM P w K mg base 2 "_starts" ["inner", "many"] 2 m__starts) (c__strips_up : CalM P w K mg base 3 "_strips_up" ["outer", "shape", "k", "later"] 4 m__strips_up) : FnOk P w K mg base (L2.CX P w) 4 f fd ["outer", "content", "inner"] (spM K w mg 3 m__layers) :=
  defM (g := fun _ => noR 13) (mb := b__layers) F sc__layers (by decide) (fun cdv A outer s H E hr hp ws hlen => by
    match ws, hlen with
    | [outer_0, content_0, inner_0], _ =>
      show SM _ _ _ _ (g__layers outer_0 content_0 inner_0) _
      unfold g__layers
      exact (
(sm_setF (n := 3) (lcp1 (own := [("k", 4), ("many", 5)]) (im_enum T.enumerate (em_var (n := 1) (w := content_0) rfl rfl)) (GWx.gw (gwx_tup (gwxs_cons (gwx_name (by decide)) mon_name (gwxs_cons (gwx_name (by decide)) mon_name gwxs_nil mons_nil) (mons_cons mon_name mons_nil))) (mon_tup (mons_cons mon_name (mons_cons mon_name mons_nil)))) (by intro k hk; simp at hk; rcases hk with rfl | rfl <;> rfl) (gm_tup (gms_cons gm_name fun _ => (gms_cons gm_name fun _ => gms_nil))) (fun x_2 _ _ _ _ _ => (tm_cmp gtF (em_var (n := 5) (w := x_2.2.1) rfl rfl) em_int)) (fun x_2 _ _ _ _ _ => (em_tup (am_cons (em_bin add_f (em_var (n := 4) (w := x_2.1) rfl rfl) em_int) (am_cons (em_var (n := 5) (w := x_2.2.1) rfl rfl) am_nil)))) sc__layers.nd (blkOk_by (N := ["outer", "content", "inner", "steps", "k", "many", "shapes", "layers", "done", "number", "before", "shape", "larger"]) (sc := defScope s__layers) (by decide +kernel)) (fun _ _ _ _ _ => (pg_tup rfl (pgs_cons (pg_name (i := 4) sc__layers.nd rfl (by first | exact .inl rfl | exact .inr rfl)) (pgs_cons (pg_name (i := 5) sc__layers.nd rfl (by first | exact .inl rfl | exact .inr rfl)) pgs_nil))))) sc__layers.nd rfl rfl (sw_true rfl rfl rfl (by decide +kernel)) rfl (fun steps_1 =>
 (sm_set (n := 6) sc__layers.nd rfl rfl (em_frz (lm_lst (am_cons (em_callI c__starts (hr.mono (by omega)) (am_cons (em_var (n := 2) (w := inner_0) rfl rfl) (am_cons (em_B len_f T.len (by decide +kernel) (am_cons (em_var (n := 0) (w := outer_0) rfl rfl) am_nil)) am_nil))) am_nil))) (fun shapes_3 =>
 (sm_set (n := 7) sc__layers.nd rfl rfl (em_own (lm_lst am_nil)) (fun layers_4 =>
 (sm_for (F := fun (st_6 : W) => [some outer_0, some content_0, some inner_0, some steps_1, none, none, some st_6, some layers_4, none, none, none, none, none]) (Fb := fun x_5 (st_6 : W) => [some outer_0, some content_0, some inner_0, some steps_1, none, some x_5.2.1.2.1, some st_6, some layers_4, some x_5.1, some x_5.2.1.1, none, none, none]) (z0 := shapes_3) (im_enum T.enumerate (em_var (n := 3) (w := steps_1) rfl rfl)) (pg_tup rfl (pgs_cons (pg_name (i := 8) sc__layers.nd rfl (by first | exact .inl rfl | exact .inr rfl)) (pgs_cons (pg_tup rfl (pgs_cons (pg_name (i := 9) sc__layers.nd rfl (by first | exact .inl rfl | exact .inr rfl)) (pgs_cons (pg_name (i := 5) sc__layers.nd rfl (by first | exact .inl rfl | exact .inr rfl)) pgs_nil))) pgs_nil))) (by exact (.keep (.keep (.keep (.keep (.drop (.drop (.keep (.keep (.drop (.drop (.drop (.drop (.drop LeR.nil)))))))))))))) (by exact le_noR rfl) (fun _ => (gm_tup (gms_cons gm_name fun _ => (gms_cons (gm_tup (gms_cons gm_name fun _ => (gms_cons gm_name fun _ => gms_nil))) fun _ => gms_nil)))) (fun _ _ => by exact le_noR rfl) (fun x_5 st_6 => by exact (
 (sm_set (n := 10) sc__layers.nd rfl rfl em_dnew (fun before_7 =>
 (sm_for (F := fun (st_9 : Unit) => [some outer_0, some content_0, some inner_0, some steps_1, none, some x_5.2.1.2.1, some st_6, some layers_4, some x_5.1, some x_5.2.1.1, some before_7, none, none]) (Fb := fun x_8 (st_9 : Unit) => [some outer_0, some content_0, some inner_0, some steps_1, none, some x_5.2.1.2.1, some st_6, some layers_4, some x_5.1, some x_5.2.1.1, some before_7, some x_8, none]) (z0 := ()) (im_val (em_var (n := 6) (w := st_6) rfl rfl)) (pg_name (i := 11) sc__layers.nd rfl (by first | exact .inl rfl | exact .inr rfl)) (by exact (.keep (.keep (.keep (.keep (.drop (.keep (.keep (.keep (.keep (.keep (.keep (.drop (.drop LeR.nil)))))))))))))) (by exact le_noR rfl) (fun _ => gm_name) (fun _ _ => by exact le_noR rfl) (fun x_8 st_9 => by exact (
 (sm_for (F := fun (st_11 : Unit) => [some outer_0, some content_0, some inner_0, some steps_1, none, some x_5.2.1.2.1, some st_6, some layers_4, some x_5.1, some x_5.2.1.1, some before_7, some x_8, none]) (Fb := fun x_10 (st_11 : Unit) => [some outer_0, some content_0, some inner_0, some steps_1, none, some x_5.2.1.2.1, some st_6, some layers_4, some x_5.1, some x_5.2.1.1, some before_7, some x_8, some x_10]) (z0 := ()) (im_val (em_callI c__strips_up (hr.mono (by omega)) (am_cons (em_var (n := 0) (w := outer_0) rfl rfl) (am_cons (em_var (n := 11) (w := x_8) rfl rfl) (am_cons (em_var (n := 5) (w := x_5.2.1.2.1) rfl rfl) (am_cons (em_bin sub_f (em_bin sub_f (em_B len_f T.len (by decide +kernel) (am_cons (em_var (n := 3) (w := steps_1) rfl rfl) am_nil)) (em_var (n := 8) (w := x_5.1) rfl rfl)) em_int) am_nil)))))) (pg_name (i := 12) sc__layers.nd rfl (by first | exact .inl rfl | exact .inr rfl)) (by exact (.keep (.keep (.keep (.keep (.drop (.keep (.keep (.keep (.keep (.keep (.keep (.keep (.drop LeR.nil)))))))))))))) (by exact le_noR rfl) (fun _ => gm_name) (fun _ _ => by exact le_noR rfl) (fun x_10 st_11 => by exact (
 (sm_expr (em_append (em_setd hr (em_var (n := 10) (w := before_7) rfl rfl) (em_var (n := 12) (w := x_10) rfl rfl) (em_own (lm_lst am_nil))) (em_var (n := 11) (w := x_8) rfl rfl) (pe_bm PySem.F.plainAttrs_list PySem.F.slot_list_append PySem.F.type_list_append mt_append pe_s (pa_cons pe_s pa_nil)))
 (sm_nil (z := ()) (by exact (.keep (.keep (.keep (.keep (.drop (.keep (.keep (.keep (.keep (.keep (.keep (.keep (.drop LeR.nil)))))))))))))) (by exact le_noR rfl))))) (fun st_11 => by exact (
 (sm_nil (z := ()) (by exact (.keep (.keep (.keep (.keep (.drop (.keep (.keep (.keep (.keep (.keep (.keep (.drop (.drop LeR.nil)))))))))))))) (by exact le_noR rfl)))) hp))) (fun st_9 => by exact (
 (sm_frzDD (n := 10) (w := before_7) rfl rfl (fun before_12 => (sm_expr (em_append (em_var (n := 7) (w := layers_4) rfl rfl) (em_tup (am_cons (em_var (n := 9) (w := x_5.2.1.1) rfl rfl) (am_cons (em_var (n := 10) (w := before_12) rfl rfl) am_nil))) (pe_bm PySem.F.plainAttrs_list PySem.F.slot_list_append PySem.F.type_list_append mt_append pe_s (pa_cons pe_s pa_nil)))
 (sm_set (n := 6) sc__layers.nd rfl rfl (em_frz (lm_listD rfl T.list (em_var (n := 10) (w := before_12) rfl rfl))) (fun shapes_13 =>
 (sm_nil (z := shapes_13) (by exact (.keep (.keep (.keep (.keep (.drop (.drop (.keep (.keep (.drop (.drop (.drop (.drop (.drop LeR.nil)))))))))))))) (by exact le_noR rfl))))))))) hp))))) (fun st_6 => by exact (
 (sm_frz (n := 7) (w := layers_4) rfl rfl (fun layers_14 => (sm_ret (em_var (n := 7) (w := layers_14) rfl rfl)))))) hp)))))))))
abbrev s__begun : Stmt := top 20
theorem sc__begun : FnScope ["rows", "number", "larger", "smaller", "row", "x", "y"] ["rows", "number", "larger", "smaller"] (defScope s__begun) := ⟨rfl, rfl, rfl, by decide +kernel, rfl, by decide +kernel, by decide +kernel⟩
def g__begun (rows_0 number_0 larger_0 smaller_0 : W) : M (Res W Unit) :=
  (bd (toM (frzW (lc1 (tgT 3 (tgsC tgN (tgsC tgN (tgsC tgN tgs0)))) (fun _ => rt true) (fun x_1 => (binM (l2 pAddX) (binM (l2 pMulY) (tupM (apM (rt number_0) (rt []))) (binM (l2 pSub) (rt x_1.2.1) (rt x_1.2.2.1))) (rt x_1.1))) (z3M (rt rows_0) (rt larger_0) (rt smaller_0))))) fun w => rt (.ret w))
def b__begun : List W → M (Res W Unit)
  | [rows_0, number_0, larger_0, smaller_0] => g__begun rows_0 number_0 larger_0 smaller_0
  | _ => fun _ => .bad
def m__begun (ws : List W) : M W := finM (b__begun ws)
set_option maxHeartbeats 4000000 in
theorem ok__begun {P : Program} {w : World} {K : PySem.W.Frag} {mg : Str → Option Value} {base : Heap} {f : Addr} {fd : FuncData} (F : FunY K "_begun" "_begun" s__begun f fd) (T : MgB mg) : FnOk P w K mg base (L2.CX P w) 2 f fd ["rows", "number", "larger", "smaller"] (spM K w mg 4 m__begun) :=
  defM (g := fun _ => noR 7) (mb := b__begun) F sc__begun (by decide) (fun cdv A outer s H E hr hp ws hlen => by
    match ws, hlen with
    | [rows_0, number_0, larger_0, smaller_0], _ =>
      show SM _ _ _ _ (g__begun rows_0 number_0 larger_0 smaller_0) _
      unfold g__begun
      exact (
(sm_ret (em_tuple T.tuple (em_frz (LcP.lm (lcp0 (own := [("row", 4), ("x", 5), ("y", 6)]) (im_z3 T.zip (em_var (n := 0) (w := rows_0) rfl rfl) (em_var (n := 2) (w := larger_0) rfl rfl) (em_var (n := 3) (w := smaller_0) rfl rfl)) (GWx.gw (gwx_tup (gwxs_cons (gwx_name (by decide)) mon_name (gwxs_cons (gwx_name (by decide)) mon_name (gwxs_cons (gwx_name (by decide)) mon_name gwxs_nil mons_nil) (mons_cons mon_name mons_nil)) (mons_cons mon_name (mons_cons mon_name mons_nil)))) (mon_tup (mons_cons mon_name (mons_cons mon_name (mons_cons mon_name mons_nil))))) (by intro k hk; simp at hk; rcases hk with rfl | rfl | rfl <;> rfl) (gm_tup (gms_cons gm_name fun _ => (gms_cons gm_name fun _ => (gms_cons gm_name fun _ => gms_nil)))) (fun x_1 _ _ _ _ _ => (em_bin add_f (em_bin mul_f (em_tup (am_cons (em_var (n := 1) (w := number_0) rfl rfl) am_nil)) (em_bin sub_f (em_var (n := 5) (w := x_1.2.1) rfl rfl) (em_var (n := 6) (w := x_1.2.2.1) rfl rfl))) (em_var (n := 4) (w := x_1.1) rfl rfl))) sc__begun.nd (blkOk_by (N := ["rows", "number", "larger", "smaller", "row", "x", "y"]) (sc := defScope s__begun) (by decide +kernel)) (fun _ _ _ _ _ => (pg_tup rfl (pgs_cons (pg_name (i := 4) sc__begun.nd rfl (by first | exact .inl rfl | exact .inr rfl)) (pgs_cons (pg_name (i := 5) sc__begun.nd rfl (by first | exact .inl rfl | exact .inr rfl)) (pgs_cons (pg_name (i := 6) sc__begun.nd rfl (by first | exact .inl rfl | exact .inr rfl)) pgs_nil))))))))))))
abbrev s_fillings : Stmt := top 21
theorem sc_fillings : FnScope ["outer", "content", "inner", "found", "number", "before", "larger", "rows", "smaller", "_"] ["outer", "content", "inner"] (defScope s_fillings) := ⟨rfl, rfl, rfl, by decide +kernel, rfl, by decide +kernel, by decide +kernel⟩
def g_fillings (outer_0 content_0 inner_0 : W) : M (Res W Unit) :=
  (ifM (notM (tvM (callI 3 (apM (rt outer_0) (apM (rt content_0) (apM (rt inner_0) (rt [])))) m__is_full))) (retE (bd (tupM (rt [])) fun w => rt (.ret w))) (bd (frzW (lstM (apM (tupM (apM (rt outer_0) (apM (binM (l2 pMulY) (tupM (apM (tupM (rt [])) (rt []))) (biM fLen (apM (rt outer_0) (rt [])))) (rt [])))) (rt [])))) fun found_1 => (bd (sqM (frzW (revM (callI 3 (apM (rt outer_0) (apM (rt content_0) (apM (rt inner_0) (rt [])))) m__layers)))) fun ws => seqM (forM (stepM (tgT 2 (tgsC tgN (tgsC tgN tgs0))) fun x_2 (st_3 : W) => (bd (frzW (lc2 (tgT 2 (tgsC tgN (tgsC tgN tgs0))) (fun x_5 => rt true) (fun x_5 => (sqM (dgetM (rt x_2.2.1) (rt x_5.1) (frzW (lstM (rt [])))))) tgN (fun x_5 x_6 => rt true) (fun x_5 x_6 => (tupM (apM (rt x_6) (apM (callI 4 (apM (rt x_5.2.1) (apM (rt x_2.1) (apM (rt x_5.1) (apM (rt x_6) (rt []))))) m__begun) (rt []))))) (sqM (rt st_3)))) fun found_4 => (rt (.nxt found_4)))) ws found_1) fun st_3 => (bd (toM (frzW (srtDM (frzW (lc1 (tgT 2 (tgsC tgN (tgsC tgN tgs0))) (fun _ => rt true) (fun x_7 => (rt x_7.2.1)) (sqM (rt st_3))))))) fun w => rt (.ret w)))))
def b_fillings : List W → M (Res W Unit)
  | [outer_0, content_0, inner_0] => g_fillings outer_0 content_0 inner_0
  | _ => fun _ => .bad
def m_fillings (ws : List W) : M W := finM (b_fillings ws)
set_option maxHeartbeats 4000000 in
theorem ok_fillings {P : Program} {w : World} {K : PySem.W.Frag} {mg : Str → Option Value} {base : Heap} {f : Addr} {fd : FuncData} (F : FunY K "fillings" "fillings" s_fillings f fd) (T : MgB mg) (c__is_full : CalM P w K mg base 2 "_is_full" ["outer", "content", "inner"] 3 m__is_full) (c__layers : CalM P w K mg base 4 "_layers" ["outer", "content", "inner"] 3 m__layers) (c__begun : CalM P w K mg base 2 "_begun" ["rows", "number", "larger", "smaller"] 4 m__begun) : FnOk P w K mg base (L2.CX P w) 5 f fd ["outer", "content", "inner"] (spM K w mg 3 m_fillings) :=
  defM (g := fun _ => noR 10) (mb := b_fillings) F sc_fillings (by decide) (fun cdv A outer s H E hr hp ws hlen => by
    match ws, hlen with
    | [outer_0, content_0, inner_0], _ =>
      show SM _ _ _ _ (g_fillings outer_0 content_0 inner_0) _
      unfold g_fillings
      exact (
(sm_ifR (g0 := fun _ => noR 10) (tm_not (tm_val (em_callI c__is_full (hr.mono (by omega)) (am_cons (em_var (n := 0) (w := outer_0) rfl rfl) (am_cons (em_var (n := 1) (w := content_0) rfl rfl) (am_cons (em_var (n := 2) (w := inner_0) rfl rfl) am_nil))))))
 (sm_ret (em_tup am_nil))
 (sm_set (n := 3) sc_fillings.nd rfl rfl (em_frz (lm_lst (am_cons (em_tup (am_cons (em_var (n := 0) (w := outer_0) rfl rfl) (am_cons (em_bin mul_f (em_tup (am_cons (em_tup am_nil) am_nil)) (em_B len_f T.len (by decide +kernel) (am_cons (em_var (n := 0) (w := outer_0) rfl rfl) am_nil))) am_nil))) am_nil))) (fun found_1 =>
 (sm_for (F := fun (st_3 : W) => [some outer_0, some content_0, some inner_0, some st_3, none, none, none, none, none, none]) (Fb := fun x_2 (st_3 : W) => [some outer_0, some content_0, some inner_0, some st_3, some x_2.1, some x_2.2.1, none, none, none, none]) (z0 := found_1) (im_val (em_frz (lm_rev (em_callI c__layers (hr.mono (by omega)) (am_cons (em_var (n := 0) (w := outer_0) rfl rfl) (am_cons (em_var (n := 1) (w := content_0) rfl rfl) (am_cons (em_var (n := 2) (w := inner_0) rfl rfl) am_nil))))))) (pg_tup rfl (pgs_cons (pg_name (i := 4) sc_fillings.nd rfl (by first | exact .inl rfl | exact .inr rfl)) (pgs_cons (pg_name (i := 5) sc_fillings.nd rfl (by first | exact .inl rfl | exact .inr rfl)) pgs_nil))) (by exact (.keep (.keep (.keep (.keep (.drop (.drop (.drop (.drop (.drop (.drop LeR.nil))))))))))) (by exact le_noR rfl) (fun _ => (gm_tup (gms_cons gm_name fun _ => (gms_cons gm_name fun _ => gms_nil)))) (fun _ _ => by exact le_noR rfl) (fun x_2 st_3 => by exact (
 (sm_setF (n := 3) (lcp2 (own := [("larger", 6), ("rows", 7), ("smaller", 8)]) (vs1 := [8]) (im_val (em_var (n := 3) (w := st_3) rfl rfl)) (GWx.gw (gwx_tup (gwxs_cons (gwx_name (by decide)) mon_name (gwxs_cons (gwx_name (by decide)) mon_name gwxs_nil mons_nil) (mons_cons mon_name mons_nil))) (mon_tup (mons_cons mon_name (mons_cons mon_name mons_nil)))) (GWx.gw (gwx_name (by decide)) mon_name) (by intro k hk; simp at hk; rcases hk with rfl | rfl | rfl <;> rfl) (fun _ => (by intro k hk; simp at hk; rcases hk with rfl <;> rfl)) (gm_tup (gms_cons gm_name fun _ => (gms_cons gm_name fun _ => gms_nil))) (fun _ => gtm_yes) (fun x_5 _ _ _ _ _ => (im_val (em_dgetD hr (em_var (n := 5) (w := x_2.2.1) rfl rfl) (em_var (n := 6) (w := x_5.1) rfl rfl) (em_frz (lm_lst am_nil))))) (fun _ => gm_name) (fun _ _ => gtm_yes) (fun x_5 x_6 _ _ _ _ _ => (em_tup (am_cons (em_var (n := 8) (w := x_6) rfl rfl) (am_cons (em_callI c__begun (hr.mono (by omega)) (am_cons (em_var (n := 7) (w := x_5.2.1) rfl rfl) (am_cons (em_var (n := 4) (w := x_2.1) rfl rfl) (am_cons (em_var (n := 6) (w := x_5.1) rfl rfl) (am_cons (em_var (n := 8) (w := x_6) rfl rfl) am_nil))))) am_nil)))) sc_fillings.nd (blkOk_by (N := ["outer", "content", "inner", "found", "number", "before", "larger", "rows", "smaller", "_"]) (sc := defScope s_fillings) (by decide +kernel)) (by decide) (fun _ _ _ _ _ => (pg_tup rfl (pgs_cons (pg_name (i := 6) sc_fillings.nd rfl (by first | exact .inl rfl | exact .inr rfl)) (pgs_cons (pg_name (i := 7) sc_fillings.nd rfl (by first | exact .inl rfl | exact .inr rfl)) pgs_nil)))) (fun _ _ _ _ _ => (pg_name (i := 8) sc_fillings.nd rfl (by first | exact .inl rfl | exact .inr rfl))) pts0 pts0) sc_fillings.nd rfl rfl (sw_true rfl rfl rfl (by decide +kernel)) rfl (fun found_4 =>
 (sm_nil (z := found_4) (by exact (.keep (.keep (.keep (.keep (.drop (.drop (.drop (.drop (.drop (.drop LeR.nil))))))))))) (by exact le_noR rfl)))))) (fun st_3 => by exact (
 (sm_ret (em_tuple T.tuple (em_frz (lm_sortD hr T.sorted (em_frz (LcP.lm (lcp0 (own := [("_", 9), ("rows", 7)]) (im_val (em_var (n := 3) (w := st_3) rfl rfl)) (GWx.gw (gwx_tup (gwxs_cons (gwx_name (by decide)) mon_name (gwxs_cons (gwx_name (by decide)) mon_name gwxs_nil mons_nil) (mons_cons mon_name mons_nil))) (mon_tup (mons_cons mon_name (mons_cons mon_name mons_nil)))) (by intro k hk; simp at hk; rcases hk with rfl | rfl <;> rfl) (gm_tup (gms_cons gm_name fun _ => (gms_cons gm_name fun _ => gms_nil))) (fun x_7 _ _ _ _ _ => (em_var (n := 7) (w := x_7.2.1) rfl rfl)) sc_fillings.nd (blkOk_by (N := ["outer", "content", "inner", "found", "number", "before", "larger", "rows", "smaller", "_"]) (sc := defScope s_fillings) (by decide +kernel)) (fun _ _ _ _ _ => (pg_tup rfl (pgs_cons (pg_name (i := 9) sc_fillings.nd rfl (by first | exact .inl rfl | exact .inr rfl)) (pgs_cons (pg_name (i := 7) sc_fillings.nd rfl (by first | exact .inl rfl | exact .inr rfl)) pgs_nil))))))))))))) hp))))))
abbrev s_count_fillings : Stmt := top 22
theorem sc_count_fillings : FnScope ["outer", "content", "inner", "steps", "many", "counts", "done", "after", "shape", "larger"] ["outer", "content", "inner"] (defScope s_count_fillings) := ⟨rfl, rfl, rfl, by decide +kernel, rfl, by decide +kernel, by decide +kernel⟩
def g_count_fillings (outer_0 content_0 inner_0 : W) : M (Res W Unit) :=
  (ifM (notM (tvM (callI 3 (apM (rt outer_0) (apM (rt content_0) (apM (rt inner_0) (rt [])))) m__is_full))) (retE (bd (rt (.dat (.int 0))) fun w => rt (.ret w))) (bd (frzW (srtRM (frzW (lc1 tgN (fun x_2 => (cmpM (c2 cGt) (rt x_2) (rt (.dat (.int 0))))) (fun x_2 => (rt x_2)) (sqM (rt content_0)))))) fun steps_1 => (bd (ddspM (callI 2 (apM (rt inner_0) (apM (biM fLen (apM (rt outer_0) (rt []))) (rt []))) m__starts) (rt (.dat (.int 1)))) fun counts_3 => (bd (enM (rt steps_1)) fun ws => seqM (forM (stepM (tgT 2 (tgsC tgN (tgsC tgN tgs0))) fun x_4 (st_5 : W) => (bd dnewM fun after_6 => (bd (sqD (rt st_5)) fun ws => seqM (forM (stepM tgN fun x_7 (st_8 : Unit) => (bd (sqM (callI 4 (apM (rt outer_0) (apM (rt x_7) (apM (rt x_4.2.1) (apM (binM (l2 pSub) (binM (l2 pSub) (biM fLen (apM (rt steps_1) (rt []))) (rt x_4.1)) (rt (.dat (.int 1)))) (rt []))))) m__strips_up)) fun ws => seqM (forM (stepM tgN fun x_9 (st_10 : Unit) => (bd (setD (binM (l2 pAddX) (dgetM (rt after_6) (rt x_9) (rt (.dat (.int 0)))) (ixD (rt st_5) (rt x_7))) (rt after_6) (rt x_9)) fun _ => (rt (.nxt ())))) ws ()) fun st_10 => (rt (.nxt ())))) ws ()) fun st_8 => (bd (frzDM after_6) fun after_12 => (bd (rt after_12) fun counts_13 => (rt (.nxt counts_13))))))) ws counts_3) fun st_5 => (bd (dgetM (rt st_5) (rt outer_0) (rt (.dat (.int 0)))) fun w => rt (.ret w))))))
def b_count_fillings : List W → M (Res W Unit)
  | [outer_0, content_0, inner_0] => g_count_fillings outer_0 content_0 inner_0
  | _ => fun _ => .bad
def m_count_fillings (ws : List W) : M W := finM (b_count_fillings ws)
set_option maxHeartbeats 4000000 in
theorem ok_count_fillings {P : Program} {w : World} {K : PySem.W.Frag} {mg : Str → Option Value} {base : Heap} {f : Addr} {fd : FuncData} (F : FunY K "count_fillings" "count_fillings" s_count_fillings f fd) (T : MgB mg) (c__is_full : CalM P w K mg base 2 "_is_full" ["outer", "content", "inner"] 3 m__is_full) (c__starts : CalM P w K mg base 2 "_starts" ["inner", "many"] 2 m__starts) (c__strips_up : CalM P w K mg base 3 "_strips_up" ["outer", "shape", "k", "later"] 4 m__strips_up) : FnOk P w K mg base (L2.CX P w) 4 f fd ["outer", "content", "inner"] (spM K w mg 3 m_count_fillings) :=
  defM (g := fun _ => noR 10) (mb := b_count_fillings) F sc_count_fillings (by decide) (fun cdv A outer s H E hr hp ws hlen => by
    match ws, hlen with
    | [outer_0, content_0, inner_0], _ =>
      show SM _ _ _ _ (g_count_fillings outer_0 content_0 inner_0) _
      unfold g_count_fillings
      exact (
(sm_ifR (g0 := fun _ => noR 10) (tm_not (tm_val (em_callI c__is_full (hr.mono (by omega)) (am_cons (em_var (n := 0) (w := outer_0) rfl rfl) (am_cons (em_var (n := 1) (w := content_0) rfl rfl) (am_cons (em_var (n := 2) (w := inner_0) rfl rfl) am_nil))))))
 (sm_ret em_int)
 (sm_set (n := 3) sc_count_fillings.nd rfl rfl (em_frz (lm_sortR T.sorted (em_frz (LcP.lm (lcp1 (own := [("many", 4)]) (im_val (em_var (n := 1) (w := content_0) rfl rfl)) (GWx.gw (gwx_name (by decide)) mon_name) (by intro k hk; simp at hk; rcases hk with rfl <;> rfl) gm_name (fun x_2 _ _ _ _ _ => (tm_cmp gtF (em_var (n := 4) (w := x_2) rfl rfl) em_int)) (fun x_2 _ _ _ _ _ => (em_var (n := 4) (w := x_2) rfl rfl)) sc_count_fillings.nd (blkOk_by (N := ["outer", "content", "inner", "steps", "many", "counts", "done", "after", "shape", "larger"]) (sc := defScope s_count_fillings) (by decide +kernel)) (fun _ _ _ _ _ => (pg_name (i := 4) sc_count_fillings.nd rfl (by first | exact .inl rfl | exact .inr rfl)))))) (hp := by exact pe_callBK cr_sortedRev rfl T.sorted (by decide +kernel) pa_s (pk_cons pe_bl pk_nil)))) (fun steps_1 =>
 (sm_set (n := 5) sc_count_fillings.nd rfl rfl (em_ddsp hr (em_callI c__starts (hr.mono (by omega)) (am_cons (em_var (n := 2) (w := inner_0) rfl rfl) (am_cons (em_B len_f T.len (by decide +kernel) (am_cons (em_var (n := 0) (w := outer_0) rfl rfl) am_nil)) am_nil))) em_int) (fun counts_3 =>
 (sm_for (F := fun (st_5 : W) => [some outer_0, some content_0, some inner_0, some steps_1, none, some st_5, none, none, none, none]) (Fb := fun x_4 (st_5 : W) => [some outer_0, some content_0, some inner_0, some steps_1, some x_4.2.1, some st_5, some x_4.1, none, none, none]) (z0 := counts_3) (im_enum T.enumerate (em_var (n := 3) (w := steps_1) rfl rfl)) (pg_tup rfl (pgs_cons (pg_name (i := 6) sc_count_fillings.nd rfl (by first | exact .inl rfl | exact .inr rfl)) (pgs_cons (pg_name (i := 4) sc_count_fillings.nd rfl (by first | exact .inl rfl | exact .inr rfl)) pgs_nil))) (by exact (.keep (.keep (.keep (.keep (.drop (.keep (.drop (.drop (.drop (.drop LeR.nil))))))))))) (by exact le_noR rfl) (fun _ => (gm_tup (gms_cons gm_name fun _ => (gms_cons gm_name fun _ => gms_nil)))) (fun _ _ => by exact le_noR rfl) (fun x_4 st_5 => by exact (
 (sm_set (n := 7) sc_count_fillings.nd rfl rfl em_dnew (fun after_6 =>
 (sm_for (F := fun (st_8 : Unit) => [some outer_0, some content_0, some inner_0, some steps_1, some x_4.2.1, some st_5, some x_4.1, some after_6, none, none]) (Fb := fun x_7 (st_8 : Unit) => [some outer_0, some content_0, some inner_0, some steps_1, some x_4.2.1, some st_5, some x_4.1, some after_6, some x_7, none]) (z0 := ()) (im_valD (em_var (n := 5) (w := st_5) rfl rfl)) (pg_name (i := 8) sc_count_fillings.nd rfl (by first | exact .inl rfl | exact .inr rfl)) (by exact (.keep (.keep (.keep (.keep (.keep (.keep (.keep (.keep (.drop (.drop LeR.nil))))))))))) (by exact le_noR rfl) (fun _ => gm_name) (fun _ _ => by exact le_noR rfl) (fun x_7 st_8 => by exact (
 (sm_for (F := fun (st_10 : Unit) => [some outer_0, some content_0, some inner_0, some steps_1, some x_4.2.1, some st_5, some x_4.1, some after_6, some x_7, none]) (Fb := fun x_9 (st_10 : Unit) => [some outer_0, some content_0, some inner_0, some steps_1, some x_4.2.1, some st_5, some x_4.1, some after_6, some x_7, some x_9]) (z0 := ()) (im_val (em_callI c__strips_up (hr.mono (by omega)) (am_cons (em_var (n := 0) (w := outer_0) rfl rfl) (am_cons (em_var (n := 8) (w := x_7) rfl rfl) (am_cons (em_var (n := 4) (w := x_4.2.1) rfl rfl) (am_cons (em_bin sub_f (em_bin sub_f (em_B len_f T.len (by decide +kernel) (am_cons (em_var (n := 3) (w := steps_1) rfl rfl) am_nil)) (em_var (n := 6) (w := x_4.1) rfl rfl)) em_int) am_nil)))))) (pg_name (i := 9) sc_count_fillings.nd rfl (by first | exact .inl rfl | exact .inr rfl)) (by exact (.keep (.keep (.keep (.keep (.keep (.keep (.keep (.keep (.keep (.drop LeR.nil))))))))))) (by exact le_noR rfl) (fun _ => gm_name) (fun _ _ => by exact le_noR rfl) (fun x_9 st_10 => by exact (
 (sm_putD hr (em_bin add_f (em_dgetD hr (em_var (n := 7) (w := after_6) rfl rfl) (em_var (n := 9) (w := x_9) rfl rfl) em_int) (em_ixD hr (em_var (n := 5) (w := st_5) rfl rfl) (em_var (n := 8) (w := x_7) rfl rfl))) (em_var (n := 7) (w := after_6) rfl rfl) (em_var (n := 9) (w := x_9) rfl rfl) (sm_nil (z := ()) (by exact (.keep (.keep (.keep (.keep (.keep (.keep (.keep (.keep (.keep (.drop LeR.nil))))))))))) (by exact le_noR rfl)) (ps_asg pe_s (pg_sub pe_s pe_s wSet_r))))) (fun st_10 => by exact (
 (sm_nil (z := ()) (by exact (.keep (.keep (.keep (.keep (.keep (.keep (.keep (.keep (.drop (.drop LeR.nil))))))))))) (by exact le_noR rfl)))) hp))) (fun st_8 => by exact (
 (sm_frzD (n := 7) (w := after_6) rfl rfl (fun after_12 => (sm_set (n := 5) sc_count_fillings.nd rfl rfl (em_var (n := 7) (w := after_12) rfl rfl) (fun counts_13 =>
 (sm_nil (z := counts_13) (by exact (.keep (.keep (.keep (.keep (.drop (.keep (.drop (.drop (.drop (.drop LeR.nil))))))))))) (by exact le_noR rfl)))))))) hp))))) (fun st_5 => by exact (
 (sm_ret (em_dgetD hr (em_var (n := 5) (w := st_5) rfl rfl) (em_var (n := 0) (w := outer_0) rfl rfl) em_int)))) hp))))))))
abbrev s__lists : Stmt := top 24
theorem sc__lists : FnScope ["rows", "row"] ["rows"] (defScope s__lists) := ⟨rfl, rfl, rfl, by decide +kernel, rfl, by decide +kernel, by decide +kernel⟩
def g__lists (rows_0 : W) : M (Res W Unit) :=
  (bd (ownW (lc1 tgN (fun _ => rt true) (fun x_1 => (ownW (loM (rt x_1)))) (sqM (rt rows_0)))) fun w => rt (.ret w))
def b__lists : List W → M (Res W Unit)
  | [rows_0] => g__lists rows_0
  | _ => fun _ => .bad
def m__lists (ws : List W) : M W := finM (b__lists ws)
set_option maxHeartbeats 4000000 in
theorem ok__lists {P : Program} {w : World} {K : PySem.W.Frag} {mg : Str → Option Value} {base : Heap} {f : Addr} {fd : FuncData} (F : FunY K "_lists" "_lists" s__lists f fd) (T : MgB mg) : FnOk P w K mg base (L2.CX P w) 2 f fd ["rows"] (spM K w mg 1 m__lists) :=
  defM (g := fun _ => noR 2) (mb := b__lists) F sc__lists (by decide) (fun cdv A outer s H E hr hp ws hlen => by
    match ws, hlen with
    | [rows_0], _ =>
      show SM _ _ _ _ (g__lists rows_0) _
      unfold g__lists
      exact (
(sm_ret (em_own (LcP.lm (lcp0 (own := [("row", 1)]) (im_val (em_var (n := 0) (w := rows_0) rfl rfl)) (GWx.gw (gwx_name (by decide)) mon_name) (by intro k hk; simp at hk; rcases hk with rfl <;> rfl) gm_name (fun x_1 _ _ _ _ _ => (em_own (lm_list T.list (em_var (n := 1) (w := x_1) rfl rfl)))) sc__lists.nd (blkOk_by (N := ["rows", "row"]) (sc := defScope s__lists) (by decide +kernel)) (fun _ _ _ _ _ => (pg_name (i := 1) sc__lists.nd rfl (by first | exact .inl rfl | exact .inr rfl)))))))))
abbrev s__tuples : Stmt := top 25
theorem sc__tuples : FnScope ["rows", "row"] ["rows"] (defScope s__tuples) := ⟨rfl, rfl, rfl, by decide +kernel, rfl, by decide +kernel, by decide +kernel⟩
def g__tuples (rows_0 : W) : M (Res W Unit) :=
  (bd (toM (frzW (lc1 tgN (fun _ => rt true) (fun x_1 => (toM (rt x_1))) (sqM (rt rows_0))))) fun w => rt (.ret w))
def b__tuples : List W → M (Res W Unit)
  | [rows_0] => g__tuples rows_0
  | _ => fun _ => .bad
def m__tuples (ws : List W) : M W := finM (b__tuples ws)
set_option maxHeartbeats 4000000 in
theorem ok__tuples {P : Program} {w : World} {K : PySem.W.Frag} {mg : Str → Option Value} {base : Heap} {f : Addr} {fd : FuncData} (F : FunY K "_tuples" "_tuples" s__tuples f fd) (T : MgB mg) : FnOk P w K mg base (L2.CX P w) 2 f fd ["rows"] (spM K w mg 1 m__tuples) :=
  defM (g := fun _ => noR 2) (mb := b__tuples) F sc__tuples (by decide) (fun cdv A outer s H E hr hp ws hlen => by
    match ws, hlen with
    | [rows_0], _ =>
      show SM _ _ _ _ (g__tuples rows_0) _
      unfold g__tuples
      exact (
(sm_ret (em_tuple T.tuple (em_frz (LcP.lm (lcp0 (own := [("row", 1)]) (im_val (em_var (n := 0) (w := rows_0) rfl rfl)) (GWx.gw (gwx_name (by decide)) mon_name) (by intro k hk; simp at hk; rcases hk with rfl <;> rfl) gm_name (fun x_1 _ _ _ _ _ => (em_tuple T.tuple (em_var (n := 1) (w := x_1) rfl rfl))) sc__tuples.nd (blkOk_by (N := ["rows", "row"]) (sc := defScope s__tuples) (by decide +kernel)) (fun _ _ _ _ _ => (pg_name (i := 1) sc__tuples.nd rfl (by first | exact .inl rfl | exact .inr rfl))))))))))
abbrev s__first_greater : Stmt := top 26
theorem sc__first_greater : FnScope ["row", "x", "low", "high", "middle"] ["row", "x"] (defScope s__first_greater) := ⟨rfl, rfl, rfl, by decide +kernel, rfl, by decide +kernel, by decide +kernel⟩
def g__first_greater (row_0 x_0 : W) : M (Res W Unit) :=
  (bd (rt (.dat (.int 0))) fun low_1 => bd (biM fLen (apM (rt row_0) (rt []))) fun high_2 => (seqM (whM (fun (st_3 : W × W) => (cmpM (c2 cLt) (rt st_3.2) (rt st_3.1))) (fun st_3 => (bd (binM (l2 pFdiv) (binM (l2 pAddX) (rt st_3.2) (rt st_3.1)) (rt (.dat (.int 2)))) fun middle_4 => (seqM (ifM (cmpM (c2 cGt) (ixM (rt row_0) (rt middle_4)) (rt x_0)) (bd (rt middle_4) fun high_6 => (rt (.nxt (high_6, st_3.2)))) ((bd (binM (l2 pAddX) (rt middle_4) (rt (.dat (.int 1)))) fun low_7 => (rt (.nxt (st_3.1, low_7)))) : M (Res W (W × W)))) fun st_5 => (rt (.nxt (st_5.1, st_5.2)))))) 100 (high_2, low_1)) fun st_3 => (bd (rt st_3.2) fun w => rt (.ret w))))
def b__first_greater : List W → M (Res W Unit)
  | [row_0, x_0] => g__first_greater row_0 x_0
  | _ => fun _ => .bad
def m__first_greater (ws : List W) : M W := finM (b__first_greater ws)
set_option maxHeartbeats 4000000 in
theorem ok__first_greater {P : Program} {w : World} {K : PySem.W.Frag} {mg : Str → Option Value} {base : Heap} {f : Addr} {fd : FuncData} (F : FunY K "_first_greater" "_first_greater" s__first_greater f fd) (T : MgB mg) : FnOk P w K mg base (L2.CX P w) 2 f fd ["row", "x"] (spM K w mg 2 m__first_greater) :=
  defM (g := fun _ => noR 5) (mb := b__first_greater) F sc__first_greater (by decide) (fun cdv A outer s H E hr hp ws hlen => by
    match ws, hlen with
    | [row_0, x_0], _ =>
      show SM _ _ _ _ (g__first_greater row_0 x_0) _
      unfold g__first_greater
      exact (
(sm_par (i := 2) (j := 3) rfl sc__first_greater.nd rfl rfl (by decide) rfl rfl em_int (em_B len_f T.len (by decide +kernel) (am_cons (em_var (n := 0) (w := row_0) rfl rfl) am_nil)) (fun low_1 high_2 =>
 (sm_while (f := fun (st_3 : W × W) => [some row_0, some x_0, some st_3.2, some st_3.1, none]) (z0 := (high_2, low_1)) rfl (fun st_3 => by exact (tm_cmp (ltF hr) (em_var (n := 2) (w := st_3.2) rfl rfl) (em_var (n := 3) (w := st_3.1) rfl rfl))) (fun st_3 => by exact (
 (sm_set (n := 4) sc__first_greater.nd rfl rfl (em_bin fdiv_f (em_bin add_f (em_var (n := 2) (w := st_3.2) rfl rfl) (em_var (n := 3) (w := st_3.1) rfl rfl)) em_int) (fun middle_4 =>
 (sm_if (g1 := fun (st_5 : W × W) => [some row_0, some x_0, some st_5.2, some st_5.1, some middle_4]) (tm_cmp gtF (em_ix (em_var (n := 0) (w := row_0) rfl rfl) (em_var (n := 4) (w := middle_4) rfl rfl)) (em_var (n := 1) (w := x_0) rfl rfl))
 (sm_set (n := 3) sc__first_greater.nd rfl rfl (em_var (n := 4) (w := middle_4) rfl rfl) (fun high_6 =>
 (sm_nil (z := (high_6, st_3.2)) (by exact (.keep (.keep (.keep (.keep (.keep LeR.nil)))))) (by exact le_noR rfl))))
 (sm_set (n := 2) sc__first_greater.nd rfl rfl (em_bin add_f (em_var (n := 4) (w := middle_4) rfl rfl) em_int) (fun low_7 =>
 (sm_nil (z := (st_3.1, low_7)) (by exact (.keep (.keep (.keep (.keep (.keep LeR.nil)))))) (by exact le_noR rfl))))
 (fun st_5 => (sm_nil (z := (st_5.1, st_5.2)) (by exact (.keep (.keep (.keep (.keep (.drop LeR.nil)))))) (by exact le_noR rfl)))))))) (fun st_3 => by exact (
 (sm_ret (em_var (n := 2) (w := st_3.2) rfl rfl)))) hp)) (ps_par rfl sc__first_greater.nd rfl rfl (by decide) rfl rfl pa_s rfl))))
abbrev s__take_out : Stmt := top 27
theorem sc__take_out : FnScope ["rows", "i", "x", "k", "row", "at"] ["rows", "i"] (defScope s__take_out) := ⟨rfl, rfl, rfl, by decide +kernel, rfl, by decide +kernel, by decide +kernel⟩
def g__take_out (rows_0 i_0 : W) : M (Res W Unit) :=
  (bd (popM (ixM (rt rows_0) (rt i_0))) fun x_1 => (seqM (ifM (notM (tvM (ixM (rt rows_0) (rt i_0)))) (bd (popM (rt rows_0)) fun _ => (rt (.nxt ()))) ((rt (.nxt ())) : M (Res W (Unit)))) fun st_2 => (bd (rgD (binM (l2 pSub) (rt i_0) (rt (.dat (.int 1)))) (negM (rt (.dat (.int 1))))) fun ws => seqM (forM (stepM tgN fun x_3 (st_4 : W) => (bd (ixM (rt rows_0) (rt x_3)) fun row_5 => (bd (binM (l2 pSub) (callM 2 (apM (rt row_5) (apM (binM (l2 pSub) (rt st_4) (rt (.dat (.int 1)))) (rt []))) m__first_greater) (rt (.dat (.int 1)))) fun at_6 => (swM (ixM (rt row_5) (rt at_6)) (rt st_4) (fun x_7 => (rt row_5)) (fun x_7 => (rt at_6)) fun x_7 => (rt (.nxt x_7)))))) ws x_1) fun st_4 => (bd (rt st_4) fun w => rt (.ret w)))))
def b__take_out : List W → M (Res W Unit)
  | [rows_0, i_0] => g__take_out rows_0 i_0
  | _ => fun _ => .bad
def m__take_out (ws : List W) : M W := finM (b__take_out ws)
set_option maxHeartbeats 4000000 in
theorem ok__take_out {P : Program} {w : World} {K : PySem.W.Frag} {mg : Str → Option Value} {base : Heap} {f : Addr} {fd : FuncData} (F : FunY K "_take_out" "_take_out" s__take_out f fd) (T : MgB mg) (c__first_greater : CalM P w K mg base 2 "_first_greater" ["row", "x"] 2 m__first_greater) : FnOk P w K mg base (L2.CX P w) 3 f fd ["rows", "i"] (spM K w mg 2 m__take_out) :=
  defM (g := fun _ => noR 6) (mb := b__take_out) F sc__take_out (by decide) (fun cdv A outer s H E hr hp ws hlen => by
    match ws, hlen with
    | [rows_0, i_0], _ =>
      show SM _ _ _ _ (g__take_out rows_0 i_0) _
      unfold g__take_out
      exact (
(sm_set (n := 2) sc__take_out.nd rfl rfl (em_pop (em_ix (em_var (n := 0) (w := rows_0) rfl rfl) (em_var (n := 1) (w := i_0) rfl rfl)) (pe_bm0 PySem.F.plainAttrs_list PySem.F.slot_list_pop PySem.F.type_list_pop mt_pop pe_s)) (fun x_1 =>
 (sm_if (g1 := fun (st_2 : Unit) => [some rows_0, some i_0, some x_1, none, none, none]) (tm_not (tm_val (em_ix (em_var (n := 0) (w := rows_0) rfl rfl) (em_var (n := 1) (w := i_0) rfl rfl))))
 (sm_expr (em_pop (em_var (n := 0) (w := rows_0) rfl rfl) (pe_bm0 PySem.F.plainAttrs_list PySem.F.slot_list_pop PySem.F.type_list_pop mt_pop pe_s))
 (sm_nil (z := ()) (by exact (.keep (.keep (.keep (.drop (.drop (.drop LeR.nil))))))) (by exact le_noR rfl)))
 (sm_nil (z := ()) (by exact (.keep (.keep (.keep (.drop (.drop (.drop LeR.nil))))))) (by exact le_noR rfl))
 (fun st_2 => (sm_for (F := fun (st_4 : W) => [some rows_0, some i_0, some st_4, none, none, none]) (Fb := fun x_3 (st_4 : W) => [some rows_0, some i_0, some st_4, some x_3, none, none]) (z0 := x_1) (im_down T.range (em_bin sub_f (em_var (n := 1) (w := i_0) rfl rfl) em_int) (em_neg em_int)) (pg_name (i := 3) sc__take_out.nd rfl (by first | exact .inl rfl | exact .inr rfl)) (by exact (.keep (.keep (.keep (.drop (.drop (.drop LeR.nil))))))) (by exact le_noR rfl) (fun _ => gm_name) (fun _ _ => by exact le_noR rfl) (fun x_3 st_4 => by exact (
 (sm_set (n := 4) sc__take_out.nd rfl rfl (em_ix (em_var (n := 0) (w := rows_0) rfl rfl) (em_var (n := 3) (w := x_3) rfl rfl)) (fun row_5 =>
 (sm_set (n := 5) sc__take_out.nd rfl rfl (em_bin sub_f (em_call c__first_greater (hr.mono (by omega)) (am_cons (em_var (n := 4) (w := row_5) rfl rfl) (am_cons (em_bin sub_f (em_var (n := 2) (w := st_4) rfl rfl) em_int) am_nil))) em_int) (fun at_6 =>
 (sm_swap (n := 2) rfl (em_ix (em_var (n := 4) (w := row_5) rfl rfl) (em_var (n := 5) (w := at_6) rfl rfl)) (em_var (n := 2) (w := st_4) rfl rfl) (fun x_7 => (em_var (n := 4) (w := row_5) rfl rfl)) (fun x_7 => (em_var (n := 5) (w := at_6) rfl rfl)) (fun x_7 =>
 (sm_nil (z := x_7) (by exact (.keep (.keep (.keep (.drop (.drop (.drop LeR.nil))))))) (by exact le_noR rfl))) (ps_asg (pe_tup pa_s) (pg_tup rfl (pgs_cons (pg_name (i := 2) sc__take_out.nd rfl (by first | exact .inl rfl | exact .inr rfl)) (pgs_cons (pg_sub pe_s pe_s set_list) pgs_nil))))))))))) (fun st_4 => by exact (
 (sm_ret (em_var (n := 2) (w := st_4) rfl rfl)))) hp)))))))
end K19
noncomputable section
namespace K19
open PySem L2 Pd Gn PySem.Spec PyProof.Rows Zq Hx
abbrev s__columns_of_pair : Stmt := top 28
theorem sc__columns_of_pair : FnScope ["p", "q", "numbers", "marks", "columns", "ends", "row", "i", "first"] ["p", "q"] (defScope s__columns_of_pair) := ⟨rfl, rfl, rfl, by decide +kernel, rfl, by decide +kernel, by decide +kernel⟩
def g__columns_of_pair (p_0 q_0 : W) : M (Res W Unit) :=
  (bd (callM 1 (apM (rt p_0) (rt [])) m__lists) fun numbers_1 => bd (callM 1 (apM (rt q_0) (rt [])) m__lists) fun marks_2 => (bd (ownW (lstM (rt []))) fun columns_3 => (seqM (whM (fun (st_4 : Unit) => (tvM (rt marks_2))) (fun st_4 => (bd (frzW (peekM marks_2 fun d_6 => (lc1 tgN (fun _ => rt true) (fun x_7 => (ixM (rt x_7) (negM (rt (.dat (.int 1)))))) (sqM (rt d_6))))) fun ends_5 => (bd (idxM (rt ends_5) (biM (u1 pMaxS) (apM (rt ends_5) (rt [])))) fun i_8 => (bd (popM (ixM (rt marks_2) (rt i_8))) fun first_9 => (seqM (ifM (notM (tvM (ixM (rt marks_2) (rt i_8)))) (bd (popM (rt marks_2)) fun _ => (rt (.nxt ()))) ((rt (.nxt ())) : M (Res W (Unit)))) fun st_10 => (bd (appM (rt columns_3) (tupM (apM (rt first_9) (apM (callM 2 (apM (rt numbers_1) (apM (rt i_8) (rt []))) m__take_out) (rt []))))) fun _ => (rt (.nxt ())))))))) 100 ()) fun st_4 => (bd (frzW (revM (rt columns_3))) fun w => rt (.ret w)))))
def b__columns_of_pair : List W → M (Res W Unit)
  | [p_0, q_0] => g__columns_of_pair p_0 q_0
  | _ => fun _ => .bad
def m__columns_of_pair (ws : List W) : M W := finM (b__columns_of_pair ws)
set_option maxHeartbeats 4000000 in
theorem ok__columns_of_pair {P : Program} {w : World} {K : PySem.W.Frag} {mg : Str → Option Value} {base : Heap} {f : Addr} {fd : FuncData} (F : FunY K "_columns_of_pair" "_columns_of_pair" s__columns_of_pair f fd) (T : MgB mg) (c__lists : CalM P w K mg base 2 "_lists" ["rows"] 1 m__lists) (c__take_out : CalM P w K mg base 3 "_take_out" ["rows", "i"] 2 m__take_out) : FnOk P w K mg base (L2.CX P w) 4 f fd ["p", "q"] (spM K w mg 2 m__columns_of_pair) :=
  defM (g := fun _ => noR 9) (mb := b__columns_of_pair) F sc__columns_of_pair (by decide) (fun cdv A outer s H E hr hp ws hlen => by
    match ws, hlen with
    | [p_0, q_0], _ =>
      show SM _ _ _ _ (g__columns_of_pair p_0 q_0) _
      unfold g__columns_of_pair
      exact (
(sm_par (i := 2) (j := 3) rfl sc__columns_of_pair.nd rfl rfl (by decide) rfl rfl (em_call c__lists (hr.mono (by omega)) (am_cons (em_var (n := 0) (w := p_0) rfl rfl) am_nil)) (em_call c__lists (hr.mono (by omega)) (am_cons (em_var (n := 1) (w := q_0) rfl rfl) am_nil)) (fun numbers_1 marks_2 =>
 (sm_set (n := 4) sc__columns_of_pair.nd rfl rfl (em_own (lm_lst am_nil)) (fun columns_3 =>
 (sm_while (f := fun (st_4 : Unit) => [some p_0, some q_0, some numbers_1, some marks_2, some columns_3, none, none, none, none]) (z0 := ()) rfl (fun st_4 => by exact (tm_val (em_var (n := 3) (w := marks_2) rfl rfl))) (fun st_4 => by exact (
 (sm_setF (n := 5) (lcp_peek (N := 9) (n := 3) (fun d_6 => [none, none, none, some d_6, none, none, none, none, none]) rfl rfl (fun _ => rfl) (fun d_6 => (lcp0 (own := [("row", 6)]) (im_val (em_var (n := 3) (w := d_6) rfl rfl)) (GWx.gw (gwx_name (by decide)) mon_name) (by intro k hk; simp at hk; rcases hk with rfl <;> rfl) gm_name (fun x_7 _ _ _ _ _ => (em_ix (em_var (n := 6) (w := x_7) rfl rfl) (em_neg em_int))) sc__columns_of_pair.nd (blkOk_by (N := ["p", "q", "numbers", "marks", "columns", "ends", "row", "i", "first"]) (sc := defScope s__columns_of_pair) (by decide +kernel)) (fun _ _ _ _ _ => (pg_name (i := 6) sc__columns_of_pair.nd rfl (by first | exact .inl rfl | exact .inr rfl)))))) sc__columns_of_pair.nd rfl rfl (sw_true rfl rfl rfl (by decide +kernel)) rfl (fun ends_5 =>
 (sm_set (n := 7) sc__columns_of_pair.nd rfl rfl (em_index (em_var (n := 5) (w := ends_5) rfl rfl) (em_B (maxS_f hr rfl) T.max (by decide +kernel) (am_cons (em_var (n := 5) (w := ends_5) rfl rfl) am_nil))) (fun i_8 =>
 (sm_set (n := 8) sc__columns_of_pair.nd rfl rfl (em_pop (em_ix (em_var (n := 3) (w := marks_2) rfl rfl) (em_var (n := 7) (w := i_8) rfl rfl)) (pe_bm0 PySem.F.plainAttrs_list PySem.F.slot_list_pop PySem.F.type_list_pop mt_pop pe_s)) (fun first_9 =>
 (sm_if (g1 := fun (st_10 : Unit) => [some p_0, some q_0, some numbers_1, some marks_2, some columns_3, some ends_5, none, some i_8, some first_9]) (tm_not (tm_val (em_ix (em_var (n := 3) (w := marks_2) rfl rfl) (em_var (n := 7) (w := i_8) rfl rfl))))
 (sm_expr (em_pop (em_var (n := 3) (w := marks_2) rfl rfl) (pe_bm0 PySem.F.plainAttrs_list PySem.F.slot_list_pop PySem.F.type_list_pop mt_pop pe_s))
 (sm_nil (z := ()) (by exact (.keep (.keep (.keep (.keep (.keep (.keep (.drop (.keep (.keep LeR.nil)))))))))) (by exact le_noR rfl)))
 (sm_nil (z := ()) (by exact (.keep (.keep (.keep (.keep (.keep (.keep (.drop (.keep (.keep LeR.nil)))))))))) (by exact le_noR rfl))
 (fun st_10 => (sm_expr (em_append (em_var (n := 4) (w := columns_3) rfl rfl) (em_tup (am_cons (em_var (n := 8) (w := first_9) rfl rfl) (am_cons (em_call c__take_out (hr.mono (by omega)) (am_cons (em_var (n := 2) (w := numbers_1) rfl rfl) (am_cons (em_var (n := 7) (w := i_8) rfl rfl) am_nil))) am_nil))) (pe_bm PySem.F.plainAttrs_list PySem.F.slot_list_append PySem.F.type_list_append mt_append pe_s (pa_cons pe_s pa_nil)))
 (sm_nil (z := ()) (by exact (.keep (.keep (.keep (.keep (.keep (.drop (.drop (.drop (.drop LeR.nil)))))))))) (by exact le_noR rfl))))))))))))) (fun st_4 => by exact (
 (sm_ret (em_frz (lm_rev (em_var (n := 4) (w := columns_3) rfl rfl)))))) hp)))) (ps_par rfl sc__columns_of_pair.nd rfl rfl (by decide) rfl rfl pa_s rfl))))
abbrev s__check_pair : Stmt := top 29
theorem sc__check_pair : FnScope ["p", "q", "row", "shape"] ["p", "q"] (defScope s__check_pair) := ⟨rfl, rfl, rfl, by decide +kernel, rfl, by decide +kernel, by decide +kernel⟩
def g__check_pair (p_0 q_0 : W) : M (Res W Unit) :=
  (ifM (orM (notM (tvM (isiM isTupO (rt p_0)))) (notM (tvM (biM (u1 dAll) (apM (frzW (lc1 tgN (fun _ => rt true) (fun x_1 => (isiM isTupO (rt x_1))) (sqM (rt p_0)))) (rt [])))))) (retE (fun _ => .bad)) (bd (toM (frzW (lc1 tgN (fun _ => rt true) (fun x_3 => (biM fLen (apM (rt x_3) (rt [])))) (sqM (rt p_0))))) fun shape_2 => (ifM (orM (notM (tvM (callI 1 (apM (rt shape_2) (rt [])) m_is_partition))) (orM (notM (tvM (callI 3 (bd (apM (rt p_0) (apM (rt shape_2) (rt []))) fun ws => rt (ws ++ [.dat (.tuple [])])) m_is_filling))) (notM (tvM (callI 3 (bd (apM (rt q_0) (apM (rt shape_2) (rt []))) fun ws => rt (ws ++ [.dat (.tuple [])])) m_is_filling))))) (retE (fun _ => .bad)) (rt (.nxt ())))))
def b__check_pair : List W → M (Res W Unit)
  | [p_0, q_0] => g__check_pair p_0 q_0
  | _ => fun _ => .bad
def m__check_pair (ws : List W) : M W := finM (b__check_pair ws)
set_option maxHeartbeats 4000000 in
theorem ok__check_pair {P : Program} {w : World} {K : PySem.W.Frag} {mg : Str → Option Value} {base : Heap} {f : Addr} {fd : FuncData} (F : FunY K "_check_pair" "_check_pair" s__check_pair f fd) (T : MgB mg) (c_is_partition : CalM P w K mg base 3 "is_partition" ["value"] 1 m_is_partition) (d_is_filling : CalD P w K mg base 4 "is_filling" ["rows", "outer", "inner"] 3 [.dat (.tuple [])] m_is_filling) : FnOk P w K mg base (L2.CX P w) 5 f fd ["p", "q"] (spM K w mg 2 m__check_pair) :=
  defM (g := fun _ => noR 4) (mb := b__check_pair) F sc__check_pair (by decide) (fun cdv A outer s H E hr hp ws hlen => by
    match ws, hlen with
    | [p_0, q_0], _ =>
      show SM _ _ _ _ (g__check_pair p_0 q_0) _
      unfold g__check_pair
      exact (
(sm_ifR (g0 := fun _ => noR 4) (tm_w (wm_or (tm_not (tm_val (em_isTup T.isinstance T.tuple (em_var (n := 0) (w := p_0) rfl rfl)))) (wm_or1 (tm_not (tm_val (em_B (all_f rfl) T.all (by decide +kernel) (am_cons (em_frz (LcP.lm (lcp0 (own := [("row", 2)]) (im_val (em_var (n := 0) (w := p_0) rfl rfl)) (GWx.gw (gwx_name (by decide)) mon_name) (by intro k hk; simp at hk; rcases hk with rfl <;> rfl) gm_name (fun x_1 _ _ _ _ _ => (em_isTup T.isinstance T.tuple (em_var (n := 2) (w := x_1) rfl rfl))) sc__check_pair.nd (blkOk_by (N := ["p", "q", "row", "shape"]) (sc := defScope s__check_pair) (by decide +kernel)) (fun _ _ _ _ _ => (pg_name (i := 2) sc__check_pair.nd rfl (by first | exact .inl rfl | exact .inr rfl)))))) am_nil)))))))
 (by exact sm_bad)
 (sm_set (n := 3) sc__check_pair.nd rfl rfl (em_tuple T.tuple (em_frz (LcP.lm (lcp0 (own := [("row", 2)]) (im_val (em_var (n := 0) (w := p_0) rfl rfl)) (GWx.gw (gwx_name (by decide)) mon_name) (by intro k hk; simp at hk; rcases hk with rfl <;> rfl) gm_name (fun x_3 _ _ _ _ _ => (em_B len_f T.len (by decide +kernel) (am_cons (em_var (n := 2) (w := x_3) rfl rfl) am_nil))) sc__check_pair.nd (blkOk_by (N := ["p", "q", "row", "shape"]) (sc := defScope s__check_pair) (by decide +kernel)) (fun _ _ _ _ _ => (pg_name (i := 2) sc__check_pair.nd rfl (by first | exact .inl rfl | exact .inr rfl))))))) (fun shape_2 =>
 (sm_ifR (g0 := fun _ => noR 4) (tm_w (wm_or (tm_not (tm_val (em_callI c_is_partition (hr.mono (by omega)) (am_cons (em_var (n := 3) (w := shape_2) rfl rfl) am_nil)))) (wm_or (tm_not (tm_val (em_callDI d_is_filling (hr.mono (by omega)) (am_cons (em_var (n := 0) (w := p_0) rfl rfl) (am_cons (em_var (n := 3) (w := shape_2) rfl rfl) am_nil))))) (wm_or1 (tm_not (tm_val (em_callDI d_is_filling (hr.mono (by omega)) (am_cons (em_var (n := 1) (w := q_0) rfl rfl) (am_cons (em_var (n := 3) (w := shape_2) rfl rfl) am_nil)))))))))
 (by exact sm_bad)
 (sm_nil (z := ()) (by exact le_noR rfl) (by exact LeR.refl))))))))
abbrev s__numbers : Stmt := top 30
theorem sc__numbers : FnScope ["rows", "row", "x"] ["rows"] (defScope s__numbers) := ⟨rfl, rfl, rfl, by decide +kernel, rfl, by decide +kernel, by decide +kernel⟩
def g__numbers (rows_0 : W) : M (Res W Unit) :=
  (bd (frzW (lc2 tgN (fun x_1 => rt true) (fun x_1 => (sqM (rt x_1))) tgN (fun x_1 x_2 => rt true) (fun x_1 x_2 => (rt x_2)) (sqM (rt rows_0)))) fun w => rt (.ret w))
def b__numbers : List W → M (Res W Unit)
  | [rows_0] => g__numbers rows_0
  | _ => fun _ => .bad
def m__numbers (ws : List W) : M W := finM (b__numbers ws)
set_option maxHeartbeats 4000000 in
theorem ok__numbers {P : Program} {w : World} {K : PySem.W.Frag} {mg : Str → Option Value} {base : Heap} {f : Addr} {fd : FuncData} (F : FunY K "_numbers" "_numbers" s__numbers f fd) (T : MgB mg) : FnOk P w K mg base (L2.CX P w) 2 f fd ["rows"] (spM K w mg 1 m__numbers) :=
  defM (g := fun _ => noR 3) (mb := b__numbers) F sc__numbers (by decide) (fun cdv A outer s H E hr hp ws hlen => by
    match ws, hlen with
    | [rows_0], _ =>
      show SM _ _ _ _ (g__numbers rows_0) _
      unfold g__numbers
      exact (
(sm_ret (em_frz (LcP.lm (lcp2 (own := [("row", 1), ("x", 2)]) (vs1 := [2]) (im_val (em_var (n := 0) (w := rows_0) rfl rfl)) (GWx.gw (gwx_name (by decide)) mon_name) (GWx.gw (gwx_name (by decide)) mon_name) (by intro k hk; simp at hk; rcases hk with rfl | rfl <;> rfl) (fun _ => (by intro k hk; simp at hk; rcases hk with rfl <;> rfl)) gm_name (fun _ => gtm_yes) (fun x_1 _ _ _ _ _ => (im_val (em_var (n := 1) (w := x_1) rfl rfl))) (fun _ => gm_name) (fun _ _ => gtm_yes) (fun x_1 x_2 _ _ _ _ _ => (em_var (n := 2) (w := x_2) rfl rfl)) sc__numbers.nd (blkOk_by (N := ["rows", "row", "x"]) (sc := defScope s__numbers) (by decide +kernel)) (by decide) (fun _ _ _ _ _ => (pg_name (i := 1) sc__numbers.nd rfl (by first | exact .inl rfl | exact .inr rfl))) (fun _ _ _ _ _ => (pg_name (i := 2) sc__numbers.nd rfl (by first | exact .inl rfl | exact .inr rfl))) pts0 pts0))))))
abbrev s_matrix_of_pair : Stmt := top 31
theorem sc_matrix_of_pair : FnScope ["p", "q", "height", "width", "rows", "_", "first", "second", "row"] ["p", "q", "height", "width"] (defScope s_matrix_of_pair) := ⟨rfl, rfl, rfl, by decide +kernel, rfl, by decide +kernel, by decide +kernel⟩
def g_matrix_of_pair (p_0 q_0 height_0 width_0 : W) : M (Res W Unit) :=
  (bd (callI 2 (apM (rt p_0) (apM (rt q_0) (rt []))) m__check_pair) fun _ => (ifM (orM (cmpM (c2 cGt) (maxdM (callI 1 (apM (rt q_0) (rt [])) m__numbers) (rt (.dat (.int 0)))) (rt height_0)) (cmpM (c2 cGt) (maxdM (callI 1 (apM (rt p_0) (rt [])) m__numbers) (rt (.dat (.int 0)))) (rt width_0))) (retE (raiseM 0 (rt (.dat (.str "small"))))) (bd (ownW (lc1 tgN (fun _ => rt true) (fun x_2 => (ownW (repM (lstM (apM (rt (.dat (.int 0))) (rt []))) (rt width_0)))) (rg1 (rt height_0)))) fun rows_1 => (bd (sqM (callI 2 (apM (rt p_0) (apM (rt q_0) (rt []))) m__columns_of_pair)) fun ws => seqM (forM (stepM (tgT 2 (tgsC tgN (tgsC tgN tgs0))) fun x_3 (st_4 : Unit) => (bd (ixM (rt rows_1) (binM (l2 pSub) (rt x_3.1) (rt (.dat (.int 1))))) fun row_5 => (bd (setM (binM (l2 pAddX) (ixM (rt row_5) (binM (l2 pSub) (rt x_3.2.1) (rt (.dat (.int 1))))) (rt (.dat (.int 1)))) (rt row_5) (binM (l2 pSub) (rt x_3.2.1) (rt (.dat (.int 1))))) fun _ => (rt (.nxt ()))))) ws ()) fun st_4 => (bd (frzM rows_1) fun rows_6 => (bd (callM 1 (apM (rt rows_6) (rt [])) m__tuples) fun w => rt (.ret w)))))))
def b_matrix_of_pair : List W → M (Res W Unit)
  | [p_0, q_0, height_0, width_0] => g_matrix_of_pair p_0 q_0 height_0 width_0
  | _ => fun _ => .bad
def m_matrix_of_pair (ws : List W) : M W := finM (b_matrix_of_pair ws)
set_option maxHeartbeats 4000000 in
theorem ok_matrix_of_pair {P : Program} {w : World} {K : PySem.W.Frag} {mg : Str → Option Value} {base : Heap} {f : Addr} {fd : FuncData} (F : FunY K "matrix_of_pair" "matrix_of_pair" s_matrix_of_pair f fd) (T : MgB mg) (c__check_pair : CalM P w K mg base 5 "_check_pair" ["p", "q"] 2 m__check_pair) (c__numbers : CalM P w K mg base 2 "_numbers" ["rows"] 1 m__numbers) (c__columns_of_pair : CalM P w K mg base 4 "_columns_of_pair" ["p", "q"] 2 m__columns_of_pair) (c__tuples : CalM P w K mg base 2 "_tuples" ["rows"] 1 m__tuples) {C_Refused fI_Refused : Addr} {fd_Refused : FuncData} (TX_Refused : XCls K mg "Refused" "reason" C_Refused fI_Refused) (FI_Refused : FnOk P w K mg base CX0 1 fI_Refused fd_Refused [Str.ofString "self", Str.ofString "reason"] (spI K C_Refused "reason")) (bI_Refused : Binds K fd_Refused [Str.ofString "self", Str.ofString "reason"] []) : FnOk P w K mg base (L2.CX P w) 6 f fd ["p", "q", "height", "width"] (spM K w mg 4 m_matrix_of_pair) :=
  defM (g := fun _ => noR 9) (mb := b_matrix_of_pair) F sc_matrix_of_pair (by decide) (fun cdv A outer s H E hr hp ws hlen => by
    match ws, hlen with
    | [p_0, q_0, height_0, width_0], _ =>
      show SM _ _ _ _ (g_matrix_of_pair p_0 q_0 height_0 width_0) _
      unfold g_matrix_of_pair
      exact (
(sm_expr (em_callI c__check_pair (hr.mono (by omega)) (am_cons (em_var (n := 0) (w := p_0) rfl rfl) (am_cons (em_var (n := 1) (w := q_0) rfl rfl) am_nil)))
 (sm_ifR (g0 := fun _ => noR 9) (tm_w (wm_or (tm_cmp gtF (em_maxd rfl T.max (em_callI c__numbers (hr.mono (by omega)) (am_cons (em_var (n := 1) (w := q_0) rfl rfl) am_nil)) em_int (hp := by exact pe_callBK (cr_maxDf rfl) rfl T.max (by decide +kernel) pa_s (pk_cons pe_s pk_nil))) (em_var (n := 2) (w := height_0) rfl rfl)) (wm_or1 (tm_cmp gtF (em_maxd rfl T.max (em_callI c__numbers (hr.mono (by omega)) (am_cons (em_var (n := 0) (w := p_0) rfl rfl) am_nil)) em_int (hp := by exact pe_callBK (cr_maxDf rfl) rfl T.max (by decide +kernel) pa_s (pk_cons pe_s pk_nil))) (em_var (n := 3) (w := width_0) rfl rfl)))))
 (sm_raise (c := 0) TX_Refused rfl rfl FI_Refused (hr.mono (by omega)) bI_Refused em_str)
 (sm_setO (n := 4) (lcp0 (own := [("_", 5)]) (im_range1 T.range (em_var (n := 2) (w := height_0) rfl rfl)) (GWx.gw (gwx_name (by decide)) mon_name) (by intro k hk; simp at hk; rcases hk with rfl <;> rfl) gm_name (fun x_2 _ _ _ _ _ => (em_own (lm_rep (lm_lst (am_cons em_int am_nil)) (em_var (n := 3) (w := width_0) rfl rfl)))) sc_matrix_of_pair.nd (blkOk_by (N := ["p", "q", "height", "width", "rows", "_", "first", "second", "row"]) (sc := defScope s_matrix_of_pair) (by decide +kernel)) (fun _ _ _ _ _ => (pg_name (i := 5) sc_matrix_of_pair.nd rfl (by first | exact .inl rfl | exact .inr rfl)))) sc_matrix_of_pair.nd rfl rfl (sw_true rfl rfl rfl (by decide +kernel)) rfl (fun rows_1 =>
 (sm_for (F := fun (st_4 : Unit) => [some p_0, some q_0, some height_0, some width_0, some rows_1, none, none, none, none]) (Fb := fun x_3 (st_4 : Unit) => [some p_0, some q_0, some height_0, some width_0, some rows_1, none, some x_3.1, some x_3.2.1, none]) (z0 := ()) (im_val (em_callI c__columns_of_pair (hr.mono (by omega)) (am_cons (em_var (n := 0) (w := p_0) rfl rfl) (am_cons (em_var (n := 1) (w := q_0) rfl rfl) am_nil)))) (pg_tup rfl (pgs_cons (pg_name (i := 6) sc_matrix_of_pair.nd rfl (by first | exact .inl rfl | exact .inr rfl)) (pgs_cons (pg_name (i := 7) sc_matrix_of_pair.nd rfl (by first | exact .inl rfl | exact .inr rfl)) pgs_nil))) (by exact (.keep (.keep (.keep (.keep (.keep (.drop (.drop (.drop (.drop LeR.nil)))))))))) (by exact le_noR rfl) (fun _ => (gm_tup (gms_cons gm_name fun _ => (gms_cons gm_name fun _ => gms_nil)))) (fun _ _ => by exact le_noR rfl) (fun x_3 st_4 => by exact (
 (sm_set (n := 8) sc_matrix_of_pair.nd rfl rfl (em_ix (em_var (n := 4) (w := rows_1) rfl rfl) (em_bin sub_f (em_var (n := 6) (w := x_3.1) rfl rfl) em_int)) (fun row_5 =>
 (sm_put (em_bin add_f (em_ix (em_var (n := 8) (w := row_5) rfl rfl) (em_bin sub_f (em_var (n := 7) (w := x_3.2.1) rfl rfl) em_int)) em_int) (em_var (n := 8) (w := row_5) rfl rfl) (em_bin sub_f (em_var (n := 7) (w := x_3.2.1) rfl rfl) em_int) (sm_nil (z := ()) (by exact (.keep (.keep (.keep (.keep (.keep (.drop (.drop (.drop (.drop LeR.nil)))))))))) (by exact le_noR rfl)) (ps_asg pe_s (pg_sub pe_s pe_s set_list))))))) (fun st_4 => by exact (
 (sm_frz (n := 4) (w := rows_1) rfl rfl (fun rows_6 => (sm_ret (em_call c__tuples (hr.mono (by omega)) (am_cons (em_var (n := 4) (w := rows_6) rfl rfl) am_nil))))))) hp)))))))
abbrev s__law_rows : Stmt := top 35
theorem sc__law_rows : FnScope ["total", "bounds", "out", "x", "rest"] ["total", "bounds"] (defScope s__law_rows) := ⟨rfl, rfl, rfl, by decide +kernel, rfl, by decide +kernel, by decide +kernel⟩
def g__law_rows (rec : List W → M W) (total_0 bounds_0 : W) : M (Res W Unit) :=
  (ifM (cmpM (c2 cEq) (biM fLen (apM (rt bounds_0) (rt []))) (rt (.dat (.int 0)))) (retE (bd (ifM (cmpM (c2 cEq) (rt total_0) (rt (.dat (.int 0)))) (frzW (lstM (apM (tupM (rt [])) (rt [])))) (frzW (lstM (rt [])))) fun w => rt (.ret w))) (bd (ownW (lstM (rt []))) fun out_1 => (bd (rg1 (binM (l2 pAddX) (biM (u2 pMin) (apM (rt total_0) (apM (ixM (rt bounds_0) (rt (.dat (.int 0)))) (rt [])))) (rt (.dat (.int 1))))) fun ws => seqM (forM (stepM tgN fun x_2 (st_3 : Unit) => (bd (sqM (callI 2 (apM (binM (l2 pSub) (rt total_0) (rt x_2)) (apM (slM (rt bounds_0) (soM (rt (.dat (.int 1)))) (rt none)) (rt []))) rec)) fun ws => seqM (forM (stepM tgN fun x_4 (st_5 : Unit) => (bd (appM (rt out_1) (binM (l2 pAddX) (tupM (apM (rt x_2) (rt []))) (rt x_4))) fun _ => (rt (.nxt ())))) ws ()) fun st_5 => (rt (.nxt ())))) ws ()) fun st_3 => (bd (frzM out_1) fun out_6 => (bd (rt out_6) fun w => rt (.ret w))))))
def b__law_rows (rec : List W → M W) : List W → M (Res W Unit)
  | [total_0, bounds_0] => g__law_rows rec total_0 bounds_0
  | _ => fun _ => .bad
def r__law_rows : Nat → List W → M W
  | 0, _ => fun _ => .bad
  | n + 1, ws => finM (b__law_rows (r__law_rows n) ws)
def m__law_rows : List W → M W := r__law_rows 5
set_option maxHeartbeats 4000000 in
theorem ok__law_rows {P : Program} {w : World} {K : PySem.W.Frag} {mg : Str → Option Value} {base : Heap} {f : Addr} {fd : FuncData} (F : FunY K "_law_rows" "_law_rows" s__law_rows f fd) (T : MgB mg) (m0 : mg "_law_rows" = some (.ref f)) (b0 : Binds K fd ["total", "bounds"] []) : ∀ n : Nat, FnOk P w K mg base (L2.CX P w) (1 + n) f fd ["total", "bounds"] (spM K w mg 2 (r__law_rows n))
  | 0 => FnOk.bad rfl
  | n + 1 => by
    have ih := ok__law_rows (P := P) (w := w) (base := base) F T m0 b0 n
    have c__law_rows : CalM P w K mg base (1 + n) "_law_rows" ["total", "bounds"] 2 (r__law_rows n) := ⟨f, fd, ih, m0, F.kp, b0⟩
    exact defM (g := fun _ => noR 5) (mb := b__law_rows (r__law_rows n)) F sc__law_rows (by decide) (fun cdv A outer s H E hr hp ws hlen => by
    match ws, hlen with
    | [total_0, bounds_0], _ =>
      show SM _ _ _ _ (g__law_rows (r__law_rows n) total_0 bounds_0) _
      unfold g__law_rows
      exact (
(sm_ifR (g0 := fun _ => noR 5) (tm_cmp (eqF hr) (em_B len_f T.len (by decide +kernel) (am_cons (em_var (n := 1) (w := bounds_0) rfl rfl) am_nil)) em_int)
 (sm_ret (em_if (tm_cmp (eqF hr) (em_var (n := 0) (w := total_0) rfl rfl) em_int) (em_frz (lm_lst (am_cons (em_tup am_nil) am_nil))) (em_frz (lm_lst am_nil))))
 (sm_set (n := 2) sc__law_rows.nd rfl rfl (em_own (lm_lst am_nil)) (fun out_1 =>
 (sm_for (F := fun (st_3 : Unit) => [some total_0, some bounds_0, some out_1, none, none]) (Fb := fun x_2 (st_3 : Unit) => [some total_0, some bounds_0, some out_1, some x_2, none]) (z0 := ()) (im_range1 T.range (em_bin add_f (em_B (min_f rfl) T.min (by decide +kernel) (am_cons (em_var (n := 0) (w := total_0) rfl rfl) (am_cons (em_ix (em_var (n := 1) (w := bounds_0) rfl rfl) em_int) am_nil))) em_int)) (pg_name (i := 3) sc__law_rows.nd rfl (by first | exact .inl rfl | exact .inr rfl)) (by exact (.keep (.keep (.keep (.drop (.drop LeR.nil)))))) (by exact le_noR rfl) (fun _ => gm_name) (fun _ _ => by exact le_noR rfl) (fun x_2 st_3 => by exact (
 (sm_for (F := fun (st_5 : Unit) => [some total_0, some bounds_0, some out_1, some x_2, none]) (Fb := fun x_4 (st_5 : Unit) => [some total_0, some bounds_0, some out_1, some x_2, some x_4]) (z0 := ()) (im_val (em_callI c__law_rows hr (am_cons (em_bin sub_f (em_var (n := 0) (w := total_0) rfl rfl) (em_var (n := 3) (w := x_2) rfl rfl)) (am_cons (em_cut (em_var (n := 1) (w := bounds_0) rfl rfl) (om_some em_int) om_none) am_nil)))) (pg_name (i := 4) sc__law_rows.nd rfl (by first | exact .inl rfl | exact .inr rfl)) (by exact (.keep (.keep (.keep (.keep (.drop LeR.nil)))))) (by exact le_noR rfl) (fun _ => gm_name) (fun _ _ => by exact le_noR rfl) (fun x_4 st_5 => by exact (
 (sm_expr (em_append (em_var (n := 2) (w := out_1) rfl rfl) (em_bin add_f (em_tup (am_cons (em_var (n := 3) (w := x_2) rfl rfl) am_nil)) (em_var (n := 4) (w := x_4) rfl rfl)) (pe_bm PySem.F.plainAttrs_list PySem.F.slot_list_append PySem.F.type_list_append mt_append pe_s (pa_cons pe_s pa_nil)))
 (sm_nil (z := ()) (by exact (.keep (.keep (.keep (.keep (.drop LeR.nil)))))) (by exact le_noR rfl))))) (fun st_5 => by exact (
 (sm_nil (z := ()) (by exact (.keep (.keep (.keep (.drop (.drop LeR.nil)))))) (by exact le_noR rfl)))) hp))) (fun st_3 => by exact (
 (sm_frz (n := 2) (w := out_1) rfl rfl (fun out_6 => (sm_ret (em_var (n := 2) (w := out_6) rfl rfl)))))) hp))))))
abbrev s__law_matrices : Stmt := top 36
theorem sc__law_matrices : FnScope ["rows", "columns", "out", "row", "left", "j", "rest"] ["rows", "columns"] (defScope s__law_matrices) := ⟨rfl, rfl, rfl, by decide +kernel, rfl, by decide +kernel, by decide +kernel⟩
def g__law_matrices (rec : List W → M W) (rows_0 columns_0 : W) : M (Res W Unit) :=
  (ifM (cmpM (c2 cEq) (biM fLen (apM (rt rows_0) (rt []))) (rt (.dat (.int 0)))) (retE (bd (ifM (cmpM (c2 cEq) (biM (u1 pMaxS) (apM (binM (l2 pAddX) (frzW (loM (rt columns_0))) (frzW (lstM (apM (rt (.dat (.int 0))) (rt []))))) (rt []))) (rt (.dat (.int 0)))) (frzW (lstM (apM (tupM (rt [])) (rt [])))) (frzW (lstM (rt [])))) fun w => rt (.ret w))) (bd (ownW (lstM (rt []))) fun out_1 => (bd (sqM (callI 2 (apM (ixM (rt rows_0) (rt (.dat (.int 0)))) (apM (rt columns_0) (rt []))) m__law_rows)) fun ws => seqM (forM (stepM tgN fun x_2 (st_3 : Unit) => (bd (toM (frzW (lc1 tgN (fun _ => rt true) (fun x_5 => (binM (l2 pSub) (ixM (rt columns_0) (rt x_5)) (ixM (rt x_2) (rt x_5)))) (rg1 (biM fLen (apM (rt columns_0) (rt []))))))) fun left_4 => (bd (sqM (callI 2 (apM (slM (rt rows_0) (soM (rt (.dat (.int 1)))) (rt none)) (apM (rt left_4) (rt []))) rec)) fun ws => seqM (forM (stepM tgN fun x_6 (st_7 : Unit) => (bd (appM (rt out_1) (binM (l2 pAddX) (tupM (apM (rt x_2) (rt []))) (rt x_6))) fun _ => (rt (.nxt ())))) ws ()) fun st_7 => (rt (.nxt ()))))) ws ()) fun st_3 => (bd (frzM out_1) fun out_8 => (bd (rt out_8) fun w => rt (.ret w))))))
def b__law_matrices (rec : List W → M W) : List W → M (Res W Unit)
  | [rows_0, columns_0] => g__law_matrices rec rows_0 columns_0
  | _ => fun _ => .bad
def r__law_matrices : Nat → List W → M W
  | 0, _ => fun _ => .bad
  | n + 1, ws => finM (b__law_matrices (r__law_matrices n) ws)
def m__law_matrices : List W → M W := r__law_matrices 5
set_option maxHeartbeats 4000000 in
theorem ok__law_matrices {P : Program} {w : World} {K : PySem.W.Frag} {mg : Str → Option Value} {base : Heap} {f : Addr} {fd : FuncData} (F : FunY K "_law_matrices" "_law_matrices" s__law_matrices f fd) (T : MgB mg) (c__law_rows : CalM P w K mg base 6 "_law_rows" ["total", "bounds"] 2 m__law_rows) (m0 : mg "_law_matrices" = some (.ref f)) (b0 : Binds K fd ["rows", "columns"] []) : ∀ n : Nat, FnOk P w K mg base (L2.CX P w) (6 + n) f fd ["rows", "columns"] (spM K w mg 2 (r__law_matrices n))
  | 0 => FnOk.bad rfl
  | n + 1 => by
    have ih := ok__law_matrices (P := P) (w := w) (base := base) F T c__law_rows m0 b0 n
    have c__law_matrices : CalM P w K mg base (6 + n) "_law_matrices" ["rows", "columns"] 2 (r__law_matrices n) := ⟨f, fd, ih, m0, F.kp, b0⟩
    exact defM (g := fun _ => noR 7) (mb := b__law_matrices (r__law_matrices n)) F sc__law_matrices (by decide) (fun cdv A outer s H E hr hp ws hlen => by
    match ws, hlen with
    | [rows_0, columns_0], _ =>
      show SM _ _ _ _ (g__law_matrices (r__law_matrices n) rows_0 columns_0) _
      unfold g__law_matrices
      exact (
(sm_ifR (g0 := fun _ => noR 7) (tm_cmp (eqF hr) (em_B len_f T.len (by decide +kernel) (am_cons (em_var (n := 0) (w := rows_0) rfl rfl) am_nil)) em_int)
 (sm_ret (em_if (tm_cmp (eqF hr) (em_B (maxS_f hr rfl) T.max (by decide +kernel) (am_cons (em_bin add_f (em_frz (lm_list T.list (em_var (n := 1) (w := columns_0) rfl rfl))) (em_frz (lm_lst (am_cons em_int am_nil)))) am_nil)) em_int) (em_frz (lm_lst (am_cons (em_tup am_nil) am_nil))) (em_frz (lm_lst am_nil))))
 (sm_set (n := 2) sc__law_matrices.nd rfl rfl (em_own (lm_lst am_nil)) (fun out_1 =>
 (sm_for (F := fun (st_3 : Unit) => [some rows_0, some columns_0, some out_1, none, none, none, none]) (Fb := fun x_2 (st_3 : Unit) => [some rows_0, some columns_0, some out_1, some x_2, none, none, none]) (z0 := ()) (im_val (em_callI c__law_rows (hr.mono (Nat.le_trans (m := 6) (by decide) (Nat.le_add_right _ _))) (am_cons (em_ix (em_var (n := 0) (w := rows_0) rfl rfl) em_int) (am_cons (em_var (n := 1) (w := columns_0) rfl rfl) am_nil)))) (pg_name (i := 3) sc__law_matrices.nd rfl (by first | exact .inl rfl | exact .inr rfl)) (by exact (.keep (.keep (.keep (.drop (.drop (.drop (.drop LeR.nil)))))))) (by exact le_noR rfl) (fun _ => gm_name) (fun _ _ => by exact le_noR rfl) (fun x_2 st_3 => by exact (
 (sm_set (n := 4) sc__law_matrices.nd rfl rfl (em_tuple T.tuple (em_frz (LcP.lm (lcp0 (own := [("j", 5)]) (im_range1 T.range (em_B len_f T.len (by decide +kernel) (am_cons (em_var (n := 1) (w := columns_0) rfl rfl) am_nil))) (GWx.gw (gwx_name (by decide)) mon_name) (by intro k hk; simp at hk; rcases hk with rfl <;> rfl) gm_name (fun x_5 _ _ _ _ _ => (em_bin sub_f (em_ix (em_var (n := 1) (w := columns_0) rfl rfl) (em_var (n := 5) (w := x_5) rfl rfl)) (em_ix (em_var (n := 3) (w := x_2) rfl rfl) (em_var (n := 5) (w := x_5) rfl rfl)))) sc__law_matrices.nd (blkOk_by (N := ["rows", "columns", "out", "row", "left", "j", "rest"]) (sc := defScope s__law_matrices) (by decide +kernel)) (fun _ _ _ _ _ => (pg_name (i := 5) sc__law_matrices.nd rfl (by first | exact .inl rfl | exact .inr rfl))))))) (fun left_4 =>
 (sm_for (F := fun (st_7 : Unit) => [some rows_0, some columns_0, some out_1, some x_2, some left_4, none, none]) (Fb := fun x_6 (st_7 : Unit) => [some rows_0, some columns_0, some out_1, some x_2, some left_4, none, some x_6]) (z0 := ()) (im_val (em_callI c__law_matrices hr (am_cons (em_cut (em_var (n := 0) (w := rows_0) rfl rfl) (om_some em_int) om_none) (am_cons (em_var (n := 4) (w := left_4) rfl rfl) am_nil)))) (pg_name (i := 6) sc__law_matrices.nd rfl (by first | exact .inl rfl | exact .inr rfl)) (by exact (.keep (.keep (.keep (.keep (.keep (.drop (.drop LeR.nil)))))))) (by exact le_noR rfl) (fun _ => gm_name) (fun _ _ => by exact le_noR rfl) (fun x_6 st_7 => by exact (
 (sm_expr (em_append (em_var (n := 2) (w := out_1) rfl rfl) (em_bin add_f (em_tup (am_cons (em_var (n := 3) (w := x_2) rfl rfl) am_nil)) (em_var (n := 6) (w := x_6) rfl rfl)) (pe_bm PySem.F.plainAttrs_list PySem.F.slot_list_append PySem.F.type_list_append mt_append pe_s (pa_cons pe_s pa_nil)))
 (sm_nil (z := ()) (by exact (.keep (.keep (.keep (.keep (.keep (.drop (.drop LeR.nil)))))))) (by exact le_noR rfl))))) (fun st_7 => by exact (
 (sm_nil (z := ()) (by exact (.keep (.keep (.keep (.drop (.drop (.drop (.drop LeR.nil)))))))) (by exact le_noR rfl)))) hp))))) (fun st_3 => by exact (
 (sm_frz (n := 2) (w := out_1) rfl rfl (fun out_8 => (sm_ret (em_var (n := 2) (w := out_8) rfl rfl)))))) hp))))))
end K19
noncomputable section
namespace K19
open PySem L2 Pd Gn PySem.Spec PyProof.Rows Zq Hx
abbrev s_law : Stmt := top 37
theorem sc_law : FnScope ["script", "state", "n", "contents", "turn", "row", "k", "rows", "columns", "due", "total", "shape", "found", "p", "q"] ["script"] (defScope s_law) := ⟨rfl, rfl, rfl, by decide +kernel, rfl, by decide +kernel, by decide +kernel⟩
def g_law (script_0 : W) : M (Res W Unit) :=
  (bd (callM 1 (apM (rt script_0) (rt [])) m__law_state) fun state_1 => (bd (callM 2 (apM (rt state_1) (apM (rt (.dat (.int 6))) (rt []))) m__law_take) fun n_2 => (bd (ownW (lstM (rt []))) fun contents_3 => (bd (rg1 (rt (.dat (.int 2)))) fun ws => seqM (forM (stepM tgN fun x_4 (st_5 : Unit) => (bd (ownW (lstM (rt []))) fun row_6 => (bd (rg1 (callM 2 (apM (rt state_1) (apM (rt (.dat (.int 3))) (rt []))) m__law_take)) fun ws => seqM (forM (stepM tgN fun x_7 (st_8 : Unit) => (bd (appM (rt row_6) (callM 2 (apM (rt state_1) (apM (binM (l2 pSub) (binM (l2 pAddX) (rt (.dat (.int 1))) (rt n_2)) (biM (u1 pSum) (apM (rt row_6) (rt [])))) (rt []))) m__law_take)) fun _ => (rt (.nxt ())))) ws ()) fun st_8 => (bd (frzM row_6) fun row_9 => (bd (appM (rt contents_3) (toM (binM (l2 pAddX) (rt row_9) (frzW (lstM (apM (binM (l2 pSub) (rt n_2) (biM (u1 pSum) (apM (rt row_9) (rt [])))) (rt []))))))) fun _ => (rt (.nxt ()))))))) ws ()) fun st_5 => (bd (frzM contents_3) fun contents_11 => (bd (rt contents_11) fun w => bd (lf ((tgL 2 (tgsC tgN (tgsC tgN tgs0))) w)) fun p_12 => (bd (callI 2 (apM (rt p_12.1) (apM (rt p_12.2.1) (rt []))) m__law_matrices) fun due_13 => (bd (rt (.dat (.int 0))) fun total_14 => (bd (sqM (callI 1 (apM (rt n_2) (rt [])) m_partitions)) fun ws => seqM (forM (stepM tgN fun x_15 (st_16 : W) => (bd (binM (l2 pAddX) (rt st_16) (binM (l2 pMulY) (callI 3 (bd (apM (rt x_15) (apM (rt p_12.1) (rt []))) fun ws => rt (ws ++ [.dat (.tuple [])])) m_count_fillings) (callI 3 (bd (apM (rt x_15) (apM (rt p_12.2.1) (rt []))) fun ws => rt (ws ++ [.dat (.tuple [])])) m_count_fillings))) fun total_17 => (rt (.nxt total_17)))) ws total_14) fun st_16 => (ifM (cmpM (c2 cNe) (rt st_16) (biM fLen (apM (rt due_13) (rt [])))) (retE (bd (rt (.dat (.bool false))) fun w => rt (.ret w))) (ifM (cmpM (c2 cGt) (rt n_2) (rt (.dat (.int 3)))) (retE (bd (rt (.dat (.bool true))) fun w => rt (.ret w))) (bd (ownW (lstM (rt []))) fun found_18 => (bd (sqM (callI 1 (apM (rt n_2) (rt [])) m_partitions)) fun ws => seqM (forM (stepM tgN fun x_19 (st_20 : Unit) => (bd (sqM (callI 3 (bd (apM (rt x_19) (apM (rt p_12.2.1) (rt []))) fun ws => rt (ws ++ [.dat (.tuple [])])) m_fillings)) fun ws => seqM (forM (stepM tgN fun x_21 (st_22 : Unit) => (bd (sqM (callI 3 (bd (apM (rt x_19) (apM (rt p_12.1) (rt []))) fun ws => rt (ws ++ [.dat (.tuple [])])) m_fillings)) fun ws => seqM (forM (stepM tgN fun x_23 (st_24 : Unit) => (bd (appM (rt found_18) (callI 4 (apM (rt x_21) (apM (rt x_23) (apM (biM fLen (apM (rt p_12.1) (rt []))) (apM (biM fLen (apM (rt p_12.2.1) (rt []))) (rt []))))) m_matrix_of_pair)) fun _ => (rt (.nxt ())))) ws ()) fun st_24 => (rt (.nxt ())))) ws ()) fun st_22 => (rt (.nxt ())))) ws ()) fun st_20 => (bd (bW (cmpM (c2 cEq) (frzW (srtDM (rt found_18))) (frzW (srtDM (rt due_13))))) fun w => rt (.ret w)))))))))))))))
def b_law : List W → M (Res W Unit)
  | [script_0] => g_law script_0
  | _ => fun _ => .bad
def m_law (ws : List W) : M W := finM (b_law ws)
set_option maxHeartbeats 4000000 in
theorem ok_law {P : Program} {w : World} {K : PySem.W.Frag} {mg : Str → Option Value} {base : Heap} {f : Addr} {fd : FuncData} (F : Fun K "law" "law" s_law f fd) (T : MgB mg) (c__law_state : CalM P w K mg base 1 "_law_state" ["script"] 1 m__law_state) (c__law_take : CalM P w K mg base 1 "_law_take" ["state", "m"] 2 m__law_take) (c__law_matrices : CalM P w K mg base 11 "_law_matrices" ["rows", "columns"] 2 m__law_matrices) (c_partitions : CalM P w K mg base 15 "partitions" ["n"] 1 m_partitions) (c_matrix_of_pair : CalM P w K mg base 6 "matrix_of_pair" ["p", "q", "height", "width"] 4 m_matrix_of_pair) (d_count_fillings : CalD P w K mg base 4 "count_fillings" ["outer", "content", "inner"] 3 [.dat (.tuple [])] m_count_fillings) (d_fillings : CalD P w K mg base 5 "fillings" ["outer", "content", "inner"] 3 [.dat (.tuple [])] m_fillings) : FnOk P w K mg base CX0 16 f fd ["script"] (spM0 K w 1 m_law) :=
  defM0 (g := fun _ => noR 15) (mb := b_law) F sc_law (by decide) (fun cdv A outer s H E hr hp ws hlen => by
    match ws, hlen with
    | [script_0], _ =>
      show SM _ _ _ _ (g_law script_0) _
      unfold g_law
      exact (
(sm_set (n := 1) sc_law.nd rfl rfl (em_call c__law_state (hr.mono (by omega)) (am_cons (em_var (n := 0) (w := script_0) rfl rfl) am_nil)) (fun state_1 =>
 (sm_set (n := 2) sc_law.nd rfl rfl (em_call c__law_take (hr.mono (by omega)) (am_cons (em_var (n := 1) (w := state_1) rfl rfl) (am_cons em_int am_nil))) (fun n_2 =>
 (sm_set (n := 3) sc_law.nd rfl rfl (em_own (lm_lst am_nil)) (fun contents_3 =>
 (sm_for (F := fun (st_5 : Unit) => [some script_0, some state_1, some n_2, some contents_3, none, none, none, none, none, none, none, none, none, none, none]) (Fb := fun x_4 (st_5 : Unit) => [some script_0, some state_1, some n_2, some contents_3, some x_4, none, none, none, none, none, none, none, none, none, none]) (z0 := ()) (im_range1 T.range em_int) (pg_name (i := 4) sc_law.nd rfl (by first | exact .inl rfl | exact .inr rfl)) (by exact (.keep (.keep (.keep (.keep (.drop (.drop (.drop (.drop (.drop (.drop (.drop (.drop (.drop (.drop (.drop LeR.nil)))))))))))))))) (by exact le_noR rfl) (fun _ => gm_name) (fun _ _ => by exact le_noR rfl) (fun x_4 st_5 => by exact (
 (sm_set (n := 5) sc_law.nd rfl rfl (em_own (lm_lst am_nil)) (fun row_6 =>
 (sm_for (F := fun (st_8 : Unit) => [some script_0, some state_1, some n_2, some contents_3, some x_4, some row_6, none, none, none, none, none, none, none, none, none]) (Fb := fun x_7 (st_8 : Unit) => [some script_0, some state_1, some n_2, some contents_3, some x_4, some row_6, some x_7, none, none, none, none, none, none, none, none]) (z0 := ()) (im_range1 T.range (em_call c__law_take (hr.mono (by omega)) (am_cons (em_var (n := 1) (w := state_1) rfl rfl) (am_cons em_int am_nil)))) (pg_name (i := 6) sc_law.nd rfl (by first | exact .inl rfl | exact .inr rfl)) (by exact (.keep (.keep (.keep (.keep (.keep (.keep (.drop (.drop (.drop (.drop (.drop (.drop (.drop (.drop (.drop LeR.nil)))))))))))))))) (by exact le_noR rfl) (fun _ => gm_name) (fun _ _ => by exact le_noR rfl) (fun x_7 st_8 => by exact (
 (sm_expr (em_append (em_var (n := 5) (w := row_6) rfl rfl) (em_call c__law_take (hr.mono (by omega)) (am_cons (em_var (n := 1) (w := state_1) rfl rfl) (am_cons (em_bin sub_f (em_bin add_f em_int (em_var (n := 2) (w := n_2) rfl rfl)) (em_B (sum_f rfl) T.sum (by decide +kernel) (am_cons (em_var (n := 5) (w := row_6) rfl rfl) am_nil))) am_nil))) (pe_bm PySem.F.plainAttrs_list PySem.F.slot_list_append PySem.F.type_list_append mt_append pe_s (pa_cons pe_s pa_nil)))
 (sm_nil (z := ()) (by exact (.keep (.keep (.keep (.keep (.keep (.keep (.drop (.drop (.drop (.drop (.drop (.drop (.drop (.drop (.drop LeR.nil)))))))))))))))) (by exact le_noR rfl))))) (fun st_8 => by exact (
 (sm_frz (n := 5) (w := row_6) rfl rfl (fun row_9 => (sm_expr (em_append (em_var (n := 3) (w := contents_3) rfl rfl) (em_tuple T.tuple (em_bin add_f (em_var (n := 5) (w := row_9) rfl rfl) (em_frz (lm_lst (am_cons (em_bin sub_f (em_var (n := 2) (w := n_2) rfl rfl) (em_B (sum_f rfl) T.sum (by decide +kernel) (am_cons (em_var (n := 5) (w := row_9) rfl rfl) am_nil))) am_nil))))) (pe_bm PySem.F.plainAttrs_list PySem.F.slot_list_append PySem.F.type_list_append mt_append pe_s (pa_cons pe_s pa_nil)))
 (sm_nil (z := ()) (by exact (.keep (.keep (.keep (.keep (.drop (.drop (.drop (.drop (.drop (.drop (.drop (.drop (.drop (.drop (.drop LeR.nil)))))))))))))))) (by exact le_noR rfl))))))) hp))))) (fun st_5 => by exact (
 (sm_frz (n := 3) (w := contents_3) rfl rfl (fun contents_11 => (sm_asg (em_var (n := 3) (w := contents_11) rfl rfl) (pg_lst rfl (pgs_cons (pg_name (i := 7) sc_law.nd rfl (by first | exact .inl rfl | exact .inr rfl)) (pgs_cons (pg_name (i := 8) sc_law.nd rfl (by first | exact .inl rfl | exact .inr rfl)) pgs_nil))) (gm_lst (gms_cons gm_name fun _ => (gms_cons gm_name fun _ => gms_nil))) (fun _ => by exact le_noR rfl) (fun p_12 =>
 (sm_set (n := 9) sc_law.nd rfl rfl (em_callI c__law_matrices (hr.mono (by omega)) (am_cons (em_var (n := 7) (w := p_12.1) rfl rfl) (am_cons (em_var (n := 8) (w := p_12.2.1) rfl rfl) am_nil))) (fun due_13 =>
 (sm_set (n := 10) sc_law.nd rfl rfl em_int (fun total_14 =>
 (sm_for (F := fun (st_16 : W) => [some script_0, some state_1, some n_2, some contents_11, none, none, none, some p_12.1, some p_12.2.1, some due_13, some st_16, none, none, none, none]) (Fb := fun x_15 (st_16 : W) => [some script_0, some state_1, some n_2, some contents_11, none, none, none, some p_12.1, some p_12.2.1, some due_13, some st_16, some x_15, none, none, none]) (z0 := total_14) (im_val (em_callI c_partitions (hr.mono (by omega)) (am_cons (em_var (n := 2) (w := n_2) rfl rfl) am_nil))) (pg_name (i := 11) sc_law.nd rfl (by first | exact .inl rfl | exact .inr rfl)) (by exact (.keep (.keep (.keep (.keep (.drop (.drop (.drop (.keep (.keep (.keep (.keep (.drop (.drop (.drop (.drop LeR.nil)))))))))))))))) (by exact le_noR rfl) (fun _ => gm_name) (fun _ _ => by exact le_noR rfl) (fun x_15 st_16 => by exact (
 (sm_set (n := 10) sc_law.nd rfl rfl (em_bin add_f (em_var (n := 10) (w := st_16) rfl rfl) (em_bin mul_f (em_callDI d_count_fillings (hr.mono (by omega)) (am_cons (em_var (n := 11) (w := x_15) rfl rfl) (am_cons (em_var (n := 7) (w := p_12.1) rfl rfl) am_nil))) (em_callDI d_count_fillings (hr.mono (by omega)) (am_cons (em_var (n := 11) (w := x_15) rfl rfl) (am_cons (em_var (n := 8) (w := p_12.2.1) rfl rfl) am_nil))))) (fun total_17 =>
 (sm_nil (z := total_17) (by exact (.keep (.keep (.keep (.keep (.drop (.drop (.drop (.keep (.keep (.keep (.keep (.drop (.drop (.drop (.drop LeR.nil)))))))))))))))) (by exact le_noR rfl)))))) (fun st_16 => by exact (
 (sm_ifR (g0 := fun _ => noR 15) (tm_cmp (neF hr) (em_var (n := 10) (w := st_16) rfl rfl) (em_B len_f T.len (by decide +kernel) (am_cons (em_var (n := 9) (w := due_13) rfl rfl) am_nil)))
 (sm_ret em_bl)
 (sm_ifR (g0 := fun _ => noR 15) (tm_cmp gtF (em_var (n := 2) (w := n_2) rfl rfl) em_int)
 (sm_ret em_bl)
 (sm_set (n := 12) sc_law.nd rfl rfl (em_own (lm_lst am_nil)) (fun found_18 =>
 (sm_for (F := fun (st_20 : Unit) => [some script_0, some state_1, some n_2, some contents_11, none, none, none, some p_12.1, some p_12.2.1, some due_13, some st_16, none, some found_18, none, none]) (Fb := fun x_19 (st_20 : Unit) => [some script_0, some state_1, some n_2, some contents_11, none, none, none, some p_12.1, some p_12.2.1, some due_13, some st_16, some x_19, some found_18, none, none]) (z0 := ()) (im_val (em_callI c_partitions (hr.mono (by omega)) (am_cons (em_var (n := 2) (w := n_2) rfl rfl) am_nil))) (pg_name (i := 11) sc_law.nd rfl (by first | exact .inl rfl | exact .inr rfl)) (by exact (.keep (.keep (.keep (.keep (.drop (.drop (.drop (.keep (.keep (.keep (.keep (.drop (.keep (.drop (.drop LeR.nil)))))))))))))))) (by exact le_noR rfl) (fun _ => gm_name) (fun _ _ => by exact le_noR rfl) (fun x_19 st_20 => by exact (
 (sm_for (F := fun (st_22 : Unit) => [some script_0, some state_1, some n_2, some contents_11, none, none, none, some p_12.1, some p_12.2.1, some due_13, some st_16, some x_19, some found_18, none, none]) (Fb := fun x_21 (st_22 : Unit) => [some script_0, some state_1, some n_2, some contents_11, none, none, none, some p_12.1, some p_12.2.1, some due_13, some st_16, some x_19, some found_18, some x_21, none]) (z0 := ()) (im_val (em_callDI d_fillings (hr.mono (by omega)) (am_cons (em_var (n := 11) (w := x_19) rfl rfl) (am_cons (em_var (n := 8) (w := p_12.2.1) rfl rfl) am_nil)))) (pg_name (i := 13) sc_law.nd rfl (by first | exact .inl rfl | exact .inr rfl)) (by exact (.keep (.keep (.keep (.keep (.drop (.drop (.drop (.keep (.keep (.keep (.keep (.keep (.keep (.drop (.drop LeR.nil)))))))))))))))) (by exact le_noR rfl) (fun _ => gm_name) (fun _ _ => by exact le_noR rfl) (fun x_21 st_22 => by exact (
 (sm_for (F := fun (st_24 : Unit) => [some script_0, some state_1, some n_2, some contents_11, none, none, none, some p_12.1, some p_12.2.1, some due_13, some st_16, some x_19, some found_18, some x_21, none]) (Fb := fun x_23 (st_24 : Unit) => [some script_0, some state_1, some n_2, some contents_11, none, none, none, some p_12.1, some p_12.2.1, some due_13, some st_16, some x_19, some found_18, some x_21, some x_23]) (z0 := ()) (im_val (em_callDI d_fillings (hr.mono (by omega)) (am_cons (em_var (n := 11) (w := x_19) rfl rfl) (am_cons (em_var (n := 7) (w := p_12.1) rfl rfl) am_nil)))) (pg_name (i := 14) sc_law.nd rfl (by first | exact .inl rfl | exact .inr rfl)) (by exact (.keep (.keep (.keep (.keep (.drop (.drop (.drop (.keep (.keep (.keep (.keep (.keep (.keep (.keep (.drop LeR.nil)))))))))))))))) (by exact le_noR rfl) (fun _ => gm_name) (fun _ _ => by exact le_noR rfl) (fun x_23 st_24 => by exact (
 (sm_expr (em_append (em_var (n := 12) (w := found_18) rfl rfl) (em_callI c_matrix_of_pair (hr.mono (by omega)) (am_cons (em_var (n := 13) (w := x_21) rfl rfl) (am_cons (em_var (n := 14) (w := x_23) rfl rfl) (am_cons (em_B len_f T.len (by decide +kernel) (am_cons (em_var (n := 7) (w := p_12.1) rfl rfl) am_nil)) (am_cons (em_B len_f T.len (by decide +kernel) (am_cons (em_var (n := 8) (w := p_12.2.1) rfl rfl) am_nil)) am_nil))))) (pe_bm PySem.F.plainAttrs_list PySem.F.slot_list_append PySem.F.type_list_append mt_append pe_s (pa_cons pe_s pa_nil)))
 (sm_nil (z := ()) (by exact (.keep (.keep (.keep (.keep (.drop (.drop (.drop (.keep (.keep (.keep (.keep (.keep (.keep (.keep (.drop LeR.nil)))))))))))))))) (by exact le_noR rfl))))) (fun st_24 => by exact (
 (sm_nil (z := ()) (by exact (.keep (.keep (.keep (.keep (.drop (.drop (.drop (.keep (.keep (.keep (.keep (.keep (.keep (.drop (.drop LeR.nil)))))))))))))))) (by exact le_noR rfl)))) hp))) (fun st_22 => by exact (
 (sm_nil (z := ()) (by exact (.keep (.keep (.keep (.keep (.drop (.drop (.drop (.keep (.keep (.keep (.keep (.drop (.keep (.drop (.drop LeR.nil)))))))))))))))) (by exact le_noR rfl)))) hp))) (fun st_20 => by exact (
 (sm_ret (em_cmp (eqF hr) (em_frz (lm_sortD hr T.sorted (em_var (n := 12) (w := found_18) rfl rfl))) (em_frz (lm_sortD hr T.sorted (em_var (n := 9) (w := due_13) rfl rfl))))))) hp))))))) hp))))))))))) hp)))))))))
end K19
noncomputable section
namespace K19
open PySem L2 Pd Gn PySem.Spec PyProof.Rows Zq Hx
set_option maxHeartbeats 0
theorem c_5_0 : (((m_law [.scr] ⟨0, []⟩).at 5).at 0).chk = true := by decide +kernel
theorem c_5_1_5 : ((((m_law [.scr] ⟨0, []⟩).at 5).at 1).at 5).chk = true := by decide +kernel
theorem c_5_2_0_5 : (((((m_law [.scr] ⟨0, []⟩).at 5).at 2).at 0).at 5).chk = true := by decide +kernel
theorem c_5_2_2_0 : (((((m_law [.scr] ⟨0, []⟩).at 5).at 2).at 2).at 0).chk = true := by decide +kernel
theorem c_5_2_3_2 : (((((m_law [.scr] ⟨0, []⟩).at 5).at 2).at 3).at 2).chk = true := by decide +kernel
theorem c_4_1_3 : ((((m_law [.scr] ⟨0, []⟩).at 4).at 1).at 3).chk = true := by decide +kernel
theorem c_4_2_0_4 : (((((m_law [.scr] ⟨0, []⟩).at 4).at 2).at 0).at 4).chk = true := by decide +kernel
theorem c_4_2_2_1 : (((((m_law [.scr] ⟨0, []⟩).at 4).at 2).at 2).at 1).chk = true := by decide +kernel
theorem c_3_1_0 : ((((m_law [.scr] ⟨0, []⟩).at 3).at 1).at 0).chk = true := by decide +kernel
theorem c_3_2_0_2 : (((((m_law [.scr] ⟨0, []⟩).at 3).at 2).at 0).at 2).chk = true := by decide +kernel
theorem c_3_2_2_1 : (((((m_law [.scr] ⟨0, []⟩).at 3).at 2).at 2).at 1).chk = true := by decide +kernel
theorem c_2_2_1_0 : (((((m_law [.scr] ⟨0, []⟩).at 2).at 2).at 1).at 0).chk = true := by decide +kernel
theorem c_0_0 : (((m_law [.scr] ⟨0, []⟩).at 0).at 0).chk = true := by decide +kernel
end K19
noncomputable section
namespace K19
open PySem L2 Pd Gn PySem.Spec PyProof.Rows Zq Hx
set_option maxHeartbeats 0
theorem c_5_1_0 : ((((m_law [.scr] ⟨0, []⟩).at 5).at 1).at 0).chk = true := by decide +kernel
theorem c_5_2_0_0 : (((((m_law [.scr] ⟨0, []⟩).at 5).at 2).at 0).at 0).chk = true := by decide +kernel
theorem c_5_2_1_0 : (((((m_law [.scr] ⟨0, []⟩).at 5).at 2).at 1).at 0).chk = true := by decide +kernel
theorem c_5_2_2_1 : (((((m_law [.scr] ⟨0, []⟩).at 5).at 2).at 2).at 1).chk = true := by decide +kernel
theorem c_5_2_4_0 : (((((m_law [.scr] ⟨0, []⟩).at 5).at 2).at 4).at 0).chk = true := by decide +kernel
theorem c_4_1_4 : ((((m_law [.scr] ⟨0, []⟩).at 4).at 1).at 4).chk = true := by decide +kernel
theorem c_4_2_1_0 : (((((m_law [.scr] ⟨0, []⟩).at 4).at 2).at 1).at 0).chk = true := by decide +kernel
theorem c_4_2_2_2 : (((((m_law [.scr] ⟨0, []⟩).at 4).at 2).at 2).at 2).chk = true := by decide +kernel
theorem c_3_1_1 : ((((m_law [.scr] ⟨0, []⟩).at 3).at 1).at 1).chk = true := by decide +kernel
theorem c_3_2_0_3 : (((((m_law [.scr] ⟨0, []⟩).at 3).at 2).at 0).at 3).chk = true := by decide +kernel
theorem c_3_2_3_0 : (((((m_law [.scr] ⟨0, []⟩).at 3).at 2).at 3).at 0).chk = true := by decide +kernel
theorem c_2_2_1_1 : (((((m_law [.scr] ⟨0, []⟩).at 2).at 2).at 1).at 1).chk = true := by decide +kernel
theorem c_0_1_0 : ((((m_law [.scr] ⟨0, []⟩).at 0).at 1).at 0).chk = true := by decide +kernel
end K19
noncomputable section
namespace K19
open PySem L2 Pd Gn PySem.Spec PyProof.Rows Zq Hx
set_option maxHeartbeats 0
theorem c_5_1_1 : ((((m_law [.scr] ⟨0, []⟩).at 5).at 1).at 1).chk = true := by decide +kernel
theorem c_5_2_0_1 : (((((m_law [.scr] ⟨0, []⟩).at 5).at 2).at 0).at 1).chk = true := by decide +kernel
theorem c_5_2_1_1 : (((((m_law [.scr] ⟨0, []⟩).at 5).at 2).at 1).at 1).chk = true := by decide +kernel
theorem c_5_2_2_2 : (((((m_law [.scr] ⟨0, []⟩).at 5).at 2).at 2).at 2).chk = true := by decide +kernel
theorem c_5_2_4_1 : (((((m_law [.scr] ⟨0, []⟩).at 5).at 2).at 4).at 1).chk = true := by decide +kernel
theorem c_4_2_0_0 : (((((m_law [.scr] ⟨0, []⟩).at 4).at 2).at 0).at 0).chk = true := by decide +kernel
theorem c_4_2_1_1 : (((((m_law [.scr] ⟨0, []⟩).at 4).at 2).at 1).at 1).chk = true := by decide +kernel
theorem c_4_2_3_0 : (((((m_law [.scr] ⟨0, []⟩).at 4).at 2).at 3).at 0).chk = true := by decide +kernel
theorem c_3_1_2 : ((((m_law [.scr] ⟨0, []⟩).at 3).at 1).at 2).chk = true := by decide +kernel
theorem c_3_2_1_0 : (((((m_law [.scr] ⟨0, []⟩).at 3).at 2).at 1).at 0).chk = true := by decide +kernel
theorem c_2_0 : (((m_law [.scr] ⟨0, []⟩).at 2).at 0).chk = true := by decide +kernel
theorem c_2_1_2 : ((((m_law [.scr] ⟨0, []⟩).at 2).at 1).at 2).chk = true := by decide +kernel
theorem c_2_2_2_0 : (((((m_law [.scr] ⟨0, []⟩).at 2).at 2).at 2).at 0).chk = true := by decide +kernel
theorem c_0_2_0_0 : (((((m_law [.scr] ⟨0, []⟩).at 0).at 2).at 0).at 0).chk = true := by decide +kernel
end K19
noncomputable section
namespace K19
open PySem L2 Pd Gn PySem.Spec PyProof.Rows Zq Hx
set_option maxHeartbeats 0
theorem c_5_1_2 : ((((m_law [.scr] ⟨0, []⟩).at 5).at 1).at 2).chk = true := by decide +kernel
theorem c_5_2_0_2 : (((((m_law [.scr] ⟨0, []⟩).at 5).at 2).at 0).at 2).chk = true := by decide +kernel
theorem c_5_2_1_2 : (((((m_law [.scr] ⟨0, []⟩).at 5).at 2).at 1).at 2).chk = true := by decide +kernel
theorem c_5_2_2_3 : (((((m_law [.scr] ⟨0, []⟩).at 5).at 2).at 2).at 3).chk = true := by decide +kernel
theorem c_5_2_5_0 : (((((m_law [.scr] ⟨0, []⟩).at 5).at 2).at 5).at 0).chk = true := by decide +kernel
theorem c_4_2_0_1 : (((((m_law [.scr] ⟨0, []⟩).at 4).at 2).at 0).at 1).chk = true := by decide +kernel
theorem c_4_2_1_2 : (((((m_law [.scr] ⟨0, []⟩).at 4).at 2).at 1).at 2).chk = true := by decide +kernel
theorem c_4_2_3_1 : (((((m_law [.scr] ⟨0, []⟩).at 4).at 2).at 3).at 1).chk = true := by decide +kernel
theorem c_3_1_3 : ((((m_law [.scr] ⟨0, []⟩).at 3).at 1).at 3).chk = true := by decide +kernel
theorem c_3_2_1_1 : (((((m_law [.scr] ⟨0, []⟩).at 3).at 2).at 1).at 1).chk = true := by decide +kernel
theorem c_2_1_0 : ((((m_law [.scr] ⟨0, []⟩).at 2).at 1).at 0).chk = true := by decide +kernel
theorem c_2_2_0_0 : (((((m_law [.scr] ⟨0, []⟩).at 2).at 2).at 0).at 0).chk = true := by decide +kernel
theorem c_1_0 : (((m_law [.scr] ⟨0, []⟩).at 1).at 0).chk = true := by decide +kernel
theorem c_1_1_1 : ((((m_law [.scr] ⟨0, []⟩).at 1).at 1).at 1).chk = true := by decide +kernel
theorem c_1_2_1_0 : (((((m_law [.scr] ⟨0, []⟩).at 1).at 2).at 1).at 0).chk = true := by decide +kernel
end K19
noncomputable section
namespace K19
open PySem L2 Pd Gn PySem.Spec PyProof.Rows Zq Hx
set_option maxHeartbeats 0
theorem c_5_1_3 : ((((m_law [.scr] ⟨0, []⟩).at 5).at 1).at 3).chk = true := by decide +kernel
theorem c_5_2_0_3 : (((((m_law [.scr] ⟨0, []⟩).at 5).at 2).at 0).at 3).chk = true := by decide +kernel
theorem c_5_2_1_3 : (((((m_law [.scr] ⟨0, []⟩).at 5).at 2).at 1).at 3).chk = true := by decide +kernel
theorem c_5_2_3_0 : (((((m_law [.scr] ⟨0, []⟩).at 5).at 2).at 3).at 0).chk = true := by decide +kernel
theorem c_4_0 : (((m_law [.scr] ⟨0, []⟩).at 4).at 0).chk = true := by decide +kernel
theorem c_4_1_1 : ((((m_law [.scr] ⟨0, []⟩).at 4).at 1).at 1).chk = true := by decide +kernel
theorem c_4_2_0_2 : (((((m_law [.scr] ⟨0, []⟩).at 4).at 2).at 0).at 2).chk = true := by decide +kernel
theorem c_4_2_1_3 : (((((m_law [.scr] ⟨0, []⟩).at 4).at 2).at 1).at 3).chk = true := by decide +kernel
theorem c_4_2_4_0 : (((((m_law [.scr] ⟨0, []⟩).at 4).at 2).at 4).at 0).chk = true := by decide +kernel
theorem c_3_2_0_1 : (((((m_law [.scr] ⟨0, []⟩).at 3).at 2).at 0).at 1).chk = true := by decide +kernel
theorem c_3_2_2_0 : (((((m_law [.scr] ⟨0, []⟩).at 3).at 2).at 2).at 0).chk = true := by decide +kernel
theorem c_2_2_0_2 : (((((m_law [.scr] ⟨0, []⟩).at 2).at 2).at 0).at 2).chk = true := by decide +kernel
theorem c_1_2_0_0 : (((((m_law [.scr] ⟨0, []⟩).at 1).at 2).at 0).at 0).chk = true := by decide +kernel
end K19
noncomputable section
namespace K19
open PySem L2 Pd Gn PySem.Spec PyProof.Rows Zq Hx
set_option maxHeartbeats 0
theorem c_5_1_4 : ((((m_law [.scr] ⟨0, []⟩).at 5).at 1).at 4).chk = true := by decide +kernel
theorem c_5_2_0_4 : (((((m_law [.scr] ⟨0, []⟩).at 5).at 2).at 0).at 4).chk = true := by decide +kernel
theorem c_5_2_1_4 : (((((m_law [.scr] ⟨0, []⟩).at 5).at 2).at 1).at 4).chk = true := by decide +kernel
theorem c_5_2_3_1 : (((((m_law [.scr] ⟨0, []⟩).at 5).at 2).at 3).at 1).chk = true := by decide +kernel
theorem c_4_1_0 : ((((m_law [.scr] ⟨0, []⟩).at 4).at 1).at 0).chk = true := by decide +kernel
theorem c_4_1_2 : ((((m_law [.scr] ⟨0, []⟩).at 4).at 1).at 2).chk = true := by decide +kernel
theorem c_4_2_0_3 : (((((m_law [.scr] ⟨0, []⟩).at 4).at 2).at 0).at 3).chk = true := by decide +kernel
theorem c_4_2_2_0 : (((((m_law [.scr] ⟨0, []⟩).at 4).at 2).at 2).at 0).chk = true := by decide +kernel
theorem c_3_0 : (((m_law [.scr] ⟨0, []⟩).at 3).at 0).chk = true := by decide +kernel
theorem c_3_2_0_0 : (((((m_law [.scr] ⟨0, []⟩).at 3).at 2).at 0).at 0).chk = true := by decide +kernel
theorem c_3_2_1_2 : (((((m_law [.scr] ⟨0, []⟩).at 3).at 2).at 1).at 2).chk = true := by decide +kernel
theorem c_2_1_1 : ((((m_law [.scr] ⟨0, []⟩).at 2).at 1).at 1).chk = true := by decide +kernel
theorem c_2_2_0_1 : (((((m_law [.scr] ⟨0, []⟩).at 2).at 2).at 0).at 1).chk = true := by decide +kernel
theorem c_1_1_0 : ((((m_law [.scr] ⟨0, []⟩).at 1).at 1).at 0).chk = true := by decide +kernel
theorem c_1_2_0_1 : (((((m_law [.scr] ⟨0, []⟩).at 1).at 2).at 0).at 1).chk = true := by decide +kernel
end K19
noncomputable section
namespace K19
open PySem L2 Pd Gn PySem.Spec PyProof.Rows Zq Hx
set_option maxHeartbeats 0
theorem c_5_2_0 : ((((m_law [.scr] ⟨0, []⟩).at 5).at 2).at 0).chk = true := chk_parts (n := 6) (by decide +kernel) rfl fun v hv => match v, hv with | 0, _ => c_5_2_0_0 | 1, _ => c_5_2_0_1 | 2, _ => c_5_2_0_2 | 3, _ => c_5_2_0_3 | 4, _ => c_5_2_0_4 | 5, _ => c_5_2_0_5 | v + 6, h => absurd h (by omega)
theorem c_5_2_1 : ((((m_law [.scr] ⟨0, []⟩).at 5).at 2).at 1).chk = true := chk_parts (n := 5) (by decide +kernel) rfl fun v hv => match v, hv with | 0, _ => c_5_2_1_0 | 1, _ => c_5_2_1_1 | 2, _ => c_5_2_1_2 | 3, _ => c_5_2_1_3 | 4, _ => c_5_2_1_4 | v + 5, h => absurd h (by omega)
theorem c_5_2_2 : ((((m_law [.scr] ⟨0, []⟩).at 5).at 2).at 2).chk = true := chk_parts (n := 4) (by decide +kernel) rfl fun v hv => match v, hv with | 0, _ => c_5_2_2_0 | 1, _ => c_5_2_2_1 | 2, _ => c_5_2_2_2 | 3, _ => c_5_2_2_3 | v + 4, h => absurd h (by omega)
theorem c_5_2_3 : ((((m_law [.scr] ⟨0, []⟩).at 5).at 2).at 3).chk = true := chk_parts (n := 3) (by decide +kernel) rfl fun v hv => match v, hv with | 0, _ => c_5_2_3_0 | 1, _ => c_5_2_3_1 | 2, _ => c_5_2_3_2 | v + 3, h => absurd h (by omega)
theorem c_5_2_4 : ((((m_law [.scr] ⟨0, []⟩).at 5).at 2).at 4).chk = true := chk_parts (n := 2) (by decide +kernel) rfl fun v hv => match v, hv with | 0, _ => c_5_2_4_0 | 1, _ => c_5_2_4_1 | v + 2, h => absurd h (by omega)
theorem c_5_2_5 : ((((m_law [.scr] ⟨0, []⟩).at 5).at 2).at 5).chk = true := chk_parts (n := 1) (by decide +kernel) rfl fun v hv => match v, hv with | 0, _ => c_5_2_5_0 | v + 1, h => absurd h (by omega)
theorem c_5_1 : (((m_law [.scr] ⟨0, []⟩).at 5).at 1).chk = true := chk_parts (n := 6) (by decide +kernel) rfl fun v hv => match v, hv with | 0, _ => c_5_1_0 | 1, _ => c_5_1_1 | 2, _ => c_5_1_2 | 3, _ => c_5_1_3 | 4, _ => c_5_1_4 | 5, _ => c_5_1_5 | v + 6, h => absurd h (by omega)
theorem c_5_2 : (((m_law [.scr] ⟨0, []⟩).at 5).at 2).chk = true := chk_parts (n := 6) (by decide +kernel) rfl fun v hv => match v, hv with | 0, _ => c_5_2_0 | 1, _ => c_5_2_1 | 2, _ => c_5_2_2 | 3, _ => c_5_2_3 | 4, _ => c_5_2_4 | 5, _ => c_5_2_5 | v + 6, h => absurd h (by omega)
theorem c_5 : ((m_law [.scr] ⟨0, []⟩).at 5).chk = true := chk_parts (n := 3) (by decide +kernel) rfl fun v hv => match v, hv with | 0, _ => c_5_0 | 1, _ => c_5_1 | 2, _ => c_5_2 | v + 3, h => absurd h (by omega)
theorem c_4_2_0 : ((((m_law [.scr] ⟨0, []⟩).at 4).at 2).at 0).chk = true := chk_parts (n := 5) (by decide +kernel) rfl fun v hv => match v, hv with | 0, _ => c_4_2_0_0 | 1, _ => c_4_2_0_1 | 2, _ => c_4_2_0_2 | 3, _ => c_4_2_0_3 | 4, _ => c_4_2_0_4 | v + 5, h => absurd h (by omega)
theorem c_4_2_1 : ((((m_law [.scr] ⟨0, []⟩).at 4).at 2).at 1).chk = true := chk_parts (n := 4) (by decide +kernel) rfl fun v hv => match v, hv with | 0, _ => c_4_2_1_0 | 1, _ => c_4_2_1_1 | 2, _ => c_4_2_1_2 | 3, _ => c_4_2_1_3 | v + 4, h => absurd h (by omega)
theorem c_4_2_2 : ((((m_law [.scr] ⟨0, []⟩).at 4).at 2).at 2).chk = true := chk_parts (n := 3) (by decide +kernel) rfl fun v hv => match v, hv with | 0, _ => c_4_2_2_0 | 1, _ => c_4_2_2_1 | 2, _ => c_4_2_2_2 | v + 3, h => absurd h (by omega)
theorem c_4_2_3 : ((((m_law [.scr] ⟨0, []⟩).at 4).at 2).at 3).chk = true := chk_parts (n := 2) (by decide +kernel) rfl fun v hv => match v, hv with | 0, _ => c_4_2_3_0 | 1, _ => c_4_2_3_1 | v + 2, h => absurd h (by omega)
theorem c_4_2_4 : ((((m_law [.scr] ⟨0, []⟩).at 4).at 2).at 4).chk = true := chk_parts (n := 1) (by decide +kernel) rfl fun v hv => match v, hv with | 0, _ => c_4_2_4_0 | v + 1, h => absurd h (by omega)
theorem c_4_1 : (((m_law [.scr] ⟨0, []⟩).at 4).at 1).chk = true := chk_parts (n := 5) (by decide +kernel) rfl fun v hv => match v, hv with | 0, _ => c_4_1_0 | 1, _ => c_4_1_1 | 2, _ => c_4_1_2 | 3, _ => c_4_1_3 | 4, _ => c_4_1_4 | v + 5, h => absurd h (by omega)
theorem c_4_2 : (((m_law [.scr] ⟨0, []⟩).at 4).at 2).chk = true := chk_parts (n := 5) (by decide +kernel) rfl fun v hv => match v, hv with | 0, _ => c_4_2_0 | 1, _ => c_4_2_1 | 2, _ => c_4_2_2 | 3, _ => c_4_2_3 | 4, _ => c_4_2_4 | v + 5, h => absurd h (by omega)
theorem c_4 : ((m_law [.scr] ⟨0, []⟩).at 4).chk = true := chk_parts (n := 3) (by decide +kernel) rfl fun v hv => match v, hv with | 0, _ => c_4_0 | 1, _ => c_4_1 | 2, _ => c_4_2 | v + 3, h => absurd h (by omega)
theorem c_3_2_0 : ((((m_law [.scr] ⟨0, []⟩).at 3).at 2).at 0).chk = true := chk_parts (n := 4) (by decide +kernel) rfl fun v hv => match v, hv with | 0, _ => c_3_2_0_0 | 1, _ => c_3_2_0_1 | 2, _ => c_3_2_0_2 | 3, _ => c_3_2_0_3 | v + 4, h => absurd h (by omega)
theorem c_3_2_1 : ((((m_law [.scr] ⟨0, []⟩).at 3).at 2).at 1).chk = true := chk_parts (n := 3) (by decide +kernel) rfl fun v hv => match v, hv with | 0, _ => c_3_2_1_0 | 1, _ => c_3_2_1_1 | 2, _ => c_3_2_1_2 | v + 3, h => absurd h (by omega)
theorem c_3_2_2 : ((((m_law [.scr] ⟨0, []⟩).at 3).at 2).at 2).chk = true := chk_parts (n := 2) (by decide +kernel) rfl fun v hv => match v, hv with | 0, _ => c_3_2_2_0 | 1, _ => c_3_2_2_1 | v + 2, h => absurd h (by omega)
theorem c_3_2_3 : ((((m_law [.scr] ⟨0, []⟩).at 3).at 2).at 3).chk = true := chk_parts (n := 1) (by decide +kernel) rfl fun v hv => match v, hv with | 0, _ => c_3_2_3_0 | v + 1, h => absurd h (by omega)
theorem c_3_1 : (((m_law [.scr] ⟨0, []⟩).at 3).at 1).chk = true := chk_parts (n := 4) (by decide +kernel) rfl fun v hv => match v, hv with | 0, _ => c_3_1_0 | 1, _ => c_3_1_1 | 2, _ => c_3_1_2 | 3, _ => c_3_1_3 | v + 4, h => absurd h (by omega)
theorem c_3_2 : (((m_law [.scr] ⟨0, []⟩).at 3).at 2).chk = true := chk_parts (n := 4) (by decide +kernel) rfl fun v hv => match v, hv with | 0, _ => c_3_2_0 | 1, _ => c_3_2_1 | 2, _ => c_3_2_2 | 3, _ => c_3_2_3 | v + 4, h => absurd h (by omega)
theorem c_3 : ((m_law [.scr] ⟨0, []⟩).at 3).chk = true := chk_parts (n := 3) (by decide +kernel) rfl fun v hv => match v, hv with | 0, _ => c_3_0 | 1, _ => c_3_1 | 2, _ => c_3_2 | v + 3, h => absurd h (by omega)
theorem c_2_2_0 : ((((m_law [.scr] ⟨0, []⟩).at 2).at 2).at 0).chk = true := chk_parts (n := 3) (by decide +kernel) rfl fun v hv => match v, hv with | 0, _ => c_2_2_0_0 | 1, _ => c_2_2_0_1 | 2, _ => c_2_2_0_2 | v + 3, h => absurd h (by omega)
theorem c_2_2_1 : ((((m_law [.scr] ⟨0, []⟩).at 2).at 2).at 1).chk = true := chk_parts (n := 2) (by decide +kernel) rfl fun v hv => match v, hv with | 0, _ => c_2_2_1_0 | 1, _ => c_2_2_1_1 | v + 2, h => absurd h (by omega)
theorem c_2_2_2 : ((((m_law [.scr] ⟨0, []⟩).at 2).at 2).at 2).chk = true := chk_parts (n := 1) (by decide +kernel) rfl fun v hv => match v, hv with | 0, _ => c_2_2_2_0 | v + 1, h => absurd h (by omega)
theorem c_2_1 : (((m_law [.scr] ⟨0, []⟩).at 2).at 1).chk = true := chk_parts (n := 3) (by decide +kernel) rfl fun v hv => match v, hv with | 0, _ => c_2_1_0 | 1, _ => c_2_1_1 | 2, _ => c_2_1_2 | v + 3, h => absurd h (by omega)
theorem c_2_2 : (((m_law [.scr] ⟨0, []⟩).at 2).at 2).chk = true := chk_parts (n := 3) (by decide +kernel) rfl fun v hv => match v, hv with | 0, _ => c_2_2_0 | 1, _ => c_2_2_1 | 2, _ => c_2_2_2 | v + 3, h => absurd h (by omega)
theorem c_2 : ((m_law [.scr] ⟨0, []⟩).at 2).chk = true := chk_parts (n := 3) (by decide +kernel) rfl fun v hv => match v, hv with | 0, _ => c_2_0 | 1, _ => c_2_1 | 2, _ => c_2_2 | v + 3, h => absurd h (by omega)
theorem c_1_2_0 : ((((m_law [.scr] ⟨0, []⟩).at 1).at 2).at 0).chk = true := chk_parts (n := 2) (by decide +kernel) rfl fun v hv => match v, hv with | 0, _ => c_1_2_0_0 | 1, _ => c_1_2_0_1 | v + 2, h => absurd h (by omega)
theorem c_1_2_1 : ((((m_law [.scr] ⟨0, []⟩).at 1).at 2).at 1).chk = true := chk_parts (n := 1) (by decide +kernel) rfl fun v hv => match v, hv with | 0, _ => c_1_2_1_0 | v + 1, h => absurd h (by omega)
theorem c_1_1 : (((m_law [.scr] ⟨0, []⟩).at 1).at 1).chk = true := chk_parts (n := 2) (by decide +kernel) rfl fun v hv => match v, hv with | 0, _ => c_1_1_0 | 1, _ => c_1_1_1 | v + 2, h => absurd h (by omega)
theorem c_1_2 : (((m_law [.scr] ⟨0, []⟩).at 1).at 2).chk = true := chk_parts (n := 2) (by decide +kernel) rfl fun v hv => match v, hv with | 0, _ => c_1_2_0 | 1, _ => c_1_2_1 | v + 2, h => absurd h (by omega)
theorem c_1 : ((m_law [.scr] ⟨0, []⟩).at 1).chk = true := chk_parts (n := 3) (by decide +kernel) rfl fun v hv => match v, hv with | 0, _ => c_1_0 | 1, _ => c_1_1 | 2, _ => c_1_2 | v + 3, h => absurd h (by omega)
theorem c_0_2_0 : ((((m_law [.scr] ⟨0, []⟩).at 0).at 2).at 0).chk = true := chk_parts (n := 1) (by decide +kernel) rfl fun v hv => match v, hv with | 0, _ => c_0_2_0_0 | v + 1, h => absurd h (by omega)
theorem c_0_1 : (((m_law [.scr] ⟨0, []⟩).at 0).at 1).chk = true := chk_parts (n := 1) (by decide +kernel) rfl fun v hv => match v, hv with | 0, _ => c_0_1_0 | v + 1, h => absurd h (by omega)
theorem c_0_2 : (((m_law [.scr] ⟨0, []⟩).at 0).at 2).chk = true := chk_parts (n := 1) (by decide +kernel) rfl fun v hv => match v, hv with | 0, _ => c_0_2_0 | v + 1, h => absurd h (by omega)
theorem c_0 : ((m_law [.scr] ⟨0, []⟩).at 0).chk = true := chk_parts (n := 3) (by decide +kernel) rfl fun v hv => match v, hv with | 0, _ => c_0_0 | 1, _ => c_0_1 | 2, _ => c_0_2 | v + 3, h => absurd h (by omega)
theorem law_chk : (m_law [.scr] ⟨0, []⟩).chk = true := chk_parts (n := 6) (by decide +kernel) rfl fun v hv => match v, hv with | 0, _ => c_0 | 1, _ => c_1 | 2, _ => c_2 | 3, _ => c_3 | 4, _ => c_4 | 5, _ => c_5 | v + 6, h => absurd h (by omega)
end K19
noncomputable section
namespace K19
open PySem L2 Pd Gn PySem.Spec PyProof.Rows Zq Hx
theorem exm_self {K : PySem.W.Frag} {C : Addr} (T : OexC K C) (h : PySem.W.subIn K (.ref C) (.ref C) = some true) : PySem.W.exmOne K (.ref C) (.ref C) = some true := by
  unfold PySem.W.exmOne
  rw [T.exC, if_pos (by rfl)]
  unfold PySem.W.kitCls
  obtain ⟨nm, q, N, bs, bm, sn, sub, ab, col, dd, k0, k1, k2, k3, k5, e, _⟩ := T.cls
  have h1 : (PySem.W.clsIn K C).isSome = true := by
    unfold PySem.W.clsIn
    rw [e]
    rfl
  simp only [h1, T.tyC]
  rw [if_pos (by rfl)]
  exact h
def inCls : Stmt → Stmt
  | .ClassDef _ _ _ body _ _ _ _ _ _ _ => body.getD 0 (.Pass ⟨0, 0, 0, 0⟩)
  | s => s
abbrev sInitRefused : Stmt := inCls (top 3)
theorem scInitRefused : FnScope [Str.ofString "self", Str.ofString "reason"] [Str.ofString "self", Str.ofString "reason"] (defScope sInitRefused) := ⟨rfl, rfl, rfl, by decide +kernel, rfl, by decide +kernel, by decide +kernel⟩
theorem ok_initRefused {P : Program} {w : World} {K : PySem.W.Frag} {mg : Str → Option Value} {base : Heap} {fI C : Addr} {fdI : FuncData} (F : Fun K "__init__" "Refused.__init__" sInitRefused fI fdI) (T : XCls K mg "Refused" "reason" C fI) : FnOk P w K mg base CX0 1 fI fdI [Str.ofString "self", Str.ofString "reason"] (spI K C "reason") :=
  init_ok F scInitRefused T.T T.noN fun X hN hsc => pss_one (ps_ost (pe_var (by rw [hN]; rfl) (by rw [hsc]; exact .inl rfl)) (pe_var (by rw [hN]; rfl) (by rw [hsc]; exact .inl rfl)))
set_option maxHeartbeats 4000000 in
theorem all_mk {l : PySem.W.OpenLaw} {w : World} {K : PySem.W.Frag} {h : Heap} {mg : Str → Option Value} {fa f1 f2 f3 f4 f5 f6 f7 f8 f9 f10 f11 f12 f13 f14 f15 f16 f17 f18 f19 f20 f21 f22 f23 f24 f25 f26 f27 f28 T11 E11 T16 E16 T17 E17 CRefused fIRefused : Addr} (X : K.In h) (G : h.Ns mainGlobals mg) (hfa : mg "law" = some (.ref fa))
    {tn11 en11 tn16 en16 tn17 en17 : Nat} {od1 an1 od2 an2 od3 an3 od4 an4 od5 an5 od6 an6 od7 an7 od8 an8 od9 an9 od10 an10 od11 an11 od12 an12 od13 an13 od14 an14 od15 an15 od16 an16 od17 an17 od18 an18 od19 an19 od20 an20 od21 an21 od22 an22 od23 an23 od24 an24 od25 an25 od26 an26 od27 an27 od28 an28 tod11 eod11 tod16 eod16 tod17 eod17 odRefused anRefused : Option Addr} {sl1 sl2 sl3 sl4 sl5 sl6 sl7 sl8 sl9 sl10 sl11 sl12 sl13 sl14 sl15 sl16 sl17 sl18 sl19 sl20 sl21 sl22 sl23 sl24 sl25 sl26 sl27 sl28 tsl11 esl11 tsl16 esl16 tsl17 esl17 slRefused : Array (Option Value)} {oc1 kV1 dc1 pm1 cd1 ct1 oc2 kV2 dc2 pm2 cd2 ct2 oc3 kV3 dc3 pm3 cd3 ct3 oc4 kV4 dc4 pm4 cd4 ct4 oc5 kV5 dc5 pm5 cd5 ct5 oc6 kV6 dc6 pm6 cd6 ct6 oc7 kV7 dc7 pm7 cd7 ct7 oc8 kV8 dc8 pm8 cd8 ct8 oc9 kV9 dc9 pm9 cd9 ct9 oc10 kV10 dc10 pm10 cd10 ct10 oc11 kV11 dc11 pm11 cd11 ct11 oc12 kV12 dc12 pm12 cd12 ct12 oc13 kV13 dc13 pm13 cd13 ct13 oc14 kV14 dc14 pm14 cd14 ct14 oc15 kV15 dc15 pm15 cd15 ct15 oc16 kV16 dc16 pm16 cd16 ct16 oc17 kV17 dc17 pm17 cd17 ct17 oc18 kV18 dc18 pm18 cd18 ct18 oc19 kV19 dc19 pm19 cd19 ct19 oc20 kV20 dc20 pm20 cd20 ct20 oc21 kV21 dc21 pm21 cd21 ct21 oc22 kV22 dc22 pm22 cd22 ct22 oc23 kV23 dc23 pm23 cd23 ct23 oc24 kV24 dc24 pm24 cd24 ct24 oc25 kV25 dc25 pm25 cd25 ct25 oc26 kV26 dc26 pm26 cd26 ct26 oc27 kV27 dc27 pm27 cd27 ct27 oc28 kV28 dc28 pm28 cd28 ct28 toc11 toc16 toc17 ocRefused kVRefused dcRefused pmRefused cdRefused ctRefused : Value}
    (a1 : PySem.W.nsIn K mainGlobals "_law_state" = some (some (.ref f1))) (l1 : K.lookup f1 = some ⟨oc1, od1, .func (PySem.W.fnOf "_law_state" "_law_state" (defArgs sState) (defBody sState) (defScope sState) .none kV1 dc1 pm1 an1 cd1 ct1), sl1⟩) (c1 : PySem.W.codeIn K cd1 "_law_state" = true) (k1 : PySem.W.keepIn K (.ref f1) = true)
    (a2 : PySem.W.nsIn K mainGlobals "_law_take" = some (some (.ref f2))) (l2 : K.lookup f2 = some ⟨oc2, od2, .func (PySem.W.fnOf "_law_take" "_law_take" (defArgs sTake) (defBody sTake) (defScope sTake) .none kV2 dc2 pm2 an2 cd2 ct2), sl2⟩) (c2 : PySem.W.codeIn K cd2 "_law_take" = true) (k2 : PySem.W.keepIn K (.ref f2) = true)
    (a3 : PySem.W.nsIn K mainGlobals "is_integer" = some (some (.ref f3))) (l3 : K.lookup f3 = some ⟨oc3, od3, .func (PySem.W.fnOf "is_integer" "is_integer" (defArgs s_is_integer) (defBody s_is_integer) (defScope s_is_integer) .none kV3 dc3 pm3 an3 cd3 ct3), sl3⟩) (c3 : PySem.W.codeIn K cd3 "is_integer" = true) (k3 : PySem.W.keepIn K (.ref f3) = true)
    (a4 : PySem.W.nsIn K mainGlobals "is_partition" = some (some (.ref f4))) (l4 : K.lookup f4 = some ⟨oc4, od4, .func (PySem.W.fnOf "is_partition" "is_partition" (defArgs s_is_partition) (defBody s_is_partition) (defScope s_is_partition) .none kV4 dc4 pm4 an4 cd4 ct4), sl4⟩) (c4 : PySem.W.codeIn K cd4 "is_partition" = true) (k4 : PySem.W.keepIn K (.ref f4) = true)
    (a5 : PySem.W.nsIn K mainGlobals "partitions_within" = some (some (.ref f5))) (l5 : K.lookup f5 = some ⟨oc5, od5, .func (PySem.W.fnOf "partitions_within" "partitions_within" (defArgs s_partitions_within) (defBody s_partitions_within) (defScope s_partitions_within) .none kV5 dc5 pm5 an5 cd5 ct5), sl5⟩) (c5 : PySem.W.codeIn K cd5 "partitions_within" = true) (k5 : PySem.W.keepIn K (.ref f5) = true)
    (a6 : PySem.W.nsIn K mainGlobals "partitions" = some (some (.ref f6))) (l6 : K.lookup f6 = some ⟨oc6, od6, .func (PySem.W.fnOf "partitions" "partitions" (defArgs s_partitions) (defBody s_partitions) (defScope s_partitions) .none kV6 dc6 pm6 an6 cd6 ct6), sl6⟩) (c6 : PySem.W.codeIn K cd6 "partitions" = true) (k6 : PySem.W.keepIn K (.ref f6) = true)
    (a7 : PySem.W.nsIn K mainGlobals "holds" = some (some (.ref f7))) (l7 : K.lookup f7 = some ⟨oc7, od7, .func (PySem.W.fnOf "holds" "holds" (defArgs s_holds) (defBody s_holds) (defScope s_holds) .none kV7 dc7 pm7 an7 cd7 ct7), sl7⟩) (c7 : PySem.W.codeIn K cd7 "holds" = true) (k7 : PySem.W.keepIn K (.ref f7) = true)
    (a8 : PySem.W.nsIn K mainGlobals "shares" = some (some (.ref f8))) (l8 : K.lookup f8 = some ⟨oc8, od8, .func (PySem.W.fnOf "shares" "shares" (defArgs s_shares) (defBody s_shares) (defScope s_shares) .none kV8 dc8 pm8 an8 cd8 ct8), sl8⟩) (c8 : PySem.W.codeIn K cd8 "shares" = true) (k8 : PySem.W.keepIn K (.ref f8) = true)
    (a9 : PySem.W.nsIn K mainGlobals "_starts" = some (some (.ref f9))) (l9 : K.lookup f9 = some ⟨oc9, od9, .func (PySem.W.fnOf "_starts" "_starts" (defArgs s__starts) (defBody s__starts) (defScope s__starts) .none kV9 dc9 pm9 an9 cd9 ct9), sl9⟩) (c9 : PySem.W.codeIn K cd9 "_starts" = true) (k9 : PySem.W.keepIn K (.ref f9) = true)
    (a10 : PySem.W.nsIn K mainGlobals "_is_row" = some (some (.ref f10))) (l10 : K.lookup f10 = some ⟨oc10, od10, .func (PySem.W.fnOf "_is_row" "_is_row" (defArgs s__is_row) (defBody s__is_row) (defScope s__is_row) .none kV10 dc10 pm10 an10 cd10 ct10), sl10⟩) (c10 : PySem.W.codeIn K cd10 "_is_row" = true) (k10 : PySem.W.keepIn K (.ref f10) = true)
    (a11 : PySem.W.nsIn K mainGlobals "is_filling" = some (some (.ref f11))) (l11 : K.lookup f11 = some ⟨oc11, od11, .func (PySem.W.fnOf "is_filling" "is_filling" (defArgs s_is_filling) (defBody s_is_filling) (defScope s_is_filling) (.ref T11) kV11 dc11 pm11 an11 cd11 ct11), sl11⟩) (c11 : PySem.W.codeIn K cd11 "is_filling" = true) (k11 : PySem.W.keepIn K (.ref f11) = true)
    (t11 : K.lookup T11 = some ⟨toc11, tod11, .seq #[.ref E11] tn11, tsl11⟩) (e11 : K.lookup E11 = some ⟨.type "tuple", eod11, .seq #[] en11, esl11⟩)
    (a12 : PySem.W.nsIn K mainGlobals "_strips_up" = some (some (.ref f12))) (l12 : K.lookup f12 = some ⟨oc12, od12, .func (PySem.W.fnOf "_strips_up" "_strips_up" (defArgs s__strips_up) (defBody s__strips_up) (defScope s__strips_up) .none kV12 dc12 pm12 an12 cd12 ct12), sl12⟩) (c12 : PySem.W.codeIn K cd12 "_strips_up" = true) (k12 : PySem.W.keepIn K (.ref f12) = true)
    (a13 : PySem.W.nsIn K mainGlobals "_is_full" = some (some (.ref f13))) (l13 : K.lookup f13 = some ⟨oc13, od13, .func (PySem.W.fnOf "_is_full" "_is_full" (defArgs s__is_full) (defBody s__is_full) (defScope s__is_full) .none kV13 dc13 pm13 an13 cd13 ct13), sl13⟩) (c13 : PySem.W.codeIn K cd13 "_is_full" = true) (k13 : PySem.W.keepIn K (.ref f13) = true)
    (a14 : PySem.W.nsIn K mainGlobals "_layers" = some (some (.ref f14))) (l14 : K.lookup f14 = some ⟨oc14, od14, .func (PySem.W.fnOf "_layers" "_layers" (defArgs s__layers) (defBody s__layers) (defScope s__layers) .none kV14 dc14 pm14 an14 cd14 ct14), sl14⟩) (c14 : PySem.W.codeIn K cd14 "_layers" = true) (k14 : PySem.W.keepIn K (.ref f14) = true)
    (a15 : PySem.W.nsIn K mainGlobals "_begun" = some (some (.ref f15))) (l15 : K.lookup f15 = some ⟨oc15, od15, .func (PySem.W.fnOf "_begun" "_begun" (defArgs s__begun) (defBody s__begun) (defScope s__begun) .none kV15 dc15 pm15 an15 cd15 ct15), sl15⟩) (c15 : PySem.W.codeIn K cd15 "_begun" = true) (k15 : PySem.W.keepIn K (.ref f15) = true)
    (a16 : PySem.W.nsIn K mainGlobals "fillings" = some (some (.ref f16))) (l16 : K.lookup f16 = some ⟨oc16, od16, .func (PySem.W.fnOf "fillings" "fillings" (defArgs s_fillings) (defBody s_fillings) (defScope s_fillings) (.ref T16) kV16 dc16 pm16 an16 cd16 ct16), sl16⟩) (c16 : PySem.W.codeIn K cd16 "fillings" = true) (k16 : PySem.W.keepIn K (.ref f16) = true)
    (t16 : K.lookup T16 = some ⟨toc16, tod16, .seq #[.ref E16] tn16, tsl16⟩) (e16 : K.lookup E16 = some ⟨.type "tuple", eod16, .seq #[] en16, esl16⟩)
    (a17 : PySem.W.nsIn K mainGlobals "count_fillings" = some (some (.ref f17))) (l17 : K.lookup f17 = some ⟨oc17, od17, .func (PySem.W.fnOf "count_fillings" "count_fillings" (defArgs s_count_fillings) (defBody s_count_fillings) (defScope s_count_fillings) (.ref T17) kV17 dc17 pm17 an17 cd17 ct17), sl17⟩) (c17 : PySem.W.codeIn K cd17 "count_fillings" = true) (k17 : PySem.W.keepIn K (.ref f17) = true)
    (t17 : K.lookup T17 = some ⟨toc17, tod17, .seq #[.ref E17] tn17, tsl17⟩) (e17 : K.lookup E17 = some ⟨.type "tuple", eod17, .seq #[] en17, esl17⟩)
    (a18 : PySem.W.nsIn K mainGlobals "_lists" = some (some (.ref f18))) (l18 : K.lookup f18 = some ⟨oc18, od18, .func (PySem.W.fnOf "_lists" "_lists" (defArgs s__lists) (defBody s__lists) (defScope s__lists) .none kV18 dc18 pm18 an18 cd18 ct18), sl18⟩) (c18 : PySem.W.codeIn K cd18 "_lists" = true) (k18 : PySem.W.keepIn K (.ref f18) = true)
    (a19 : PySem.W.nsIn K mainGlobals "_tuples" = some (some (.ref f19))) (l19 : K.lookup f19 = some ⟨oc19, od19, .func (PySem.W.fnOf "_tuples" "_tuples" (defArgs s__tuples) (defBody s__tuples) (defScope s__tuples) .none kV19 dc19 pm19 an19 cd19 ct19), sl19⟩) (c19 : PySem.W.codeIn K cd19 "_tuples" = true) (k19 : PySem.W.keepIn K (.ref f19) = true)
    (a20 : PySem.W.nsIn K mainGlobals "_first_greater" = some (some (.ref f20))) (l20 : K.lookup f20 = some ⟨oc20, od20, .func (PySem.W.fnOf "_first_greater" "_first_greater" (defArgs s__first_greater) (defBody s__first_greater) (defScope s__first_greater) .none kV20 dc20 pm20 an20 cd20 ct20), sl20⟩) (c20 : PySem.W.codeIn K cd20 "_first_greater" = true) (k20 : PySem.W.keepIn K (.ref f20) = true)
    (a21 : PySem.W.nsIn K mainGlobals "_take_out" = some (some (.ref f21))) (l21 : K.lookup f21 = some ⟨oc21, od21, .func (PySem.W.fnOf "_take_out" "_take_out" (defArgs s__take_out) (defBody s__take_out) (defScope s__take_out) .none kV21 dc21 pm21 an21 cd21 ct21), sl21⟩) (c21 : PySem.W.codeIn K cd21 "_take_out" = true) (k21 : PySem.W.keepIn K (.ref f21) = true)
    (a22 : PySem.W.nsIn K mainGlobals "_columns_of_pair" = some (some (.ref f22))) (l22 : K.lookup f22 = some ⟨oc22, od22, .func (PySem.W.fnOf "_columns_of_pair" "_columns_of_pair" (defArgs s__columns_of_pair) (defBody s__columns_of_pair) (defScope s__columns_of_pair) .none kV22 dc22 pm22 an22 cd22 ct22), sl22⟩) (c22 : PySem.W.codeIn K cd22 "_columns_of_pair" = true) (k22 : PySem.W.keepIn K (.ref f22) = true)
    (a23 : PySem.W.nsIn K mainGlobals "_check_pair" = some (some (.ref f23))) (l23 : K.lookup f23 = some ⟨oc23, od23, .func (PySem.W.fnOf "_check_pair" "_check_pair" (defArgs s__check_pair) (defBody s__check_pair) (defScope s__check_pair) .none kV23 dc23 pm23 an23 cd23 ct23), sl23⟩) (c23 : PySem.W.codeIn K cd23 "_check_pair" = true) (k23 : PySem.W.keepIn K (.ref f23) = true)
    (a24 : PySem.W.nsIn K mainGlobals "_numbers" = some (some (.ref f24))) (l24 : K.lookup f24 = some ⟨oc24, od24, .func (PySem.W.fnOf "_numbers" "_numbers" (defArgs s__numbers) (defBody s__numbers) (defScope s__numbers) .none kV24 dc24 pm24 an24 cd24 ct24), sl24⟩) (c24 : PySem.W.codeIn K cd24 "_numbers" = true) (k24 : PySem.W.keepIn K (.ref f24) = true)
    (a25 : PySem.W.nsIn K mainGlobals "matrix_of_pair" = some (some (.ref f25))) (l25 : K.lookup f25 = some ⟨oc25, od25, .func (PySem.W.fnOf "matrix_of_pair" "matrix_of_pair" (defArgs s_matrix_of_pair) (defBody s_matrix_of_pair) (defScope s_matrix_of_pair) .none kV25 dc25 pm25 an25 cd25 ct25), sl25⟩) (c25 : PySem.W.codeIn K cd25 "matrix_of_pair" = true) (k25 : PySem.W.keepIn K (.ref f25) = true)
    (a26 : PySem.W.nsIn K mainGlobals "_law_rows" = some (some (.ref f26))) (l26 : K.lookup f26 = some ⟨oc26, od26, .func (PySem.W.fnOf "_law_rows" "_law_rows" (defArgs s__law_rows) (defBody s__law_rows) (defScope s__law_rows) .none kV26 dc26 pm26 an26 cd26 ct26), sl26⟩) (c26 : PySem.W.codeIn K cd26 "_law_rows" = true) (k26 : PySem.W.keepIn K (.ref f26) = true)
    (a27 : PySem.W.nsIn K mainGlobals "_law_matrices" = some (some (.ref f27))) (l27 : K.lookup f27 = some ⟨oc27, od27, .func (PySem.W.fnOf "_law_matrices" "_law_matrices" (defArgs s__law_matrices) (defBody s__law_matrices) (defScope s__law_matrices) .none kV27 dc27 pm27 an27 cd27 ct27), sl27⟩) (c27 : PySem.W.codeIn K cd27 "_law_matrices" = true) (k27 : PySem.W.keepIn K (.ref f27) = true)
    (a28 : PySem.W.nsIn K mainGlobals "law" = some (some (.ref f28))) (l28 : K.lookup f28 = some ⟨oc28, od28, .func (PySem.W.fnOf "law" "law" (defArgs s_law) (defBody s_law) (defScope s_law) .none kV28 dc28 pm28 an28 cd28 ct28), sl28⟩) (c28 : PySem.W.codeIn K cd28 "law" = true) (k28 : PySem.W.keepIn K (.ref f28) = true)
    (z1 : PySem.W.nsIn K mainGlobals "len" = some none) (z2 : PySem.W.nsIn K mainGlobals "int" = some none) (z3 : PySem.W.nsIn K mainGlobals "abs" = some none) (z4 : PySem.W.nsIn K mainGlobals "min" = some none) (z5 : PySem.W.nsIn K mainGlobals "max" = some none) (z6 : PySem.W.nsIn K mainGlobals "range" = some none) (z7 : PySem.W.nsIn K mainGlobals "tuple" = some none) (z8 : PySem.W.nsIn K mainGlobals "list" = some none) (z9 : PySem.W.nsIn K mainGlobals "all" = some none) (z10 : PySem.W.nsIn K mainGlobals "any" = some none) (z11 : PySem.W.nsIn K mainGlobals "zip" = some none) (z12 : PySem.W.nsIn K mainGlobals "sum" = some none) (z13 : PySem.W.nsIn K mainGlobals "sorted" = some none) (z14 : PySem.W.nsIn K mainGlobals "isinstance" = some none) (z15 : PySem.W.nsIn K mainGlobals "bool" = some none) (z16 : PySem.W.nsIn K mainGlobals "reversed" = some none) (z17 : PySem.W.nsIn K mainGlobals "enumerate" = some none)
    (yRefused2 : PySem.W.nsIn K mainGlobals "Refused" = some (some (.ref CRefused))) (yRefused3 : OexC K CRefused) (yRefused4 : XfC K CRefused) (yRefused5 : PySem.W.findIn K (.ref CRefused) "reason" = some none) (yRefused6 : PySem.W.findIn K (.ref CRefused) "__init__" = some (some (.ref fIRefused))) (yRefused7 : PySem.W.typeIn K (.ref fIRefused) = some (.type "function")) (yRefused8 : PySem.W.subIn K (.ref CRefused) (.ref CRefused) = some true)
    (yRefused9 : K.lookup fIRefused = some ⟨ocRefused, odRefused, .func (PySem.W.fnOf "__init__" "Refused.__init__" (defArgs sInitRefused) (defBody sInitRefused) (defScope sInitRefused) .none kVRefused dcRefused pmRefused anRefused cdRefused ctRefused), slRefused⟩) (yRefused10 : PySem.W.codeIn K cdRefused "Refused.__init__" = true) (yRefused11 : PySem.W.keepIn K (.ref fIRefused) = true)
    {tk_MOST : Tok} (y_MOST : PySem.W.nsIn K mainGlobals "_MOST" = some (some (.int 12 tk_MOST))) :
    ∃ fd : FuncData, (∀ (s : Shared) (v : Value), BindsTo s fd ⟨[v], []⟩ [("script", v)]) ∧ ∀ base : Heap, K.In base → base.Ns mainGlobals mg → FnOk l.prog w K mg base CX0 16 fa fd ["script"] (spLaw K) := by
  have e := hfa.symm.trans (PySem.W.mg_of X G a28)
  cases e
  have F1 := fun_mk (st := sState) l1 c1 k1
  have F2 := fun_mk (st := sTake) l2 c2 k2
  have F3 := fun_mk (st := s_is_integer) l3 c3 k3
  have F4 := fun_mk (st := s_is_partition) l4 c4 k4
  have F5 := fun_mk (st := s_partitions_within) l5 c5 k5
  have F6 := fun_mk (st := s_partitions) l6 c6 k6
  have F7 := fun_mk (st := s_holds) l7 c7 k7
  have F8 := fun_mk (st := s_shares) l8 c8 k8
  have F9 := fun_mk (st := s__starts) l9 c9 k9
  have F10 := fun_mk (st := s__is_row) l10 c10 k10
  have F11 := funY_mk (st := s_is_filling) l11 c11 k11
  have F12 := fun_mk (st := s__strips_up) l12 c12 k12
  have F13 := fun_mk (st := s__is_full) l13 c13 k13
  have F14 := fun_mk (st := s__layers) l14 c14 k14
  have F15 := fun_mk (st := s__begun) l15 c15 k15
  have F16 := funY_mk (st := s_fillings) l16 c16 k16
  have F17 := funY_mk (st := s_count_fillings) l17 c17 k17
  have F18 := fun_mk (st := s__lists) l18 c18 k18
  have F19 := fun_mk (st := s__tuples) l19 c19 k19
  have F20 := fun_mk (st := s__first_greater) l20 c20 k20
  have F21 := fun_mk (st := s__take_out) l21 c21 k21
  have F22 := fun_mk (st := s__columns_of_pair) l22 c22 k22
  have F23 := fun_mk (st := s__check_pair) l23 c23 k23
  have F24 := fun_mk (st := s__numbers) l24 c24 k24
  have F25 := fun_mk (st := s_matrix_of_pair) l25 c25 k25
  have F26 := fun_mk (st := s__law_rows) l26 c26 k26
  have F27 := fun_mk (st := s__law_matrices) l27 c27 k27
  have F28 := fun_mk (st := s_law) l28 c28 k28
  have b1 := F1.binds (ps := ["script"]) fun _ _ _ _ _ _ us hl => match us, hl with | [_], _ => rfl
  have b2 := F2.binds (ps := ["state", "m"]) fun _ _ _ _ _ _ us hl => match us, hl with | [_, _], _ => rfl
  have b3 := F3.binds (ps := ["value"]) fun _ _ _ _ _ _ us hl => match us, hl with | [_], _ => rfl
  have b4 := F4.binds (ps := ["value"]) fun _ _ _ _ _ _ us hl => match us, hl with | [_], _ => rfl
  have b5 := F5.binds (ps := ["n", "most"]) fun _ _ _ _ _ _ us hl => match us, hl with | [_, _], _ => rfl
  have b6 := F6.binds (ps := ["n"]) fun _ _ _ _ _ _ us hl => match us, hl with | [_], _ => rfl
  have b7 := F7.binds (ps := ["a", "b"]) fun _ _ _ _ _ _ us hl => match us, hl with | [_, _], _ => rfl
  have b8 := F8.binds (ps := ["limits", "k"]) fun _ _ _ _ _ _ us hl => match us, hl with | [_, _], _ => rfl
  have b9 := F9.binds (ps := ["inner", "many"]) fun _ _ _ _ _ _ us hl => match us, hl with | [_, _], _ => rfl
  have b10 := F10.binds (ps := ["row", "many"]) fun _ _ _ _ _ _ us hl => match us, hl with | [_, _], _ => rfl
  have FD11 : FunD K "is_filling" "is_filling" (defArgs s_is_filling) (defBody s_is_filling) (defScope s_is_filling) [V.ref E11] [] f11 _ := ⟨⟨_, _, .ref T11, _, _, _, _, _, _, _, rfl, l11, c11, .inr ⟨by simp, T11, _, [.ref E11], _, rfl, t11, rfl, .cons rfl .nil⟩, .inl rfl⟩, k11⟩
  obtain ⟨us11, rv11, b11⟩ := FD11.binds1 (ps := ["rows", "outer", "inner"]) 3 1 (by simp) rfl fun T kV doc pm an cdv ct us its l1 l2 => match us, its, l1, l2 with | [_, _, _], [_], _, _ => ⟨_, rfl, rfl⟩
  have z11_ : us11 = [] := by cases rv11; rfl
  rw [z11_] at b11
  obtain ⟨vs11, rw11, bd11⟩ := FD11.binds1 (ps := ["rows", "outer", "inner"]) 2 0 (by simp) rfl fun T kV doc pm an cdv ct us its l1 l2 => match us, its, l1, l2 with | [_, _], [_], _, _ => ⟨_, rfl, rfl⟩
  have ev11 : ∀ (wd : World) φ H, VRs K wd φ H [.dat (.tuple [])] [V.ref E11] := fun wd φ H => .cons (.dat (.tup (.inr ⟨_, #[], en11, e11, rfl, rfl, by decide, .nil⟩) .nil)) .nil
  have b12 := F12.binds (ps := ["outer", "shape", "k", "later"]) fun _ _ _ _ _ _ us hl => match us, hl with | [_, _, _, _], _ => rfl
  have b13 := F13.binds (ps := ["outer", "content", "inner"]) fun _ _ _ _ _ _ us hl => match us, hl with | [_, _, _], _ => rfl
  have b14 := F14.binds (ps := ["outer", "content", "inner"]) fun _ _ _ _ _ _ us hl => match us, hl with | [_, _, _], _ => rfl
  have b15 := F15.binds (ps := ["rows", "number", "larger", "smaller"]) fun _ _ _ _ _ _ us hl => match us, hl with | [_, _, _, _], _ => rfl
  have FD16 : FunD K "fillings" "fillings" (defArgs s_fillings) (defBody s_fillings) (defScope s_fillings) [V.ref E16] [] f16 _ := ⟨⟨_, _, .ref T16, _, _, _, _, _, _, _, rfl, l16, c16, .inr ⟨by simp, T16, _, [.ref E16], _, rfl, t16, rfl, .cons rfl .nil⟩, .inl rfl⟩, k16⟩
  obtain ⟨us16, rv16, b16⟩ := FD16.binds1 (ps := ["outer", "content", "inner"]) 3 1 (by simp) rfl fun T kV doc pm an cdv ct us its l1 l2 => match us, its, l1, l2 with | [_, _, _], [_], _, _ => ⟨_, rfl, rfl⟩
  have z16_ : us16 = [] := by cases rv16; rfl
  rw [z16_] at b16
  obtain ⟨vs16, rw16, bd16⟩ := FD16.binds1 (ps := ["outer", "content", "inner"]) 2 0 (by simp) rfl fun T kV doc pm an cdv ct us its l1 l2 => match us, its, l1, l2 with | [_, _], [_], _, _ => ⟨_, rfl, rfl⟩
  have ev16 : ∀ (wd : World) φ H, VRs K wd φ H [.dat (.tuple [])] [V.ref E16] := fun wd φ H => .cons (.dat (.tup (.inr ⟨_, #[], en16, e16, rfl, rfl, by decide, .nil⟩) .nil)) .nil
  have FD17 : FunD K "count_fillings" "count_fillings" (defArgs s_count_fillings) (defBody s_count_fillings) (defScope s_count_fillings) [V.ref E17] [] f17 _ := ⟨⟨_, _, .ref T17, _, _, _, _, _, _, _, rfl, l17, c17, .inr ⟨by simp, T17, _, [.ref E17], _, rfl, t17, rfl, .cons rfl .nil⟩, .inl rfl⟩, k17⟩
  obtain ⟨us17, rv17, b17⟩ := FD17.binds1 (ps := ["outer", "content", "inner"]) 3 1 (by simp) rfl fun T kV doc pm an cdv ct us its l1 l2 => match us, its, l1, l2 with | [_, _, _], [_], _, _ => ⟨_, rfl, rfl⟩
  have z17_ : us17 = [] := by cases rv17; rfl
  rw [z17_] at b17
  obtain ⟨vs17, rw17, bd17⟩ := FD17.binds1 (ps := ["outer", "content", "inner"]) 2 0 (by simp) rfl fun T kV doc pm an cdv ct us its l1 l2 => match us, its, l1, l2 with | [_, _], [_], _, _ => ⟨_, rfl, rfl⟩
  have ev17 : ∀ (wd : World) φ H, VRs K wd φ H [.dat (.tuple [])] [V.ref E17] := fun wd φ H => .cons (.dat (.tup (.inr ⟨_, #[], en17, e17, rfl, rfl, by decide, .nil⟩) .nil)) .nil
  have b18 := F18.binds (ps := ["rows"]) fun _ _ _ _ _ _ us hl => match us, hl with | [_], _ => rfl
  have b19 := F19.binds (ps := ["rows"]) fun _ _ _ _ _ _ us hl => match us, hl with | [_], _ => rfl
  have b20 := F20.binds (ps := ["row", "x"]) fun _ _ _ _ _ _ us hl => match us, hl with | [_, _], _ => rfl
  have b21 := F21.binds (ps := ["rows", "i"]) fun _ _ _ _ _ _ us hl => match us, hl with | [_, _], _ => rfl
  have b22 := F22.binds (ps := ["p", "q"]) fun _ _ _ _ _ _ us hl => match us, hl with | [_, _], _ => rfl
  have b23 := F23.binds (ps := ["p", "q"]) fun _ _ _ _ _ _ us hl => match us, hl with | [_, _], _ => rfl
  have b24 := F24.binds (ps := ["rows"]) fun _ _ _ _ _ _ us hl => match us, hl with | [_], _ => rfl
  have b25 := F25.binds (ps := ["p", "q", "height", "width"]) fun _ _ _ _ _ _ us hl => match us, hl with | [_, _, _, _], _ => rfl
  have b26 := F26.binds (ps := ["total", "bounds"]) fun _ _ _ _ _ _ us hl => match us, hl with | [_, _], _ => rfl
  have b27 := F27.binds (ps := ["rows", "columns"]) fun _ _ _ _ _ _ us hl => match us, hl with | [_, _], _ => rfl
  have m1 := PySem.W.mg_of X G a1
  have m2 := PySem.W.mg_of X G a2
  have m3 := PySem.W.mg_of X G a3
  have m4 := PySem.W.mg_of X G a4
  have m5 := PySem.W.mg_of X G a5
  have m6 := PySem.W.mg_of X G a6
  have m7 := PySem.W.mg_of X G a7
  have m8 := PySem.W.mg_of X G a8
  have m9 := PySem.W.mg_of X G a9
  have m10 := PySem.W.mg_of X G a10
  have m11 := PySem.W.mg_of X G a11
  have m12 := PySem.W.mg_of X G a12
  have m13 := PySem.W.mg_of X G a13
  have m14 := PySem.W.mg_of X G a14
  have m15 := PySem.W.mg_of X G a15
  have m16 := PySem.W.mg_of X G a16
  have m17 := PySem.W.mg_of X G a17
  have m18 := PySem.W.mg_of X G a18
  have m19 := PySem.W.mg_of X G a19
  have m20 := PySem.W.mg_of X G a20
  have m21 := PySem.W.mg_of X G a21
  have m22 := PySem.W.mg_of X G a22
  have m23 := PySem.W.mg_of X G a23
  have m24 := PySem.W.mg_of X G a24
  have m25 := PySem.W.mg_of X G a25
  have m26 := PySem.W.mg_of X G a26
  have m27 := PySem.W.mg_of X G a27
  have n1 := PySem.W.mg_none_of X G z1
  have n2 := PySem.W.mg_none_of X G z2
  have n3 := PySem.W.mg_none_of X G z3
  have n4 := PySem.W.mg_none_of X G z4
  have n5 := PySem.W.mg_none_of X G z5
  have n6 := PySem.W.mg_none_of X G z6
  have n7 := PySem.W.mg_none_of X G z7
  have n8 := PySem.W.mg_none_of X G z8
  have n9 := PySem.W.mg_none_of X G z9
  have n10 := PySem.W.mg_none_of X G z10
  have n11 := PySem.W.mg_none_of X G z11
  have n12 := PySem.W.mg_none_of X G z12
  have n13 := PySem.W.mg_none_of X G z13
  have n14 := PySem.W.mg_none_of X G z14
  have n15 := PySem.W.mg_none_of X G z15
  have n16 := PySem.W.mg_none_of X G z16
  have n17 := PySem.W.mg_none_of X G z17
  have T : MgB mg := ⟨n1, n2, n3, n4, n5, n6, n7, n8, n9, n10, n11, n12, n13, n14, n15, n16, n17⟩
  have T0 : Mg mg := ⟨T.len, T.int, T.abs, T.min, T.range⟩
  have FIRefused := fun_mk yRefused9 yRefused10 yRefused11
  have bIRefused := FIRefused.binds (ps := [Str.ofString "self", Str.ofString "reason"]) fun _ _ _ _ _ _ us hl => match us, hl with | [_, _], _ => rfl
  have TXRefused : XCls K mg "Refused" "reason" CRefused fIRefused := ⟨yRefused3, yRefused4, yRefused5, yRefused6, yRefused7, PySem.W.mg_of X G yRefused2, exm_self yRefused3 yRefused8⟩
  have K__MOST := PySem.W.mg_of X G y_MOST
  refine ⟨PySem.W.fnOf "law" "law" (defArgs s_law) (defBody s_law) (defScope s_law) .none kV28 dc28 pm28 an28 cd28 ct28, fun s v => .of_eq rfl, fun base _ _ => ?_⟩
  have GIRefused := ok_initRefused (P := l.prog) (w := w) (base := base) FIRefused TXRefused
  have C__law_state : CalM l.prog w K mg base 1 "_law_state" ["script"] 1 m__law_state := ⟨_, _, fnState (P := l.prog) (w := w) (base := base) F1 T0, m1, k1, b1⟩
  have C__law_take : CalM l.prog w K mg base 1 "_law_take" ["state", "m"] 2 m__law_take := ⟨_, _, fnTake (P := l.prog) (w := w) (base := base) F2 T0, m2, k2, b2⟩
  have C_is_integer : CalM l.prog w K mg base 2 "is_integer" ["value"] 1 m_is_integer := ⟨_, _, ok_is_integer (P := l.prog) (w := w) (base := base) (Hx.Fun.y F3) T , m3, k3, b3⟩
  have C_is_partition : CalM l.prog w K mg base 3 "is_partition" ["value"] 1 m_is_partition := ⟨_, _, ok_is_partition (P := l.prog) (w := w) (base := base) (Hx.Fun.y F4) T C_is_integer, m4, k4, b4⟩
  have C_partitions_within : CalM l.prog w K mg base 14 "partitions_within" ["n", "most"] 2 m_partitions_within := ⟨_, _, ok_partitions_within (P := l.prog) (w := w) (base := base) (Hx.Fun.y F5) T  m5 b5 13, m5, k5, b5⟩
  have C_partitions : CalM l.prog w K mg base 15 "partitions" ["n"] 1 m_partitions := ⟨_, _, ok_partitions (P := l.prog) (w := w) (base := base) (Hx.Fun.y F6) T C_is_integer C_partitions_within TXRefused GIRefused bIRefused K__MOST, m6, k6, b6⟩
  have C_holds : CalM l.prog w K mg base 2 "holds" ["a", "b"] 2 m_holds := ⟨_, _, ok_holds (P := l.prog) (w := w) (base := base) (Hx.Fun.y F7) T , m7, k7, b7⟩
  have C_shares : CalM l.prog w K mg base 2 "shares" ["limits", "k"] 2 m_shares := ⟨_, _, ok_shares (P := l.prog) (w := w) (base := base) (Hx.Fun.y F8) T , m8, k8, b8⟩
  have C__starts : CalM l.prog w K mg base 2 "_starts" ["inner", "many"] 2 m__starts := ⟨_, _, ok__starts (P := l.prog) (w := w) (base := base) (Hx.Fun.y F9) T , m9, k9, b9⟩
  have C__is_row : CalM l.prog w K mg base 3 "_is_row" ["row", "many"] 2 m__is_row := ⟨_, _, ok__is_row (P := l.prog) (w := w) (base := base) (Hx.Fun.y F10) T C_is_integer, m10, k10, b10⟩
  have C_is_filling : CalM l.prog w K mg base 4 "is_filling" ["rows", "outer", "inner"] 3 m_is_filling := ⟨_, _, ok_is_filling (P := l.prog) (w := w) (base := base) F11 T C_holds C__starts C__is_row, m11, k11, b11⟩
  have D_is_filling : CalD l.prog w K mg base 4 "is_filling" ["rows", "outer", "inner"] 3 [.dat (.tuple [])] m_is_filling := ⟨_, _, _, _, ok_is_filling (P := l.prog) (w := w) (base := base) F11 T C_holds C__starts C__is_row, m11, k11, bd11, rw11, ev11 _⟩
  have C__strips_up : CalM l.prog w K mg base 3 "_strips_up" ["outer", "shape", "k", "later"] 4 m__strips_up := ⟨_, _, ok__strips_up (P := l.prog) (w := w) (base := base) (Hx.Fun.y F12) T C_shares, m12, k12, b12⟩
  have C__is_full : CalM l.prog w K mg base 2 "_is_full" ["outer", "content", "inner"] 3 m__is_full := ⟨_, _, ok__is_full (P := l.prog) (w := w) (base := base) (Hx.Fun.y F13) T , m13, k13, b13⟩
  have C__layers : CalM l.prog w K mg base 4 "_layers" ["outer", "content", "inner"] 3 m__layers := ⟨_, _, ok__layers (P := l.prog) (w := w) (base := base) (Hx.Fun.y F14) T C__starts C__strips_up, m14, k14, b14⟩
  have C__begun : CalM l.prog w K mg base 2 "_begun" ["rows", "number", "larger", "smaller"] 4 m__begun := ⟨_, _, ok__begun (P := l.prog) (w := w) (base := base) (Hx.Fun.y F15) T , m15, k15, b15⟩
  have C_fillings : CalM l.prog w K mg base 5 "fillings" ["outer", "content", "inner"] 3 m_fillings := ⟨_, _, ok_fillings (P := l.prog) (w := w) (base := base) F16 T C__is_full C__layers C__begun, m16, k16, b16⟩
  have D_fillings : CalD l.prog w K mg base 5 "fillings" ["outer", "content", "inner"] 3 [.dat (.tuple [])] m_fillings := ⟨_, _, _, _, ok_fillings (P := l.prog) (w := w) (base := base) F16 T C__is_full C__layers C__begun, m16, k16, bd16, rw16, ev16 _⟩
  have C_count_fillings : CalM l.prog w K mg base 4 "count_fillings" ["outer", "content", "inner"] 3 m_count_fillings := ⟨_, _, ok_count_fillings (P := l.prog) (w := w) (base := base) F17 T C__is_full C__starts C__strips_up, m17, k17, b17⟩
  have D_count_fillings : CalD l.prog w K mg base 4 "count_fillings" ["outer", "content", "inner"] 3 [.dat (.tuple [])] m_count_fillings := ⟨_, _, _, _, ok_count_fillings (P := l.prog) (w := w) (base := base) F17 T C__is_full C__starts C__strips_up, m17, k17, bd17, rw17, ev17 _⟩
  have C__lists : CalM l.prog w K mg base 2 "_lists" ["rows"] 1 m__lists := ⟨_, _, ok__lists (P := l.prog) (w := w) (base := base) (Hx.Fun.y F18) T , m18, k18, b18⟩
  have C__tuples : CalM l.prog w K mg base 2 "_tuples" ["rows"] 1 m__tuples := ⟨_, _, ok__tuples (P := l.prog) (w := w) (base := base) (Hx.Fun.y F19) T , m19, k19, b19⟩
  have C__first_greater : CalM l.prog w K mg base 2 "_first_greater" ["row", "x"] 2 m__first_greater := ⟨_, _, ok__first_greater (P := l.prog) (w := w) (base := base) (Hx.Fun.y F20) T , m20, k20, b20⟩
  have C__take_out : CalM l.prog w K mg base 3 "_take_out" ["rows", "i"] 2 m__take_out := ⟨_, _, ok__take_out (P := l.prog) (w := w) (base := base) (Hx.Fun.y F21) T C__first_greater, m21, k21, b21⟩
  have C__columns_of_pair : CalM l.prog w K mg base 4 "_columns_of_pair" ["p", "q"] 2 m__columns_of_pair := ⟨_, _, ok__columns_of_pair (P := l.prog) (w := w) (base := base) (Hx.Fun.y F22) T C__lists C__take_out, m22, k22, b22⟩
  have C__check_pair : CalM l.prog w K mg base 5 "_check_pair" ["p", "q"] 2 m__check_pair := ⟨_, _, ok__check_pair (P := l.prog) (w := w) (base := base) (Hx.Fun.y F23) T C_is_partition D_is_filling, m23, k23, b23⟩
  have C__numbers : CalM l.prog w K mg base 2 "_numbers" ["rows"] 1 m__numbers := ⟨_, _, ok__numbers (P := l.prog) (w := w) (base := base) (Hx.Fun.y F24) T , m24, k24, b24⟩
  have C_matrix_of_pair : CalM l.prog w K mg base 6 "matrix_of_pair" ["p", "q", "height", "width"] 4 m_matrix_of_pair := ⟨_, _, ok_matrix_of_pair (P := l.prog) (w := w) (base := base) (Hx.Fun.y F25) T C__check_pair C__numbers C__columns_of_pair C__tuples TXRefused GIRefused bIRefused, m25, k25, b25⟩
  have C__law_rows : CalM l.prog w K mg base 6 "_law_rows" ["total", "bounds"] 2 m__law_rows := ⟨_, _, ok__law_rows (P := l.prog) (w := w) (base := base) (Hx.Fun.y F26) T  m26 b26 5, m26, k26, b26⟩
  have C__law_matrices : CalM l.prog w K mg base 11 "_law_matrices" ["rows", "columns"] 2 m__law_matrices := ⟨_, _, ok__law_matrices (P := l.prog) (w := w) (base := base) (Hx.Fun.y F27) T C__law_rows m27 b27 5, m27, k27, b27⟩
  exact law_M (sat_chk law_chk) (ok_law F28 T C__law_state C__law_take C__law_matrices C_partitions C_matrix_of_pair D_count_fillings D_fillings)
end K19
end
open PySem PySem.W PyProof.Rows
set_option maxRecDepth 100000 in
set_option maxHeartbeats 0 in
theorem PySem.Challenge.cw_fivebases_k19_whole_counts_by_pairs_holds : PySem.Challenge.rw_fivebases_k19_whole_counts_by_pairs.Holds := by
  w_on; o_law; k_head; (case hw => w_witness2)
  k_fill
  refine L2.walk_of (l := PySem.Challenge.rw_fivebases_k19_whole_counts_by_pairs) (n := 63) (k := 16) (x := "script") (CX := fun _ => L2.CX0) (sp := fun w => Pd.spLaw _) rfl (by decide) rfl ⟨rfl, by decide, by decide⟩ (fun w h Y => PySem.W.kIn_of Y) ?F (fun _ _ a ns hl _ hS => ⟨a, ns, rfl, hS, hl, fun _ => rfl⟩) (fun _ _ _ _ _ h => h)
  case F =>
    intro w mg fa h KX G hmg
    refine' K19.all_mk KX G hmg ?a1 ?l1 ?c1 ?k1 ?a2 ?l2 ?c2 ?k2 ?a3 ?l3 ?c3 ?k3 ?a4 ?l4 ?c4 ?k4 ?a5 ?l5 ?c5 ?k5 ?a6 ?l6 ?c6 ?k6 ?a7 ?l7 ?c7 ?k7 ?a8 ?l8 ?c8 ?k8 ?a9 ?l9 ?c9 ?k9 ?a10 ?l10 ?c10 ?k10 ?a11 ?l11 ?c11 ?k11 ?t11 ?e11 ?a12 ?l12 ?c12 ?k12 ?a13 ?l13 ?c13 ?k13 ?a14 ?l14 ?c14 ?k14 ?a15 ?l15 ?c15 ?k15 ?a16 ?l16 ?c16 ?k16 ?t16 ?e16 ?a17 ?l17 ?c17 ?k17 ?t17 ?e17 ?a18 ?l18 ?c18 ?k18 ?a19 ?l19 ?c19 ?k19 ?a20 ?l20 ?c20 ?k20 ?a21 ?l21 ?c21 ?k21 ?a22 ?l22 ?c22 ?k22 ?a23 ?l23 ?c23 ?k23 ?a24 ?l24 ?c24 ?k24 ?a25 ?l25 ?c25 ?k25 ?a26 ?l26 ?c26 ?k26 ?a27 ?l27 ?c27 ?k27 ?a28 ?l28 ?c28 ?k28 ?z1 ?z2 ?z3 ?z4 ?z5 ?z6 ?z7 ?z8 ?z9 ?z10 ?z11 ?z12 ?z13 ?z14 ?z15 ?z16 ?z17 ?yRefused2 ?yRefused3 ?yRefused4 ?yRefused5 ?yRefused6 ?yRefused7 ?yRefused8 ?yRefused9 ?yRefused10 ?yRefused11 ?y_MOST
    (case a1 => k_is)
    (case l1 => k_is)
    (case c1 => k_is)
    (case k1 => k_is)
    (case a2 => k_is)
    (case l2 => k_is)
    (case c2 => k_is)
    (case k2 => k_is)
    (case a3 => k_is)
    (case l3 => k_is)
    (case c3 => k_is)
    (case k3 => k_is)
    (case a4 => k_is)
    (case l4 => k_is)
    (case c4 => k_is)
    (case k4 => k_is)
    (case a5 => k_is)
    (case l5 => k_is)
    (case c5 => k_is)
    (case k5 => k_is)
    (case a6 => k_is)
    (case l6 => k_is)
    (case c6 => k_is)
    (case k6 => k_is)
    (case a7 => k_is)
    (case l7 => k_is)
    (case c7 => k_is)
    (case k7 => k_is)
    (case a8 => k_is)
    (case l8 => k_is)
    (case c8 => k_is)
    (case k8 => k_is)
    (case a9 => k_is)
    (case l9 => k_is)
    (case c9 => k_is)
    (case k9 => k_is)
    (case a10 => k_is)
    (case l10 => k_is)
    (case c10 => k_is)
    (case k10 => k_is)
    (case a11 => k_is)
    (case l11 => k_is)
    (case c11 => k_is)
    (case k11 => k_is)
    (case t11 => k_is)
    (case e11 => k_is)
    (case a12 => k_is)
    (case l12 => k_is)
    (case c12 => k_is)
    (case k12 => k_is)
    (case a13 => k_is)
    (case l13 => k_is)
    (case c13 => k_is)
    (case k13 => k_is)
    (case a14 => k_is)
    (case l14 => k_is)
    (case c14 => k_is)
    (case k14 => k_is)
    (case a15 => k_is)
    (case l15 => k_is)
    (case c15 => k_is)
    (case k15 => k_is)
    (case a16 => k_is)
    (case l16 => k_is)
    (case c16 => k_is)
    (case k16 => k_is)
    (case t16 => k_is)
    (case e16 => k_is)
    (case a17 => k_is)
    (case l17 => k_is)
    (case c17 => k_is)
    (case k17 => k_is)
    (case t17 => k_is)
    (case e17 => k_is)
    (case a18 => k_is)
    (case l18 => k_is)
    (case c18 => k_is)
    (case k18 => k_is)
    (case a19 => k_is)
    (case l19 => k_is)
    (case c19 => k_is)
    (case k19 => k_is)
    (case a20 => k_is)
    (case l20 => k_is)
    (case c20 => k_is)
    (case k20 => k_is)
    (case a21 => k_is)
    (case l21 => k_is)
    (case c21 => k_is)
    (case k21 => k_is)
    (case a22 => k_is)
    (case l22 => k_is)
    (case c22 => k_is)
    (case k22 => k_is)
    (case a23 => k_is)
    (case l23 => k_is)
    (case c23 => k_is)
    (case k23 => k_is)
    (case a24 => k_is)
    (case l24 => k_is)
    (case c24 => k_is)
    (case k24 => k_is)
    (case a25 => k_is)
    (case l25 => k_is)
    (case c25 => k_is)
    (case k25 => k_is)
    (case a26 => k_is)
    (case l26 => k_is)
    (case c26 => k_is)
    (case k26 => k_is)
    (case a27 => k_is)
    (case l27 => k_is)
    (case c27 => k_is)
    (case k27 => k_is)
    (case a28 => k_is)
    (case l28 => k_is)
    (case c28 => k_is)
    (case k28 => k_is)
    (case z1 => k_is)
    (case z2 => k_is)
    (case z3 => k_is)
    (case z4 => k_is)
    (case z5 => k_is)
    (case z6 => k_is)
    (case z7 => k_is)
    (case z8 => k_is)
    (case z9 => k_is)
    (case z10 => k_is)
    (case z11 => k_is)
    (case z12 => k_is)
    (case z13 => k_is)
    (case z14 => k_is)
    (case z15 => k_is)
    (case z16 => k_is)
    (case z17 => k_is)
    (case yRefused2 => k_is)
    (case yRefused3 => exact ⟨⟨_, _, _, _, _, _, _, _, _, _, _, _, _, _, _, by k_is, by decide +kernel⟩, by k_is, by k_is, by k_is, by k_is⟩)
    (case yRefused4 => exact ⟨by k_is, by k_is, by k_is, by k_is⟩)
    (case yRefused5 => k_is)
    (case yRefused6 => k_is)
    (case yRefused7 => k_is)
    (case yRefused8 => k_is)
    (case yRefused9 => k_is)
    (case yRefused10 => k_is)
    (case yRefused11 => k_is)
    (case y_MOST => k_is)
