import PyProof.Rows.All
import Wide.All
import OpenK.AllK
import Wide.FinOn
import HandS.ForMost
import HandS.Deep
import HandS.TupAny
import HandS.IsInst
import HandS.SortKw
import HandS.Zip
import HandS.Rev
import HandS.SetFor
import KE.KTupSum
import HandS.SortRule
import HandS.Style
import HandS.TupLe
import HandS.TupMul
import HandS.ForExc
import HandS.ExcInit
import HandS.ExcField
import KE.SortData
import HandS.ExcValue
import PySem.Challenge.RW_fivebases_k03_partitions_listed
set_option Elab.async false
set_option linter.all false
set_option maxRecDepth 100000
/-! Values as data: an expression, a block, a def is told by the data (PyData) that stands in its slots. -/
namespace Pd
open PySem L2

/-! ### semantic readings: the weakest ones -/
def sE (X : Cx) (e : Expr) : TE := fun σ H Q => ∀ pins s, Inv X pins σ H s → wpAny (model X.prog X.w) X.A (eval e X.env) (EP X pins σ Q) X.xe s
def sT (X : Cx) (e : Expr) : TT := fun σ H Q => ∀ pins s, Inv X pins σ H s → wpAny (model X.prog X.w) X.A (isTrue e X.env (eval e X.env)) (TP X pins σ Q) X.xe s
def sA (X : Cx) (es : List Expr) : TA := fun σ H Q => ∀ pos pins s, Inv X pins σ H s → wpAny (model X.prog X.w) X.A (spliced (backTo pos (starEach es X.env))) (AP X pins σ Q) X.xe s
def sS (X : Cx) (st : Stmt) : TS := fun D σ H => ∀ pins s, Inv X pins σ H s → wpAny (model X.prog X.w) X.A (exec st X.env) (SP X pins D) X.xe s
def sSs (X : Cx) (st : List Stmt) : TS := fun D σ H => ∀ pins s, Inv X pins σ H s → wpAny (model X.prog X.w) X.A (execs st X.env) (SP X pins D) X.xe s
section
variable {X : Cx} {e : Expr} {es : List Expr} {st : Stmt} {sts : List Stmt}
theorem pe_s : PE X e (sE X e) := ⟨fun pins s _ _ _ I h => h pins s I⟩
theorem pt_s : PT X e (sT X e) := ⟨fun pins s _ _ _ I h => h pins s I⟩
theorem pa_s : PA X es (sA X es) := ⟨fun pos pins s _ _ _ I h => h pos pins s I⟩
theorem ps_s : PS X st (sS X st) := ⟨fun pins s _ _ _ I h => h pins s I⟩
theorem pss_s : PSs X sts (sSs X sts) := ⟨fun pins s _ _ _ I h => h pins s I⟩
theorem sE_of {t : TE} {σ : L2.St} {H : Hp} {Q : VK} (h : PE X e t) (q : t σ H Q) : sE X e σ H Q := fun pins s I => h.run pins s σ H Q I q
theorem sT_of {t : TT} {σ : L2.St} {H : Hp} {Q : Bool → Hp → Prop} (h : PT X e t) (q : t σ H Q) : sT X e σ H Q := fun pins s I => h.run pins s σ H Q I q
theorem sA_of {t : TA} {σ : L2.St} {H : Hp} {Q : List V → Hp → Prop} (h : PA X es t) (q : t σ H Q) : sA X es σ H Q := fun pos pins s I => h.run pos pins s σ H Q I q
theorem sS_of {t : TS} {σ : L2.St} {H : Hp} {D : Ends} (h : PS X st t) (q : t D σ H) : sS X st D σ H := fun pins s I => h.run pins s σ H D I q
theorem sSs_of {t : TS} {σ : L2.St} {H : Hp} {D : Ends} (h : PSs X sts t) (q : t D σ H) : sSs X sts D σ H := fun pins s I => h.run pins s σ H D I q
end

/-! ### data in a growing heap -/
section
variable {K : PySem.W.Frag} {H H' : Hp}
theorem same_rd {a : Addr} {u : HO} (e : Same H H') (h : Rd H a u) : Rd H' a u := by
  rcases h with h | ⟨o, h⟩
  · exact .inl (e a _ h)
  · exact .inr ⟨o, e a _ h⟩
theorem same_t {a : Addr} {xs : List V} (e : Same H H') (h : SqT K H a xs) : SqT K H' a xs := by
  rcases h with h | h
  · exact .inl (same_rd e h)
  · exact .inr h
theorem same_l {a : Addr} {xs : List V} (e : Same H H') (h : SqL K H a xs) : SqL K H' a xs := by
  rcases h with h | h
  · exact .inl (same_rd e h)
  · exact .inr h
mutual
theorem Dp.mono (e : Same H H') : ∀ {v : V} (d : PyData), Dp K H v d → Dp K H' v d
  | _, .none, h => by cases h; exact .non
  | _, .bool b, h => by cases h; exact .bl b
  | _, .int i, h => by cases h; exact .int i
  | _, .str s, h => by cases h; exact .str s
  | _, .list ds, h => by
    cases h with
    | lst hs ha => exact .lst (same_l e hs) (DpAll.mono e ds ha)
  | _, .tuple ds, h => by
    cases h with
    | tup hs ha => exact .tup (same_t e hs) (DpAll.mono e ds ha)
  | _, .dict _, h => by cases h
theorem DpAll.mono (e : Same H H') : ∀ {vs : List V} (ds : List PyData), DpAll K H vs ds → DpAll K H' vs ds
  | _, [], h => by cases h; exact .nil
  | _, d :: ds, h => by
    cases h with
    | cons h1 h2 => exact .cons (Dp.mono e d h1) (DpAll.mono e ds h2)
end
theorem DpAll.len : ∀ {vs : List V} {ds : List PyData}, DpAll K H vs ds → vs.length = ds.length
  | _, [], h => by cases h; rfl
  | _, d :: ds, h => by
    cases h with
    | cons h1 h2 => simp [DpAll.len h2]
theorem DpAll.get : ∀ {vs : List V} {ds : List PyData} {i : Nat} {d : PyData}, DpAll K H vs ds → ds[i]? = some d → ∃ v, vs[i]? = some v ∧ Dp K H v d
  | _, [], i, d, h, g => by simp at g
  | _, e :: ds, 0, d, h, g => by
    cases h with
    | cons h1 h2 =>
      simp at g
      subst g
      exact ⟨_, rfl, h1⟩
  | _, e :: ds, i + 1, d, h, g => by
    cases h with
    | cons h1 h2 =>
      obtain ⟨v, q1, q2⟩ := DpAll.get h2 (by simpa using g)
      exact ⟨v, by simpa using q1, q2⟩
theorem DpAll.app : ∀ {vs ws : List V} {ds es : List PyData}, DpAll K H vs ds → DpAll K H ws es → DpAll K H (vs ++ ws) (ds ++ es)
  | _, _, [], _, h, g => by cases h; exact g
  | _, _, d :: ds, _, h, g => by
    cases h with
    | cons h1 h2 => exact .cons h1 (DpAll.app h2 g)
theorem DpAll.take : ∀ {vs : List V} {ds : List PyData} (n : Nat), DpAll K H vs ds → DpAll K H (vs.take n) (ds.take n)
  | _, [], n, h => by cases h; simp; exact .nil
  | _, d :: ds, 0, h => by simp; exact .nil
  | _, d :: ds, n + 1, h => by
    cases h with
    | cons h1 h2 => exact .cons h1 (DpAll.take n h2)
theorem DpAll.drop : ∀ {vs : List V} {ds : List PyData} (n : Nat), DpAll K H vs ds → DpAll K H (vs.drop n) (ds.drop n)
  | _, [], n, h => by cases h; simp; exact .nil
  | _, d :: ds, 0, h => h
  | _, d :: ds, n + 1, h => by
    cases h with
    | cons h1 h2 => exact DpAll.drop n h2
theorem DpAll.set : ∀ {vs : List V} {ds : List PyData} {v : V} {d : PyData} (i : Nat), DpAll K H vs ds → Dp K H v d → DpAll K H (vs.set i v) (ds.set i d)
  | _, [], _, _, i, h, g => by cases h; simp; exact .nil
  | _, e :: ds, _, _, 0, h, g => by
    cases h with
    | cons h1 h2 => exact .cons g h2
  | _, e :: ds, _, _, i + 1, h, g => by
    cases h with
    | cons h1 h2 => exact .cons h1 (DpAll.set i h2 g)
theorem DpAll.ints : ∀ {vs : List V} {ns : List Int}, DpAll K H vs (ns.map PyData.int) → vs = ns.map V.int
  | _, [], h => by cases h; rfl
  | _, n :: ns, h => by
    cases h with
    | cons h1 h2 =>
      cases h1
      simp [DpAll.ints h2]
theorem DpAll.of_ints : ∀ (ns : List Int), DpAll K H (ns.map V.int) (ns.map PyData.int)
  | [] => .nil
  | n :: ns => .cons (.int n) (DpAll.of_ints ns)
end

/-! ### slots told by data -/
/-- what stands in a slot: nothing that is known; data that never changes; a list that the def owns (only this slot names it) -/
inductive Sl where
  | no | val (d : PyData) | own (ds : List PyData)

/-- B: what was known at the entry, H0: what stood at the entry and is not ours to change; Hk: the data known now; Hr: all that stands now -/
structure Ok (K : PySem.W.Frag) (bi : List Nat) (σ0 : L2.St) (B H0 : Hp) (ρ : List Sl) (σ : L2.St) (Hk Hr : Hp) : Prop where
  base : Same B Hk
  real : Same H0 Hr
  kr : Same Hk Hr
  old : ∀ (b : Addr) (o : HO), Hk b = some o → H0 b ≠ none → B b = some o
  bor : ∀ i ∈ bi, σ[i]? = σ0[i]?
  len : ρ.length = σ.length
  val : ∀ (i : Nat) (d : PyData), ρ[i]? = some (Sl.val d) → ∃ v, σ[i]? = some (some v) ∧ Dp K Hk v d
  own : ∀ (i : Nat) (ds : List PyData), ρ[i]? = some (Sl.own ds) → ∃ (a : Addr) (vs : List V), σ[i]? = some (some (V.ref a)) ∧ Hr a = some (.lst vs) ∧ Hk a = none ∧ H0 a = none ∧ DpAll K Hk vs ds
  dis : ∀ (i j : Nat) (ds es : List PyData), ρ[i]? = some (Sl.own ds) → ρ[j]? = some (Sl.own es) → i ≠ j → σ[i]? ≠ σ[j]?

/-- known, with all that is new -/
def gro (Hk Hr H2 : Hp) : Hp := fun b => match Hr b with | none => H2 b | some _ => Hk b
theorem gro_new {Hk Hr H2 : Hp} {b : Addr} (h : Hr b = none) : gro Hk Hr H2 b = H2 b := by unfold gro; rw [h]
theorem gro_old {Hk Hr H2 : Hp} {b : Addr} {o : HO} (h : Hr b = some o) : gro Hk Hr H2 b = Hk b := by unfold gro; rw [h]
theorem gro_same {Hk Hr H2 : Hp} (kr : Same Hk Hr) : Same Hk (gro Hk Hr H2) := fun b o h => by rw [gro_old (kr _ _ h)]; exact h
theorem gro_in {Hk Hr H2 : Hp} (kr : Same Hk Hr) (e : Same Hr H2) : Same (gro Hk Hr H2) H2 := fun b o h => by
  cases q : Hr b with
  | none => rw [gro_new q] at h; exact h
  | some u =>
    rw [gro_old q] at h
    exact e _ _ (kr _ _ h)
section
variable {K : PySem.W.Frag} {bi : List Nat} {σ0 σ : L2.St} {B H0 Hk Hr : Hp} {ρ : List Sl}
theorem Ok.gro (I : Ok K bi σ0 B H0 ρ σ Hk Hr) {H2 : Hp} (e : Same Hr H2) : Ok K bi σ0 B H0 ρ σ (gro Hk Hr H2) H2 where
  base := I.base.trans (gro_same I.kr)
  real := I.real.trans e
  kr := gro_in I.kr e
  old := fun b o h h0 => by
    cases q : Hr b with
    | none =>
      cases q0 : H0 b with
      | none => exact absurd q0 h0
      | some u =>
        rw [I.real _ _ q0] at q
        cases q
    | some u =>
      rw [gro_old q] at h
      exact I.old b o h h0
  bor := I.bor
  len := I.len
  val := fun i d h => by
    obtain ⟨v, q1, q2⟩ := I.val i d h
    exact ⟨v, q1, Dp.mono (gro_same I.kr) d q2⟩
  own := fun i ds h => by
    obtain ⟨a, vs, q1, q2, q3, q4, q5⟩ := I.own i ds h
    exact ⟨a, vs, q1, e _ _ q2, by rw [gro_old q2]; exact q3, q4, DpAll.mono (gro_same I.kr) ds q5⟩
  dis := I.dis
/-- a slot gets data -/
theorem Ok.set (I : Ok K bi σ0 B H0 ρ σ Hk Hr) {i : Nat} {v : V} {d : PyData} (hi : i ∉ bi) (h : Dp K Hk v d) : Ok K bi σ0 B H0 (ρ.set i (.val d)) (σ.set i (some v)) Hk Hr where
  base := I.base
  real := I.real
  kr := I.kr
  old := I.old
  bor := fun j hj => by
    have : i ≠ j := fun q => hi (q ▸ hj)
    rw [List.getElem?_set_ne this]
    exact I.bor j hj
  len := by simp [I.len]
  val := fun j e hj => by
    by_cases q : i = j
    · subst q
      have hl : i < ρ.length := by
        have := (List.getElem?_eq_some_iff.mp hj).1
        simpa using this
      rw [List.getElem?_set_self hl] at hj
      injection hj with hj; injection hj with hj; subst hj
      exact ⟨v, by rw [List.getElem?_set_self (by rw [← I.len]; exact hl)], h⟩
    · rw [List.getElem?_set_ne q] at hj ⊢
      exact I.val j e hj
  own := fun j ds hj => by
    by_cases q : i = j
    · subst q
      have hl : i < ρ.length := by
        have := (List.getElem?_eq_some_iff.mp hj).1
        simpa using this
      rw [List.getElem?_set_self hl] at hj
      cases hj
    · rw [List.getElem?_set_ne q] at hj ⊢
      exact I.own j ds hj
  dis := fun j l ds es hj hl n => by
    have g : ∀ {m : Nat} {zs : List PyData}, (ρ.set i (.val d))[m]? = some (.own zs) → i ≠ m ∧ ρ[m]? = some (.own zs) := fun {m zs} hm => by
      by_cases q : i = m
      · subst q
        have hl : i < ρ.length := by
          have := (List.getElem?_eq_some_iff.mp hm).1
          simpa using this
        rw [List.getElem?_set_self hl] at hm
        cases hm
      · rw [List.getElem?_set_ne q] at hm
        exact ⟨q, hm⟩
    obtain ⟨a1, a2⟩ := g hj
    obtain ⟨b1, b2⟩ := g hl
    rw [List.getElem?_set_ne a1, List.getElem?_set_ne b1]
    exact I.dis j l ds es a2 b2 n
/-- a slot is forgotten -/
theorem Ok.drop (I : Ok K bi σ0 B H0 ρ σ Hk Hr) {i : Nat} : Ok K bi σ0 B H0 (ρ.set i .no) σ Hk Hr where
  base := I.base
  real := I.real
  kr := I.kr
  old := I.old
  bor := I.bor
  len := by simp [I.len]
  val := fun j e hj => by
    by_cases q : i = j
    · subst q
      have hl : i < ρ.length := by
        have := (List.getElem?_eq_some_iff.mp hj).1
        simpa using this
      rw [List.getElem?_set_self hl] at hj
      cases hj
    · rw [List.getElem?_set_ne q] at hj
      exact I.val j e hj
  own := fun j ds hj => by
    by_cases q : i = j
    · subst q
      have hl : i < ρ.length := by
        have := (List.getElem?_eq_some_iff.mp hj).1
        simpa using this
      rw [List.getElem?_set_self hl] at hj
      cases hj
    · rw [List.getElem?_set_ne q] at hj
      exact I.own j ds hj
  dis := fun j l ds es hj hl n => by
    have g : ∀ {m : Nat} {zs : List PyData}, (ρ.set i .no)[m]? = some (.own zs) → ρ[m]? = some (.own zs) := fun {m zs} hm => by
      by_cases q : i = m
      · subst q
        have hl : i < ρ.length := by
          have := (List.getElem?_eq_some_iff.mp hm).1
          simpa using this
        rw [List.getElem?_set_self hl] at hm
        cases hm
      · rw [List.getElem?_set_ne q] at hm
        exact hm
    exact I.dis j l ds es (g hj) (g hl) n
/-- an owned list is owned no longer -/
theorem Ok.freeze (I : Ok K bi σ0 B H0 ρ σ Hk Hr) {i : Nat} {ds : List PyData} (h : ρ[i]? = some (.own ds)) : ∃ Hk', Same Hk Hk' ∧ Ok K bi σ0 B H0 (ρ.set i (.val (.list ds))) σ Hk' Hr := by
  obtain ⟨a, vs, s1, s2, s3, s4, s5⟩ := I.own i ds h
  have e : Same Hk (upd Hk a (.lst vs)) := fun b o q => by rw [upd_ne (ne_of_none q s3)]; exact q
  have hl : i < ρ.length := (List.getElem?_eq_some_iff.mp h).1
  refine ⟨upd Hk a (.lst vs), e, ?_⟩
  have g : ∀ {m : Nat} {zs : List PyData}, (ρ.set i (.val (.list ds)))[m]? = some (.own zs) → i ≠ m ∧ ρ[m]? = some (.own zs) := fun {m zs} hm => by
    by_cases q : i = m
    · subst q
      rw [List.getElem?_set_self hl] at hm
      cases hm
    · rw [List.getElem?_set_ne q] at hm
      exact ⟨q, hm⟩
  refine ⟨I.base.trans e, I.real, fun b o q => ?_, fun b o q q0 => ?_, I.bor, by simp [I.len], fun j d hj => ?_, fun j zs hj => ?_, fun j l xs ys hj hl n => I.dis j l xs ys (g hj).2 (g hl).2 n⟩
  · by_cases z : b = a
    · subst z
      rw [upd_same] at q
      rw [s2]; exact q
    · rw [upd_ne z] at q
      exact I.kr _ _ q
  · by_cases z : b = a
    · subst z
      exact absurd s4 q0
    · rw [upd_ne z] at q
      exact I.old _ _ q q0
  · by_cases q : i = j
    · subst q
      rw [List.getElem?_set_self hl] at hj
      injection hj with hj; injection hj with hj; subst hj
      exact ⟨_, s1, .lst (.inl (.inl upd_same)) (DpAll.mono e ds s5)⟩
    · rw [List.getElem?_set_ne q] at hj
      obtain ⟨v, q1, q2⟩ := I.val j d hj
      exact ⟨v, q1, Dp.mono e d q2⟩
  · obtain ⟨n, hz⟩ := g hj
    obtain ⟨b, ws, t1, t2, t3, t4, t5⟩ := I.own j zs hz
    refine ⟨b, ws, t1, t2, ?_, t4, DpAll.mono e zs t5⟩
    rw [upd_ne (fun q => ?_)]
    · exact t3
    · subst q
      exact I.dis i j ds zs h hz n (s1.trans t1.symm)
/-- an owned list is changed -/
theorem Ok.mut (I : Ok K bi σ0 B H0 ρ σ Hk Hr) {i : Nat} {ds es : List PyData} {a : Addr} {ws : List V} (h : ρ[i]? = some (.own ds)) (s : σ[i]? = some (some (.ref a))) (hw : DpAll K Hk ws es) : Ok K bi σ0 B H0 (ρ.set i (.own es)) σ Hk (upd Hr a (.lst ws)) := by
  obtain ⟨a', vs, s1, s2, s3, s4, s5⟩ := I.own i ds h
  rw [s] at s1
  injection s1 with s1; injection s1 with s1; injection s1 with s1; subst s1
  have hl : i < ρ.length := (List.getElem?_eq_some_iff.mp h).1
  have g : ∀ {m : Nat} {zs : List PyData}, (ρ.set i (.own es))[m]? = some (.own zs) → ∃ us, ρ[m]? = some (.own us) := fun {m zs} hm => by
    by_cases q : i = m
    · subst q
      exact ⟨ds, h⟩
    · rw [List.getElem?_set_ne q] at hm
      exact ⟨_, hm⟩
  refine ⟨I.base, fun b o q => ?_, fun b o q => ?_, I.old, I.bor, by simp [I.len], fun j d hj => ?_, fun j zs hj => ?_, fun j l xs ys hj hl n => ?_⟩
  · rw [upd_ne (ne_of_none q s4)]
    exact I.real _ _ q
  · rw [upd_ne (ne_of_none q s3)]
    exact I.kr _ _ q
  · by_cases q : i = j
    · subst q
      rw [List.getElem?_set_self hl] at hj
      cases hj
    · rw [List.getElem?_set_ne q] at hj
      exact I.val j d hj
  · by_cases q : i = j
    · subst q
      rw [List.getElem?_set_self hl] at hj
      injection hj with hj; injection hj with hj; subst hj
      exact ⟨a, ws, s, upd_same, s3, s4, hw⟩
    · rw [List.getElem?_set_ne q] at hj
      obtain ⟨b, us, t1, t2, t3, t4, t5⟩ := I.own j zs hj
      refine ⟨b, us, t1, ?_, t3, t4, t5⟩
      rw [upd_ne (fun z => ?_)]
      · exact t2
      · subst z
        exact I.dis i j ds zs h hj q (s.trans t1.symm)
  · obtain ⟨us, q1⟩ := g hj
    obtain ⟨ws', q2⟩ := g hl
    exact I.dis j l us ws' q1 q2 n
/-- a slot gets a new list of its own -/
theorem Ok.own_set (I : Ok K bi σ0 B H0 ρ σ Hk Hr) {i : Nat} {H2 : Hp} {p : Addr} {vs : List V} {ds : List PyData} (hi : i ∉ bi) (np : Hr p = none) (e : Same Hr H2) (hp : H2 p = some (.lst vs)) (h : DpAll K Hk vs ds) : Ok K bi σ0 B H0 (ρ.set i (.own ds)) (σ.set i (some (.ref p))) Hk H2 := by
  have nk : Hk p = none := by
    cases q : Hk p with
    | none => rfl
    | some o => rw [I.kr _ _ q] at np; cases np
  have n0 : H0 p = none := by
    cases q : H0 p with
    | none => rfl
    | some o => rw [I.real _ _ q] at np; cases np
  have far : ∀ {m : Nat} {zs : List PyData}, ρ[m]? = some (.own zs) → σ[m]? ≠ some (some (.ref p)) := fun {m zs} hm z => by
    obtain ⟨b, us, t1, t2, _⟩ := I.own m zs hm
    rw [z] at t1
    injection t1 with t1; injection t1 with t1; injection t1 with t1; subst t1
    rw [t2] at np
    cases np
  have lt : ∀ {m : Nat} {x : Sl}, (ρ.set i (.own ds))[m]? = some x → m < ρ.length := fun {m x} hm => by
    have := (List.getElem?_eq_some_iff.mp hm).1
    simpa using this
  refine ⟨I.base, I.real.trans e, I.kr.trans e, I.old, fun j hj => ?_, by simp [I.len], fun j d hj => ?_, fun j zs hj => ?_, fun j l xs ys hj hl n => ?_⟩
  · have : i ≠ j := fun q => hi (q ▸ hj)
    rw [List.getElem?_set_ne this]
    exact I.bor j hj
  · by_cases q : i = j
    · subst q
      rw [List.getElem?_set_self (lt hj)] at hj
      cases hj
    · rw [List.getElem?_set_ne q] at hj ⊢
      exact I.val j d hj
  · by_cases q : i = j
    · subst q
      have := lt hj
      rw [List.getElem?_set_self this] at hj
      injection hj with hj; injection hj with hj; subst hj
      exact ⟨p, vs, by rw [List.getElem?_set_self (by rw [← I.len]; exact this)], hp, nk, n0, h⟩
    · rw [List.getElem?_set_ne q] at hj ⊢
      obtain ⟨b, us, t1, t2, t3, t4, t5⟩ := I.own j zs hj
      exact ⟨b, us, t1, e _ _ t2, t3, t4, t5⟩
  · by_cases q : i = j
    · subst q
      have q2 : i ≠ l := n
      have := lt hj
      rw [List.getElem?_set_self (by rw [← I.len]; exact this), List.getElem?_set_ne q2]
      rw [List.getElem?_set_ne q2] at hl
      exact fun z => far hl z.symm
    · by_cases q2 : i = l
      · subst q2
        have := lt hl
        rw [List.getElem?_set_self (by rw [← I.len]; exact this), List.getElem?_set_ne q]
        rw [List.getElem?_set_ne q] at hj
        exact far hj
      · rw [List.getElem?_set_ne q] at hj ⊢
        rw [List.getElem?_set_ne q2] at hl ⊢
        exact I.dis j l xs ys hj hl n
end
end Pd
namespace Pd
open PySem L2

/-- in slots ρ the expression gives d and leaves slots ρ' (owned lists may have changed) -/
def EE (X : Cx) (e : Expr) (ρ : List Sl) (d : PyData) (ρ' : List Sl) : Prop :=
  ∀ (bi : List Nat) (σ0 : L2.St) (B H0 : Hp) (σ : L2.St) (Hk Hr : Hp), Ok X.K bi σ0 B H0 ρ σ Hk Hr → ∀ Q : VK, (∀ v Hk' Hr', Ok X.K bi σ0 B H0 ρ' σ Hk' Hr' → Same Hk Hk' → Dp X.K Hk' v d → Q v Hr') → sE X e σ Hr Q
def EA (X : Cx) (es : List Expr) (ρ : List Sl) (ds : List PyData) (ρ' : List Sl) : Prop :=
  ∀ (bi : List Nat) (σ0 : L2.St) (B H0 : Hp) (σ : L2.St) (Hk Hr : Hp), Ok X.K bi σ0 B H0 ρ σ Hk Hr → ∀ Q : List V → Hp → Prop, (∀ vs Hk' Hr', Ok X.K bi σ0 B H0 ρ' σ Hk' Hr' → Same Hk Hk' → DpAll X.K Hk' vs ds → Q vs Hr') → sA X es σ Hr Q
def ET (X : Cx) (e : Expr) (ρ : List Sl) (b : Bool) (ρ' : List Sl) : Prop :=
  ∀ (bi : List Nat) (σ0 : L2.St) (B H0 : Hp) (σ : L2.St) (Hk Hr : Hp), Ok X.K bi σ0 B H0 ρ σ Hk Hr → ∀ Q : Bool → Hp → Prop, (∀ Hk' Hr', Ok X.K bi σ0 B H0 ρ' σ Hk' Hr' → Same Hk Hk' → Q b Hr') → sT X e σ Hr Q
/-- an operation on values, on arguments -/
def RD (K : PySem.W.Frag) (r : R2) (d1 d2 d : PyData) : Prop := ∀ x y Hk Hr, Same Hk Hr → Dp K Hk x d1 → Dp K Hk y d2 → ∀ Q : VK, (∀ v H2, Same Hr H2 → Dp K (gro Hk Hr H2) v d → Q v H2) → r x y Hr Q
def RU1 (K : PySem.W.Frag) (r : V → Hp → VK → Prop) (d1 d : PyData) : Prop := ∀ x Hk Hr, Same Hk Hr → Dp K Hk x d1 → ∀ Q : VK, (∀ v H2, Same Hr H2 → Dp K (gro Hk Hr H2) v d → Q v H2) → r x Hr Q
def RA (K : PySem.W.Frag) (r : List V → Hp → VK → Prop) (ds : List PyData) (d : PyData) : Prop := ∀ vs Hk Hr, Same Hk Hr → DpAll K Hk vs ds → ∀ Q : VK, (∀ v H2, Same Hr H2 → Dp K (gro Hk Hr H2) v d → Q v H2) → r vs Hr Q

section
variable {X : Cx} {a b e : Expr} {es : List Expr} {ρ ρ1 ρ2 : List Sl} {d d1 d2 d3 : PyData} {ds : List PyData} {pos : Pos} {i j : Int}

theorem ee_var {x : Str} {n : Nat} (hN : X.N[n]? = some x) (hr : ρ[n]? = some (.val d)) (hv : Vis X.env.scope x := by first | exact Or.inl rfl | exact Or.inr (Or.inl rfl) | exact Or.inr (Or.inr rfl)) (hd : (x == ("__debug__" : Str)) = false := by decide)
    (hcd : (x == ("__classdict__" : Str)) = false := by decide) : EE X (.Name x pos) ρ d ρ := fun bi σ0 B H0 σ Hk Hr I Q q => by
  obtain ⟨v, s, h⟩ := I.val n d hr
  exact sE_of (pe_var hN hv hd hcd) ⟨v, s, q v Hk Hr I (Same.refl _) h⟩
theorem ee_c {v : V} (h : PE X e (tC v)) (hv : ∀ H, Dp X.K H v d) : EE X e ρ d ρ := fun bi σ0 B H0 σ Hk Hr I Q q =>
  sE_of h (q v Hk Hr I (Same.refl _) (hv _))
theorem ee_int {n : Nat} : EE X (.Constant (.int i) n pos) ρ (.int i) ρ := ee_c pe_int fun _ => .int i
theorem ee_bl {n : Nat} {k : Bool} : EE X (.Constant (.bool k) n pos) ρ (.bool k) ρ := ee_c pe_bl fun _ => .bl k
theorem ee_non {n : Nat} : EE X (.Constant .none n pos) ρ .none ρ := ee_c pe_non fun _ => .non
theorem ee_str {n : Nat} {z : Str} : EE X (.Constant (.str z) n pos) ρ (.str z) ρ := ee_c pe_str fun _ => .str z
theorem ee_glob {x : Str} {u : Value} (hg : Gl X x) (hm : X.mg x = some u) (r : RelV (.int i) u) (hn : x ≠ "__name__" := by decide) (hd : (x == ("__debug__" : Str)) = false := by decide) : EE X (.Name x pos) ρ (.int i) ρ := ee_c (pe_glob hg hm r hd) fun _ => .int i

theorem ea_nil : EA X [] ρ [] ρ := fun bi σ0 B H0 σ Hk Hr I Q q => sA_of pa_nil (q [] Hk Hr I (Same.refl _) .nil)
theorem ea_cons (ha : EE X e ρ d ρ1) (hr : EA X es ρ1 ds ρ2) (hs : starEach (e :: es) X.env = (false, eval e X.env) :: starEach es X.env := by rfl) : EA X (e :: es) ρ (d :: ds) ρ2 := fun bi σ0 B H0 σ Hk Hr I Q q =>
  sA_of (pa_cons pe_s pa_s hs) (ha bi σ0 B H0 σ Hk Hr I _ fun v Hk1 Hr1 I1 m1 h1 => hr bi σ0 B H0 σ Hk1 Hr1 I1 _ fun vs Hk2 Hr2 I2 m2 h2 => q (v :: vs) Hk2 Hr2 I2 (m1.trans m2) (.cons (Dp.mono m2 d h1) h2))

theorem ee_op2 {r : R2} (h : PE X e (tOp r (sE X a) (sE X b))) (ha : EE X a ρ d1 ρ1) (hb : EE X b ρ1 d2 ρ2) (hr : RD X.K r d1 d2 d) : EE X e ρ d ρ2 := fun bi σ0 B H0 σ Hk Hr I Q q =>
  sE_of h (ha bi σ0 B H0 σ Hk Hr I _ fun x Hk1 Hr1 I1 m1 h1 => hb bi σ0 B H0 σ Hk1 Hr1 I1 _ fun y Hk2 Hr2 I2 m2 h2 =>
    hr x y Hk2 Hr2 I2.kr (Dp.mono m2 _ h1) h2 Q fun v H2 e2 hv => q v _ H2 (I2.gro e2) (m1.trans (m2.trans (gro_same I2.kr))) hv)
theorem ee_op {op : Operator} {r : R2} (ho : OpR X (binaryOp op) r) (ha : EE X a ρ d1 ρ1) (hb : EE X b ρ1 d2 ρ2) (hr : RD X.K r d1 d2 d) : EE X (.BinOp a op b pos) ρ d ρ2 := ee_op2 (pe_op ho pe_s pe_s) ha hb hr
theorem ee_cmp {op : CmpOp} {r : R2} (ho : OpR X (compareOp op) r) (ha : EE X a ρ d1 ρ1) (hb : EE X b ρ1 d2 ρ2) (hr : RD X.K r d1 d2 d) (hm : behindInMarks op b = false := by rfl) : EE X (.Compare a [op] [b] pos) ρ d ρ2 := ee_op2 (pe_cmpR ho pe_s pe_s hm) ha hb hr
theorem ee_un {op : UnaryOp} {r : V → Hp → VK → Prop} (ho : UnR X (unaryOp op) r) (ha : EE X a ρ d1 ρ1) (hr : RU1 X.K r d1 d) : EE X (.UnaryOp op a pos) ρ d ρ1 := fun bi σ0 B H0 σ Hk Hr I Q q =>
  sE_of (pe_un ho pe_s) (ha bi σ0 B H0 σ Hk Hr I _ fun x Hk1 Hr1 I1 m1 h1 => hr x Hk1 Hr1 I1.kr h1 Q fun v H2 e2 hv => q v _ H2 (I1.gro e2) (m1.trans (gro_same I1.kr)) hv)
theorem ee_ix {r : R2} (hr : IxR X r) (ha : EE X a ρ d1 ρ1) (hb : EE X b ρ1 d2 ρ2) (h : RD X.K r d1 d2 d) (hs : PlainIx b := by exact fun _ _ => rfl) : EE X (.Subscript a b pos) ρ d ρ2 := ee_op2 (pe_ix hr pe_s pe_s hs) ha hb h

/-! operations -/
theorem gro_refl {K : PySem.W.Frag} {Hk Hr : Hp} {v : V} (kr : Same Hk Hr) (h : Dp K Hk v d) : Dp K (gro Hk Hr Hr) v d := Dp.mono (gro_same kr) d h
theorem rd_int {K : PySem.W.Frag} {C : Int → Int → Prop} {g : Int → Int → Int} (hc : C i j) : RD K (rI C fun i j => .int (g i j)) (.int i) (.int j) (.int (g i j)) := fun x y Hk Hr kr hx hy Q q => by
  cases hx; cases hy
  exact ⟨i, j, rfl, rfl, hc, q _ Hr (Same.refl _) (.int _)⟩
theorem rd_int0 {K : PySem.W.Frag} {g : Int → Int → Int} : RD K (rI0 fun i j => .int (g i j)) (.int i) (.int j) (.int (g i j)) := fun x y Hk Hr kr hx hy Q q => by
  cases hx; cases hy
  exact ⟨i, j, rfl, rfl, q _ Hr (Same.refl _) (.int _)⟩
theorem rd_cmp {K : PySem.W.Frag} {g : Int → Int → Bool} : RD K (rI0 fun i j => .bl (g i j)) (.int i) (.int j) (.bool (g i j)) := fun x y Hk Hr kr hx hy Q q => by
  cases hx; cases hy
  exact ⟨i, j, rfl, rfl, q _ Hr (Same.refl _) (.bl _)⟩
theorem rd_eqD {K : PySem.W.Frag} (h1 : SeqAt.shaped d1 = true) (h2 : SeqAt.shaped d2 = true) : RD K (rEqD K) d1 d2 (.bool (PyData.eqv d1 d2)) := fun x y Hk Hr kr hx hy Q q =>
  ⟨d1, d2, Dp.mono kr _ hx, Dp.mono kr _ hy, h1, h2, q _ Hr (Same.refl _) (.bl _)⟩
theorem rd_neD {K : PySem.W.Frag} (h1 : SeqAt.shaped d1 = true) (h2 : SeqAt.shaped d2 = true) : RD K (rNeD K) d1 d2 (.bool (!PyData.eqv d1 d2)) := fun x y Hk Hr kr hx hy Q q =>
  ⟨d1, d2, Dp.mono kr _ hx, Dp.mono kr _ hy, h1, h2, q _ Hr (Same.refl _) (.bl _)⟩
theorem rd_inD {K : PySem.W.Frag} (h1 : SeqAt.shaped d1 = true) (h2 : SeqAt.shaped (.list ds) = true) : RD K (rInD K) d1 (.list ds) (.bool (ds.any fun z => PyData.eqv z d1)) := fun x y Hk Hr kr hx hy Q q =>
  ⟨d1, ds, Dp.mono kr _ hx, Dp.mono kr _ hy, h1, h2, q _ Hr (Same.refl _) (.bl _)⟩
theorem rd_notInD {K : PySem.W.Frag} (h1 : SeqAt.shaped d1 = true) (h2 : SeqAt.shaped (.list ds) = true) : RD K (rNotInD K) d1 (.list ds) (.bool (!ds.any fun z => PyData.eqv z d1)) := fun x y Hk Hr kr hx hy Q q =>
  ⟨d1, ds, Dp.mono kr _ hx, Dp.mono kr _ hy, h1, h2, q _ Hr (Same.refl _) (.bl _)⟩
theorem atI_all {K : PySem.W.Frag} {H : Hp} {vs : List V} (h : DpAll K H vs ds) (g : atI ds i = some d) : ∃ v, atI vs i = some v ∧ Dp K H v d := by
  obtain ⟨j, q1, q2, q3, q4, q5⟩ := atI_get g
  have hl := DpAll.len h
  obtain ⟨v, s1, s2⟩ := DpAll.get h q2
  refine ⟨v, ?_, s2⟩
  unfold atI at g ⊢
  rw [hl]
  cases z : ixN ds.length i with
  | none => rw [z] at g; cases g
  | some m =>
    rw [z] at g
    show vs[m]? = some v
    have g' : ds[m]? = some d := g
    have : m = j := by
      unfold ixN at z
      have e1 : seqIndex? i ds.length = some j := q1
      first
        | (rw [e1] at z; exact (Option.some.inj z).symm)
        | (unfold seqIndex? at e1; split at z <;> split at e1 <;> simp_all <;> omega)
    rw [this]; exact s1
theorem rd_ixL {K : PySem.W.Frag} (h : atI ds i = some d) : RD K (rIxL K) (.list ds) (.int i) d := fun x y Hk Hr kr hx hy Q q => by
  cases hy
  cases hx with
  | lst hs ha =>
    obtain ⟨v, s1, s2⟩ := atI_all ha h
    exact ⟨_, _, i, v, rfl, rfl, same_l kr hs, s1, q _ Hr (Same.refl _) (gro_refl kr s2)⟩
theorem rd_ixT {K : PySem.W.Frag} (h : atI ds i = some d) : RD K (rIxT K) (.tuple ds) (.int i) d := fun x y Hk Hr kr hx hy Q q => by
  cases hy
  cases hx with
  | tup hs ha =>
    obtain ⟨v, s1, s2⟩ := atI_all ha h
    exact ⟨_, _, i, v, rfl, rfl, same_t kr hs, s1, q _ Hr (Same.refl _) (gro_refl kr s2)⟩
theorem new_same {H : Hp} {p : Addr} (h : H p = none) (o : HO) : Same H (upd H p o) := fun b u q => by rw [upd_ne (ne_of_none q h)]; exact q
theorem gro_tup {K : PySem.W.Frag} {Hk Hr : Hp} {p : Addr} {vs : List V} (kr : Same Hk Hr) (hp : Hr p = none) (h : DpAll K Hk vs ds) : Dp K (gro Hk Hr (upd Hr p (.tup vs))) (.ref p) (.tuple ds) :=
  .tup (.inl (.inl (by rw [gro_new hp, upd_same]))) (DpAll.mono (gro_same kr) ds h)
theorem gro_lst {K : PySem.W.Frag} {Hk Hr : Hp} {p : Addr} {vs : List V} (kr : Same Hk Hr) (hp : Hr p = none) (h : DpAll K Hk vs ds) : Dp K (gro Hk Hr (upd Hr p (.lst vs))) (.ref p) (.list ds) :=
  .lst (.inl (.inl (by rw [gro_new hp, upd_same]))) (DpAll.mono (gro_same kr) ds h)
theorem le_line {n : Nat} (h : n ≤ 100000) : n ≤ sizeLine := Nat.le_trans h (by decide)
theorem lt_line {n : Nat} (h : n < 100000) : n < sizeLine := Nat.lt_of_lt_of_le h (by decide)
theorem rd_cat {K : PySem.W.Frag} {es : List PyData} (h : ds.length + es.length ≤ 100000) : RD K (rCatA K) (.tuple ds) (.tuple es) (.tuple (ds ++ es)) := fun x y Hk Hr kr hx hy Q q => by
  cases hx with
  | tup hs ha =>
    cases hy with
    | tup ht hb =>
      have l1 := DpAll.len ha
      have l2 := DpAll.len hb
      refine ⟨_, _, _, _, rfl, rfl, same_t kr hs, same_t kr ht, by rw [l1, l2]; exact le_line h, fun e0 => ?_, fun n1 e0 => ?_, fun n1 n2 p hp => ?_⟩
      · have : ds = [] := List.length_eq_zero_iff.mp (by rw [← l1, e0]; rfl)
        subst this
        exact q _ Hr (Same.refl _) (gro_refl kr (.tup ht hb))
      · have : es = [] := List.length_eq_zero_iff.mp (by rw [← l2, e0]; rfl)
        subst this
        rw [List.append_nil] at q
        exact q _ Hr (Same.refl _) (gro_refl kr (.tup hs ha))
      · exact q _ _ (new_same hp _) (gro_tup kr hp (DpAll.app ha hb))

/-! displays -/
theorem ee_tup {n} (h : EA X es ρ ds ρ1) (hl : ds.length ≤ 100000 := by first | decide | simp) : EE X (.Tuple es n pos) ρ (.tuple ds) ρ1 := fun bi σ0 B H0 σ Hk Hr I Q q =>
  sE_of (pe_tup pa_s) (h bi σ0 B H0 σ Hk Hr I _ fun vs Hk1 Hr1 I1 m1 h1 => ⟨by rw [DpAll.len h1]; exact le_line hl, fun p hp =>
    q _ _ _ (I1.gro (new_same hp _)) (m1.trans (gro_same I1.kr)) (gro_tup I1.kr hp h1)⟩)
theorem ee_lst (h : EA X es ρ ds ρ1) (hl : ds.length ≤ 100000 := by first | decide | simp) : EE X (.List es pos) ρ (.list ds) ρ1 := fun bi σ0 B H0 σ Hk Hr I Q q =>
  sE_of (pe_lst pa_s) (h bi σ0 B H0 σ Hk Hr I _ fun vs Hk1 Hr1 I1 m1 h1 => ⟨by rw [DpAll.len h1]; exact le_line hl, fun p hp =>
    q _ _ _ (I1.gro (new_same hp _)) (m1.trans (gro_same I1.kr)) (gro_lst I1.kr hp h1)⟩)

/-! and, or, not, if-else on bools -/
theorem ee_one {op : BoolOp} {k : Bool} (ha : EE X a ρ (.bool k) ρ1) : EE X (.BoolOp op [a] pos) ρ (.bool k) ρ1 := fun bi σ0 B H0 σ Hk Hr I Q q => sE_of (pe_one pe_s) (ha bi σ0 B H0 σ Hk Hr I Q q)
theorem ee_andF {rest : List Expr} (ha : EE X a ρ (.bool false) ρ1) : EE X (.BoolOp .And (a :: b :: rest) pos) ρ (.bool false) ρ1 := fun bi σ0 B H0 σ Hk Hr I Q q =>
  sE_of (pe_and pe_s pe_s) (ha bi σ0 B H0 σ Hk Hr I _ fun v Hk1 Hr1 I1 m1 h1 => by
    cases h1
    exact ⟨false, rfl, iteF (q _ _ _ I1 m1 (.bl _))⟩)
theorem ee_andT {rest : List Expr} {k : Bool} (ha : EE X a ρ (.bool true) ρ1) (hb : EE X (.BoolOp .And (b :: rest) pos) ρ1 (.bool k) ρ2) : EE X (.BoolOp .And (a :: b :: rest) pos) ρ (.bool k) ρ2 := fun bi σ0 B H0 σ Hk Hr I Q q =>
  sE_of (pe_and pe_s pe_s) (ha bi σ0 B H0 σ Hk Hr I _ fun v Hk1 Hr1 I1 m1 h1 => by
    cases h1
    exact ⟨true, rfl, iteT (hb bi σ0 B H0 σ Hk1 Hr1 I1 Q fun v Hk2 Hr2 I2 m2 h2 => q v Hk2 Hr2 I2 (m1.trans m2) h2)⟩)
theorem ee_and {rest : List Expr} {k m : Bool} (ha : EE X a ρ (.bool m) ρ1) (hb : m = true → EE X (.BoolOp .And (b :: rest) pos) ρ1 (.bool k) ρ1) : EE X (.BoolOp .And (a :: b :: rest) pos) ρ (.bool (m && k)) ρ1 := by
  cases m with
  | true => exact ee_andT ha (hb rfl)
  | false => exact ee_andF ha
theorem ee_orT {rest : List Expr} (ha : EE X a ρ (.bool true) ρ1) : EE X (.BoolOp .Or (a :: b :: rest) pos) ρ (.bool true) ρ1 := fun bi σ0 B H0 σ Hk Hr I Q q =>
  sE_of (pe_or pe_s pe_s) (ha bi σ0 B H0 σ Hk Hr I _ fun v Hk1 Hr1 I1 m1 h1 => by
    cases h1
    exact ⟨true, rfl, iteT (q _ _ _ I1 m1 (.bl _))⟩)
theorem ee_orF {rest : List Expr} {k : Bool} (ha : EE X a ρ (.bool false) ρ1) (hb : EE X (.BoolOp .Or (b :: rest) pos) ρ1 (.bool k) ρ2) : EE X (.BoolOp .Or (a :: b :: rest) pos) ρ (.bool k) ρ2 := fun bi σ0 B H0 σ Hk Hr I Q q =>
  sE_of (pe_or pe_s pe_s) (ha bi σ0 B H0 σ Hk Hr I _ fun v Hk1 Hr1 I1 m1 h1 => by
    cases h1
    exact ⟨false, rfl, iteF (hb bi σ0 B H0 σ Hk1 Hr1 I1 Q fun v Hk2 Hr2 I2 m2 h2 => q v Hk2 Hr2 I2 (m1.trans m2) h2)⟩)
theorem ee_or {rest : List Expr} {k m : Bool} (ha : EE X a ρ (.bool m) ρ1) (hb : m = false → EE X (.BoolOp .Or (b :: rest) pos) ρ1 (.bool k) ρ1) : EE X (.BoolOp .Or (a :: b :: rest) pos) ρ (.bool (m || k)) ρ1 := by
  cases m with
  | false => exact ee_orF ha (hb rfl)
  | true => exact ee_orT ha
theorem ee_not {k : Bool} (ha : EE X a ρ (.bool k) ρ1) : EE X (.UnaryOp .Not a pos) ρ (.bool (!k)) ρ1 := fun bi σ0 B H0 σ Hk Hr I Q q =>
  sE_of (pe_not pe_s) (ha bi σ0 B H0 σ Hk Hr I _ fun v Hk1 Hr1 I1 m1 h1 => by
    cases h1
    exact ⟨k, rfl, q _ _ _ I1 m1 (.bl _)⟩)
/-! tests -/
theorem et_cmp {op : CmpOp} {r : R2} {k : Bool} (ho : OpR X (compareOp op) r) (ha : EE X a ρ d1 ρ1) (hb : EE X b ρ1 d2 ρ2) (hr : RD X.K r d1 d2 (.bool k)) (hm : behindInMarks op b = false := by rfl) : ET X (.Compare a [op] [b] pos) ρ k ρ2 := fun bi σ0 B H0 σ Hk Hr I Q q =>
  sT_of (pt_cmpR ho pe_s pe_s hm) (ha bi σ0 B H0 σ Hk Hr I _ fun x Hk1 Hr1 I1 m1 h1 => hb bi σ0 B H0 σ Hk1 Hr1 I1 _ fun y Hk2 Hr2 I2 m2 h2 =>
    hr x y Hk2 Hr2 I2.kr (Dp.mono m2 _ h1) h2 _ fun v H2 e2 hv => by
      cases hv
      exact ⟨k, rfl, q _ H2 (I2.gro e2) (m1.trans (m2.trans (gro_same I2.kr)))⟩)
/-- a test that is no comparison, no and, or, not: by its value -/
theorem et_val {k : Bool} (ha : EE X a ρ (.bool k) ρ1) (he : ∀ whole, isTrue a X.env whole = (do let v ← whole; standAt a.pos; holding [v] (truthy v)) := by intro _; rfl) : ET X a ρ k ρ1 := fun bi σ0 B H0 σ Hk Hr I Q q =>
  sT_of (pt_val pe_s he) (ha bi σ0 B H0 σ Hk Hr I _ fun v Hk1 Hr1 I1 m1 h1 => by
    cases h1
    exact ⟨k, rfl, q _ _ I1 m1⟩)
theorem et_not {k : Bool} (ha : ET X a ρ k ρ1) : ET X (.UnaryOp .Not a pos) ρ (!k) ρ1 := fun bi σ0 B H0 σ Hk Hr I Q q =>
  sT_of (pt_not pt_s) (ha bi σ0 B H0 σ Hk Hr I _ fun Hk1 Hr1 I1 m1 => q _ _ I1 m1)
end
/-- a test whatever its whole is -/
def sW (X : Cx) (e : Expr) : TT := fun σ H Q => ∀ whole pins s, Inv X pins σ H s → wpAny (model X.prog X.w) X.A (isTrue e X.env whole) (TP X pins σ Q) X.xe s
def EW (X : Cx) (e : Expr) (ρ : List Sl) (b : Bool) (ρ' : List Sl) : Prop :=
  ∀ (bi : List Nat) (σ0 : L2.St) (B H0 : Hp) (σ : L2.St) (Hk Hr : Hp), Ok X.K bi σ0 B H0 ρ σ Hk Hr → ∀ Q : Bool → Hp → Prop, (∀ Hk' Hr', Ok X.K bi σ0 B H0 ρ' σ Hk' Hr' → Same Hk Hk' → Q b Hr') → sW X e σ Hr Q
section
variable {X : Cx} {a b e : Expr} {rest : List Expr} {ρ ρ1 ρ2 : List Sl} {k m : Bool} {pos : Pos}
theorem pw_s : PW X e (sW X e) := ⟨fun whole pins s _ _ _ I h => h whole pins s I⟩
theorem ew_pt (h : EW X e ρ k ρ1) : ET X e ρ k ρ1 := fun bi σ0 B H0 σ Hk Hr I Q q pins s I' => (pw_s (X := X) (e := e)).pt.run pins s σ Hr Q I' (h bi σ0 B H0 σ Hk Hr I Q q)
theorem ew_and1 (ha : ET X a ρ k ρ1) : EW X (.BoolOp .And [a] pos) ρ k ρ1 := fun bi σ0 B H0 σ Hk Hr I Q q whole pins s I' => (pw_and1 pt_s).run whole pins s σ Hr Q I' (ha bi σ0 B H0 σ Hk Hr I Q q)
theorem ew_or1 (ha : ET X a ρ k ρ1) : EW X (.BoolOp .Or [a] pos) ρ k ρ1 := fun bi σ0 B H0 σ Hk Hr I Q q whole pins s I' => (pw_or1 pt_s).run whole pins s σ Hr Q I' (ha bi σ0 B H0 σ Hk Hr I Q q)
theorem ew_and (ha : ET X a ρ m ρ1) (hb : m = true → EW X (.BoolOp .And (b :: rest) pos) ρ1 k ρ1) : EW X (.BoolOp .And (a :: b :: rest) pos) ρ (m && k) ρ1 := fun bi σ0 B H0 σ Hk Hr I Q q whole pins s I' =>
  (pw_and pt_s pw_s).run whole pins s σ Hr Q I' (ha bi σ0 B H0 σ Hk Hr I _ fun Hk1 Hr1 I1 m1 => by
    cases m with
    | true => exact iteT (hb rfl bi σ0 B H0 σ Hk1 Hr1 I1 Q fun Hk2 Hr2 I2 m2 => q Hk2 Hr2 I2 (m1.trans m2))
    | false => exact iteF (q Hk1 Hr1 I1 m1))
theorem ew_or (ha : ET X a ρ m ρ1) (hb : m = false → EW X (.BoolOp .Or (b :: rest) pos) ρ1 k ρ1) : EW X (.BoolOp .Or (a :: b :: rest) pos) ρ (m || k) ρ1 := fun bi σ0 B H0 σ Hk Hr I Q q whole pins s I' =>
  (pw_or pt_s pw_s).run whole pins s σ Hr Q I' (ha bi σ0 B H0 σ Hk Hr I _ fun Hk1 Hr1 I1 m1 => by
    cases m with
    | false => exact iteF (hb rfl bi σ0 B H0 σ Hk1 Hr1 I1 Q fun Hk2 Hr2 I2 m2 => q Hk2 Hr2 I2 (m1.trans m2))
    | true => exact iteT (q Hk1 Hr1 I1 m1))
end
section
variable {X : Cx} {a b e c : Expr} {es : List Expr} {ρ ρ1 ρ2 : List Sl} {d d1 d2 : PyData} {ds cs : List PyData} {pos p0 : Pos} {i j : Int} {x : Str}
theorem ee_ifT (hc : ET X c ρ true ρ1) (ha : EE X a ρ1 d ρ2) : EE X (.IfExp c a b pos) ρ d ρ2 := fun bi σ0 B H0 σ Hk Hr I Q q =>
  sE_of (pe_ifExp pt_s pe_s pe_s) (hc bi σ0 B H0 σ Hk Hr I _ fun Hk1 Hr1 I1 m1 => iteT (ha bi σ0 B H0 σ Hk1 Hr1 I1 Q fun v Hk2 Hr2 I2 m2 h2 => q v Hk2 Hr2 I2 (m1.trans m2) h2))
theorem ee_ifF (hc : ET X c ρ false ρ1) (hb : EE X b ρ1 d ρ2) : EE X (.IfExp c a b pos) ρ d ρ2 := fun bi σ0 B H0 σ Hk Hr I Q q =>
  sE_of (pe_ifExp pt_s pe_s pe_s) (hc bi σ0 B H0 σ Hk Hr I _ fun Hk1 Hr1 I1 m1 => iteF (hb bi σ0 B H0 σ Hk1 Hr1 I1 Q fun v Hk2 Hr2 I2 m2 h2 => q v Hk2 Hr2 I2 (m1.trans m2) h2))
/-! built-in calls -/
theorem ee_callB {id : String} {r : List V → Hp → VK → Prop} (hc : CallR X (.builtin id) r) (hm : X.mg x = none) (hv : bootBuiltins x = some (.builtin id)) (ha : EA X (e :: es) ρ ds ρ1) (hr : RA X.K r ds d) (hg : Gl X x := by rfl)
    (hn : x ≠ "__name__" := by decide) (hdb : (x == ("__debug__" : Str)) = false := by decide) (h : PE X (.Call (.Name x p0) (e :: es) [] pos) (tCB r (sA X (e :: es))) := by exact pe_callB ‹_› ‹_› ‹_› ‹_› pa_s) : EE X (.Call (.Name x p0) (e :: es) [] pos) ρ d ρ1 := fun bi σ0 B H0 σ Hk Hr I Q q =>
  sE_of h (ha bi σ0 B H0 σ Hk Hr I _ fun vs Hk1 Hr1 I1 m1 h1 => hr vs Hk1 Hr1 I1.kr h1 Q fun v H2 e2 hv => q v _ H2 (I1.gro e2) (m1.trans (gro_same I1.kr)) hv)
theorem ee_tCB {r : List V → Hp → VK → Prop} (h : PE X c (tCB r (sA X es))) (ha : EA X es ρ ds ρ1) (hr : RA X.K r ds d) : EE X c ρ d ρ1 := fun bi σ0 B H0 σ Hk Hr I Q q =>
  sE_of h (ha bi σ0 B H0 σ Hk Hr I _ fun vs Hk1 Hr1 I1 m1 h1 => hr vs Hk1 Hr1 I1.kr h1 Q fun v H2 e2 hv => q v _ H2 (I1.gro e2) (m1.trans (gro_same I1.kr)) hv)
end
end Pd
namespace Pd
open PySem L2 PySem.Spec PyProof.Rows

/-- a block in slots ρ: falls through with slots of which N, or hands back d with slots ρ' of which R d ρ' -/
abbrev RTy := Hp → V → List Sl → Hp → Hp → Prop
/-- the answer by its data -/
def RDt (K : PySem.W.Frag) (R : PyData → List Sl → Prop) : RTy := fun _ v ρ' Hk' _ => ∃ d, R d ρ' ∧ Dp K Hk' v d
/-- a new list of ints -/
def RNew (P : List Int → Prop) : RTy := fun H0 v _ _ Hr' => ∃ p ns, v = .ref p ∧ H0 p = none ∧ Hr' p = some (.lst (ns.map V.int)) ∧ P ns
def SS (X : Cx) (bi : List Nat) (sts : List Stmt) (ρ : List Sl) (N : List Sl → Prop) (R : RTy) : Prop :=
  ∀ (σ0 : L2.St) (B H0 : Hp), (bi = [] → Same X.H_0 H0) → ∀ (σ : L2.St) (Hk Hr : Hp) (D : Ends), Ok X.K bi σ0 B H0 ρ σ Hk Hr →
    (∀ ρ' σ' Hk' Hr', N ρ' → Ok X.K bi σ0 B H0 ρ' σ' Hk' Hr' → Same Hk Hk' → D.nx σ' Hr') →
    (∀ v ρ' σ' Hk' Hr', R H0 v ρ' Hk' Hr' → Ok X.K bi σ0 B H0 ρ' σ' Hk' Hr' → D.rt v Hr') → sSs X sts D σ Hr
/-- what is walked: the items ds -/
def Wk (K : PySem.W.Frag) (J : It) (ds : List PyData) (Hk : Hp) : Prop := ∀ i Hr, Same Hk Hr →
  (i < ds.length → J.go i Hr) ∧ (ds.length ≤ i → J.stop i Hr) ∧ ∀ x H', J.yld i Hr x H' → Same Hr H' ∧ ∀ d, ds[i]? = some d → Dp K (gro Hk Hr H') x d
def EI (X : Cx) (tg iter : Expr) (ρ : List Sl) (ds : List PyData) (ρ' : List Sl) : Prop := ∃ wi, PI X tg iter wi ∧
  ∀ (bi : List Nat) (σ0 : L2.St) (B H0 : Hp) (σ : L2.St) (Hk Hr : Hp), Ok X.K bi σ0 B H0 ρ σ Hk Hr → ∀ R : It → Hp → Prop, (∀ J Hk' Hr', Ok X.K bi σ0 B H0 ρ' σ Hk' Hr' → Same Hk Hk' → Wk X.K J ds Hk' → R J Hr') → wi σ Hr R
/-- a target's reading -/
def EG (K : PySem.W.Frag) (bi : List Nat) (g : TG) (ρ : List Sl) (d : PyData) (ρ' : List Sl) : Prop :=
  ∀ (σ0 : L2.St) (B H0 : Hp) (σ : L2.St) (Hk Hr : Hp) (v : V), Ok K bi σ0 B H0 ρ σ Hk Hr → Dp K Hk v d → ∀ Q : L2.St → Hp → Prop, (∀ σ', Ok K bi σ0 B H0 ρ' σ' Hk Hr → Q σ' Hr) → g v σ Hr Q

theorem gro_le {Hk Hk' Hr H2 : Hp} (e : Same Hk Hk') : Same (gro Hk Hr H2) (gro Hk' Hr H2) := fun b o h => by
  cases q : Hr b with
  | none => rw [gro_new q] at h ⊢; exact h
  | some u => rw [gro_old q] at h ⊢; exact e _ _ h

section
variable {X : Cx} {bi : List Nat} {a b e c tg iter : Expr} {es : List Expr} {rest body sts : List Stmt} {ρ ρ1 ρ2 : List Sl} {N : List Sl → Prop} {R : RTy} {d d1 d2 : PyData} {ds : List PyData} {pos p0 p1 : Pos} {x y : Str} {n m : Nat} {k : Bool}
theorem ss_nil (h : N ρ) : SS X bi [] ρ N R := fun σ0 B H0 hz σ Hk Hr D I nx rt => sSs_of pss_nil (nx ρ σ Hk Hr h I (Same.refl _))
/-- name = e -/
theorem ss_set (hN : X.N.Nodup) (hi : X.N[n]? = some x) (hb : n ∉ bi) (he : EE X e ρ d ρ1) (hr : SS X bi rest (ρ1.set n (.val d)) N R) (hx : Loc X.env.scope x := by first | exact Or.inl rfl | exact Or.inr rfl)
    (hs : swapsWith e (some (.Name x p0)) pos.line X.env = pure false := by rfl) (hf : X.fn x = true ∨ X.env.scope.names.lookup x = some .local := by first | exact .inl rfl | exact .inr rfl) : SS X bi (.Assign [.Name x p0] e pos :: rest) ρ N R := fun σ0 B H0 hz σ Hk Hr D I nx rt =>
  sSs_of (pss_cons (ps_set hN hi hx pe_s hs hf) pss_s) (he bi σ0 B H0 σ Hk Hr I _ fun v Hk1 Hr1 I1 m1 h1 =>
    hr σ0 B H0 hz _ Hk1 Hr1 D (I1.set hb h1) (fun ρ' σ' Hk' Hr' q I' m' => nx ρ' σ' Hk' Hr' q I' (m1.trans m')) rt)
/-- name = [..], a list of one's own -/
theorem ss_own (hN : X.N.Nodup) (hi : X.N[n]? = some x) (hb : n ∉ bi) (he : EA X es ρ ds ρ1) (hr : SS X bi rest (ρ1.set n (.own ds)) N R) (hl : ds.length ≤ 100000 := by first | decide | simp) (hx : Loc X.env.scope x := by first | exact Or.inl rfl | exact Or.inr rfl)
    (hs : swapsWith (.List es p1) (some (.Name x p0)) pos.line X.env = pure false := by rfl) (hf : X.fn x = true ∨ X.env.scope.names.lookup x = some .local := by first | exact .inl rfl | exact .inr rfl) : SS X bi (.Assign [.Name x p0] (.List es p1) pos :: rest) ρ N R := fun σ0 B H0 hz σ Hk Hr D I nx rt =>
  sSs_of (pss_cons (ps_set hN hi hx (pe_lst pa_s) hs hf) pss_s) (he bi σ0 B H0 σ Hk Hr I _ fun vs Hk1 Hr1 I1 m1 h1 => ⟨by rw [DpAll.len h1]; exact le_line hl, fun p hp =>
    hr σ0 B H0 hz _ Hk1 _ D (I1.own_set hb hp (new_same hp _) upd_same h1) (fun ρ' σ' Hk' Hr' q I' m' => nx ρ' σ' Hk' Hr' q I' (m1.trans m')) rt⟩)
/-- from here on the list in slot n is not changed any more -/
theorem ss_freeze (h : ρ[n]? = some (.own ds)) (hr : SS X bi sts (ρ.set n (.val (.list ds))) N R) : SS X bi sts ρ N R := fun σ0 B H0 hz σ Hk Hr D I nx rt => by
  obtain ⟨Hk', m1, I1⟩ := I.freeze h
  exact hr σ0 B H0 hz σ Hk' Hr D I1 (fun ρ' σ' Hk2 Hr2 q I' m' => nx ρ' σ' Hk2 Hr2 q I' (m1.trans m')) rt
/-- name.append(e) -/
theorem ss_append (hi : X.N[n]? = some x) (h : ρ1[n]? = some (.own ds)) (he : EE X e ρ d ρ1) (hr : SS X bi rest (ρ1.set n (.own (ds ++ [d]))) N R) (h0 : ∃ es, ρ[n]? = some (.own es)) (hl : ds.length < 100000)
    (hp : PE X (.Call (.Attribute (.Name x p0) "append" p1) [e] [] pos) (tBM X.K "list" rAppend (tVar n) (tCons (sE X e) tNil))) (hs : swapsWith (.Call (.Attribute (.Name x p0) "append" p1) [e] [] pos) none pos.line X.env = pure false := by rfl) :
    SS X bi (.Expr (.Call (.Attribute (.Name x p0) "append" p1) [e] [] pos) pos :: rest) ρ N R := fun σ0 B H0 hz σ Hk Hr D I nx rt => by
  obtain ⟨es0, h0⟩ := h0
  obtain ⟨a0, vs0, t1, t2, t3, t4, t5⟩ := I.own n es0 h0
  refine sSs_of (pss_cons (ps_expr hp hs) pss_s) ⟨.ref a0, t1, .inl ⟨rfl, _, .inl (.inl t2)⟩, he bi σ0 B H0 σ Hk Hr I _ fun v Hk1 Hr1 I1 m1 h1 => ?_⟩
  obtain ⟨a1, vs1, u1, u2, u3, u4, u5⟩ := I1.own n ds h
  have ea : a0 = a1 := by
    rw [t1] at u1
    injection u1 with u1; injection u1 with u1; injection u1
  subst ea
  refine ⟨a0, vs1, v, rfl, rfl, u2, by rw [DpAll.len u5]; exact lt_line hl, ?_⟩
  exact hr σ0 B H0 hz σ Hk1 _ D (I1.mut h u1 (DpAll.app u5 (.cons h1 .nil))) (fun ρ' σ' Hk' Hr' q I' m' => nx ρ' σ' Hk' Hr' q I' (m1.trans m')) rt
/-- name[i] = e, the list one's own -/
theorem ss_put {ix : Expr} {j : Int} {w : Nat} (hi : X.N[n]? = some x) (h : ρ1[n]? = some (.own ds)) (he : EE X e ρ d ρ1) (hj : EE X ix ρ1 (.int j) ρ1) (hw : ixN ds.length j = some w) (hr : SS X bi rest (ρ1.set n (.own (ds.set w d))) N R)
    (hp : PS X (.Assign [.Subscript (.Name x p0) ix p1] e pos) (tAsg (sE X e) (gSub (tVar n) (sE X ix) rSetL))) : SS X bi (.Assign [.Subscript (.Name x p0) ix p1] e pos :: rest) ρ N R := fun σ0 B H0 hz σ Hk Hr D I nx rt => by
  refine sSs_of (pss_cons hp pss_s) (he bi σ0 B H0 σ Hk Hr I _ fun v Hk1 Hr1 I1 m1 h1 => ?_)
  obtain ⟨a0, vs0, t1, t2, t3, t4, t5⟩ := I1.own n ds h
  refine ⟨.ref a0, t1, hj bi σ0 B H0 σ Hk1 Hr1 I1 _ fun w2 Hk2 Hr2 I2 m2 h2 => ?_⟩
  cases h2
  obtain ⟨a1, vs1, u1, u2, u3, u4, u5⟩ := I2.own n ds h
  have ea : a0 = a1 := by
    rw [t1] at u1
    injection u1 with u1; injection u1 with u1; injection u1
  subst ea
  refine ⟨a0, vs1, j, w, rfl, rfl, u2, by rw [DpAll.len u5]; exact hw, ?_⟩
  exact hr σ0 B H0 hz σ Hk2 _ D (I2.mut h u1 (DpAll.set w u5 (Dp.mono m2 d h1))) (fun ρ' σ' Hk' Hr' q I' m' => nx ρ' σ' Hk' Hr' q I' (m1.trans (m2.trans m'))) rt
theorem ss_if {N1 : List Sl → Prop} {tb eb : List Stmt} (hc : ET X c ρ k ρ1) (ha : k = true → SS X bi tb ρ1 N1 R) (hb : k = false → SS X bi eb ρ1 N1 R) (hr : ∀ ρ2, N1 ρ2 → SS X bi rest ρ2 N R) : SS X bi (.If c tb eb pos :: rest) ρ N R := fun σ0 B H0 hz σ Hk Hr D I nx rt =>
  sSs_of (pss_cons (ps_if pt_s pss_s pss_s) pss_s) (hc bi σ0 B H0 σ Hk Hr I _ fun Hk1 Hr1 I1 m1 => by
    cases k with
    | true => exact iteT (ha rfl σ0 B H0 hz σ Hk1 Hr1 _ I1 (fun ρ' σ' Hk' Hr' q I' m' => hr ρ' q σ0 B H0 hz σ' Hk' Hr' D I' (fun ρ2 σ2 Hk2 Hr2 q2 I2 m2 => nx ρ2 σ2 Hk2 Hr2 q2 I2 (m1.trans (m'.trans m2))) rt) rt)
    | false => exact iteF (hb rfl σ0 B H0 hz σ Hk1 Hr1 _ I1 (fun ρ' σ' Hk' Hr' q I' m' => hr ρ' q σ0 B H0 hz σ' Hk' Hr' D I' (fun ρ2 σ2 Hk2 Hr2 q2 I2 m2 => nx ρ2 σ2 Hk2 Hr2 q2 I2 (m1.trans (m'.trans m2))) rt) rt))
/-- an if without else whose suite hands back -/
theorem ss_ifR {tb : List Stmt} (hc : ET X c ρ k ρ1) (ha : k = true → SS X bi tb ρ1 (fun _ => False) R) (hr : k = false → SS X bi rest ρ1 N R) : SS X bi (.If c tb [] pos :: rest) ρ N R :=
  ss_if (N1 := fun ρ2 => k = false ∧ ρ2 = ρ1) hc (fun h σ0 B H0 hz σ Hk Hr D I nx rt => ha h σ0 B H0 hz σ Hk Hr D I (fun _ _ _ _ q _ _ => q.elim) rt) (fun h => ss_nil ⟨h, rfl⟩) (fun ρ2 q => by obtain ⟨q1, q2⟩ := q; subst q2; exact hr q1)
theorem ss_ret {R : PyData → List Sl → Prop} (he : EE X e ρ d ρ1) (h : R d ρ1) : SS X bi (.Return (some e) pos :: rest) ρ N (RDt X.K R) := fun σ0 B H0 hz σ Hk Hr D I nx rt =>
  sSs_of (pss_cons (ps_ret pe_s) pss_s) (he bi σ0 B H0 σ Hk Hr I _ fun v Hk1 Hr1 I1 m1 h1 => rt v ρ1 σ Hk1 Hr1 ⟨d, h, h1⟩ I1)
theorem ss_retNew {ns : List Int} {P : List Int → Prop} (he : EA X es ρ (ns.map PyData.int) ρ1) (h : P ns) (hl : ns.length ≤ 100000 := by first | decide | simp) : SS X bi (.Return (some (.List es p0)) pos :: rest) ρ N (RNew P) := fun σ0 B H0 hz σ Hk Hr D I nx rt =>
  sSs_of (pss_cons (ps_ret (pe_lst pa_s)) pss_s) (he bi σ0 B H0 σ Hk Hr I _ fun vs Hk1 Hr1 I1 m1 h1 => by
    have e := DpAll.ints h1
    subst e
    refine ⟨by rw [List.length_map]; exact le_line hl, fun p hp => rt (.ref p) ρ1 σ _ _ ⟨p, ns, rfl, ?_, upd_same, h⟩ (I1.gro (new_same hp _))⟩
    cases z : H0 p with
    | none => rfl
    | some u =>
      rw [I1.real _ _ z] at hp
      cases hp)
theorem ss_expr (he : EE X e ρ d ρ1) (hr : SS X bi rest ρ1 N R) (hs : swapsWith e none pos.line X.env = pure false := by rfl) : SS X bi (.Expr e pos :: rest) ρ N R := fun σ0 B H0 hz σ Hk Hr D I nx rt =>
  sSs_of (pss_cons (ps_expr pe_s hs) pss_s) (he bi σ0 B H0 σ Hk Hr I _ fun v Hk1 Hr1 I1 m1 h1 => hr σ0 B H0 hz _ Hk1 Hr1 D I1 (fun ρ' σ' Hk' Hr' q I' m' => nx ρ' σ' Hk' Hr' q I' (m1.trans m')) rt)
/-! ### what is walked -/
theorem ei_list (he : EE X iter ρ (.list ds) ρ1) : EI X tg iter ρ ds ρ1 := ⟨_, pi_list pe_s, fun bi σ0 B H0 σ Hk Hr I R q => he bi σ0 B H0 σ Hk Hr I _ fun v Hk1 Hr1 I1 m1 h1 => by
  cases h1 with
  | lst hs ha =>
    refine ⟨_, rfl, ⟨_, same_l I1.kr hs⟩, q _ Hk1 Hr1 I1 m1 fun i Hr2 e2 => ⟨fun hi => ?_, fun hi => ⟨_, same_l e2 hs, by rw [DpAll.len ha]; exact hi⟩, fun x H' hy => ?_⟩⟩
    · obtain ⟨v, s1, s2⟩ := DpAll.get ha (List.getElem?_eq_getElem hi)
      exact ⟨_, v, same_l e2 hs, s1⟩
    · obtain ⟨rfl, f⟩ := hy
      refine ⟨Same.refl _, fun d hd => ?_⟩
      obtain ⟨v, s1, s2⟩ := DpAll.get ha hd
      have := f _ (same_l e2 hs)
      rw [s1] at this
      injection this with this; subst this
      exact Dp.mono (gro_same e2) d s2⟩
theorem ei_tup (he : EE X iter ρ (.tuple ds) ρ1) : EI X tg iter ρ ds ρ1 := ⟨_, pi_tup pe_s, fun bi σ0 B H0 σ Hk Hr I R q => he bi σ0 B H0 σ Hk Hr I _ fun v Hk1 Hr1 I1 m1 h1 => by
  cases h1 with
  | tup hs ha =>
    refine ⟨_, rfl, ⟨_, same_t I1.kr hs⟩, q _ Hk1 Hr1 I1 m1 fun i Hr2 e2 => ⟨fun hi => ?_, fun hi => ⟨_, same_t e2 hs, by rw [DpAll.len ha]; exact hi⟩, fun x H' hy => ?_⟩⟩
    · obtain ⟨v, s1, s2⟩ := DpAll.get ha (List.getElem?_eq_getElem hi)
      exact ⟨_, v, same_t e2 hs, s1⟩
    · obtain ⟨rfl, f⟩ := hy
      refine ⟨Same.refl _, fun d hd => ?_⟩
      obtain ⟨v, s1, s2⟩ := DpAll.get ha hd
      have := f _ (same_t e2 hs)
      rw [s1] at this
      injection this with this; subst this
      exact Dp.mono (gro_same e2) d s2⟩
/-- lo, lo + 1, .. : n ints -/
def rngD (lo : Int) (n : Nat) : List PyData := (List.range n).map fun i => .int (lo + (i : Nat))
theorem rngD_len {lo : Int} {n : Nat} : (rngD lo n).length = n := by unfold rngD; simp
theorem rngD_get {lo : Int} {n i : Nat} {d : PyData} (h : (rngD lo n)[i]? = some d) : i < n ∧ d = .int (lo + (i : Nat)) := by
  unfold rngD at h
  rw [List.getElem?_map] at h
  by_cases q : i < n
  · rw [List.getElem?_range q] at h
    exact ⟨q, (Option.some.inj h).symm⟩
  · rw [List.getElem?_eq_none (by simp; omega)] at h
    cases h
theorem wk_rng {K : PySem.W.Frag} {Hk : Hp} {lo : Int} {n : Nat} : Wk K (Itr lo n) (rngD lo n) Hk := fun i Hr e => ⟨fun hi => by rw [rngD_len] at hi; exact hi, fun hi => by rw [rngD_len] at hi; exact hi, fun x H' hy => by
  obtain ⟨rfl, rfl⟩ := hy
  refine ⟨Same.refl _, fun d hd => ?_⟩
  obtain ⟨_, rfl⟩ := rngD_get hd
  exact .int _⟩
theorem ei_range1 {j : Int} (hm : X.mg "range" = none) (ha : EA X [a] ρ [.int j] ρ1) (hj : -(2 ^ 62) ≤ j ∧ j < 2 ^ 62) (hg : Gl X "range" := by rfl) (hs : starEach [a] X.env = [(false, eval a X.env)] := by rfl) : EI X tg (.Call (.Name "range" p0) [a] [] pos) ρ (rngD 0 j.toNat) ρ1 :=
  ⟨_, pi_range1 hg hm pa_s hs, fun bi σ0 B H0 σ Hk Hr I R q => ha bi σ0 B H0 σ Hk Hr I _ fun vs Hk1 Hr1 I1 m1 h1 => by
    cases h1 with
    | cons h1 h2 =>
      cases h1; cases h2
      exact ⟨j, rfl, hj.1, hj.2, q _ Hk1 Hr1 I1 m1 wk_rng⟩⟩
theorem ei_range2 {i j : Int} (hm : X.mg "range" = none) (ha : EA X [a, b] ρ [.int i, .int j] ρ1) (hj : -(2 ^ 62) ≤ i ∧ i < 2 ^ 62 ∧ -(2 ^ 62) ≤ j ∧ j < 2 ^ 62) (hg : Gl X "range" := by rfl) (hs : starEach [a, b] X.env = [(false, eval a X.env), (false, eval b X.env)] := by rfl)
    (hs2 : starEach [b] X.env = [(false, eval b X.env)] := by rfl) : EI X tg (.Call (.Name "range" p0) [a, b] [] pos) ρ (rngD i (j - i).toNat) ρ1 :=
  ⟨_, pi_range2 hg hm pa_s hs hs2, fun bi σ0 B H0 σ Hk Hr I R q => ha bi σ0 B H0 σ Hk Hr I _ fun vs Hk1 Hr1 I1 m1 h1 => by
    cases h1 with
    | cons h1 h2 =>
      cases h1
      cases h2 with
      | cons h2 h3 =>
        cases h2; cases h3
        exact ⟨i, j, rfl, hj, q _ Hk1 Hr1 I1 m1 wk_rng⟩⟩
/-! ### targets -/
theorem eg_name {K : PySem.W.Frag} (hb : n ∉ bi) : EG K bi (gName n) ρ d (ρ.set n (.val d)) := fun σ0 B H0 σ Hk Hr v I h Q q => q _ (I.set hb h)
theorem eg_pair {K : PySem.W.Frag} {i j : Nat} {d1 d2 : PyData} (hi : i ∉ bi) (hj : j ∉ bi) : EG K bi (gTup K 2 (gCons (gName i) (gCons (gName j) gNil))) ρ (.tuple [d1, d2]) ((ρ.set i (.val d1)).set j (.val d2)) := fun σ0 B H0 σ Hk Hr v I h Q q => by
  cases h with
  | tup hs ha =>
    cases ha with
    | cons h1 h2 =>
      cases h2 with
      | cons h2 h3 =>
        cases h3
        exact ⟨_, _, rfl, same_t I.kr hs, rfl, _, _, rfl, _, _, rfl, rfl, q _ ((I.set hi h1).set hj h2)⟩
/-! ### for -/
theorem ss_for {g : TG} (J : Nat → List Sl → Prop) (hi : EI X tg iter ρ ds ρ1) (hg : PG X tg g) (h0 : J 0 ρ1)
    (ht : ∀ i d ρi, ds[i]? = some d → J i ρi → ∃ ρj, EG X.K bi g ρi d ρj ∧ SS X bi body ρj (J (i + 1)) R) (hr : ∀ ρ', J ds.length ρ' → SS X bi rest ρ' N R)
    (hp : PassesOwn (model X.prog X.w) X.A X.env X.xe := by exact PassesOwn.never) (hc : X.calm = true := by rfl) (hs : ∀ x, foldedSetIterable iter X.env x = pure x := by intro _; rfl) : SS X bi (.For tg iter body [] pos :: rest) ρ N R := fun σ0 B H0 hz σ Hk Hr D I nx rt => by
  obtain ⟨wi, pi, q⟩ := hi
  refine sSs_of (pss_cons (ps_for hp hc pi hg pss_s hs) pss_s) (q bi σ0 B H0 σ Hk Hr I _ fun Jt Hk1 Hr1 I1 m1 wk => ?_)
  refine ⟨fun i m σ' Hr' => i + m = ds.length ∧ ∃ ρ' Hk', J i ρ' ∧ Ok X.K bi σ0 B H0 ρ' σ' Hk' Hr' ∧ Same Hk1 Hk', ⟨ds.length, by omega, ρ1, Hk1, h0, I1, Same.refl _⟩, fun i m σ' Hr' hW => ?_⟩
  obtain ⟨em, ρ', Hk', jj, I', m'⟩ := hW
  obtain ⟨w1, w2, w3⟩ := wk i Hr' (m'.trans I'.kr)
  by_cases hi : i < ds.length
  · refine .inr ⟨w1 hi, fun σ2 H2 => ∃ ρ2 Hk2, J (i + 1) ρ2 ∧ Ok X.K bi σ0 B H0 ρ2 σ2 Hk2 H2 ∧ Same Hk1 Hk2, fun σ2 H2 hN => ⟨m - 1, by omega, by omega, hN⟩, fun xv H2 hy => ?_⟩
    obtain ⟨e2, fd⟩ := w3 xv H2 hy
    have hd := List.getElem?_eq_getElem hi
    obtain ⟨ρj, eg, ss⟩ := ht i _ ρ' hd jj
    have I2 := I'.gro e2
    refine eg σ0 B H0 σ' _ H2 xv I2 (Dp.mono (gro_le m') _ (fd _ hd)) _ fun σ3 I3 => ?_
    exact ss σ0 B H0 hz σ3 _ H2 _ I3 (fun ρ4 σ4 Hk4 Hr4 q4 I4 m4 => ⟨ρ4, Hk4, q4, I4, m'.trans ((gro_same I'.kr).trans m4)⟩) rt
  · have : i = ds.length := by omega
    subst this
    refine .inl ⟨w2 (Nat.le_refl _), hr ρ' jj σ0 B H0 hz σ' Hk' Hr' D I' (fun ρ2 σ2 Hk2 Hr2 q2 I2 m2 => nx ρ2 σ2 Hk2 Hr2 q2 I2 (m1.trans (m'.trans m2))) rt⟩
/-- while: J with a measure -/
theorem ss_while (J : Nat → List Sl → Prop) {m0 : Nat} (h0 : J m0 ρ)
    (ht : ∀ m ρi, J m ρi → ∃ k ρj, ET X c ρi k ρj ∧ (k = true → SS X bi body ρj (fun ρ' => ∃ m', m' < m ∧ J m' ρ') R) ∧ (k = false → SS X bi rest ρj N R))
    (hp : PassesOwn (model X.prog X.w) X.A X.env X.xe := by exact PassesOwn.never) : SS X bi (.While c body [] pos :: rest) ρ N R := fun σ0 B H0 hz σ Hk Hr D I nx rt => by
  refine sSs_of (pss_cons (ps_while hp pt_s pss_s) pss_s) ?_
  refine ⟨fun m σ' Hr' => ∃ ρ' Hk', J m ρ' ∧ Ok X.K bi σ0 B H0 ρ' σ' Hk' Hr' ∧ Same Hk Hk', ⟨m0, ρ, Hk, h0, I, Same.refl _⟩, fun m σ' Hr' hW => ?_⟩
  obtain ⟨ρ', Hk', jj, I', m'⟩ := hW
  obtain ⟨k, ρj, et, hT, hF⟩ := ht m ρ' jj
  refine et bi σ0 B H0 σ' Hk' Hr' I' _ fun Hk1 Hr1 I1 m1 => ?_
  cases k with
  | true =>
    refine iteT ⟨fun σ2 H2 => ∃ m', m' < m ∧ ∃ ρ2 Hk2, J m' ρ2 ∧ Ok X.K bi σ0 B H0 ρ2 σ2 Hk2 H2 ∧ Same Hk Hk2, fun σ2 H2 hN => hN, ?_⟩
    exact hT rfl σ0 B H0 hz σ' Hk1 Hr1 _ I1 (fun ρ4 σ4 Hk4 Hr4 ⟨m4, l4, q4⟩ I4 e4 => ⟨m4, l4, ρ4, Hk4, q4, I4, m'.trans (m1.trans e4)⟩) rt
  | false => exact iteF (hF rfl σ0 B H0 hz σ' Hk1 Hr1 D I1 (fun ρ2 σ2 Hk2 Hr2 q2 I2 m2 => nx ρ2 σ2 Hk2 Hr2 q2 I2 (m'.trans (m1.trans m2))) rt)
end

/-! ### defs -/
/-- a def on data: n arguments, φ: arguments, answer -/
def spD (K : PySem.W.Frag) (n : Nat) (φ : List PyData → PyData → Prop) : Sp := fun vs H Q _ => ∃ (B : Hp) (ds : List PyData) (d : PyData), φ ds d ∧ ds.length = n ∧ Same B H ∧ DpAll K B vs ds ∧ ∀ v H', Same H H' → Dp K (gro B H H') v d → Q v H'
/-- .. that may change the list which is its first argument: what it holds before, the other arguments, the answer, what it holds behind -/
def spB (K : PySem.W.Frag) (n : Nat) (φ : List PyData → List PyData → PyData → List PyData → Prop) : Sp := fun vs H Q _ => ∃ (B : Hp) (a : Addr) (ws us : List V) (cs ds : List PyData) (d : PyData) (cs' : List PyData), φ cs ds d cs' ∧ ds.length = n ∧ vs = .ref a :: ws ∧ H a = some (.lst us) ∧ B a = none ∧
  Same B H ∧ DpAll K B us cs ∧ DpAll K B ws ds ∧ ∀ v H' us', (∀ b o, b ≠ a → H b = some o → H' b = some o) → H' a = some (.lst us') → DpAll K (gro B H H') us' cs' → Dp K (gro B H H') v d → Q v H'
/-- .. that hands back a new list of ints -/
def spN (K : PySem.W.Frag) (n : Nat) (φ : List PyData → List Int → Prop) : Sp := fun vs H Q _ => ∃ (B : Hp) (ds : List PyData) (ns : List Int), φ ds ns ∧ ds.length = n ∧ Same B H ∧ DpAll K B vs ds ∧ ∀ p H', Same H H' → H p = none → H' p = some (.lst (ns.map V.int)) → Q (.ref p) H'
/-- the slots at a def's entry -/
def rho (ds : List PyData) (m : Nat) : List Sl := ds.map Sl.val ++ List.replicate m .no
section
variable {P : Program} {w : World} {K : PySem.W.Frag} {mg : Str → Option Value} {base : Heap} {x qual : Str} {st : Stmt} {f : Addr} {fd : FuncData} {N ps : List Str} {k : Nat}
theorem start_get {vs : List V} {i : Nat} {v : V} (h : vs[i]? = some v) : (L2.start N vs)[i]? = some (some v) := by
  unfold L2.start
  rw [List.getElem?_append_left (by have := (List.getElem?_eq_some_iff.mp h).1; simpa using this), List.getElem?_map, h]
  rfl
theorem fd_of {φ : List PyData → PyData → Prop} (F : Fun K x qual st f fd) (S : FnScope N ps (defScope st)) (hl : ps.length ≤ N.length)
    (body : ∀ (cdv : Value) (A : Around) (outer : List Env) (s : Shared) (H : Hp) (E : XK), Room k (A.deeper (envOfC qual (defScope st) s.heap.objs.size f cdv)) → ∀ ds d, φ ds d → ds.length = ps.length →
      SS (cxOf CX0 P w K mg base N qual (defScope st) f cdv A outer s H E).nox [] (defBody st) (rho ds (N.length - ps.length)) (fun _ => d = .none) (RDt K fun d' _ => d' = d)) :
    FnOk P w K mg base CX0 (k + 1) f fd ps (spD K ps.length φ) := by
  refine F.ok S (fun vs H Q E h => ?_) (fun cdv A outer s H vs Q E hr h => ?_)
  · obtain ⟨B, ds, d, _, h1, _, h2, _⟩ := h
    rw [DpAll.len h2, h1]
  · obtain ⟨B, ds, d, hφ, h1, kr, ha, q⟩ := h
    have lv : vs.length = ps.length := by rw [DpAll.len ha, h1]
    refine ⟨_, pss_s, body cdv A outer s H E hr ds d hφ h1 (L2.start N vs) B H (fun _ _ _ h => h) (L2.start N vs) B H _ ?_ ?_ ?_⟩
    · refine ⟨Same.refl _, Same.refl _, kr, fun b o h _ => h, fun i hi => (nomatch hi), ?_, fun i e hi => ?_, fun i e hi => ?_, fun i j e1 e2 hi _ => ?_⟩
      · unfold rho L2.start
        simp [h1, lv]
      · unfold rho at hi
        by_cases q : i < ds.length
        · rw [List.getElem?_append_left (by simpa using q), List.getElem?_map, List.getElem?_eq_getElem q] at hi
          have hi := Option.some.inj hi
          injection hi with hi
          obtain ⟨v, s1, s2⟩ := DpAll.get ha (List.getElem?_eq_getElem q)
          subst hi
          exact ⟨v, start_get s1, s2⟩
        · rw [List.getElem?_append_right (by simpa using q), List.getElem?_replicate] at hi
          split at hi
          · cases Option.some.inj hi
          · cases hi
      all_goals
        exfalso
        unfold rho at hi
        by_cases q : i < ds.length
        · rw [List.getElem?_append_left (by simpa using q), List.getElem?_map, List.getElem?_eq_getElem q] at hi
          cases Option.some.inj hi
        · rw [List.getElem?_append_right (by simpa using q), List.getElem?_replicate] at hi
          split at hi
          · cases Option.some.inj hi
          · cases hi
    · intro ρ' σ' Hk' Hr' e I' _
      subst e
      exact q .non Hr' I'.real .non
    · rintro v ρ' σ' Hk' Hr' ⟨d', e, hv⟩ I'
      subst e
      refine q v Hr' I'.real (Dp.mono (fun b o h => ?_) _ hv)
      cases z : H b with
      | none => rw [gro_new z]; exact I'.kr _ _ h
      | some u => rw [gro_old z]; exact I'.old b o h (by rw [z]; exact fun z => nomatch z)
theorem fdN_of {φ : List PyData → List Int → Prop} (F : Fun K x qual st f fd) (S : FnScope N ps (defScope st)) (hl : ps.length ≤ N.length)
    (body : ∀ (cdv : Value) (A : Around) (outer : List Env) (s : Shared) (H : Hp) (E : XK), Room k (A.deeper (envOfC qual (defScope st) s.heap.objs.size f cdv)) → ∀ ds ns, φ ds ns → ds.length = ps.length →
      SS (cxOf CX0 P w K mg base N qual (defScope st) f cdv A outer s H E).nox [] (defBody st) (rho ds (N.length - ps.length)) (fun _ => False) (RNew fun ms => ms = ns)) :
    FnOk P w K mg base CX0 (k + 1) f fd ps (spN K ps.length φ) := by
  refine F.ok S (fun vs H Q E h => ?_) (fun cdv A outer s H vs Q E hr h => ?_)
  · obtain ⟨B, ds, ns, _, h1, _, h2, _⟩ := h
    rw [DpAll.len h2, h1]
  · obtain ⟨B, ds, ns, hφ, h1, kr, ha, q⟩ := h
    have lv : vs.length = ps.length := by rw [DpAll.len ha, h1]
    refine ⟨_, pss_s, body cdv A outer s H E hr ds ns hφ h1 (L2.start N vs) B H (fun _ _ _ h => h) (L2.start N vs) B H _ ?_ ?_ ?_⟩
    · refine ⟨Same.refl _, Same.refl _, kr, fun b o h _ => h, fun i hi => (nomatch hi), ?_, fun i e hi => ?_, fun i e hi => ?_, fun i j e1 e2 hi _ => ?_⟩
      · unfold rho L2.start
        simp [h1, lv]
      · unfold rho at hi
        by_cases q : i < ds.length
        · rw [List.getElem?_append_left (by simpa using q), List.getElem?_map, List.getElem?_eq_getElem q] at hi
          have hi := Option.some.inj hi
          injection hi with hi
          obtain ⟨v, s1, s2⟩ := DpAll.get ha (List.getElem?_eq_getElem q)
          subst hi
          exact ⟨v, start_get s1, s2⟩
        · rw [List.getElem?_append_right (by simpa using q), List.getElem?_replicate] at hi
          split at hi
          · cases Option.some.inj hi
          · cases hi
      all_goals
        exfalso
        unfold rho at hi
        by_cases q : i < ds.length
        · rw [List.getElem?_append_left (by simpa using q), List.getElem?_map, List.getElem?_eq_getElem q] at hi
          cases Option.some.inj hi
        · rw [List.getElem?_append_right (by simpa using q), List.getElem?_replicate] at hi
          split at hi
          · cases Option.some.inj hi
          · cases hi
    · intro ρ' σ' Hk' Hr' e I' _
      exact e.elim
    · rintro v ρ' σ' Hk' Hr' ⟨p, ms, rfl, hp, hl, rfl⟩ I'
      exact q p Hr' I'.real hp hl
theorem fdB_of {n : Nat} {φ : List PyData → List PyData → PyData → List PyData → Prop} (F : Fun K x qual st f fd) (S : FnScope N ps (defScope st)) (hn : ps.length = n + 1) (hl : ps.length ≤ N.length)
    (body : ∀ (cdv : Value) (A : Around) (outer : List Env) (s : Shared) (H : Hp) (E : XK), Room k (A.deeper (envOfC qual (defScope st) s.heap.objs.size f cdv)) → ∀ cs ds d cs', φ cs ds d cs' → ds.length = n →
      SS (cxOf CX0 P w K mg base N qual (defScope st) f cdv A outer s H E).nox [0] (defBody st) (.own cs :: rho ds (N.length - ps.length)) (fun ρ' => d = .none ∧ ρ'[0]? = some (.own cs')) (RDt K fun d' ρ' => d' = d ∧ ρ'[0]? = some (.own cs'))) :
    FnOk P w K mg base CX0 (k + 1) f fd ps (spB K n φ) := by
  refine F.ok S (fun vs H Q E h => ?_) (fun cdv A outer s H vs Q E hr h => ?_)
  · obtain ⟨B, a, ws, us, cs, ds, d, cs', _, h1, rfl, _, _, _, _, h2, _⟩ := h
    rw [List.length_cons, DpAll.len h2, h1, hn]
  · obtain ⟨B, a, ws, us, cs, ds, d, cs', hφ, h1, rfl, ua, ba, kr, hcs, ha, q⟩ := h
    have lv : ws.length = n := by rw [DpAll.len ha, h1]
    have fin : ∀ ρ' σ' Hk' Hr' v, ρ'[0]? = some (.own cs') → Ok K [0] (L2.start N (.ref a :: ws)) B (fun b => if b = a then none else H b) ρ' σ' Hk' Hr' → Dp K Hk' v d → Q v Hr' := fun ρ' σ' Hk' Hr' v e I' hv => by
      obtain ⟨a', us', t1, t2, t3, t4, t5⟩ := I'.own 0 cs' e
      have b0 := I'.bor 0 (by simp)
      rw [t1, start_get (v := .ref a) rfl] at b0
      injection b0 with b0; injection b0 with b0; injection b0 with b0; subst b0
      have up : Same Hk' (gro B H Hr') := fun b o h => by
        cases z : H b with
        | none => rw [gro_new z]; exact I'.kr _ _ h
        | some u =>
          rw [gro_old z]
          refine I'.old b o h ?_
          by_cases ba : b = a'
          · subst ba
            rw [t3] at h
            cases h
          · show (if b = a' then none else H b) ≠ none
            rw [if_neg ba, z]
            exact fun z => nomatch z
      refine q v Hr' us' (fun b o hb h => I'.real b o ?_) t2 (DpAll.mono up _ t5) (Dp.mono up _ hv)
      show (if b = a' then none else H b) = some o
      rw [if_neg hb]
      exact h
    refine ⟨_, pss_s, body cdv A outer s H E hr cs ds d cs' hφ h1 (L2.start N (.ref a :: ws)) B (fun b => if b = a then none else H b) (fun h => nomatch h) (L2.start N (.ref a :: ws)) B H _ ?_ ?_ ?_⟩
    · refine ⟨Same.refl _, fun b o h => ?_, kr, fun b o h _ => h, fun i hi => rfl, ?_, fun i e hi => ?_, fun i e hi => ?_, fun i j e1 e2 hi hj hn => ?_⟩
      · have h' : (if b = a then none else H b) = some o := h
        split at h'
        · cases h'
        · exact h'
      · unfold rho L2.start
        simp [h1, lv, hn]
      · cases i with
        | zero => cases hi
        | succ i =>
          have hi : (rho ds (N.length - ps.length))[i]? = some (.val e) := by simpa using hi
          unfold rho at hi
          by_cases q : i < ds.length
          · rw [List.getElem?_append_left (by simpa using q), List.getElem?_map, List.getElem?_eq_getElem q] at hi
            have hi := Option.some.inj hi
            injection hi with hi
            obtain ⟨v, s1, s2⟩ := DpAll.get ha (List.getElem?_eq_getElem q)
            subst hi
            exact ⟨v, start_get (by simpa using s1), s2⟩
          · rw [List.getElem?_append_right (by simpa using q), List.getElem?_replicate] at hi
            split at hi
            · cases Option.some.inj hi
            · cases hi
      · cases i with
        | zero =>
          have hi := Option.some.inj hi
          injection hi with hi
          subst hi
          exact ⟨a, us, start_get rfl, ua, ba, if_pos rfl, hcs⟩
        | succ i =>
          exfalso
          have hi : (rho ds (N.length - ps.length))[i]? = some (.own e) := by simpa using hi
          unfold rho at hi
          by_cases q : i < ds.length
          · rw [List.getElem?_append_left (by simpa using q), List.getElem?_map, List.getElem?_eq_getElem q] at hi
            cases Option.some.inj hi
          · rw [List.getElem?_append_right (by simpa using q), List.getElem?_replicate] at hi
            split at hi
            · cases Option.some.inj hi
            · cases hi
      · exfalso
        have key : ∀ {i : Nat} {e : List PyData}, (Sl.own cs :: rho ds (N.length - ps.length))[i + 1]? = some (.own e) → False := fun {i e} hi => by
          have hi : (rho ds (N.length - ps.length))[i]? = some (.own e) := by simpa using hi
          unfold rho at hi
          by_cases q : i < ds.length
          · rw [List.getElem?_append_left (by simpa using q), List.getElem?_map, List.getElem?_eq_getElem q] at hi
            cases Option.some.inj hi
          · rw [List.getElem?_append_right (by simpa using q), List.getElem?_replicate] at hi
            split at hi
            · cases Option.some.inj hi
            · cases hi
        cases i with
        | zero =>
          cases j with
          | zero => exact hn rfl
          | succ j => exact key hj
        | succ i => exact key hi
    · intro ρ' σ' Hk' Hr' e I' _
      obtain ⟨e1, e2⟩ := e
      subst e1
      exact fin ρ' σ' Hk' Hr' .non e2 I' .non
    · rintro v ρ' σ' Hk' Hr' ⟨d', ⟨e1, e2⟩, hv⟩ I'
      subst e1
      exact fin ρ' σ' Hk' Hr' v e2 I' hv
end
/-! ### calls -/
section
variable {X : Cx} {bi : List Nat} {e : Expr} {es : List Expr} {rest : List Stmt} {ρ ρ1 : List Sl} {N : List Sl → Prop} {R : RTy} {ds : List PyData} {pos cpos p0 p1 : Pos} {x y : Str} {f : Addr} {fd : FuncData} {ps : List Str} {k n m : Nat} {ns : List Int}
theorem ss_callN {φ : List PyData → List Int → Prop} (F : FnOk X.prog X.w X.K X.mg X.base CX0 k f fd ps (spN X.K n φ)) (hr : Room k X.A) (hm : X.mg x = some (.ref f)) (hk : PySem.W.keepIn X.K (.ref f) = true) (hb : Binds X.K fd ps []) (ha : EA X (e :: es) ρ ds ρ1) (h : φ ds ns) (hl : ds.length = n)
    (hN : X.N.Nodup) (hi : X.N[m]? = some y) (hmb : m ∉ bi) (hrest : SS X bi rest (ρ1.set m (.own (ns.map PyData.int))) N R) (hg : Gl X x := by rfl) (hdb : (x == ("__debug__" : Str)) = false := by decide) (he : starEach (e :: es) X.env = (false, eval e X.env) :: starEach es X.env := by rfl) (hpl : (backTo cpos (starEach es X.env)).any (·.1) = false := by rfl)
    (hx : Loc X.env.scope y := by first | exact Or.inl rfl | exact Or.inr rfl) (hs : swapsWith (.Call (.Name x p0) (e :: es) [] cpos) (some (.Name y p1)) pos.line X.env = pure false := by rfl) (hf : X.fn y = true ∨ X.env.scope.names.lookup y = some .local := by first | exact .inl rfl | exact .inr rfl) :
    SS X bi (.Assign [.Name y p1] (.Call (.Name x p0) (e :: es) [] cpos) pos :: rest) ρ N R := fun σ0 B H0 hz σ Hk Hr D I nx rt =>
  sSs_of (pss_cons (ps_set hN hi hx (pe_call (E := E0) F hr hg hm hk hb .nil pass0 pa_s hdb he hpl) hs hf) pss_s) (ha bi σ0 B H0 σ Hk Hr I _ fun vs Hk1 Hr1 I1 m1 h1 => by
    show spN X.K n φ (vs ++ []) Hr1 _ E0
    rw [List.append_nil]
    exact ⟨Hk1, ds, ns, h, hl, I1.kr, h1, fun p H' e' hp hH => hrest σ0 B H0 hz _ Hk1 H' D (I1.own_set hmb hp e' hH (DpAll.of_ints ns)) (fun ρ' σ' Hk' Hr' q I' m' => nx ρ' σ' Hk' Hr' q I' (m1.trans m')) rt⟩)
end
section
variable {X : Cx} {e : Expr} {es : List Expr} {ρ ρ1 : List Sl} {d : PyData} {ds cs cs1 cs2 : List PyData} {pos p0 p1 : Pos} {x y : Str} {f : Addr} {fd : FuncData} {ps : List Str} {k n i : Nat}
theorem ee_call {φ : List PyData → PyData → Prop} (F : FnOk X.prog X.w X.K X.mg X.base CX0 k f fd ps (spD X.K n φ)) (hr : Room k X.A) (hm : X.mg x = some (.ref f)) (hk : PySem.W.keepIn X.K (.ref f) = true) (hb : Binds X.K fd ps []) (ha : EA X (e :: es) ρ ds ρ1) (h : φ ds d) (hn : ds.length = n := by rfl)
    (hg : Gl X x := by rfl) (hdb : (x == ("__debug__" : Str)) = false := by decide) (he : starEach (e :: es) X.env = (false, eval e X.env) :: starEach es X.env := by rfl) (hpl : (backTo pos (starEach es X.env)).any (·.1) = false := by rfl) : EE X (.Call (.Name x p0) (e :: es) [] pos) ρ d ρ1 := fun bi σ0 B H0 σ Hk Hr I Q q =>
  sE_of (pe_call (E := E0) F hr hg hm hk hb .nil pass0 pa_s hdb he hpl) (ha bi σ0 B H0 σ Hk Hr I _ fun vs Hk1 Hr1 I1 m1 h1 => by
    rw [List.append_nil]
    exact ⟨Hk1, ds, d, h, hn, I1.kr, h1, fun v H' e' hv => q v _ H' (I1.gro e') (m1.trans (gro_same I1.kr)) hv⟩)
theorem ee_callS {φ : List PyData → List PyData → PyData → List PyData → Prop} (F : FnOk X.prog X.w X.K X.mg X.base CX0 k f fd ps (spB X.K n φ)) (hr : Room k X.A) (hm : X.mg x = some (.ref f)) (hk : PySem.W.keepIn X.K (.ref f) = true) (hb : Binds X.K fd ps []) (hN : X.N[i]? = some y) (hi : ρ[i]? = some (.own cs))
    (ha : EA X es ρ ds ρ1) (hi1 : ρ1[i]? = some (.own cs1)) (h : φ cs1 ds d cs2) (hn : ds.length = n := by rfl) (hv : Vis X.env.scope y := by first | exact Or.inl rfl | exact Or.inr (Or.inl rfl) | exact Or.inr (Or.inr rfl)) (hd : (y == ("__debug__" : Str)) = false := by decide)
    (hcd : (y == ("__classdict__" : Str)) = false := by decide) (hg : Gl X x := by rfl) (hdb : (x == ("__debug__" : Str)) = false := by decide) (he : starEach (.Name y p1 :: es) X.env = (false, eval (.Name y p1) X.env) :: starEach es X.env := by rfl) (hpl : (backTo pos (starEach es X.env)).any (·.1) = false := by rfl) :
    EE X (.Call (.Name x p0) (.Name y p1 :: es) [] pos) ρ d (ρ1.set i (.own cs2)) := fun bi σ0 B H0 σ Hk Hr I Q q => by
  obtain ⟨a0, vs0, t1, t2, t3, t4, t5⟩ := I.own i cs hi
  refine sE_of (pe_call (E := E0) F hr hg hm hk hb .nil pass0 (pa_cons (pe_var hN hv hd hcd) pa_s he) hdb he hpl) ⟨.ref a0, t1, ha bi σ0 B H0 σ Hk Hr I _ fun vs Hk1 Hr1 I1 m1 h1 => ?_⟩
  show spB X.K n φ ((V.ref a0 :: vs) ++ []) Hr1 Q E0
  rw [List.append_nil]
  obtain ⟨a1, vs1, u1, u2, u3, u4, u5⟩ := I1.own i cs1 hi1
  have ea : a0 = a1 := by
    rw [t1] at u1
    injection u1 with u1; injection u1 with u1; injection u1
  subst ea
  have hli : i < ρ1.length := (List.getElem?_eq_some_iff.mp hi1).1
  refine ⟨Hk1, a0, vs, vs1, cs1, ds, d, cs2, h, hn, rfl, u2, u3, I1.kr, u5, h1, fun v H' us' far ha' hus hv => ?_⟩
  have kr' : Same (gro Hk1 Hr1 H') H' := fun b o hb => by
    cases z : Hr1 b with
    | none => rw [gro_new z] at hb; exact hb
    | some u =>
      rw [gro_old z] at hb
      exact far b o (ne_of_none hb u3) (I1.kr _ _ hb)
  refine q v (gro Hk1 Hr1 H') H' ⟨I1.base.trans (gro_same I1.kr), fun b o hb => far b o (ne_of_none hb u4) (I1.real _ _ hb), kr', fun b o hb h0 => ?_, I1.bor, by simp [I1.len], fun j e hj => ?_, fun j zs hj => ?_, fun j l es1 es2 hj hl2 hne => ?_⟩ (m1.trans (gro_same I1.kr)) hv
  · cases z : Hr1 b with
    | none =>
      cases z0 : H0 b with
      | none => exact absurd z0 h0
      | some u =>
        rw [I1.real _ _ z0] at z
        cases z
    | some u =>
      rw [gro_old z] at hb
      exact I1.old b o hb h0
  · by_cases qq : i = j
    · subst qq
      rw [List.getElem?_set_self hli] at hj
      cases hj
    · rw [List.getElem?_set_ne qq] at hj
      obtain ⟨v1, s1, s2⟩ := I1.val j e hj
      exact ⟨v1, s1, Dp.mono (gro_same I1.kr) _ s2⟩
  · by_cases qq : i = j
    · subst qq
      rw [List.getElem?_set_self hli] at hj
      have hj := Option.some.inj hj
      injection hj with hj
      subst hj
      exact ⟨a0, us', u1, ha', by rw [gro_old u2]; exact u3, u4, hus⟩
    · rw [List.getElem?_set_ne qq] at hj
      obtain ⟨b, us, s1, s2, s3, s4, s5⟩ := I1.own j zs hj
      refine ⟨b, us, s1, far b _ (fun z => ?_) s2, by rw [gro_old s2]; exact s3, s4, DpAll.mono (gro_same I1.kr) _ s5⟩
      subst z
      exact I1.dis i j cs1 zs hi1 hj qq (u1.trans s1.symm)
  · have g : ∀ {m : Nat} {zs : List PyData}, (ρ1.set i (.own cs2))[m]? = some (.own zs) → ∃ us, ρ1[m]? = some (.own us) := fun {m zs} hm => by
      by_cases qq : i = m
      · subst qq
        exact ⟨_, hi1⟩
      · rw [List.getElem?_set_ne qq] at hm
        exact ⟨_, hm⟩
    obtain ⟨z1, g1⟩ := g hj
    obtain ⟨z2, g2⟩ := g hl2
    exact I1.dis j l z1 z2 g1 g2 hne
end
end Pd
namespace Pd
open PySem L2 PySem.Spec PyProof.Rows

def GE (K : PySem.W.Frag) (te : TE) (ρ : List Sl) (d : PyData) (ρ' : List Sl) : Prop :=
  ∀ (bi : List Nat) (σ0 : L2.St) (B H0 : Hp) (σ : L2.St) (Hk Hr : Hp), Ok K bi σ0 B H0 ρ σ Hk Hr → ∀ Q : VK, (∀ v Hk' Hr', Ok K bi σ0 B H0 ρ' σ Hk' Hr' → Same Hk Hk' → Dp K Hk' v d → Q v Hr') → te σ Hr Q
def GT (K : PySem.W.Frag) (tt : TT) (ρ : List Sl) (b : Bool) (ρ' : List Sl) : Prop :=
  ∀ (bi : List Nat) (σ0 : L2.St) (B H0 : Hp) (σ : L2.St) (Hk Hr : Hp), Ok K bi σ0 B H0 ρ σ Hk Hr → ∀ Q : Bool → Hp → Prop, (∀ Hk' Hr', Ok K bi σ0 B H0 ρ' σ Hk' Hr' → Same Hk Hk' → Q b Hr') → tt σ Hr Q
def wipeS (ρ : List Sl) : List Nat → List Sl
  | [] => ρ
  | v :: vs => (wipeS ρ vs).set v .no
/-- a target that writes the slots vs alone -/
def GW (g : TG) (vs : List Nat) : Prop := ∀ v σ H (Q : L2.St → Hp → Prop), (g v (wipe σ vs) H fun σ2 H2 => wipe σ2 vs = wipe σ vs → Q σ2 H2) → g v (wipe σ vs) H fun σ2 H2 => wipe σ2 vs = wipe σ vs ∧ Q σ2 H2
theorem gw_name {n : Nat} : GW (gName n) [n] := fun v σ H Q h => by
  have z : wipe ((wipe σ [n]).set n (some v)) [n] = wipe σ [n] := by show ((σ.set n none).set n (some v)).set n none = σ.set n none; rw [List.set_set, List.set_set]
  exact ⟨z, h z⟩
theorem gw_pair {K : PySem.W.Frag} {i j : Nat} (h : i ≠ j) : GW (gTup K 2 (gCons (gName i) (gCons (gName j) gNil))) [i, j] := fun v σ H Q q => by
  obtain ⟨a, xs, rfl, hs, hl, x, r, rfl, y, r2, rfl, rfl, q⟩ := q
  have z : wipe (((wipe σ [i, j]).set i (some x)).set j (some y)) [i, j] = wipe σ [i, j] := ?_
  · exact ⟨a, _, rfl, hs, hl, x, _, rfl, y, _, rfl, rfl, z, q z⟩
  show (((((σ.set j none).set i none).set i (some x)).set j (some y)).set j none).set i none = (σ.set j none).set i none
  rw [List.set_set, List.set_set, List.set_comm _ _ h, List.set_set, List.set_set]

section
variable {K : PySem.W.Frag} {bi bi' : List Nat} {σ0 σ0' σ σ' : L2.St} {B H0 Hk Hr : Hp} {ρ ρ' : List Sl}
/-- other slots' values -/
theorem Ok.swap (I : Ok K bi σ0 B H0 ρ σ Hk Hr) (hb : ∀ i ∈ bi', σ'[i]? = σ0'[i]?) (hl : ρ'.length = σ'.length) (h : ∀ (i : Nat) (x : Sl), ρ'[i]? = some x → x = .no ∨ (ρ[i]? = some x ∧ σ'[i]? = σ[i]?)) : Ok K bi' σ0' B H0 ρ' σ' Hk Hr where
  base := I.base
  real := I.real
  kr := I.kr
  old := I.old
  bor := hb
  len := hl
  val := fun i d hi => by
    rcases h i _ hi with e | ⟨e1, e2⟩
    · cases e
    · rw [e2]; exact I.val i d e1
  own := fun i ds hi => by
    rcases h i _ hi with e | ⟨e1, e2⟩
    · cases e
    · rw [e2]; exact I.own i ds e1
  dis := fun i j ds es hi hj n => by
    rcases h i _ hi with e | ⟨e1, e2⟩
    · cases e
    · rcases h j _ hj with e | ⟨e3, e4⟩
      · cases e
      · rw [e2, e4]; exact I.dis i j ds es e1 e3 n
/-- an address of a list of the def's own -/
def Ow (ρ : List Sl) (σ : L2.St) (b : Addr) : Prop := ∃ (i : Nat) (ds : List PyData), ρ[i]? = some (Sl.own ds) ∧ σ[i]? = some (some (V.ref b))
/-- what stands, the def's own lists left out -/
noncomputable def fen (ρ : List Sl) (σ : L2.St) (Hr : Hp) : Hp := by
  classical
  exact fun b => if Ow ρ σ b then none else Hr b
theorem fen_own {b : Addr} {i : Nat} {ds : List PyData} (h : ρ[i]? = some (Sl.own ds)) (s : σ[i]? = some (some (V.ref b))) : fen ρ σ Hr b = none := by
  unfold fen
  exact if_pos ⟨i, ds, h, s⟩
theorem fen_not {b : Addr} (h : ¬ Ow ρ σ b) : fen ρ σ Hr b = Hr b := by
  unfold fen
  exact if_neg h
theorem fen_sub {b : Addr} {o : HO} (h : fen ρ σ Hr b = some o) : Hr b = some o ∧ ¬ Ow ρ σ b := by
  unfold fen at h
  split at h
  · cases h
  · rename_i q
    exact ⟨h, q⟩
theorem Ok.inner (I : Ok K bi σ0 B H0 ρ σ Hk Hr) : Ok K [] σ Hk (fen ρ σ Hr) ρ σ Hk Hr where
  base := Same.refl _
  real := fun b o h => (fen_sub h).1
  kr := I.kr
  old := fun b o h _ => h
  bor := fun i hi => nomatch hi
  len := I.len
  val := I.val
  own := fun i ds h => by
    obtain ⟨a, vs, q1, q2, q3, q4, q5⟩ := I.own i ds h
    exact ⟨a, vs, q1, q2, q3, fen_own h q1, q5⟩
  dis := I.dis
theorem Ok.outer {Hk' Hr' : Hp} {bi2 : List Nat} {σ02 : L2.St} (I : Ok K bi σ0 B H0 ρ σ Hk Hr) (I' : Ok K bi2 σ02 Hk (fen ρ σ Hr) ρ' σ' Hk' Hr') : Ok K bi2 σ02 B H0 ρ' σ' Hk' Hr' where
  base := I.base.trans I'.base
  real := fun b o h => by
    have h1 := I.real b o h
    refine I'.real b o ?_
    rw [fen_not]
    · exact h1
    · rintro ⟨i, ds, q1, q2⟩
      obtain ⟨a, vs, s1, s2, s3, s4, s5⟩ := I.own i ds q1
      rw [q2] at s1
      injection s1 with s1; injection s1 with s1; injection s1 with s1; subst s1
      rw [h] at s4
      cases s4
  kr := I'.kr
  old := fun b o h h0 => by
    have h1 : Hk b = some o := by
      refine I'.old b o h ?_
      cases z : H0 b with
      | none => exact absurd z h0
      | some u =>
        rw [fen_not]
        · rw [I.real _ _ z]; exact fun z => nomatch z
        · rintro ⟨i, ds, q1, q2⟩
          obtain ⟨a, vs, s1, s2, s3, s4, s5⟩ := I.own i ds q1
          rw [q2] at s1
          injection s1 with s1; injection s1 with s1; injection s1 with s1; subst s1
          rw [z] at s4
          cases s4
    exact I.old b o h1 h0
  bor := I'.bor
  len := I'.len
  val := I'.val
  own := fun i ds h => by
    obtain ⟨a, vs, q1, q2, q3, q4, q5⟩ := I'.own i ds h
    refine ⟨a, vs, q1, q2, q3, ?_, q5⟩
    cases z : H0 a with
    | none => rfl
    | some u =>
      have h1 := I.real _ _ z
      by_cases w : Ow ρ σ a
      · obtain ⟨i2, ds2, r1, r2⟩ := w
        obtain ⟨a2, vs2, s1, s2, s3, s4, s5⟩ := I.own i2 ds2 r1
        rw [r2] at s1
        injection s1 with s1; injection s1 with s1; injection s1 with s1; subst s1
        rw [z] at s4
        cases s4
      · rw [fen_not w, h1] at q4
        cases q4
  dis := I'.dis
theorem Ok.put (I : Ok K bi σ0 B H0 ρ σ Hk Hr) {D : Addr} {o : HO} (hk : Hk D = none) (h0 : H0 D = none) (hn : ¬ Ow ρ σ D) : Ok K bi σ0 B H0 ρ σ Hk (upd Hr D o) where
  base := I.base
  real := fun b u h => by rw [upd_ne (ne_of_none h h0)]; exact I.real _ _ h
  kr := fun b u h => by rw [upd_ne (ne_of_none h hk)]; exact I.kr _ _ h
  old := I.old
  bor := I.bor
  len := I.len
  val := I.val
  own := fun i ds h => by
    obtain ⟨a, vs, q1, q2, q3, q4, q5⟩ := I.own i ds h
    refine ⟨a, vs, q1, ?_, q3, q4, q5⟩
    rw [upd_ne (show a ≠ D from fun z => hn ⟨i, ds, h, by rw [← z]; exact q1⟩)]
    exact q2
  dis := I.dis
theorem Ok.learn (I : Ok K bi σ0 B H0 ρ σ Hk Hr) {D : Addr} {o : HO} (hk : Hk D = none) (h0 : H0 D = none) (hr : Hr D = some o) (hn : ¬ Ow ρ σ D) : Ok K bi σ0 B H0 ρ σ (upd Hk D o) Hr := by
  have e : Same Hk (upd Hk D o) := new_same hk o
  refine ⟨I.base.trans e, I.real, fun b u h => ?_, fun b u h hb => ?_, I.bor, I.len, fun i d h => ?_, fun i ds h => ?_, I.dis⟩
  · by_cases z : b = D
    · subst z
      rw [upd_same] at h
      rw [hr]; exact h
    · rw [upd_ne z] at h
      exact I.kr _ _ h
  · by_cases z : b = D
    · subst z
      exact absurd h0 hb
    · rw [upd_ne z] at h
      exact I.old _ _ h hb
  · obtain ⟨v, q1, q2⟩ := I.val i d h
    exact ⟨v, q1, Dp.mono e d q2⟩
  · obtain ⟨a, vs, q1, q2, q3, q4, q5⟩ := I.own i ds h
    refine ⟨a, vs, q1, q2, ?_, q4, DpAll.mono e ds q5⟩
    rw [upd_ne (show a ≠ D from fun z => hn ⟨i, ds, h, by rw [← z]; exact q1⟩)]
    exact q3
end
theorem wipeS_len (ρ : List Sl) : ∀ vs, (wipeS ρ vs).length = ρ.length
  | [] => rfl
  | v :: vs => by unfold wipeS; rw [List.length_set, wipeS_len ρ vs]
theorem wipeS_get {ρ : List Sl} {i : Nat} {x : Sl} : ∀ {vs : List Nat}, (wipeS ρ vs)[i]? = some x → x = .no ∨ (i ∉ vs ∧ ρ[i]? = some x)
  | [], h => .inr ⟨by simp, h⟩
  | v :: vs, h => by
    unfold wipeS at h
    by_cases q : v = i
    · subst q
      have hl : v < (wipeS ρ vs).length := by
        have := (List.getElem?_eq_some_iff.mp h).1
        simpa using this
      rw [List.getElem?_set_self hl] at h
      exact .inl (Option.some.inj h).symm
    · rw [List.getElem?_set_ne q] at h
      rcases wipeS_get h with e | ⟨e1, e2⟩
      · exact .inl e
      · exact .inr ⟨by simp [e1, Ne.symm q], e2⟩
/-- a list comprehension: J (turn, what is made, slots) -/
theorem lc_raw {K : PySem.W.Frag} {wi : TI} {g : TG} {tt : TT} {te : TE} {vs : List Nat} {ρ ρ1 : List Sl} {ds : List PyData}
    (hi : ∀ (bi : List Nat) (σ0 : L2.St) (B H0 : Hp) (σ : L2.St) (Hk Hr : Hp), Ok K bi σ0 B H0 ρ σ Hk Hr → ∀ R : It → Hp → Prop, (∀ J Hk' Hr', Ok K bi σ0 B H0 ρ1 σ Hk' Hr' → Same Hk Hk' → Wk K J ds Hk' → R J Hr') → wi σ Hr R)
    (hw : GW g vs) (J : Nat → List PyData → List Sl → Prop) (h0 : J 0 [] ρ1) (hv : ∀ j acc ρj, J j acc ρj → ∀ i ∈ vs, ρj[i]? = some .no)
    (ht : ∀ j d acc ρj, ds[j]? = some d → J j acc ρj → acc.length < 100000 ∧ ∃ ρd b ρb, EG K [] g ρj d ρd ∧ GT K tt ρd b ρb ∧ (b = true → ∃ e ρe, GE K te ρb e ρe ∧ J (j + 1) (acc ++ [e]) (wipeS ρe vs)) ∧ (b = false → J (j + 1) acc (wipeS ρb vs)))
    (bi : List Nat) (σ0 : L2.St) (B H0 : Hp) (σ : L2.St) (Hk Hr : Hp) (I : Ok K bi σ0 B H0 ρ σ Hk Hr) (Q : VK)
    (q : ∀ D avs Hk' Hr' acc ρ', J ds.length acc ρ' → Ok K bi σ0 B H0 ρ' σ Hk' Hr' → Same Hk Hk' → Hr' D = some (.lst avs) → Hk' D = none → H0 D = none → ¬ Ow ρ' σ D → DpAll K Hk' avs acc → Q (.ref D) Hr') : tLc wi g tt te vs σ Hr Q := by
  refine hi bi σ0 B H0 σ Hk Hr I _ fun Jt Hk1 Hr1 I1 m1 wk D nD => ?_
  have nk1 : Hk1 D = none := by
    cases z : Hk1 D with
    | none => rfl
    | some u => rw [I1.kr _ _ z] at nD; cases nD
  have n01 : H0 D = none := by
    cases z : H0 D with
    | none => rfl
    | some u => rw [I1.real _ _ z] at nD; cases nD
  have no1 : ¬ Ow ρ1 σ D := by
    rintro ⟨i, ds, q1, q2⟩
    obtain ⟨a, vs, s1, s2, _⟩ := I1.own i ds q1
    rw [q2] at s1
    injection s1 with s1; injection s1 with s1; injection s1 with s1; subst s1
    rw [nD] at s2
    cases s2
  refine ⟨fun i m H => i + m = ds.length ∧ ∃ acc avs ρ' Hk', J i acc ρ' ∧ Ok K bi σ0 B H0 ρ' σ Hk' H ∧ Same Hk1 Hk' ∧ Hk' D = none ∧ H D = some (.lst avs) ∧ DpAll K Hk' avs acc ∧ ¬ Ow ρ' σ D,
    ⟨ds.length, by omega, [], [], ρ1, Hk1, h0, I1.put nk1 n01 no1, Same.refl _, nk1, upd_same, .nil, no1⟩, fun i m H hW => ?_⟩
  obtain ⟨em, acc, avs, ρ', Hk', jj, I', m', nk, hD, hacc, no⟩ := hW
  obtain ⟨w1, w2, w3⟩ := wk i H (m'.trans I'.kr)
  by_cases hi : i < ds.length
  · refine .inr ⟨w1 hi, fun H2 => ∃ acc avs ρ' Hk', J (i + 1) acc ρ' ∧ Ok K bi σ0 B H0 ρ' σ Hk' H2 ∧ Same Hk1 Hk' ∧ Hk' D = none ∧ H2 D = some (.lst avs) ∧ DpAll K Hk' avs acc ∧ ¬ Ow ρ' σ D,
      fun H2 hN => ⟨m - 1, by omega, by omega, hN⟩, fun xv H2 hy => ?_⟩
    obtain ⟨e2, fd⟩ := w3 xv H2 hy
    have hd := List.getElem?_eq_getElem hi
    obtain ⟨hlen, ρd, b, ρb, eg, gt, hT, hF⟩ := ht i _ acc ρ' hd jj
    have I2 := I'.gro e2
    have s2 : Same Hk' (gro Hk' H H2) := gro_same I'.kr
    -- the slots of the block
    have Iw : Ok K [] (wipe σ vs) B H0 ρ' (wipe σ vs) (gro Hk' H H2) H2 := by
      refine I2.swap (fun i hi => nomatch hi) (by rw [wipe_length]; exact I'.len) fun i x hx => ?_
      by_cases z : i ∈ vs
      · have := hv _ _ _ jj i z
        rw [hx] at this
        exact .inl (Option.some.inj this)
      · exact .inr ⟨hx, wipe_out z⟩
    have hD2 : H2 D = some (.lst avs) := e2 _ _ hD
    have nk2 : gro Hk' H H2 D = none := by rw [gro_old hD]; exact nk
    have noW : ¬ Ow ρ' (wipe σ vs) D := by
      rintro ⟨i, ds, q1, q2⟩
      exact no ⟨i, ds, q1, (wipe_some q2).1⟩
    have Ii := Iw.inner
    have D0 : fen ρ' (wipe σ vs) H2 D = some (.lst avs) := by rw [fen_not noW]; exact hD2
    -- what a turn leaves, for the slots outside
    have back : ∀ ρe σ3 Hk3 Hr3, wipe σ3 vs = wipe σ vs → Ok K [] (wipe σ vs) (gro Hk' H H2) (fen ρ' (wipe σ vs) H2) ρe σ3 Hk3 Hr3 → Ok K bi σ0 B H0 (wipeS ρe vs) σ Hk3 Hr3 ∧ Hk3 D = none ∧ Hr3 D = some (.lst avs) ∧ ¬ Ow (wipeS ρe vs) σ D := fun ρe σ3 Hk3 Hr3 wz I3 => by
      have key : ∀ (i : Nat) (x : Sl), (wipeS ρe vs)[i]? = some x → x = .no ∨ (ρe[i]? = some x ∧ σ[i]? = σ3[i]?) := fun i x hx => by
        rcases wipeS_get hx with e | ⟨e1, e2⟩
        · exact .inl e
        · refine .inr ⟨e2, ?_⟩
          rw [← wipe_out (σ := σ) e1, ← wipe_out (σ := σ3) e1, wz]
      have I4 := Iw.outer I3
      refine ⟨I4.swap I'.bor ?_ key, ?_, I3.real _ _ D0, ?_⟩
      · rw [wipeS_len, I3.len, ← wipe_length σ3 vs, wz, wipe_length]
      · cases z : Hk3 D with
        | none => rfl
        | some u =>
          have := I3.old D u z (by rw [D0]; exact fun z => nomatch z)
          rw [nk2] at this
          cases this
      · rintro ⟨i, ds, q1, q2⟩
        rcases key i _ q1 with e | ⟨e1, e2⟩
        · cases e
        · obtain ⟨a, us, s1, s2, s3, s4, s5⟩ := I3.own i ds e1
          rw [← e2, q2] at s1
          injection s1 with s1; injection s1 with s1; injection s1 with s1; subst s1
          rw [D0] at s4
          cases s4
    refine hw _ _ _ _ (eg _ _ _ _ _ _ xv Ii (Dp.mono (gro_le m') _ (fd _ hd)) _ fun σ3 I3 wz => ?_)
    refine gt _ _ _ _ _ _ _ I3 _ fun Hk4 Hr4 I4 m4 => ?_
    cases b with
    | true =>
      obtain ⟨e, ρe, ge, jn⟩ := hT rfl
      refine iteT (ge _ _ _ _ _ _ _ I4 _ fun v Hk5 Hr5 I5 m5 hv5 => ?_)
      obtain ⟨b1, b2, b3, b4⟩ := back ρe σ3 Hk5 Hr5 wz I5
      have mm : Same Hk' Hk5 := s2.trans (m4.trans m5)
      refine ⟨avs, b3, by rw [DpAll.len hacc]; exact lt_line hlen, acc ++ [e], avs ++ [v], wipeS ρe vs, Hk5, jn, b1.put b2 n01 b4, m'.trans mm, b2, upd_same, DpAll.app (DpAll.mono mm _ hacc) (.cons hv5 .nil), b4⟩
    | false =>
      obtain ⟨b1, b2, b3, b4⟩ := back ρb σ3 Hk4 Hr4 wz I4
      have mm : Same Hk' Hk4 := s2.trans m4
      exact iteF ⟨acc, avs, wipeS ρb vs, Hk4, hF rfl, b1, m'.trans mm, b2, b3, DpAll.mono mm _ hacc, b4⟩
  · have : i = ds.length := by omega
    subst this
    exact .inl ⟨w2 (Nat.le_refl _), q D avs Hk' H acc ρ' jj I' (m1.trans m') hD nk n01 no hacc⟩
/-- a list comprehension: J (turn, what is made, slots) -/
theorem lc_ok {K : PySem.W.Frag} {wi : TI} {g : TG} {tt : TT} {te : TE} {vs : List Nat} {ρ ρ1 : List Sl} {ds : List PyData}
    (hi : ∀ (bi : List Nat) (σ0 : L2.St) (B H0 : Hp) (σ : L2.St) (Hk Hr : Hp), Ok K bi σ0 B H0 ρ σ Hk Hr → ∀ R : It → Hp → Prop, (∀ J Hk' Hr', Ok K bi σ0 B H0 ρ1 σ Hk' Hr' → Same Hk Hk' → Wk K J ds Hk' → R J Hr') → wi σ Hr R)
    (hw : GW g vs) (J : Nat → List PyData → List Sl → Prop) (h0 : J 0 [] ρ1) (hv : ∀ j acc ρj, J j acc ρj → ∀ i ∈ vs, ρj[i]? = some .no)
    (ht : ∀ j d acc ρj, ds[j]? = some d → J j acc ρj → acc.length < 100000 ∧ ∃ ρd b ρb, EG K [] g ρj d ρd ∧ GT K tt ρd b ρb ∧ (b = true → ∃ e ρe, GE K te ρb e ρe ∧ J (j + 1) (acc ++ [e]) (wipeS ρe vs)) ∧ (b = false → J (j + 1) acc (wipeS ρb vs)))
    (bi : List Nat) (σ0 : L2.St) (B H0 : Hp) (σ : L2.St) (Hk Hr : Hp) (I : Ok K bi σ0 B H0 ρ σ Hk Hr) (Q : VK)
    (q : ∀ v Hk' Hr' acc ρ', J ds.length acc ρ' → Ok K bi σ0 B H0 ρ' σ Hk' Hr' → Same Hk Hk' → Dp K Hk' v (.list acc) → Q v Hr') : tLc wi g tt te vs σ Hr Q := by
  exact lc_raw hi hw J h0 hv ht bi σ0 B H0 σ Hk Hr I Q fun D avs Hk' H acc ρ' jj I' m' hD nk n01 no hacc =>
    q (.ref D) (upd Hk' D (.lst avs)) H acc ρ' jj (I'.learn nk n01 hD no) (m'.trans (new_same nk _)) (.lst (.inl (.inl upd_same)) (DpAll.mono (new_same nk _) _ hacc))
/-! ### comprehensions as expressions -/
section
variable {X : Cx} {elt tg iter c : Expr} {scope : Scope} {own : List (Str × Nat)} {ρ ρ1 : List Sl} {ds : List PyData} {pos : Pos}
def bE (X : Cx) (scope : Scope) (e : Expr) : TE := fun σ H Q => ∀ (s : Shared) (H1 : Hp) (C : Addr) (cl : List (Str × Addr)) (fp : List Addr), sE (X.blk s H1 scope (compEnvC scope cl C X.env) fp) e σ H Q
def bT (X : Cx) (scope : Scope) (e : Expr) : TT := fun σ H Q => ∀ (s : Shared) (H1 : Hp) (C : Addr) (cl : List (Str × Addr)) (fp : List Addr), sT (X.blk s H1 scope (compEnvC scope cl C X.env) fp) e σ H Q
theorem pe_b (s : Shared) (H : Hp) (C : Addr) (cl : List (Str × Addr)) (fp : List Addr) : PE (X.blk s H scope (compEnvC scope cl C X.env) fp) elt (bE X scope elt) := ⟨fun pins s' _ _ _ I h => h s H C cl fp pins s' I⟩
theorem pt_b (s : Shared) (H : Hp) (C : Addr) (cl : List (Str × Addr)) (fp : List Addr) : PT (X.blk s H scope (compEnvC scope cl C X.env) fp) c (bT X scope c) := ⟨fun pins s' _ _ _ I h => h s H C cl fp pins s' I⟩
/-- in each block of the comprehension -/
def BE (X : Cx) (scope : Scope) (e : Expr) (ρ : List Sl) (d : PyData) (ρ' : List Sl) : Prop := ∀ (s : Shared) (H : Hp) (C : Addr) (cl : List (Str × Addr)) (fp : List Addr), EE (X.blk s H scope (compEnvC scope cl C X.env) fp) e ρ d ρ'
def BT (X : Cx) (scope : Scope) (e : Expr) (ρ : List Sl) (b : Bool) (ρ' : List Sl) : Prop := ∀ (s : Shared) (H : Hp) (C : Addr) (cl : List (Str × Addr)) (fp : List Addr), ET (X.blk s H scope (compEnvC scope cl C X.env) fp) e ρ b ρ'
theorem BE.ge {e : Expr} {d : PyData} (h : BE X scope e ρ d ρ1) : GE X.K (bE X scope e) ρ d ρ1 := fun bi σ0 B H0 σ Hk Hr I Q q s H C cl fp => h s H C cl fp bi σ0 B H0 σ Hk Hr I Q q
theorem BT.gt {e : Expr} {b : Bool} (h : BT X scope e ρ b ρ1) : GT X.K (bT X scope e) ρ b ρ1 := fun bi σ0 B H0 σ Hk Hr I Q q s H C cl fp => h s H C cl fp bi σ0 B H0 σ Hk Hr I Q q
theorem gt_yes {K : PySem.W.Frag} : GT K tYes ρ true ρ := fun bi σ0 B H0 σ Hk Hr I Q q => q Hk Hr I (Same.refl _)
/-- [elt for tg in iter], slots and lists as they were -/
theorem ee_lc {g : TG} (hi : EI X tg iter ρ ds ρ1) (hw : GW g (own.map (·.2))) (hv : ∀ i ∈ own.map (·.2), ρ1[i]? = some .no) (F : Nat → PyData) (hn : ds.length ≤ 100000)
    (ht : ∀ j d, ds[j]? = some d → ∃ ρd, EG X.K [] g ρ1 d ρd ∧ wipeS ρd (own.map (·.2)) = ρ1 ∧ BE X scope elt ρd (F j) ρd)
    (hN : X.N.Nodup) (ok : BlkOk X.N X.env.scope scope own) (hg : ∀ (s : Shared) (H : Hp) (C : Addr) (cl : List (Str × Addr)) (fp : List Addr), PG (X.blk s H scope (compEnvC scope cl C X.env) fp) tg g)
    (hc : X.calm = true := by rfl) (hs : ∀ x, foldedSetIterable iter X.env x = pure x := by intro _; rfl) : EE X (.ListComp elt [⟨tg, iter, [], 0⟩] scope pos) ρ (.list ((List.range ds.length).map F)) ρ1 := fun bi σ0 B H0 σ Hk Hr I Q q => by
  obtain ⟨wi, pi, hi⟩ := hi
  refine sE_of (pe_lc hc hN pi ok hg (fun _ _ _ _ _ => pts_nil) pe_b hs) (lc_ok hi hw (fun j acc ρ' => acc = (List.range j).map F ∧ ρ' = ρ1) ⟨rfl, rfl⟩ (fun j acc ρj h i hi => by rw [h.2]; exact hv i hi) (fun j d acc ρj hd h => ?_) bi σ0 B H0 σ Hk Hr I Q fun v Hk' Hr' acc ρ' h I' m' hvd => ?_)
  · obtain ⟨rfl, rfl⟩ := h
    obtain ⟨ρd, eg, ew, be⟩ := ht j d hd
    have hj := (List.getElem?_eq_some_iff.mp hd).1
    refine ⟨by simp; omega, ρd, true, ρd, eg, gt_yes, fun _ => ⟨F j, ρd, be.ge, ?_, ew⟩, fun z => nomatch z⟩
    rw [List.range_succ, List.map_append]
    rfl
  · obtain ⟨rfl, rfl⟩ := h
    exact q v Hk' Hr' I' m' hvd
/-- [elt for tg in iter if c] -/
theorem ee_lcIf {g : TG} (hi : EI X tg iter ρ ds ρ1) (hw : GW g (own.map (·.2))) (hv : ∀ i ∈ own.map (·.2), ρ1[i]? = some .no) (F : Nat → PyData) (G : Nat → Bool) (hn : ds.length ≤ 100000)
    (ht : ∀ j d, ds[j]? = some d → ∃ ρd, EG X.K [] g ρ1 d ρd ∧ wipeS ρd (own.map (·.2)) = ρ1 ∧ BT X scope c ρd (G j) ρd ∧ (G j = true → BE X scope elt ρd (F j) ρd))
    (hN : X.N.Nodup) (ok : BlkOk X.N X.env.scope scope own) (hg : ∀ (s : Shared) (H : Hp) (C : Addr) (cl : List (Str × Addr)) (fp : List Addr), PG (X.blk s H scope (compEnvC scope cl C X.env) fp) tg g)
    (hc : X.calm = true := by rfl) (hs : ∀ x, foldedSetIterable iter X.env x = pure x := by intro _; rfl) : EE X (.ListComp elt [⟨tg, iter, [c], 0⟩] scope pos) ρ (.list (((List.range ds.length).filter G).map F)) ρ1 := fun bi σ0 B H0 σ Hk Hr I Q q => by
  obtain ⟨wi, pi, hi⟩ := hi
  refine sE_of (pe_lc hc hN pi ok hg (fun s H C cl fp => pts_one (pt_b s H C cl fp)) pe_b hs) (lc_ok hi hw (fun j acc ρ' => acc = ((List.range j).filter G).map F ∧ ρ' = ρ1) ⟨rfl, rfl⟩ (fun j acc ρj h i hi => by rw [h.2]; exact hv i hi) (fun j d acc ρj hd h => ?_) bi σ0 B H0 σ Hk Hr I Q fun v Hk' Hr' acc ρ' h I' m' hvd => ?_)
  · obtain ⟨rfl, rfl⟩ := h
    obtain ⟨ρd, eg, ew, bt, be⟩ := ht j d hd
    have hj := (List.getElem?_eq_some_iff.mp hd).1
    have hle : ((List.range j).filter G).length ≤ j := by
      have := List.length_filter_le G (List.range j)
      simpa using this
    refine ⟨by rw [List.length_map]; omega, ρd, G j, ρd, eg, bt.gt, fun z => ⟨F j, ρd, (be z).ge, ?_, ew⟩, fun z => ⟨?_, ew⟩⟩
    · rw [List.range_succ, List.filter_append, List.map_append]
      simp [z]
    · rw [List.range_succ, List.filter_append, List.map_append]
      simp [z]
  · obtain ⟨rfl, rfl⟩ := h
    exact q v Hk' Hr' I' m' hvd
end
/-! ### reading a list of one's own -/
section
variable {X : Cx} {a b e : Expr} {ρ ρ1 : List Sl} {d : PyData} {ds : List PyData} {pos p0 p1 : Pos} {x : Str} {n : Nat}
theorem own_ix {j : Int} (hN : X.N[n]? = some x) (ho : ρ[n]? = some (.own ds)) (hb : EE X b ρ (.int j) ρ) (h : atI ds j = some d) (hs : PlainIx b := by exact fun _ _ => rfl) (hv : Vis X.env.scope x := by first | exact Or.inl rfl | exact Or.inr (Or.inl rfl) | exact Or.inr (Or.inr rfl)) (hd : (x == ("__debug__" : Str)) = false := by decide)
    (hcd : (x == ("__classdict__" : Str)) = false := by decide) : EE X (.Subscript (.Name x p0) b pos) ρ d ρ := fun bi σ0 B H0 σ Hk Hr I Q q => by
  obtain ⟨a0, vs0, t1, t2, t3, t4, t5⟩ := I.own n ds ho
  refine sE_of (pe_ix ix_list (pe_var hN hv hd hcd) pe_s hs) ⟨.ref a0, t1, hb bi σ0 B H0 σ Hk Hr I _ fun y Hk1 Hr1 I1 m1 h1 => ?_⟩
  cases h1
  obtain ⟨a1, vs1, u1, u2, u3, u4, u5⟩ := I1.own n ds ho
  have ea : a0 = a1 := by
    rw [t1] at u1
    injection u1 with u1; injection u1 with u1; injection u1
  subst ea
  obtain ⟨v, s1, s2⟩ := atI_all u5 h
  exact ⟨a0, vs1, j, v, rfl, rfl, .inl (.inl u2), s1, q v Hk1 Hr1 I1 m1 s2⟩
/-- an operation whose second operand is the list, its answer a bool -/
def RB (K : PySem.W.Frag) (r : R2) (d1 d2 : PyData) (k : Bool) : Prop := ∀ x y Hr, Dp K Hr x d1 → Dp K Hr y d2 → ∀ Q : VK, Q (.bl k) Hr → r x y Hr Q
theorem rb_in {K : PySem.W.Frag} {d1 : PyData} (h1 : SeqAt.shaped d1 = true) (h2 : SeqAt.shaped (.list ds) = true) : RB K (rInD K) d1 (.list ds) (ds.any fun z => PyData.eqv z d1) := fun x y Hr hx hy Q q => ⟨d1, ds, hx, hy, h1, h2, q⟩
theorem rb_notIn {K : PySem.W.Frag} {d1 : PyData} (h1 : SeqAt.shaped d1 = true) (h2 : SeqAt.shaped (.list ds) = true) : RB K (rNotInD K) d1 (.list ds) (!ds.any fun z => PyData.eqv z d1) := fun x y Hr hx hy Q q => ⟨d1, ds, hx, hy, h1, h2, q⟩
theorem own_cmpT {op : CmpOp} {r : R2} {d1 : PyData} {k : Bool} (ho : OpR X (compareOp op) r) (hN : X.N[n]? = some x) (ha : EE X a ρ d1 ρ1) (hw : ρ1[n]? = some (.own ds)) (hr : RB X.K r d1 (.list ds) k) (hm : behindInMarks op (.Name x p0) = false := by rfl) (hv : Vis X.env.scope x := by first | exact Or.inl rfl | exact Or.inr (Or.inl rfl) | exact Or.inr (Or.inr rfl)) (hd : (x == ("__debug__" : Str)) = false := by decide)
    (hcd : (x == ("__classdict__" : Str)) = false := by decide) : ET X (.Compare a [op] [.Name x p0] pos) ρ k ρ1 := fun bi σ0 B H0 σ Hk Hr I Q q =>
  sT_of (pt_cmpR ho pe_s (pe_var hN hv hd hcd) hm) (ha bi σ0 B H0 σ Hk Hr I _ fun xv Hk1 Hr1 I1 m1 h1 => by
    obtain ⟨a0, vs0, t1, t2, t3, t4, t5⟩ := I1.own n ds hw
    exact ⟨.ref a0, t1, hr xv (.ref a0) Hr1 (Dp.mono I1.kr _ h1) (.lst (.inl (.inl t2)) (DpAll.mono I1.kr _ t5)) _ ⟨k, rfl, q Hk1 Hr1 I1 m1⟩⟩)
theorem own_len (hl : X.mg "len" = none) (hN : X.N[n]? = some x) (ho : ρ[n]? = some (.own ds)) (h : PE X (.Call (.Name "len" p0) [.Name x p1] [] pos) (tCB (fun xs H Q => ∃ p ys, xs = [.ref p] ∧ (SqL X.K H p ys ∨ SqT X.K H p ys) ∧ Q (.int ys.length) H) (tCons (tVar n) tNil))) : EE X (.Call (.Name "len" p0) [.Name x p1] [] pos) ρ (.int (ds.length : Nat)) ρ := fun bi σ0 B H0 σ Hk Hr I Q q => by
  obtain ⟨a0, vs0, t1, t2, t3, t4, t5⟩ := I.own n ds ho
  refine sE_of h ⟨.ref a0, t1, a0, vs0, rfl, .inl (.inl (.inl t2)), ?_⟩
  rw [DpAll.len t5]
  exact q _ Hk Hr I (Same.refl _) (.int _)
theorem own_truth (hN : X.N[n]? = some x) (ho : ρ[n]? = some (.own ds)) (he : ∀ whole, isTrue (.Name x p0) X.env whole = (do let v ← whole; standAt (Expr.Name x p0).pos; holding [v] (truthy v)) := by intro _; rfl) (hv : Vis X.env.scope x := by first | exact Or.inl rfl | exact Or.inr (Or.inl rfl) | exact Or.inr (Or.inr rfl)) (hd : (x == ("__debug__" : Str)) = false := by decide)
    (hcd : (x == ("__classdict__" : Str)) = false := by decide) : ET X (.Name x p0) ρ (!ds.isEmpty) ρ := fun bi σ0 B H0 σ Hk Hr I Q q => by
  obtain ⟨a0, vs0, t1, t2, t3, t4, t5⟩ := I.own n ds ho
  refine sT_of (pt_truth (pe_var hN hv hd hcd) he) ⟨.ref a0, t1, !ds.isEmpty, .inl ⟨vs0, .inl (.inl t2), ?_⟩, q Hk Hr I (Same.refl _)⟩
  have := DpAll.len t5
  cases vs0 <;> cases ds <;> simp_all
end
/-! ### built-in functions -/
section
variable {K : PySem.W.Frag} {ds : List PyData} {d : PyData} {i j : Int} {X : Cx}
theorem ra_lenL : RA K (fun xs H Q => ∃ p ys, xs = [.ref p] ∧ (SqL K H p ys ∨ SqT K H p ys) ∧ Q (.int ys.length) H) [.list ds] (.int (ds.length : Nat)) := fun vs Hk Hr kr h Q q => by
  cases h with
  | cons h1 h2 =>
    cases h2
    cases h1 with
    | lst hs ha => exact ⟨_, _, rfl, .inl (same_l kr hs), by rw [DpAll.len ha]; exact q _ Hr (Same.refl _) (.int _)⟩
theorem ra_lenT : RA K (fun xs H Q => ∃ p ys, xs = [.ref p] ∧ (SqL K H p ys ∨ SqT K H p ys) ∧ Q (.int ys.length) H) [.tuple ds] (.int (ds.length : Nat)) := fun vs Hk Hr kr h Q q => by
  cases h with
  | cons h1 h2 =>
    cases h2
    cases h1 with
    | tup hs ha => exact ⟨_, _, rfl, .inr (same_t kr hs), by rw [DpAll.len ha]; exact q _ Hr (Same.refl _) (.int _)⟩
theorem ra_abs : RA K (fun xs H Q => ∃ i, xs = [.int i] ∧ Q (.int (if i < 0 then -i else i)) H) [.int i] (.int (if i < 0 then -i else i)) := fun vs Hk Hr kr h Q q => by
  cases h with
  | cons h1 h2 =>
    cases h2
    cases h1
    exact ⟨i, rfl, q _ Hr (Same.refl _) (.int _)⟩
theorem ra_int : RA K (fun xs H Q => (∃ i, xs = [.int i] ∧ Q (.int i) H) ∨ ∃ k, xs = [.bl k] ∧ Q (.int (if k then 1 else 0)) H) [.int i] (.int i) := fun vs Hk Hr kr h Q q => by
  cases h with
  | cons h1 h2 =>
    cases h2
    cases h1
    exact .inl ⟨i, rfl, q _ Hr (Same.refl _) (.int _)⟩
theorem ra_min2 : RA K (fun xs H Q => ∃ i j, xs = [.int i, .int j] ∧ Q (.int (if j < i then j else i)) H) [.int i, .int j] (.int (if j < i then j else i)) := fun vs Hk Hr kr h Q q => by
  cases h with
  | cons h1 h2 =>
    cases h1
    cases h2 with
    | cons h2 h3 =>
      cases h2; cases h3
      exact ⟨i, j, rfl, q _ Hr (Same.refl _) (.int _)⟩
theorem ra_list {xs : PyData} (hx : xs = .list ds ∨ xs = .tuple ds) : RA K (fun xs H Q => ∃ p ys, xs = [.ref p] ∧ (SqL K H p ys ∨ SqT K H p ys) ∧ ∀ l, H l = none → Q (.ref l) (upd H l (.lst ys))) [xs] (.list ds) := fun vs Hk Hr kr h Q q => by
  cases h with
  | cons h1 h2 =>
    cases h2
    rcases hx with rfl | rfl
    · cases h1 with
      | lst hs ha => exact ⟨_, _, rfl, .inl (same_l kr hs), fun l hl => q _ _ (new_same hl _) (gro_lst kr hl ha)⟩
    · cases h1 with
      | tup hs ha => exact ⟨_, _, rfl, .inr (same_t kr hs), fun l hl => q _ _ (new_same hl _) (gro_lst kr hl ha)⟩
theorem ra_tuple {xs : PyData} (hx : xs = .list ds ∨ xs = .tuple ds) : RA K (fun xs H Q => ∃ p ys, xs = [.ref p] ∧ ((SqL K H p ys ∧ ∀ l, H l = none → Q (.ref l) (upd H l (.tup ys))) ∨ (SqT K H p ys ∧ Q (.ref p) H))) [xs] (.tuple ds) := fun vs Hk Hr kr h Q q => by
  cases h with
  | cons h1 h2 =>
    cases h2
    rcases hx with rfl | rfl
    · cases h1 with
      | lst hs ha => exact ⟨_, _, rfl, .inl ⟨same_l kr hs, fun l hl => q _ _ (new_same hl _) (gro_tup kr hl ha)⟩⟩
    · cases h1 with
      | tup hs ha => exact ⟨_, _, rfl, .inr ⟨same_t kr hs, q _ Hr (Same.refl _) (gro_refl kr (.tup hs ha))⟩⟩
end
/-! ### slices -/
def cutD (ds : List PyData) (lo hi : Option Int) : List PyData := (ds.drop (HT.sIx ds.length 0 lo)).take (HT.sIx ds.length ds.length hi - HT.sIx ds.length 0 lo)
def EO (X : Cx) (e : Option Expr) (ρ : List Sl) (o : Option Int) (ρ' : List Sl) : Prop := ∃ t, PO X e t ∧
  ∀ (bi : List Nat) (σ0 : L2.St) (B H0 : Hp) (σ : L2.St) (Hk Hr : Hp), Ok X.K bi σ0 B H0 ρ σ Hk Hr → ∀ Q : Option Int → Hp → Prop, (∀ Hk' Hr', Ok X.K bi σ0 B H0 ρ' σ Hk' Hr' → Same Hk Hk' → Q o Hr') → t σ Hr Q
section
variable {X : Cx} {e : Expr} {lo hi : Option Expr} {ρ ρ1 ρ2 ρ3 : List Sl} {ds : List PyData} {pos p2 : Pos} {l u : Option Int} {i : Int}
theorem eo_none : EO X none ρ none ρ := ⟨_, po_none, fun bi σ0 B H0 σ Hk Hr I Q q => q Hk Hr I (Same.refl _)⟩
theorem eo_some (h : EE X e ρ (.int i) ρ1) : EO X (some e) ρ (some i) ρ1 := ⟨_, po_some pe_s, fun bi σ0 B H0 σ Hk Hr I Q q => h bi σ0 B H0 σ Hk Hr I _ fun v Hk1 Hr1 I1 m1 h1 => by
  cases h1
  exact ⟨i, rfl, q Hk1 Hr1 I1 m1⟩⟩
theorem cut_all {K : PySem.W.Frag} {H : Hp} {vs : List V} (h : DpAll K H vs ds) : DpAll K H (cutV vs l u) (cutD ds l u) := by
  unfold cutV cutD
  rw [DpAll.len h]
  exact DpAll.take _ (DpAll.drop _ h)
theorem ee_sliceL (he : EE X e ρ (.list ds) ρ1) (hl : EO X lo ρ1 l ρ2) (hu : EO X hi ρ2 u ρ3) : EE X (.Subscript e (.Slice lo hi none p2) pos) ρ (.list (cutD ds l u)) ρ3 := fun bi σ0 B H0 σ Hk Hr I Q q => by
  obtain ⟨tl, pl, hl⟩ := hl
  obtain ⟨tu, pu, hu⟩ := hu
  refine sE_of (pe_slice sl_list pe_s pl pu) (he bi σ0 B H0 σ Hk Hr I _ fun v Hk1 Hr1 I1 m1 h1 => hl bi σ0 B H0 σ Hk1 Hr1 I1 _ fun Hk2 Hr2 I2 m2 => hu bi σ0 B H0 σ Hk2 Hr2 I2 _ fun Hk3 Hr3 I3 m3 => ?_)
  cases h1 with
  | lst hs ha =>
    have m := m2.trans m3
    exact ⟨_, _, rfl, same_l I3.kr (same_l m hs), fun p hp => q _ _ _ (I3.gro (new_same hp _)) ((m1.trans m).trans (gro_same I3.kr)) (gro_lst I3.kr hp (cut_all (DpAll.mono m _ ha)))⟩
theorem ee_sliceT (he : EE X e ρ (.tuple ds) ρ1) (hl : EO X lo ρ1 l ρ2) (hu : EO X hi ρ2 u ρ3) : EE X (.Subscript e (.Slice lo hi none p2) pos) ρ (.tuple (cutD ds l u)) ρ3 := fun bi σ0 B H0 σ Hk Hr I Q q => by
  obtain ⟨tl, pl, hl⟩ := hl
  obtain ⟨tu, pu, hu⟩ := hu
  refine sE_of (pe_slice sl_tupA pe_s pl pu) (he bi σ0 B H0 σ Hk Hr I _ fun v Hk1 Hr1 I1 m1 h1 => hl bi σ0 B H0 σ Hk1 Hr1 I1 _ fun Hk2 Hr2 I2 m2 => hu bi σ0 B H0 σ Hk2 Hr2 I2 _ fun Hk3 Hr3 I3 m3 => ?_)
  cases h1 with
  | tup hs ha =>
    have m := m2.trans m3
    have ha3 := DpAll.mono m _ ha
    refine ⟨_, _, rfl, same_t I3.kr (same_t m hs), fun hz => ?_, fun _ p hp => q _ _ _ (I3.gro (new_same hp _)) ((m1.trans m).trans (gro_same I3.kr)) (gro_tup I3.kr hp (cut_all ha3))⟩
    have : cutD ds l u = ds := by
      unfold cutD
      rw [DpAll.len ha] at hz
      rw [hz.1, hz.2]
      simp
    refine q _ Hk3 Hr3 I3 (m1.trans m) ?_
    rw [this]
    exact .tup (same_t m hs) ha3
end
end Pd
namespace Pd
open PySem L2 PySem.Spec PyProof.Rows

section
variable {X : Cx} {e a b : Expr} {es : List Expr} {ρ ρ1 : List Sl} {ds : List PyData} {d : PyData} {p0 p1 pos : Pos} {i j : Int}
theorem ee_lenL (hm : X.mg "len" = none) (ha : EE X e ρ (.list ds) ρ1) (hg : Gl X "len" := by rfl) (he : starEach [e] X.env = [(false, eval e X.env)] := by rfl) (hpl : (backTo pos (starEach ([] : List Expr) X.env)).any (·.1) = false := by rfl) : EE X (.Call (.Name "len" p0) [e] [] pos) ρ (.int (ds.length : Nat)) ρ1 :=
  ee_tCB (pe_callB call_len_seq hg hm PySem.boot_len pa_s (by decide) (by decide) he hpl) (ea_cons ha ea_nil he) ra_lenL
theorem ee_lenT (hm : X.mg "len" = none) (ha : EE X e ρ (.tuple ds) ρ1) (hg : Gl X "len" := by rfl) (he : starEach [e] X.env = [(false, eval e X.env)] := by rfl) (hpl : (backTo pos (starEach ([] : List Expr) X.env)).any (·.1) = false := by rfl) : EE X (.Call (.Name "len" p0) [e] [] pos) ρ (.int (ds.length : Nat)) ρ1 :=
  ee_tCB (pe_callB call_len_seq hg hm PySem.boot_len pa_s (by decide) (by decide) he hpl) (ea_cons ha ea_nil he) ra_lenT
theorem ee_abs (hm : X.mg "abs" = none) (ha : EE X e ρ (.int i) ρ1) (hg : Gl X "abs" := by rfl) (he : starEach [e] X.env = [(false, eval e X.env)] := by rfl) (hpl : (backTo pos (starEach ([] : List Expr) X.env)).any (·.1) = false := by rfl) : EE X (.Call (.Name "abs" p0) [e] [] pos) ρ (.int (if i < 0 then -i else i)) ρ1 :=
  ee_tCB (pe_callB call_abs hg hm (by decide +kernel) pa_s (by decide) (by decide) he hpl) (ea_cons ha ea_nil he) ra_abs
theorem ee_toInt (hm : X.mg "int" = none) (ha : EE X e ρ (.int i) ρ1) (hg : Gl X "int" := by rfl) (he : starEach [e] X.env = [(false, eval e X.env)] := by rfl) (hpl : (backTo pos (starEach ([] : List Expr) X.env)).any (·.1) = false := by rfl) : EE X (.Call (.Name "int" p0) [e] [] pos) ρ (.int i) ρ1 :=
  ee_tCB (pe_callTy call_int1 hg hm (by decide +kernel) pa_s (by decide) (by decide) he hpl) (ea_cons ha ea_nil he) ra_int
theorem ee_min2 {ρ2 : List Sl} (hm : X.mg "min" = none) (ha : EE X a ρ (.int i) ρ1) (hb : EE X b ρ1 (.int j) ρ2) (hg : Gl X "min" := by rfl) (hc : X.calm = true := by rfl) (he : starEach [a, b] X.env = (false, eval a X.env) :: starEach [b] X.env := by rfl) (he2 : starEach [b] X.env = [(false, eval b X.env)] := by rfl) (hpl : (backTo pos (starEach [b] X.env)).any (·.1) = false := by rfl) : EE X (.Call (.Name "min" p0) [a, b] [] pos) ρ (.int (if j < i then j else i)) ρ2 :=
  ee_tCB (pe_callB (call_min2 hc) hg hm (by decide +kernel) pa_s (by decide) (by decide) he hpl) (ea_cons ha (ea_cons hb ea_nil he2) he) ra_min2
theorem ee_listOf {xs : PyData} (hx : xs = .list ds ∨ xs = .tuple ds) (hm : X.mg "list" = none) (ha : EE X e ρ xs ρ1) (hg : Gl X "list" := by rfl) (he : starEach [e] X.env = [(false, eval e X.env)] := by rfl) (hpl : (backTo pos (starEach ([] : List Expr) X.env)).any (·.1) = false := by rfl) : EE X (.Call (.Name "list" p0) [e] [] pos) ρ (.list ds) ρ1 :=
  ee_tCB (pe_callTy call_list_of hg hm (by decide +kernel) pa_s (by decide) (by decide) he hpl) (ea_cons ha ea_nil he) (ra_list hx)
theorem ee_tupleOf {xs : PyData} (hx : xs = .list ds ∨ xs = .tuple ds) (hm : X.mg "tuple" = none) (ha : EE X e ρ xs ρ1) (hg : Gl X "tuple" := by rfl) (he : starEach [e] X.env = [(false, eval e X.env)] := by rfl) (hpl : (backTo pos (starEach ([] : List Expr) X.env)).any (·.1) = false := by rfl) : EE X (.Call (.Name "tuple" p0) [e] [] pos) ρ (.tuple ds) ρ1 :=
  ee_tCB (pe_callTy call_tuple_of hg hm (by decide +kernel) pa_s (by decide) (by decide) he hpl) (ea_cons ha ea_nil he) (ra_tuple hx)
end

/-! ### sorted(.., reverse=True) of ints -/
def insD (x : Int) : List Int → List Int
  | [] => [x]
  | y :: r => if y ≤ x then x :: y :: r else y :: insD x r
def sortD : List Int → List Int
  | [] => []
  | x :: r => insD x (sortD r)
theorem insD_perm (x : Int) : ∀ l, (insD x l).Perm (x :: l)
  | [] => .refl _
  | y :: r => by
    unfold insD
    split
    · exact .refl _
    · exact ((insD_perm x r).cons y).trans (List.Perm.swap x y r)
theorem sortD_perm : ∀ l, (sortD l).Perm l
  | [] => .refl _
  | x :: r => (insD_perm x _).trans ((sortD_perm r).cons x)
theorem insD_sorted (x : Int) : ∀ l : List Int, l.Pairwise (· ≥ ·) → (insD x l).Pairwise (· ≥ ·)
  | [], _ => by unfold insD; simp
  | y :: r, h => by
    unfold insD
    rw [List.pairwise_cons] at h
    split
    · rename_i hy
      rw [List.pairwise_cons, List.pairwise_cons]
      refine ⟨fun z hz => ?_, h⟩
      rcases List.mem_cons.mp hz with rfl | hz
      · exact hy
      · exact Int.le_trans (h.1 z hz) hy
    · rename_i hy
      rw [List.pairwise_cons]
      refine ⟨fun z hz => ?_, insD_sorted x r h.2⟩
      rcases List.mem_cons.mp ((insD_perm x r).mem_iff.mp hz) with rfl | hz
      · show z ≤ y
        omega
      · exact h.1 z hz
theorem sortD_sorted : ∀ l, (sortD l).Pairwise (· ≥ ·)
  | [] => .nil
  | x :: r => insD_sorted x _ (sortD_sorted r)
theorem sorted_uniq : ∀ {l m : List Int}, l.Perm m → l.Pairwise (· ≥ ·) → m.Pairwise (· ≥ ·) → l = m
  | [], m, h, _, _ => (List.nil_perm.mp h).symm ▸ rfl
  | x :: l, [], h, _, _ => by
    have := h.length_eq
    simp at this
  | x :: l, y :: m, h, hl, hm => by
    rw [List.pairwise_cons] at hl hm
    have e : x = y := by
      have h1 : x ∈ y :: m := h.mem_iff.mp (by simp)
      have h2 : y ∈ x :: l := h.mem_iff.mpr (by simp)
      rcases List.mem_cons.mp h1 with rfl | h1
      · rfl
      · rcases List.mem_cons.mp h2 with rfl | h2
        · rfl
        · have := hl.1 y h2
          have := hm.1 x h1
          omega
    subst e
    rw [sorted_uniq (List.Perm.cons_inv h) hl.2 hm.2]
section
variable {X : Cx} {e : Expr} {ρ ρ1 : List Sl} {ns : List Int} {p0 p1 pos kp : Pos} {kn : Nat}
theorem ee_sortedRev (hm : X.mg "sorted" = none) (ha : EE X e ρ (.list (ns.map .int)) ρ1) (h : PE X (.Call (.Name "sorted" p0) [e] [⟨some "reverse", .Constant (.bool true) kn p1, kp⟩] pos) (tCKw (rSortedKw X.K true [.bl true]) (tCons (sE X e) tNil) (tCons (tC (.bl true)) tNil))) :
    EE X (.Call (.Name "sorted" p0) [e] [⟨some "reverse", .Constant (.bool true) kn p1, kp⟩] pos) ρ (.list ((sortD ns).map .int)) ρ1 := fun bi σ0 B H0 σ Hk Hr I Q q => by
  refine sE_of h (ha bi σ0 B H0 σ Hk Hr I _ fun v Hk1 Hr1 I1 m1 h1 => ?_)
  cases h1 with
  | lst hs ha =>
    have e1 := DpAll.ints ha
    subst e1
    refine ⟨_, ns, rfl, rfl, same_l I1.kr hs, fun ns' p hp ho hf => ?_⟩
    have : ns' = sortD ns := sorted_uniq (hp.trans (sortD_perm ns).symm) ho (sortD_sorted ns)
    subst this
    exact q _ _ _ (I1.gro (new_same hf _)) (m1.trans (gro_same I1.kr)) (gro_lst I1.kr hf (DpAll.of_ints _))
/-! ### isinstance of a scalar -/
def tyN : PyData → String
  | .none => "NoneType" | .bool _ => "bool" | .int _ => "int" | .str _ => "str" | .list _ => "list" | .tuple _ => "tuple" | .dict _ => "dict"
def isScal : PyData → Bool
  | .none | .bool _ | .int _ | .str _ => true
  | _ => false
theorem ty_scal {K : PySem.W.Frag} {H : Hp} {v : V} {d : PyData} (h : Dp K H v d) (s : isScal d = true) : TyX K H v (.type (tyN d)) := by
  cases h with
  | non => exact .base .non
  | bl b => exact .base (.bl b)
  | int i => exact .base (.int i)
  | str x => exact .base (.str x)
  | lst _ _ => cases s
  | tup _ _ => cases s
theorem ee_isS {T : String} {t : Expr} {d : PyData} {k : Bool} (ha : EE X e ρ d ρ1) (hs : isScal d = true) (hk : kitB (tyN d) T = some k) (h : PE X (.Call (.Name "isinstance" p0) [e, t] [] pos) (tCB (rIsi X.K) (tCons (sE X e) (tCons (tC (.ty T)) tNil)))) : EE X (.Call (.Name "isinstance" p0) [e, t] [] pos) ρ (.bool k) ρ1 := fun bi σ0 B H0 σ Hk Hr I Q q => by
  refine sE_of h (ha bi σ0 B H0 σ Hk Hr I _ fun v Hk1 Hr1 I1 m1 h1 => ?_)
  exact ⟨v, .ty T, .type (tyN d), .type T, k, rfl, .ty T, ty_scal (Dp.mono I1.kr _ h1) hs, kit_ty hk, q _ Hk1 Hr1 I1 m1 (.bl _)⟩
end
/-! ### equality of tuples and lists of ints -/
theorem eqvAll_ints : ∀ xs ys : List Int, PyData.eqvAll (xs.map .int) (ys.map .int) = decide (xs = ys)
  | [], [] => by simp [PyData.eqvAll]
  | [], _ :: _ => by simp [PyData.eqvAll]
  | _ :: _, [] => by simp [PyData.eqvAll]
  | x :: xs, y :: ys => by
    simp only [List.map_cons, PyData.eqvAll, PyData.eqv, eqvAll_ints xs ys]
    by_cases h : x = y
    · subst h
      by_cases h2 : xs = ys
      · simp [h2]
      · simp [h2]
    · simp [h]
theorem eqv_tup (xs ys : List Int) : PyData.eqv (.tuple (xs.map .int)) (.tuple (ys.map .int)) = decide (xs = ys) := by
  simp only [PyData.eqv, eqvAll_ints]
theorem canLay_ints : ∀ xs : List Int, PyData.canLayAll0 (xs.map .int) = true
  | [] => by simp [PyData.canLayAll0]
  | x :: xs => by simp [PyData.canLayAll0, PyData.canLay0, canLay_ints xs]
theorem depth_ints : ∀ xs : List Int, PyData.depthAll (xs.map .int) = 0
  | [] => by simp [PyData.depthAll]
  | x :: xs => by simp [PyData.depthAll, PyData.depth, depth_ints xs]
theorem shaped_int (i : Int) : SeqAt.shaped (.int i) = true := by simp [SeqAt.shaped, PyData.canLay0, PyData.depth]
theorem shaped_bool (i : Bool) : SeqAt.shaped (.bool i) = true := by simp [SeqAt.shaped, PyData.canLay0, PyData.depth]
theorem shaped_none : SeqAt.shaped .none = true := by simp [SeqAt.shaped, PyData.canLay0, PyData.depth]
theorem shaped_tup (xs : List Int) : SeqAt.shaped (.tuple (xs.map .int)) = true := by simp [SeqAt.shaped, PyData.canLay0, PyData.depth, canLay_ints, depth_ints]
theorem shaped_lst (xs : List Int) : SeqAt.shaped (.list (xs.map .int)) = true := by simp [SeqAt.shaped, PyData.canLay0, PyData.depth, canLay_ints, depth_ints]
/-- lists of tuples of ints -/
def dT (xs : List Int) : PyData := .tuple (xs.map .int)
theorem canLay_tups : ∀ xs : List (List Int), PyData.canLayAll0 (xs.map dT) = true
  | [] => by simp [PyData.canLayAll0]
  | x :: xs => by simp [PyData.canLayAll0, dT, PyData.canLay0, canLay_ints, canLay_tups xs]
theorem depth_tups : ∀ xs : List (List Int), PyData.depthAll (xs.map dT) ≤ 1
  | [] => by simp [PyData.depthAll]
  | x :: xs => by
    have := depth_tups xs
    simp [PyData.depthAll, dT, PyData.depth, depth_ints]
    omega
theorem shaped_lstT (xs : List (List Int)) : SeqAt.shaped (.list (xs.map dT)) = true := by
  have := depth_tups xs
  simp [SeqAt.shaped, PyData.canLay0, PyData.depth, canLay_tups]
  omega
theorem shaped_tupT (xs : List (List Int)) : SeqAt.shaped (.tuple (xs.map dT)) = true := by
  have := depth_tups xs
  simp [SeqAt.shaped, PyData.canLay0, PyData.depth, canLay_tups]
  omega
theorem eqvAll_tups : ∀ xs ys : List (List Int), PyData.eqvAll (xs.map dT) (ys.map dT) = decide (xs = ys)
  | [], [] => by simp [PyData.eqvAll]
  | [], _ :: _ => by simp [PyData.eqvAll]
  | _ :: _, [] => by simp [PyData.eqvAll]
  | x :: xs, y :: ys => by
    have h0 : PyData.eqv (dT x) (dT y) = decide (x = y) := eqv_tup x y
    simp only [List.map_cons, PyData.eqvAll, h0, eqvAll_tups xs ys]
    by_cases h : x = y
    · subst h
      by_cases h2 : xs = ys
      · simp [h2]
      · simp [h2]
    · simp [h]
end Pd
namespace Pd
open PySem L2 PySem.Spec PyProof.Rows RZ RT

/-- hi, hi - 1, .. : n ints -/
def dwnD (hi : Int) (n : Nat) : List PyData := (List.range n).map fun i => .int (hi + (i : Nat) * (-1))
theorem dwnD_len {lo : Int} {n : Nat} : (dwnD lo n).length = n := by unfold dwnD; simp
theorem dwnD_get {lo : Int} {n i : Nat} {d : PyData} (h : (dwnD lo n)[i]? = some d) : i < n ∧ d = .int (lo + (i : Nat) * (-1)) := by
  unfold dwnD at h
  rw [List.getElem?_map] at h
  by_cases q : i < n
  · rw [List.getElem?_range q] at h
    exact ⟨q, (Option.some.inj h).symm⟩
  · rw [List.getElem?_eq_none (by simp; omega)] at h
    cases h
theorem wk_dwn {K : PySem.W.Frag} {Hk : Hp} {lo : Int} {n : Nat} : Wk K (Itc lo (-1) n) (dwnD lo n) Hk := fun i Hr e => ⟨fun hi => by rw [dwnD_len] at hi; exact hi, fun hi => by rw [dwnD_len] at hi; exact hi, fun x H' hy => by
  obtain ⟨rfl, rfl⟩ := hy
  refine ⟨Same.refl _, fun d hd => ?_⟩
  obtain ⟨_, rfl⟩ := dwnD_get hd
  exact .int _⟩
section
variable {X : Cx} {tg a b c e : Expr} {ρ ρ1 ρ2 ρ3 : List Sl} {i j : Int} {ds es : List PyData} {p0 pos tpos : Pos} {kk : Nat} {elts : List Expr}
/-- range(i, j, -1) -/
theorem ei_down (hm : X.mg "range" = none) (ha : EA X [a, b, c] ρ [.int i, .int j, .int (-1)] ρ1) (hj : -(2 ^ 62) ≤ i ∧ i < 2 ^ 62 ∧ -(2 ^ 62) ≤ j ∧ j < 2 ^ 62) (hg : Gl X "range" := by rfl)
    (hs : starEach [a, b, c] X.env = (false, eval a X.env) :: starEach [b, c] X.env := by rfl) (hpl : (backTo pos (starEach [b, c] X.env)).any (·.1) = false := by rfl) : EI X tg (.Call (.Name "range" p0) [a, b, c] [] pos) ρ (dwnD i (i - j).toNat) ρ1 :=
  ⟨_, pi_range3 hg hm pa_s hs hpl, fun bi σ0 B H0 σ Hk Hr I R q => ha bi σ0 B H0 σ Hk Hr I _ fun vs Hk1 Hr1 I1 m1 h1 => by
    cases h1 with
    | cons h1 h2 =>
      cases h1
      cases h2 with
      | cons h2 h3 =>
        cases h2
        cases h3 with
        | cons h3 h4 =>
          cases h3; cases h4
          exact ⟨i, j, -1, (i - j).toNat, rfl, RgC.neg hj.1 hj.2.1 hj.2.2.1 hj.2.2.2, q _ Hk1 Hr1 I1 m1 wk_dwn⟩⟩
/-- the pairs of two rows -/
def zipD (ds es : List PyData) : List PyData := List.zipWith (fun x y => .tuple [x, y]) ds es
theorem zipD_len : (zipD ds es).length = min ds.length es.length := by unfold zipD; simp
theorem zipD_get {d : PyData} {n : Nat} (h : (zipD ds es)[n]? = some d) : ∃ x y, ds[n]? = some x ∧ es[n]? = some y ∧ d = .tuple [x, y] := by
  unfold zipD at h
  rw [List.getElem?_zipWith] at h
  cases h1 : ds[n]? with
  | none => rw [h1] at h; cases h
  | some x =>
    cases h2 : es[n]? with
    | none => rw [h1, h2] at h; cases h
    | some y =>
      rw [h1, h2] at h
      exact ⟨x, y, rfl, rfl, (Option.some.inj h).symm⟩
theorem wk_zipT {K : PySem.W.Frag} {Hk : Hp} {a b : Addr} {xs ys : List V} (hs : SqT K Hk a xs) (ht : SqT K Hk b ys) (hx : DpAll K Hk xs ds) (hy : DpAll K Hk ys es) : Wk K (ItzT K a b) (zipD ds es) Hk := fun i Hr e => by
  have l1 := DpAll.len hx
  have l2 := DpAll.len hy
  refine ⟨fun hi => ?_, fun hi => ?_, fun x H' h => ?_⟩
  · rw [zipD_len] at hi
    exact ⟨xs, ys, _, _, same_t e hs, same_t e ht, List.getElem?_eq_getElem (by omega), List.getElem?_eq_getElem (by omega)⟩
  · rw [zipD_len] at hi
    exact ⟨xs, ys, same_t e hs, same_t e ht, by omega⟩
  · obtain ⟨T, x1, y1, rfl, hT, rfl, f1, f2⟩ := h
    refine ⟨new_same hT _, fun d hd => ?_⟩
    obtain ⟨dx, dy, g1, g2, rfl⟩ := zipD_get hd
    obtain ⟨v1, s1, s2⟩ := DpAll.get hx g1
    obtain ⟨v2, t1, t2⟩ := DpAll.get hy g2
    have e1 := f1 _ (same_t e hs)
    have e2 := f2 _ (same_t e ht)
    rw [s1] at e1
    rw [t1] at e2
    have e1 := Option.some.inj e1
    have e2 := Option.some.inj e2
    subst e1; subst e2
    exact gro_tup e hT (.cons s2 (.cons t2 .nil))
theorem wk_zipL {K : PySem.W.Frag} {Hk : Hp} {a b : Addr} {xs ys : List V} (hs : SqL K Hk a xs) (ht : SqL K Hk b ys) (hx : DpAll K Hk xs ds) (hy : DpAll K Hk ys es) : Wk K (Itz K a b) (zipD ds es) Hk := fun i Hr e => by
  have l1 := DpAll.len hx
  have l2 := DpAll.len hy
  refine ⟨fun hi => ?_, fun hi => ?_, fun x H' h => ?_⟩
  · rw [zipD_len] at hi
    exact ⟨xs, ys, _, _, same_l e hs, same_l e ht, List.getElem?_eq_getElem (by omega), List.getElem?_eq_getElem (by omega)⟩
  · rw [zipD_len] at hi
    exact ⟨xs, ys, same_l e hs, same_l e ht, by omega⟩
  · obtain ⟨T, x1, y1, rfl, hT, rfl, f1, f2⟩ := h
    refine ⟨new_same hT _, fun d hd => ?_⟩
    obtain ⟨dx, dy, g1, g2, rfl⟩ := zipD_get hd
    obtain ⟨v1, s1, s2⟩ := DpAll.get hx g1
    obtain ⟨v2, t1, t2⟩ := DpAll.get hy g2
    have e1 := f1 _ (same_l e hs)
    have e2 := f2 _ (same_l e ht)
    rw [s1] at e1
    rw [t1] at e2
    have e1 := Option.some.inj e1
    have e2 := Option.some.inj e2
    subst e1; subst e2
    exact gro_tup e hT (.cons s2 (.cons t2 .nil))
theorem ei_zipT {e2 : Expr} (hm : X.mg "zip" = none) (ha : EA X [e, e2] ρ [.tuple ds, .tuple es] ρ1) (hg : Gl X "zip" := by rfl) (hs : starEach [e, e2] X.env = (false, eval e X.env) :: starEach [e2] X.env := by rfl) (hpl : (backTo pos (starEach [e2] X.env)).any (·.1) = false := by rfl) :
    EI X (.Tuple elts kk tpos) (.Call (.Name "zip" p0) [e, e2] [] pos) ρ (zipD ds es) ρ1 := ⟨_, pi_zipA hg hm pa_s hs hpl, fun bi σ0 B H0 σ Hk Hr I R q => ha bi σ0 B H0 σ Hk Hr I _ fun vs Hk1 Hr1 I1 m1 h1 => by
  cases h1 with
  | cons h1 h2 =>
    cases h2 with
    | cons h2 h3 =>
      cases h3
      cases h1 with
      | tup hs hx =>
        cases h2 with
        | tup ht hy => exact ⟨_, _, _, _, rfl, .inr ⟨same_t I1.kr hs, same_t I1.kr ht, q _ Hk1 Hr1 I1 m1 (wk_zipT hs ht hx hy)⟩⟩⟩
theorem ei_zipL {e2 : Expr} (hm : X.mg "zip" = none) (ha : EA X [e, e2] ρ [.list ds, .list es] ρ1) (hg : Gl X "zip" := by rfl) (hs : starEach [e, e2] X.env = (false, eval e X.env) :: starEach [e2] X.env := by rfl) (hpl : (backTo pos (starEach [e2] X.env)).any (·.1) = false := by rfl) :
    EI X (.Tuple elts kk tpos) (.Call (.Name "zip" p0) [e, e2] [] pos) ρ (zipD ds es) ρ1 := ⟨_, pi_zipA hg hm pa_s hs hpl, fun bi σ0 B H0 σ Hk Hr I R q => ha bi σ0 B H0 σ Hk Hr I _ fun vs Hk1 Hr1 I1 m1 h1 => by
  cases h1 with
  | cons h1 h2 =>
    cases h2 with
    | cons h2 h3 =>
      cases h3
      cases h1 with
      | lst hs hx =>
        cases h2 with
        | lst ht hy => exact ⟨_, _, _, _, rfl, .inl ⟨same_l I1.kr hs, same_l I1.kr ht, q _ Hk1 Hr1 I1 m1 (wk_zipL hs ht hx hy)⟩⟩⟩
/-- reversed(a list) -/
theorem ei_rev (hm : X.mg "reversed" = none) (ha : EE X e ρ (.list ds) ρ1) (hg : Gl X "reversed" := by rfl) (hs : starEach [e] X.env = (false, eval e X.env) :: starEach [] X.env := by rfl) : EI X tg (.Call (.Name "reversed" p0) [e] [] pos) ρ ds.reverse ρ1 :=
  ⟨_, pi_revA hg hm pe_s hs, fun bi σ0 B H0 σ Hk Hr I R q => ha bi σ0 B H0 σ Hk Hr I _ fun v Hk1 Hr1 I1 m1 h1 => by
    cases h1 with
    | lst hs hx =>
      rename_i xs
      have l1 := DpAll.len hx
      refine ⟨_, _, rfl, .inl ⟨same_l I1.kr hs, q _ Hk1 Hr1 I1 m1 fun i Hr2 e2 => ⟨fun hi => ?_, fun hi => ?_, fun x H' hy => ?_⟩⟩⟩
      · rw [List.length_reverse] at hi
        exact ⟨by omega, _, _, same_l e2 hs, List.getElem?_eq_getElem (by omega)⟩
      · rw [List.length_reverse] at hi
        show xs.length ≤ i
        omega
      · obtain ⟨rfl, f⟩ := hy
        refine ⟨Same.refl _, fun d hd => ?_⟩
        have hlt : i < ds.length := by
          have := (List.getElem?_eq_some_iff.mp hd).1
          simpa using this
        rw [List.getElem?_reverse hlt] at hd
        obtain ⟨v, s1, s2⟩ := DpAll.get hx hd
        have := f _ (same_l e2 hs)
        rw [l1, s1] at this
        have := Option.some.inj this
        subst this
        exact Dp.mono (gro_same e2) d s2⟩
end

end Pd
namespace Pd
open PySem L2 PySem.Spec PyProof.Rows

section
variable {X : Cx}
def rSumT (K : PySem.W.Frag) : List V → Hp → VK → Prop := fun vs H Q => ∃ (a : Addr) (ns : List Int), vs = [V.ref a] ∧ SqT K H a (ns.map V.int) ∧ Q (.int ns.sum) H
theorem cr_sumT (hc : X.calm = true) : CallR X (.builtin "sum") (rSumT X.K) := by
  intro pins s σ H vs us Q I r h
  obtain ⟨t, nums, rfl, ht, goal⟩ := h
  obtain ⟨conc, rel, ist, _⟩ := I.tuple ht
  rw [Vals.ref1 r]
  have allI := rel.ints
  obtain ⟨pairs, ep⟩ := allI.allInts.items
  have en : numsOf (intItems pairs).toList = nums := ep ▸ allI.numsOf
  rw [ep] at ist
  refine PySem.W.ktm_sumG (I.ok.hd hc) ist fun h' tk t' more => ?_
  rw [nums_intItems] at en
  rw [preSum_eq, List.take_of_length_le (Nat.le_of_eq (by rw [List.length_map, Array.length_toList])), en]
  exact ⟨.int _, H, I.kept more, ⟨_, rfl⟩, goal⟩
end
section
variable {X : Cx} {e a b : Expr} {es : List Expr} {ρ ρ1 ρ2 : List Sl} {ds : List PyData} {d : PyData} {p0 p1 pos : Pos} {ns ms : List Int} {bs : List Bool} {k m : Bool}
theorem ee_sumT (hm : X.mg "sum" = none) (ha : EE X e ρ (.tuple (ns.map .int)) ρ1) (hg : Gl X "sum" := by rfl) (hc : X.calm = true := by rfl) (he : starEach [e] X.env = [(false, eval e X.env)] := by rfl) (hpl : (backTo pos (starEach ([] : List Expr) X.env)).any (·.1) = false := by rfl) : EE X (.Call (.Name "sum" p0) [e] [] pos) ρ (.int ns.sum) ρ1 :=
  ee_tCB (pe_callB (cr_sumT hc) hg hm (by decide +kernel) pa_s (by decide) (by decide) he hpl) (ea_cons ha ea_nil he) (fun vs Hk Hr kr h Q q => by
    cases h with
    | cons h1 h2 =>
      cases h2
      cases h1 with
      | tup hs ha =>
        have := DpAll.ints ha
        subst this
        exact ⟨_, ns, rfl, same_t kr hs, q _ Hr (Same.refl _) (.int _)⟩)
theorem ee_sumL (hm : X.mg "sum" = none) (ha : EE X e ρ (.list (ns.map .int)) ρ1) (hg : Gl X "sum" := by rfl) (hc : X.calm = true := by rfl) (he : starEach [e] X.env = [(false, eval e X.env)] := by rfl) (hpl : (backTo pos (starEach ([] : List Expr) X.env)).any (·.1) = false := by rfl) : EE X (.Call (.Name "sum" p0) [e] [] pos) ρ (.int ns.sum) ρ1 :=
  ee_tCB (pe_callB (cr_sum hc) hg hm (by decide +kernel) pa_s (by decide) (by decide) he hpl) (ea_cons ha ea_nil he) (fun vs Hk Hr kr h Q q => by
    cases h with
    | cons h1 h2 =>
      cases h2
      cases h1 with
      | lst hs ha =>
        have := DpAll.ints ha
        subst this
        exact ⟨_, ns, rfl, same_l kr hs, q _ Hr (Same.refl _) (.int _)⟩)
theorem DpAll.bools {K : PySem.W.Frag} {H : Hp} : ∀ {vs : List V} {bs : List Bool}, DpAll K H vs (bs.map PyData.bool) → vs = bs.map V.bl
  | _, [], h => by cases h; rfl
  | _, n :: ns, h => by
    cases h with
    | cons h1 h2 =>
      cases h1
      simp [DpAll.bools h2]
theorem ee_all (hm : X.mg "all" = none) (ha : EE X e ρ (.list (bs.map .bool)) ρ1) (hg : Gl X "all" := by rfl) (hc : X.calm = true := by rfl) (he : starEach [e] X.env = [(false, eval e X.env)] := by rfl) (hpl : (backTo pos (starEach ([] : List Expr) X.env)).any (·.1) = false := by rfl) : EE X (.Call (.Name "all" p0) [e] [] pos) ρ (.bool (bs.all id)) ρ1 :=
  ee_tCB (pe_callB (cr_all hc) hg hm (by decide +kernel) pa_s (by decide) (by decide) he hpl) (ea_cons ha ea_nil he) (fun vs Hk Hr kr h Q q => by
    cases h with
    | cons h1 h2 =>
      cases h2
      cases h1 with
      | lst hs ha =>
        have := DpAll.bools ha
        subst this
        exact ⟨_, bs, rfl, same_l kr hs, q _ Hr (Same.refl _) (.bl _)⟩)
/-- x < y, tuples of ints -/
theorem rd_ltT {K : PySem.W.Frag} : RD K (rLtT K) (.tuple (ns.map .int)) (.tuple (ms.map .int)) (.bool (HT.lexLt ns ms)) := fun x y Hk Hr kr hx hy Q q => by
  cases hx with
  | tup hs ha =>
    cases hy with
    | tup ht hb =>
      have := DpAll.ints ha
      subst this
      have := DpAll.ints hb
      subst this
      exact ⟨_, _, ns, ms, rfl, rfl, same_t kr hs, same_t kr ht, q _ Hr (Same.refl _) (.bl _)⟩
/-- x is True -/
theorem rd_isB {K : PySem.W.Frag} : RD K rIsB (.bool k) (.bool m) (.bool (decide (k = m))) := fun x y Hk Hr kr hx hy Q q => by
  cases hx; cases hy
  exact ⟨k, m, rfl, rfl, q _ Hr (Same.refl _) (.bl _)⟩
theorem rd_notB {K : PySem.W.Frag} : RD K rNotB (.bool k) (.bool m) (.bool (!decide (k = m))) := fun x y Hk Hr kr hx hy Q q => by
  cases hx; cases hy
  exact ⟨k, m, rfl, rfl, q _ Hr (Same.refl _) (.bl _)⟩
/-- isinstance(a tuple, T) -/
theorem ty_tup {K : PySem.W.Frag} {H : Hp} {v : V} (h : Dp K H v (.tuple ds)) : TyX K H v (.type "tuple") := by
  cases h with
  | tup hs ha =>
    rcases hs with (h | ⟨o, h⟩) | h
    · exact .base (.tup h)
    · exact .fTuple h
    · obtain ⟨o, its, n, ho, hc, _⟩ := h
      exact .kTuple ho hc
theorem ee_isT {T : String} {t : Expr} (ha : EE X e ρ (.tuple ds) ρ1) (hk : kitB "tuple" T = some k) (h : PE X (.Call (.Name "isinstance" p0) [e, t] [] pos) (tCB (rIsi X.K) (tCons (sE X e) (tCons (tC (.ty T)) tNil)))) : EE X (.Call (.Name "isinstance" p0) [e, t] [] pos) ρ (.bool k) ρ1 := fun bi σ0 B H0 σ Hk Hr I Q q => by
  refine sE_of h (ha bi σ0 B H0 σ Hk Hr I _ fun v Hk1 Hr1 I1 m1 h1 => ?_)
  exact ⟨v, .ty T, .type "tuple", .type T, k, rfl, .ty T, ty_tup (Dp.mono I1.kr _ h1), kit_ty hk, q _ Hk1 Hr1 I1 m1 (.bl _)⟩
end
/-! ### x.extend([..] * k); x, y = .. -/
section
variable {X : Cx} {bi : List Nat} {a b e : Expr} {es : List Expr} {rest : List Stmt} {ρ ρ1 ρ2 : List Sl} {N : List Sl → Prop} {R : RTy} {d1 d2 : PyData} {ds cs : List PyData} {pos epos bpos lpos p0 p1 p2 p3 p4 : Pos} {x y : Str} {n i j : Nat} {k : Int} {kk k2 : Nat}
theorem rep_all {K : PySem.W.Frag} {H : Hp} {vs : List V} (h : DpAll K H vs ds) : ∀ m : Nat, DpAll K H (List.replicate m vs).flatten (List.replicate m ds).flatten
  | 0 => .nil
  | m + 1 => by
    rw [List.replicate_succ, List.replicate_succ, List.flatten_cons, List.flatten_cons]
    exact DpAll.app h (rep_all h m)
theorem ss_extendRep (h0 : ρ[n]? = some (.own cs)) (hes : EA X es ρ ds ρ) (hb : EE X b ρ (.int k) ρ) (hk : 0 ≤ k ∧ k ≤ 1000 ∧ ds.length ≤ 10 ∧ cs.length ≤ 10000) (hr : SS X bi rest (ρ.set n (.own (cs ++ (List.replicate k.toNat ds).flatten))) N R)
    (hp : PE X (.Call (.Attribute (.Name x p0) "extend" p1) [.BinOp (.List es lpos) .Mult b bpos] [] epos) (tBM X.K "list" rExtend (tVar n) (tCons (tOp rRep (tLst (sA X es)) (sE X b)) tNil))) (hs : swapsWith (.Call (.Attribute (.Name x p0) "extend" p1) [.BinOp (.List es lpos) .Mult b bpos] [] epos) none pos.line X.env = pure false := by rfl) :
    SS X bi (.Expr (.Call (.Attribute (.Name x p0) "extend" p1) [.BinOp (.List es lpos) .Mult b bpos] [] epos) pos :: rest) ρ N R := fun σ0 B H0 hz σ Hk Hr D I nx rt => by
  obtain ⟨a0, vs0, t1, t2, t3, t4, t5⟩ := I.own n cs h0
  refine sSs_of (pss_cons (ps_expr hp hs) pss_s) ⟨.ref a0, t1, .inl ⟨rfl, _, .inl (.inl t2)⟩, hes bi σ0 B H0 σ Hk Hr I _ fun vs Hk1 Hr1 I1 m1 h1 => ⟨by rw [DpAll.len h1]; exact le_line (by omega), fun p hp => ?_⟩⟩
  have Ia := I1.gro (new_same hp (.lst vs))
  -- p is ours for a moment: forget it
  have kr1 : Same Hk1 (upd Hr1 p (.lst vs)) := I1.kr.trans (new_same hp _)
  have nk : Hk1 p = none := by
    cases z : Hk1 p with
    | none => rfl
    | some u => rw [I1.kr _ _ z] at hp; cases hp
  have n0 : H0 p = none := by
    cases z : H0 p with
    | none => rfl
    | some u => rw [I1.real _ _ z] at hp; cases hp
  have far : ∀ {i : Nat} {zs : List PyData} {c : Addr}, ρ[i]? = some (.own zs) → σ[i]? = some (some (.ref c)) → c ≠ p := fun {i zs c} q1 q2 z => by
    obtain ⟨c', us, s1, s2, _⟩ := I1.own i zs q1
    rw [q2] at s1
    injection s1 with s1; injection s1 with s1; injection s1 with s1; subst s1
    rw [z, hp] at s2
    cases s2
  have Ip : Ok X.K [] σ Hk1 (fen ρ σ (upd Hr1 p (.lst vs))) ρ σ Hk1 (upd Hr1 p (.lst vs)) :=
    ⟨Same.refl _, fun b o h => (fen_sub h).1, kr1, fun b o h _ => h, (fun i hi => nomatch hi), I1.len, I1.val, (fun i zs h => by
      obtain ⟨c, us, s1, s2, s3, s4, s5⟩ := I1.own i zs h
      exact ⟨c, us, s1, by rw [upd_ne (far h s1)]; exact s2, s3, fen_own h s1, s5⟩), I1.dis⟩
  have noP : ¬ Ow ρ σ p := fun ⟨i, zs, q1, q2⟩ => far q1 q2 rfl
  refine hb _ _ _ _ σ Hk1 _ Ip _ fun y Hk2 Hr2 I2 m2 h2 => ?_
  cases h2
  have hp2 : Hr2 p = some (.lst vs) := I2.real _ _ (by rw [fen_not noP, upd_same])
  refine ⟨p, k, vs, rfl, rfl, hp2, by omega, by omega, ?_, fun q hq => ?_⟩
  · rw [DpAll.len h1]
    have z : ds.length * k.toNat ≤ 10 * 1000 := Nat.mul_le_mul hk.2.2.1 (by omega)
    exact le_line (by omega)
  obtain ⟨a1, vs1, u1, u2, u3, u4, u5⟩ := I2.own n cs h0
  have ea : a0 = a1 := by
    rw [t1] at u1
    injection u1 with u1; injection u1 with u1; injection u1
  subst ea
  have hq0 : a0 ≠ q := ne_of_none u2 hq
  have l1 := DpAll.len (rep_all (h1) k.toNat)
  have l2 : (List.replicate k.toNat ds).flatten.length ≤ 10000 := by
    rw [List.length_flatten, List.map_replicate, List.sum_replicate_nat]
    have z : k.toNat * ds.length ≤ 1000 * 10 := Nat.mul_le_mul (by omega) hk.2.2.1
    omega
  refine ⟨a0, q, vs1, _, rfl, rfl, by rw [upd_ne hq0]; exact u2, upd_same, ?_, ?_⟩
  · rw [l1, DpAll.len u5]
    exact le_line (by omega)
  -- back
  have I3 : Ok X.K bi σ0 B H0 ρ σ Hk2 Hr2 :=
    ⟨I1.base.trans m2, (fun b o h => by
      refine I2.real b o ?_
      rw [fen_not, upd_ne (ne_of_none h n0)]
      · exact I1.real _ _ h
      · rintro ⟨i, zs, q1, q2⟩
        obtain ⟨c, us, s1, s2, s3, s4, s5⟩ := I1.own i zs q1
        rw [q2] at s1
        injection s1 with s1; injection s1 with s1; injection s1 with s1; subst s1
        rw [h] at s4
        cases s4), I2.kr, (fun b o h h0' => by
      refine I1.old b o (I2.old b o h ?_) h0'
      cases z : H0 b with
      | none => exact absurd z h0'
      | some u =>
        rw [fen_not, upd_ne (ne_of_none z n0), I1.real _ _ z]
        · exact fun z => nomatch z
        · rintro ⟨i, zs, q1, q2⟩
          obtain ⟨c, us, s1, s2, s3, s4, s5⟩ := I1.own i zs q1
          rw [q2] at s1
          injection s1 with s1; injection s1 with s1; injection s1 with s1; subst s1
          rw [z] at s4
          cases s4), I1.bor, I2.len, I2.val, (fun i zs h => by
      obtain ⟨c, us, s1, s2, s3, s4, s5⟩ := I2.own i zs h
      obtain ⟨c', us', r1, r2, r3, r4, r5⟩ := I1.own i zs h
      rw [s1] at r1
      injection r1 with r1; injection r1 with r1; injection r1 with r1; subst r1
      exact ⟨c, us, s1, s2, s3, r4, s5⟩), I2.dis⟩
  have I4 := I3.gro (new_same hq (.lst (List.replicate k.toNat vs).flatten))
  have I5 := I4.mut (es := cs ++ (List.replicate k.toNat ds).flatten) (ws := vs1 ++ (List.replicate k.toNat vs).flatten) h0 t1 (DpAll.mono (gro_same I3.kr) _ (DpAll.app u5 (DpAll.mono m2 _ (rep_all h1 _))))
  exact hr σ0 B H0 hz σ _ _ D I5 (fun ρ' σ' Hk' Hr' q I' m' => nx ρ' σ' Hk' Hr' q I' (m1.trans (m2.trans ((gro_same I3.kr).trans m')))) rt
/-- x, y = a, b -/
theorem ss_par (hN : X.N.Nodup) (hi : X.N[i]? = some x) (hj : X.N[j]? = some y) (hbi : i ∉ bi) (hbj : j ∉ bi) (hes : EA X [a, b] ρ [d1, d2] ρ1) (hr : SS X bi rest ((ρ1.set i (.val d1)).set j (.val d2)) N R)
    (hp : PS X (.Assign [.Tuple [.Name x p0, .Name y p1] kk p2] (.Tuple [a, b] k2 p3) pos) (tPar i j (sA X [a, b]))) : SS X bi (.Assign [.Tuple [.Name x p0, .Name y p1] kk p2] (.Tuple [a, b] k2 p3) pos :: rest) ρ N R := fun σ0 B H0 hz σ Hk Hr D I nx rt =>
  sSs_of (pss_cons hp pss_s) (hes bi σ0 B H0 σ Hk Hr I _ fun vs Hk1 Hr1 I1 m1 h1 => by
    cases h1 with
    | cons h1 h2 =>
      cases h2 with
      | cons h2 h3 =>
        cases h3
        exact ⟨_, _, rfl, hr σ0 B H0 hz _ Hk1 Hr1 D ((I1.set hbi h1).set hbj h2) (fun ρ' σ' Hk' Hr' q I' m' => nx ρ' σ' Hk' Hr' q I' (m1.trans m')) rt⟩)
end
end Pd
namespace L2
open PySem PySem.Spec PyProof.Rows
def rSortedPT (K : PySem.W.Frag) : List V → Hp → VK → Prop := fun vs H Q => ∃ (a : Addr) (xs : List V) (k : V → Int × Int), vs = [V.ref a] ∧ SqL K H a xs ∧ (∀ x ∈ xs, ∃ t, x = V.ref t ∧ SqT K H t [.int (k x).1, .int (k x).2]) ∧
  ∀ ys p, SrtO.Srtd (ltP k) ys → SrtO.Stb (ltP k) ys xs → H p = none → Q (.ref p) (upd H p (.lst ys))
section
variable {X : Cx}
theorem cr_sortedPT : CallR X (.builtin "sorted") (rSortedPT X.K) := by
  intro pins s σ H vs us Q I r h
  obtain ⟨lst, vals, key, rfl, hlst, hpair, goal⟩ := h
  obtain ⟨w, rfl, rw0⟩ := vals1 r
  obtain rfl : w = Value.ref lst := rw0
  obtain ⟨conc, rel, isl, fit⟩ := I.list hlst
  have back := refs_back rel fun x m => Exists.elim (hpair x m) fun t e => ⟨t, e.1⟩
  have fit2 : conc.length ≤ sizeLine := rel.length ▸ fit
  refine SrtO.sorted_pairsO (k := fun u => key (backV u)) isl.isList fit2 (fun v hv => ?_) fun h' dst out o1 o2 kp fresh laidAt => ?_
  · obtain ⟨t, rfl⟩ := back.2 v hv
    have inV : V.ref t ∈ vals := back.1 ▸ List.mem_map.mpr ⟨_, hv, rfl⟩
    obtain ⟨t', e, ht⟩ := hpair _ inV
    cases e
    obtain ⟨cells, rc, ⟨ob, g1, g2, cap, g3⟩, _⟩ := I.tuple ht
    obtain ⟨c1, c2, rfl, ⟨k1, q1⟩, ⟨k2, q2⟩⟩ := vals2 rc
    subst q1; subst q2
    exact ⟨t, ob, k1, k2, cap, rfl, g1, g2, g3⟩
  · obtain ⟨cap, held⟩ := laidAt
    have refs : ∀ u ∈ out, ∃ z, u = Value.ref z := fun u hu => back.2 u (o2.perm.mem_iff.mp hu)
    have stab : SrtO.Stb (ltP key) (out.map backV) vals := back.1 ▸ SrtO.Stb.map (ltP_swo key) backV o2
    have fit3 : (out.map backV).length ≤ sizeLine := stab.len ▸ fit
    exact ⟨.ref dst, upd H dst (.lst (out.map backV)), I.laid (t' := s.toks) kp fresh ⟨fit3, out, cap, vals_back refs, held⟩, rfl, goal _ dst (SrtO.srtd_map o1) stab (I.hok.fresh fresh)⟩
end
end L2
namespace Pd
open PySem L2 PySem.Spec PyProof.Rows
/-- sorted pairs -/
def insP (x : Int × Int) : List (Int × Int) → List (Int × Int)
  | [] => [x]
  | y :: r => if SrtO.lexB y x then y :: insP x r else x :: y :: r
def sortP : List (Int × Int) → List (Int × Int)
  | [] => []
  | x :: r => insP x (sortP r)
theorem insP_perm (x : Int × Int) : ∀ l, (insP x l).Perm (x :: l)
  | [] => .refl _
  | y :: r => by
    unfold insP
    split
    · exact ((insP_perm x r).cons y).trans (List.Perm.swap x y r)
    · exact .refl _
theorem sortP_perm : ∀ l, (sortP l).Perm l
  | [] => .refl _
  | x :: r => (insP_perm x _).trans ((sortP_perm r).cons x)
abbrev SrP (l : List (Int × Int)) : Prop := l.Pairwise fun x y => SrtO.lexB y x = false
theorem insP_sorted (x : Int × Int) : ∀ l, SrP l → SrP (insP x l)
  | [], _ => by unfold insP; exact List.pairwise_singleton _ _
  | y :: r, h => by
    have h0 := List.pairwise_cons.mp h
    unfold insP
    split
    · rename_i hy
      refine List.pairwise_cons.mpr ⟨fun z hz => ?_, insP_sorted x r h0.2⟩
      rcases List.mem_cons.mp ((insP_perm x r).mem_iff.mp hz) with rfl | hz
      · have := SrtO.lexB_iff.mp hy
        refine SrtO.lexB_no.mpr ?_
        omega
      · exact h0.1 z hz
    · rename_i hy
      have hy : SrtO.lexB y x = false := by simpa using hy
      refine List.pairwise_cons.mpr ⟨fun z hz => ?_, h⟩
      rcases List.mem_cons.mp hz with rfl | hz
      · exact hy
      · have a := SrtO.lexB_no.mp hy
        have b := SrtO.lexB_no.mp (h0.1 z hz)
        refine SrtO.lexB_no.mpr ?_
        omega
theorem sortP_sorted : ∀ l, SrP (sortP l)
  | [] => .nil
  | x :: r => insP_sorted x _ (sortP_sorted r)
theorem srP_uniq : ∀ {l m : List (Int × Int)}, l.Perm m → SrP l → SrP m → l = m
  | [], m, h, _, _ => (List.nil_perm.mp h).symm ▸ rfl
  | x :: l, [], h, _, _ => by
    have := h.length_eq
    simp at this
  | x :: l, y :: m, h, hl, hm => by
    have hl := List.pairwise_cons.mp hl
    have hm := List.pairwise_cons.mp hm
    have e : x = y := by
      have h1 : x ∈ y :: m := h.mem_iff.mp (by simp)
      have h2 : y ∈ x :: l := h.mem_iff.mpr (by simp)
      rcases List.mem_cons.mp h1 with rfl | h1
      · rfl
      · rcases List.mem_cons.mp h2 with rfl | h2
        · rfl
        · have a := SrtO.lexB_no.mp (hl.1 y h2)
          have b := SrtO.lexB_no.mp (hm.1 x h1)
          obtain ⟨x1, x2⟩ := x
          obtain ⟨y1, y2⟩ := y
          simp only at a b
          have : x1 = y1 := by omega
          have : x2 = y2 := by omega
          simp [*]
    subst e
    rw [srP_uniq (List.Perm.cons_inv h) hl.2 hm.2]
/-- a list of pairs -/
def dP (p : Int × Int) : PyData := .tuple [.int p.1, .int p.2]
/-- sorted(xs), xs pairs of ints -/
def rSortedPD (K : PySem.W.Frag) : List V → Hp → VK → Prop := fun vs H Q => ∃ (a : Addr) (xs : List V) (ps : List (Int × Int)), vs = [V.ref a] ∧ SqL K H a xs ∧ DpAll K H xs (ps.map dP) ∧
  ∀ (ys : List V) (p : Addr), ys.length = ps.length → (∀ z, z ∈ ys.zip (sortP ps) → z ∈ xs.zip ps) → H p = none → Q (.ref p) (upd H p (.lst ys))
theorem pair_key {X : Cx} {pins : List (Addr × Obj)} {s : Shared} {σ : L2.St} {H : Hp} (I : Inv X pins σ H s) : ∀ {vs : List V} {ps : List (Int × Int)}, DpAll X.K H vs (ps.map dP) → ∃ k : V → Int × Int, vs.map k = ps ∧ ∀ v ∈ vs, ∃ t, v = .ref t ∧ SqT X.K H t [.int (k v).1, .int (k v).2] := fun {vs ps} h => by
  classical
  have tu : ∀ {v : V} {p : Int × Int}, Dp X.K H v (dP p) → ∃ t, v = .ref t ∧ SqT X.K H t [.int p.1, .int p.2] := fun {v p} h1 => by
    cases h1 with
    | tup hs ha =>
      cases ha with
      | cons a1 a2 =>
        cases a2 with
        | cons a2 a3 =>
          cases a1; cases a2; cases a3
          exact ⟨_, rfl, hs⟩
  have uniq : ∀ {v : V} {p q : Int × Int}, Dp X.K H v (dP p) → Dp X.K H v (dP q) → p = q := fun {v p q} h1 h2 => by
    obtain ⟨t, e1, s1⟩ := tu h1
    obtain ⟨t2, e2, s2⟩ := tu h2
    rw [e1] at e2
    cases e2
    obtain ⟨its, r, ⟨o, ho, _, n, hd⟩, _⟩ := I.tuple s1
    obtain ⟨its2, r2, ⟨o2, ho2, _, n2, hd2⟩, _⟩ := I.tuple s2
    rw [ho] at ho2
    have ho2 := Option.some.inj ho2
    subst ho2
    rw [hd] at hd2
    injection hd2 with hd2
    have e : its = its2 := by simpa using hd2
    subst e
    obtain ⟨u1, u2, rfl, ⟨t1, i1⟩, ⟨t2, i2⟩⟩ := vals2 r
    obtain ⟨w1, w2, ew, ⟨t3, j1⟩, ⟨t4, j2⟩⟩ := vals2 r2
    injection ew with ew1 ew2
    injection ew2 with ew2 _
    subst ew1; subst ew2
    rw [i1] at j1
    rw [i2] at j2
    injection j1 with j1 _
    injection j2 with j2 _
    obtain ⟨p1, p2⟩ := p
    obtain ⟨q1, q2⟩ := q
    simp only at j1 j2
    rw [j1, j2]
  have kk : ∀ {v : V} {p : Int × Int}, Dp X.K H v (dP p) → (if hv : ∃ p, Dp X.K H v (dP p) then hv.choose else (0, 0)) = p := fun {v p} h1 => by
    have ex : ∃ p, Dp X.K H v (dP p) := ⟨p, h1⟩
    rw [dif_pos ex]
    exact uniq ex.choose_spec h1
  refine ⟨fun v => if hv : ∃ p, Dp X.K H v (dP p) then hv.choose else (0, 0), ?_, ?_⟩
  · induction ps generalizing vs with
    | nil => cases h; rfl
    | cons p ps ih =>
      cases h with
      | cons h1 h2 =>
        rw [List.map_cons, ih h2, kk h1]
  · induction ps generalizing vs with
    | nil => cases h; intro v hv; cases hv
    | cons p ps ih =>
      cases h with
      | cons h1 h2 =>
        intro v hv
        rcases List.mem_cons.mp hv with rfl | hv
        · show ∃ t, v = V.ref t ∧ SqT X.K H t [.int (if hv : ∃ p, Dp X.K H v (dP p) then hv.choose else (0, 0)).1, .int (if hv : ∃ p, Dp X.K H v (dP p) then hv.choose else (0, 0)).2]
          rw [kk h1]
          exact tu h1
        · exact ih h2 v hv
theorem cr_sortedPD {X : Cx} : CallR X (.builtin "sorted") (rSortedPD X.K) := by
  intro pins s σ H vs us Q I r h
  obtain ⟨a, xs, ps, rfl, hs, hd, q⟩ := h
  obtain ⟨k, hk, hall⟩ := pair_key I hd
  refine cr_sortedPT pins s σ H _ us Q I r ⟨a, xs, k, rfl, hs, hall, fun ys p h1 h2 hp => ?_⟩
  have e : ys.map k = sortP ps := by
    refine srP_uniq (((h2.perm.map k).trans (by rw [hk])).trans (sortP_perm ps).symm) ?_ (sortP_sorted ps)
    exact List.pairwise_map.mpr h1
  refine q ys p ?_ (fun z hz => ?_) hp
  · rw [h2.perm.length_eq, ← hk, List.length_map]
  · rw [← e] at hz
    rw [← hk]
    have zz : ∀ l : List V, l.zip (l.map k) = l.map fun v => (v, k v) := fun l => by
      induction l with
      | nil => rfl
      | cons x l ih => simp [ih]
    rw [zz] at hz ⊢
    exact (h2.perm.map _).mem_iff.mp hz
theorem zip_all {K : PySem.W.Frag} {H : Hp} : ∀ {vs : List V} {ps : List (Int × Int)}, vs.length = ps.length → (∀ z, z ∈ vs.zip ps → Dp K H z.1 (dP z.2)) → DpAll K H vs (ps.map dP)
  | [], [], _, _ => .nil
  | [], _ :: _, h, _ => by simp at h
  | _ :: _, [], h, _ => by simp at h
  | v :: vs, p :: ps, h, g => .cons (g (v, p) (by simp)) (zip_all (by simpa using h) fun z hz => g z (by simp [hz]))
theorem all_zip {K : PySem.W.Frag} {H : Hp} : ∀ {vs : List V} {ps : List (Int × Int)}, DpAll K H vs (ps.map dP) → ∀ z, z ∈ vs.zip ps → Dp K H z.1 (dP z.2)
  | [], _, _, z, hz => by simp at hz
  | _ :: _, [], _, z, hz => by simp at hz
  | v :: vs, p :: ps, h, z, hz => by
    cases h with
    | cons h1 h2 =>
      rw [List.zip_cons_cons] at hz
      rcases List.mem_cons.mp hz with rfl | hz
      · exact h1
      · exact all_zip h2 z hz
section
variable {X : Cx} {e : Expr} {ρ ρ1 : List Sl} {ps : List (Int × Int)} {p0 pos : Pos}
theorem ee_sortedP (hm : X.mg "sorted" = none) (ha : EE X e ρ (.list (ps.map dP)) ρ1) (hg : Gl X "sorted" := by rfl) (he : starEach [e] X.env = [(false, eval e X.env)] := by rfl) (hpl : (backTo pos (starEach ([] : List Expr) X.env)).any (·.1) = false := by rfl) : EE X (.Call (.Name "sorted" p0) [e] [] pos) ρ (.list ((sortP ps).map dP)) ρ1 :=
  ee_tCB (pe_callB cr_sortedPD hg hm (by decide +kernel) pa_s (by decide) (by decide) he hpl) (ea_cons ha ea_nil he) (fun vs Hk Hr kr h Q q => by
    cases h with
    | cons h1 h2 =>
      cases h2
      cases h1 with
      | lst hs ha =>
        rename_i xs
        refine ⟨_, xs, ps, rfl, same_l kr hs, DpAll.mono kr _ ha, fun ys p hl hz hp => ?_⟩
        have hy : DpAll X.K Hk ys ((sortP ps).map dP) := zip_all (by rw [hl, (sortP_perm ps).length_eq]) fun z h => all_zip ha z (hz z h)
        exact q _ _ (new_same hp _) (gro_lst kr hp hy))
end
end Pd
namespace Pd
open PySem L2 PySem.Spec PyProof.Rows
theorem no1 {ρ : List Sl} {i : Nat} (h : ρ[i]? = some .no) : ∀ k ∈ [i], ρ[k]? = some .no := fun k hk => by
  rw [List.mem_singleton.mp hk]; exact h
theorem no2 {ρ : List Sl} {i j : Nat} (h : ρ[i]? = some .no) (h' : ρ[j]? = some .no) : ∀ k ∈ [i, j], ρ[k]? = some .no := fun k hk => by
  rcases List.mem_cons.mp hk with rfl | hk
  · exact h
  · rw [List.mem_singleton.mp hk]; exact h'
theorem ee_neg {X : Cx} {e : Expr} {ρ ρ1 : List Sl} {i : Int} {pos : Pos} (h : EE X e ρ (.int i) ρ1) : EE X (.UnaryOp .USub e pos) ρ (.int (-i)) ρ1 := ee_un un_neg h (fun x Hk Hr kr hx Q q => by cases hx; exact ⟨i, rfl, q _ Hr (Same.refl _) (.int _)⟩)
theorem ee_eq {X : Cx} {a b : Expr} {ρ ρ1 ρ2 : List Sl} {d1 d2 : PyData} {k : Nat} {pos : Pos} (hr : Room k X.A) (ha : EE X a ρ d1 ρ1) (hb : EE X b ρ1 d2 ρ2) (h1 : SeqAt.shaped d1 = true) (h2 : SeqAt.shaped d2 = true) (hm : behindInMarks .Eq b = false := by rfl) : EE X (.Compare a [.Eq] [b] pos) ρ (.bool (PyData.eqv d1 d2)) ρ2 :=
  ee_cmp (op_eqD hr.units) ha hb (rd_eqD h1 h2) hm
theorem et_eq {X : Cx} {a b : Expr} {ρ ρ1 ρ2 : List Sl} {d1 d2 : PyData} {k : Nat} {pos : Pos} (hr : Room k X.A) (ha : EE X a ρ d1 ρ1) (hb : EE X b ρ1 d2 ρ2) (h1 : SeqAt.shaped d1 = true) (h2 : SeqAt.shaped d2 = true) (hm : behindInMarks .Eq b = false := by rfl) : ET X (.Compare a [.Eq] [b] pos) ρ (PyData.eqv d1 d2) ρ2 :=
  et_cmp (op_eqD hr.units) ha hb (rd_eqD h1 h2) hm
theorem et_ne {X : Cx} {a b : Expr} {ρ ρ1 ρ2 : List Sl} {d1 d2 : PyData} {k : Nat} {pos : Pos} (hr : Room k X.A) (ha : EE X a ρ d1 ρ1) (hb : EE X b ρ1 d2 ρ2) (h1 : SeqAt.shaped d1 = true) (h2 : SeqAt.shaped d2 = true) (hm : behindInMarks .NotEq b = false := by rfl) : ET X (.Compare a [.NotEq] [b] pos) ρ (!PyData.eqv d1 d2) ρ2 :=
  et_cmp (op_neD hr.units) ha hb (rd_neD h1 h2) hm
theorem eqv_int (i j : Int) : PyData.eqv (.int i) (.int j) = decide (i = j) := by
  show (i == j) = _
  exact Bool.beq_eq_decide_eq i j
theorem eqv_bool (i j : Bool) : PyData.eqv (.bool i) (.bool j) = decide (i = j) := by
  cases i <;> cases j <;> rfl
theorem ee_cast {X : Cx} {e : Expr} {ρ ρ1 : List Sl} {d d' : PyData} (h : EE X e ρ d ρ1) (he : d = d') : EE X e ρ d' ρ1 := he ▸ h
/-- an expression that gives a new list -/
def EL (X : Cx) (e : Expr) (ρ ρ' : List Sl) (ds : List PyData) : Prop :=
  ∀ (bi : List Nat) (σ0 : L2.St) (B H0 : Hp) (σ : L2.St) (Hk Hr : Hp), Ok X.K bi σ0 B H0 ρ σ Hk Hr → ∀ Q : VK, (∀ p vs Hk' Hr', Ok X.K bi σ0 B H0 ρ' σ Hk' Hr' → Same Hk Hk' → Hr' p = some (.lst vs) → Hk' p = none → H0 p = none → ¬ Ow ρ' σ p → DpAll X.K Hk' vs ds → Q (.ref p) Hr') → sE X e σ Hr Q
/-! comprehensions over l.map f -/
section
variable {X : Cx} {elt tg iter c : Expr} {scope : Scope} {own : List (Str × Nat)} {ρ ρ1 : List Sl} {pos : Pos} {α : Type} {l : List α} {f g : α → PyData} {p : α → Bool}
theorem take_map_at {j : Nat} {d : PyData} (h : (l.map f)[j]? = some d) : ∃ x, x ∈ l ∧ d = f x ∧ l.take (j + 1) = l.take j ++ [x] := by
  rw [List.getElem?_map] at h
  cases q : l[j]? with
  | none => rw [q] at h; cases h
  | some x =>
    rw [q] at h
    refine ⟨x, List.mem_of_getElem? q, (Option.some.inj h).symm, ?_⟩
    rw [List.take_add_one, q]
    rfl
theorem ee_lcM {gt : TG} (hi : EI X tg iter ρ (l.map f) ρ1) (hw : GW gt (own.map (·.2))) (hv : ∀ i ∈ own.map (·.2), ρ1[i]? = some .no) (hn : l.length ≤ 100000)
    (ht : ∀ x, x ∈ l → ∃ ρd, EG X.K [] gt ρ1 (f x) ρd ∧ wipeS ρd (own.map (·.2)) = ρ1 ∧ BE X scope elt ρd (g x) ρd)
    (hN : X.N.Nodup) (ok : BlkOk X.N X.env.scope scope own) (hg : ∀ (s : Shared) (H : Hp) (C : Addr) (cl : List (Str × Addr)) (fp : List Addr), PG (X.blk s H scope (compEnvC scope cl C X.env) fp) tg gt)
    (hc : X.calm = true := by rfl) (hs : ∀ x, foldedSetIterable iter X.env x = pure x := by intro _; rfl) : EE X (.ListComp elt [⟨tg, iter, [], 0⟩] scope pos) ρ (.list (l.map g)) ρ1 := fun bi σ0 B H0 σ Hk Hr I Q q => by
  obtain ⟨wi, pi, hi⟩ := hi
  refine sE_of (pe_lc hc hN pi ok hg (fun _ _ _ _ _ => pts_nil) pe_b hs) (lc_ok hi hw (fun j acc ρ' => acc = (l.take j).map g ∧ ρ' = ρ1) ⟨rfl, rfl⟩ (fun j acc ρj h i hi => by rw [h.2]; exact hv i hi) (fun j d acc ρj hd h => ?_) bi σ0 B H0 σ Hk Hr I Q fun v Hk' Hr' acc ρ' h I' m' hvd => ?_)
  · obtain ⟨rfl, rfl⟩ := h
    obtain ⟨x, hx, rfl, ht1⟩ := take_map_at hd
    obtain ⟨ρd, eg, ew, be⟩ := ht x hx
    have hj := (List.getElem?_eq_some_iff.mp hd).1
    rw [List.length_map] at hj
    refine ⟨by rw [List.length_map, List.length_take]; omega, ρd, true, ρd, eg, gt_yes, fun _ => ⟨g x, ρd, be.ge, ?_, ew⟩, fun z => nomatch z⟩
    rw [ht1, List.map_append]
    rfl
  · obtain ⟨rfl, rfl⟩ := h
    rw [List.length_map, List.take_length] at hvd
    exact q v Hk' Hr' I' m' hvd
theorem ee_lcMIf {gt : TG} (hi : EI X tg iter ρ (l.map f) ρ1) (hw : GW gt (own.map (·.2))) (hv : ∀ i ∈ own.map (·.2), ρ1[i]? = some .no) (hn : l.length ≤ 100000)
    (ht : ∀ x, x ∈ l → ∃ ρd, EG X.K [] gt ρ1 (f x) ρd ∧ wipeS ρd (own.map (·.2)) = ρ1 ∧ BT X scope c ρd (p x) ρd ∧ (p x = true → BE X scope elt ρd (g x) ρd))
    (hN : X.N.Nodup) (ok : BlkOk X.N X.env.scope scope own) (hg : ∀ (s : Shared) (H : Hp) (C : Addr) (cl : List (Str × Addr)) (fp : List Addr), PG (X.blk s H scope (compEnvC scope cl C X.env) fp) tg gt)
    (hc : X.calm = true := by rfl) (hs : ∀ x, foldedSetIterable iter X.env x = pure x := by intro _; rfl) : EE X (.ListComp elt [⟨tg, iter, [c], 0⟩] scope pos) ρ (.list ((l.filter p).map g)) ρ1 := fun bi σ0 B H0 σ Hk Hr I Q q => by
  obtain ⟨wi, pi, hi⟩ := hi
  refine sE_of (pe_lc hc hN pi ok hg (fun s H C cl fp => pts_one (pt_b s H C cl fp)) pe_b hs) (lc_ok hi hw (fun j acc ρ' => acc = ((l.take j).filter p).map g ∧ ρ' = ρ1) ⟨rfl, rfl⟩ (fun j acc ρj h i hi => by rw [h.2]; exact hv i hi) (fun j d acc ρj hd h => ?_) bi σ0 B H0 σ Hk Hr I Q fun v Hk' Hr' acc ρ' h I' m' hvd => ?_)
  · obtain ⟨rfl, rfl⟩ := h
    obtain ⟨x, hx, rfl, ht1⟩ := take_map_at hd
    obtain ⟨ρd, eg, ew, bt, be⟩ := ht x hx
    have hj := (List.getElem?_eq_some_iff.mp hd).1
    rw [List.length_map] at hj
    have hle : ((l.take j).filter p).length ≤ j := by
      have h1 := List.length_filter_le p (l.take j)
      have h2 := List.length_take_le j l
      omega
    refine ⟨by rw [List.length_map]; omega, ρd, p x, ρd, eg, bt.gt, fun z => ⟨g x, ρd, (be z).ge, ?_, ew⟩, fun z => ⟨?_, ew⟩⟩
    · rw [ht1, List.filter_append, List.map_append]
      simp [z]
    · rw [ht1, List.filter_append, List.map_append]
      simp [z]
  · obtain ⟨rfl, rfl⟩ := h
    rw [List.length_map, List.take_length] at hvd
    exact q v Hk' Hr' I' m' hvd
theorem el_lcM {gt : TG} (hi : EI X tg iter ρ (l.map f) ρ1) (hw : GW gt (own.map (·.2))) (hv : ∀ i ∈ own.map (·.2), ρ1[i]? = some .no) (hn : l.length ≤ 100000)
    (ht : ∀ x, x ∈ l → ∃ ρd, EG X.K [] gt ρ1 (f x) ρd ∧ wipeS ρd (own.map (·.2)) = ρ1 ∧ BE X scope elt ρd (g x) ρd)
    (hN : X.N.Nodup) (ok : BlkOk X.N X.env.scope scope own) (hg : ∀ (s : Shared) (H : Hp) (C : Addr) (cl : List (Str × Addr)) (fp : List Addr), PG (X.blk s H scope (compEnvC scope cl C X.env) fp) tg gt)
    (hc : X.calm = true := by rfl) (hs : ∀ x, foldedSetIterable iter X.env x = pure x := by intro _; rfl) : EL X (.ListComp elt [⟨tg, iter, [], 0⟩] scope pos) ρ ρ1 (l.map g) := fun bi σ0 B H0 σ Hk Hr I Q q => by
  obtain ⟨wi, pi, hi⟩ := hi
  refine sE_of (pe_lc hc hN pi ok hg (fun _ _ _ _ _ => pts_nil) pe_b hs) (lc_raw hi hw (fun j acc ρ' => acc = (l.take j).map g ∧ ρ' = ρ1) ⟨rfl, rfl⟩ (fun j acc ρj h i hi => by rw [h.2]; exact hv i hi) (fun j d acc ρj hd h => ?_) bi σ0 B H0 σ Hk Hr I Q fun D avs Hk' Hr' acc ρ' h I' m' hD nk n0 no hacc => ?_)
  · obtain ⟨rfl, rfl⟩ := h
    obtain ⟨x, hx, rfl, ht1⟩ := take_map_at hd
    obtain ⟨ρd, eg, ew, be⟩ := ht x hx
    have hj := (List.getElem?_eq_some_iff.mp hd).1
    rw [List.length_map] at hj
    refine ⟨by rw [List.length_map, List.length_take]; omega, ρd, true, ρd, eg, gt_yes, fun _ => ⟨g x, ρd, be.ge, ?_, ew⟩, fun z => nomatch z⟩
    rw [ht1, List.map_append]
    rfl
  · obtain ⟨rfl, rfl⟩ := h
    rw [List.length_map, List.take_length] at hacc
    exact q D avs Hk' Hr' I' m' hD nk n0 no hacc
theorem el_lcMIf {gt : TG} (hi : EI X tg iter ρ (l.map f) ρ1) (hw : GW gt (own.map (·.2))) (hv : ∀ i ∈ own.map (·.2), ρ1[i]? = some .no) (hn : l.length ≤ 100000)
    (ht : ∀ x, x ∈ l → ∃ ρd, EG X.K [] gt ρ1 (f x) ρd ∧ wipeS ρd (own.map (·.2)) = ρ1 ∧ BT X scope c ρd (p x) ρd ∧ (p x = true → BE X scope elt ρd (g x) ρd))
    (hN : X.N.Nodup) (ok : BlkOk X.N X.env.scope scope own) (hg : ∀ (s : Shared) (H : Hp) (C : Addr) (cl : List (Str × Addr)) (fp : List Addr), PG (X.blk s H scope (compEnvC scope cl C X.env) fp) tg gt)
    (hc : X.calm = true := by rfl) (hs : ∀ x, foldedSetIterable iter X.env x = pure x := by intro _; rfl) : EL X (.ListComp elt [⟨tg, iter, [c], 0⟩] scope pos) ρ ρ1 ((l.filter p).map g) := fun bi σ0 B H0 σ Hk Hr I Q q => by
  obtain ⟨wi, pi, hi⟩ := hi
  refine sE_of (pe_lc hc hN pi ok hg (fun s H C cl fp => pts_one (pt_b s H C cl fp)) pe_b hs) (lc_raw hi hw (fun j acc ρ' => acc = ((l.take j).filter p).map g ∧ ρ' = ρ1) ⟨rfl, rfl⟩ (fun j acc ρj h i hi => by rw [h.2]; exact hv i hi) (fun j d acc ρj hd h => ?_) bi σ0 B H0 σ Hk Hr I Q fun D avs Hk' Hr' acc ρ' h I' m' hD nk n0 no hacc => ?_)
  · obtain ⟨rfl, rfl⟩ := h
    obtain ⟨x, hx, rfl, ht1⟩ := take_map_at hd
    obtain ⟨ρd, eg, ew, bt, be⟩ := ht x hx
    have hj := (List.getElem?_eq_some_iff.mp hd).1
    rw [List.length_map] at hj
    have hle : ((l.take j).filter p).length ≤ j := by
      have h1 := List.length_filter_le p (l.take j)
      have h2 := List.length_take_le j l
      omega
    refine ⟨by rw [List.length_map]; omega, ρd, p x, ρd, eg, bt.gt, fun z => ⟨g x, ρd, (be z).ge, ?_, ew⟩, fun z => ⟨?_, ew⟩⟩
    · rw [ht1, List.filter_append, List.map_append]
      simp [z]
    · rw [ht1, List.filter_append, List.map_append]
      simp [z]
  · obtain ⟨rfl, rfl⟩ := h
    rw [List.length_map, List.take_length] at hacc
    exact q D avs Hk' Hr' I' m' hD nk n0 no hacc
end
/-- a def that is called by its name -/
structure Cal (P : Program) (w : World) (K : PySem.W.Frag) (mg : Str → Option Value) (base : Heap) (k : Nat) (x : Str) (ps : List Str) (sp : Sp) : Prop where
  ex : ∃ (f : Addr) (fd : FuncData), FnOk P w K mg base CX0 k f fd ps sp ∧ mg x = some (.ref f) ∧ PySem.W.keepIn K (.ref f) = true ∧ Binds K fd ps []
section
variable {X : Cx} {e : Expr} {es : List Expr} {ρ ρ1 : List Sl} {d : PyData} {ds cs cs1 cs2 : List PyData} {pos p0 p1 : Pos} {x y : Str} {ps : List Str} {k n i : Nat}
theorem ee_callC {φ : List PyData → PyData → Prop} (c : Cal X.prog X.w X.K X.mg X.base k x ps (spD X.K n φ)) (hr : Room k X.A) (ha : EA X (e :: es) ρ ds ρ1) (h : φ ds d) (hn : ds.length = n := by rfl)
    (hg : Gl X x := by rfl) (hdb : (x == ("__debug__" : Str)) = false := by decide) (he : starEach (e :: es) X.env = (false, eval e X.env) :: starEach es X.env := by rfl) (hpl : (backTo pos (starEach es X.env)).any (·.1) = false := by rfl) : EE X (.Call (.Name x p0) (e :: es) [] pos) ρ d ρ1 := by
  obtain ⟨f, fd, F, hm, hk, hb⟩ := c.ex
  exact ee_call F hr hm hk hb ha h hn hg hdb he hpl
theorem ee_callSC {φ : List PyData → List PyData → PyData → List PyData → Prop} (c : Cal X.prog X.w X.K X.mg X.base k x ps (spB X.K n φ)) (hr : Room k X.A) (hN : X.N[i]? = some y) (hi : ρ[i]? = some (.own cs))
    (ha : EA X es ρ ds ρ1) (hi1 : ρ1[i]? = some (.own cs1)) (h : φ cs1 ds d cs2) (hn : ds.length = n := by rfl) (hv : Vis X.env.scope y := by first | exact Or.inl rfl | exact Or.inr (Or.inl rfl) | exact Or.inr (Or.inr rfl)) (hd : (y == ("__debug__" : Str)) = false := by decide)
    (hcd : (y == ("__classdict__" : Str)) = false := by decide) (hg : Gl X x := by rfl) (hdb : (x == ("__debug__" : Str)) = false := by decide) (he : starEach (.Name y p1 :: es) X.env = (false, eval (.Name y p1) X.env) :: starEach es X.env := by rfl) (hpl : (backTo pos (starEach es X.env)).any (·.1) = false := by rfl) :
    EE X (.Call (.Name x p0) (.Name y p1 :: es) [] pos) ρ d (ρ1.set i (.own cs2)) := by
  obtain ⟨f, fd, F, hm, hk, hb⟩ := c.ex
  exact ee_callS F hr hm hk hb hN hi ha hi1 h hn hv hd hcd hg hdb he hpl
end
section
variable {X : Cx} {bi : List Nat} {e : Expr} {es : List Expr} {rest : List Stmt} {ρ ρ1 : List Sl} {N : List Sl → Prop} {R : RTy} {ds : List PyData} {pos cpos p0 p1 : Pos} {x y : Str} {ps : List Str} {k n m : Nat} {ns : List Int}
theorem ss_callNC {φ : List PyData → List Int → Prop} (c : Cal X.prog X.w X.K X.mg X.base k x ps (spN X.K n φ)) (hr : Room k X.A) (ha : EA X (e :: es) ρ ds ρ1) (h : φ ds ns) (hl : ds.length = n)
    (hN : X.N.Nodup) (hi : X.N[m]? = some y) (hmb : m ∉ bi) (hrest : SS X bi rest (ρ1.set m (.own (ns.map PyData.int))) N R) (hg : Gl X x := by rfl) (hdb : (x == ("__debug__" : Str)) = false := by decide) (he : starEach (e :: es) X.env = (false, eval e X.env) :: starEach es X.env := by rfl) (hpl : (backTo cpos (starEach es X.env)).any (·.1) = false := by rfl)
    (hx : Loc X.env.scope y := by first | exact Or.inl rfl | exact Or.inr rfl) (hs : swapsWith (.Call (.Name x p0) (e :: es) [] cpos) (some (.Name y p1)) pos.line X.env = pure false := by rfl) (hf : X.fn y = true ∨ X.env.scope.names.lookup y = some .local := by first | exact .inl rfl | exact .inr rfl) :
    SS X bi (.Assign [.Name y p1] (.Call (.Name x p0) (e :: es) [] cpos) pos :: rest) ρ N R := by
  obtain ⟨f, fd, F, hm, hk, hb⟩ := c.ex
  exact ss_callN F hr hm hk hb ha h hl hN hi hmb hrest hg hdb he hpl hx hs hf
end
theorem hu65 {k : Nat} {A : Around} (hr : Room k A) : A.units + 65 < cLine := by have := hr.un; omega
theorem eqv_dT (xs ys : List Int) : PyData.eqv (dT xs) (dT ys) = decide (xs = ys) := eqv_tup xs ys
/-! pairs -/
theorem eqv_P (p q : Int × Int) : PyData.eqv (dP p) (dP q) = decide (p = q) := by
  have := eqv_tup [p.1, p.2] [q.1, q.2]
  show PyData.eqv (.tuple ([p.1, p.2].map .int)) (.tuple ([q.1, q.2].map .int)) = _
  rw [this]
  obtain ⟨p1, p2⟩ := p
  obtain ⟨q1, q2⟩ := q
  simp
theorem map_dP (ps : List (Int × Int)) : ps.map dP = (ps.map fun p => [p.1, p.2]).map dT := by
  rw [List.map_map]; rfl
theorem shaped_P (p : Int × Int) : SeqAt.shaped (dP p) = true := shaped_tup [p.1, p.2]
theorem shaped_lstP (ps : List (Int × Int)) : SeqAt.shaped (.list (ps.map dP)) = true := by rw [map_dP]; exact shaped_lstT _
theorem eqv_lstP (ps qs : List (Int × Int)) : PyData.eqv (.list (ps.map dP)) (.list (qs.map dP)) = decide (ps = qs) := by
  rw [map_dP, map_dP]
  show PyData.eqvAll _ _ = _
  rw [eqvAll_tups]
  have inj : ∀ a b : List (Int × Int), (a.map fun p => [p.1, p.2]) = (b.map fun p => [p.1, p.2]) ↔ a = b := fun a => by
    induction a with
    | nil => intro b; cases b <;> simp
    | cons x a ih =>
      intro b
      cases b with
      | nil => simp
      | cons y b =>
        obtain ⟨x1, x2⟩ := x
        obtain ⟨y1, y2⟩ := y
        simp [ih b]
  simp [inj]
theorem any_P (ps : List (Int × Int)) (p : Int × Int) : ((ps.map dP).any fun z => PyData.eqv z (dP p)) = ps.any fun q => decide (q = p) := by
  rw [List.any_map]
  congr 1
  funext q
  exact eqv_P q p
/-- the law's promise, from a promise on data -/
def spLaw (K : PySem.W.Frag) : Sp := fun vs H Q _ => ∃ (a : Addr) (ns : List Int), vs = [.ref a] ∧ SqL K H a (ns.map V.int) ∧ ns.length ≤ 63 ∧ ∀ H', Q (.bl true) H'
def phLaw : List PyData → PyData → Prop := fun ds d => (∃ ns : List Int, ds = [.list (ns.map .int)] ∧ ns.length ≤ 63) ∧ d = .bool true
theorem law_of {P : Program} {w : World} {K : PySem.W.Frag} {mg : Str → Option Value} {base : Heap} {k : Nat} {f : Addr} {fd : FuncData} (F : FnOk P w K mg base CX0 k f fd ["script"] (spD K 1 phLaw)) : FnOk P w K mg base CX0 k f fd ["script"] (spLaw K) := by
  have imp : ∀ vs H Q E, spLaw K vs H Q E → spD K 1 phLaw vs H Q E := fun vs H Q E h => by
    obtain ⟨a, ns, rfl, hs, hl, q⟩ := h
    refine ⟨H, [.list (ns.map .int)], .bool true, ⟨⟨ns, rfl, hl⟩, rfl⟩, rfl, Same.refl _, .cons (.lst hs (DpAll.of_ints ns)) .nil, fun v H' _ hv => ?_⟩
    cases hv
    exact q H'
  exact ⟨fun vs H Q E h => F.len vs H Q E (imp vs H Q E h), fun A outer s H args us vs Q E hr e0 hb hv h => F.run A outer s H args us vs Q E hr e0 hb hv (imp vs H Q E h)⟩
end Pd
namespace L2
open PySem PySem.Spec PyProof.Rows
/-- a tuple once: the tuple itself -/
theorem mul_once (l : Addr) (items : Array Value) (n : Nat) (dd : Option Addr) (sl : Array (Option Value)) (u : Tok) :
    Meets (Builtin.«tuple.__mul__» ⟨[.ref l, .int 1 u], []⟩) (fun _ R s => s.heap.get? l = some { cls := .type "tuple", dict := dd, data := .seq items n, slots := sl } ∧ R (.ok (.ret (Value.ref l))) s) :=
  .of_wp fun prog w A R s h => by
    obtain ⟨hp, g, d, tk, os⟩ := s
    obtain ⟨hl, h⟩ := h
    have f1 := AutoSeq1.idx_int
    wp_walk using wpAny_loadPart' hl
    repeat (first
      | (refine wpAny_ite_false (by decide) ?_; wp_walk using wpAny_loadPart' hl)
      | (refine wpAny_ite_true (by simp) ?_; wp_walk using wpAny_loadPart' hl))
    exact ⟨_, rfl, h⟩
/-- a tuple with items, not at all: the empty one -/
theorem mul_none (l : Addr) (items : Array Value) (n : Nat) (dd : Option Addr) (sl : Array (Option Value)) (x : Int) (u : Tok) (h0 : (decide (x < -(2 ^ 63)) || decide (x ≥ 2 ^ 63)) = false) (h1 : (items.isEmpty || x == 1) = false) (h2 : (decide (x ≤ 0) || items.isEmpty) = true) :
    Meets (Builtin.«tuple.__mul__» ⟨[.ref l, .int x u], []⟩) (fun _ R s => s.heap.get? l = some { cls := .type "tuple", dict := dd, data := .seq items n, slots := sl } ∧
      R (.ok (.ret (Value.ref s.heap.objs.size))) { s with heap := s.heap.push { cls := Value.type "tuple", data := Data.seq #[] }, toks := s.toks }) :=
  .of_wp fun prog w A R s h => by
    obtain ⟨hp, g, d, tk, os⟩ := s
    obtain ⟨hl, h⟩ := h
    have f1 := AutoSeq1.idx_int
    wp_walk using wpAny_loadPart' hl
    repeat (first
      | (refine wpAny_ite_false (decide_eq_false (by rw [h0]; exact Bool.false_ne_true)) ?_; wp_walk using wpAny_loadPart' hl)
      | (refine wpAny_ite_false (decide_eq_false (by rw [h1]; exact Bool.false_ne_true)) ?_; wp_walk using wpAny_loadPart' hl)
      | (refine wpAny_ite_true (decide_eq_true h2) ?_; wp_walk using wpAny_loadPart' hl))
    exact ⟨_, rfl, h⟩
def rTimes (K : PySem.W.Frag) : R2 := fun x y H Q => ∃ (l : Addr) (k : Int) (xs : List V), x = .ref l ∧ y = .int k ∧ SqT K H l xs ∧ xs ≠ [] ∧ -1000 ≤ k ∧ k ≤ 1 ∧ (k ≤ 0 → ∀ p, H p = none → Q (.ref p) (upd H p (.tup []))) ∧ (k = 1 → Q (.ref l) H)
theorem op_times {X : Cx} : OpR X (binaryOp .Mult) (rTimes X.K) := by
  intro pins s σ H x y v u Q I rx ry h
  obtain ⟨l, k, vals, rfl, rfl, ht, ne, lo, hi, q0, q1⟩ := h
  cases rx
  obtain ⟨tk, rfl⟩ := ry
  obtain ⟨conc, rel, ⟨⟨cls, dd, data, sl⟩, g1, g2, cap, g3⟩, fit⟩ := I.tuple ht
  simp only at g2 g3
  subst g2 g3
  have ne2 : conc.toArray.isEmpty = false := by
    cases conc with
    | nil =>
      have := rel.length
      exact absurd (List.eq_nil_of_length_eq_zero this) ne
    | cons a b => rfl
  by_cases k1 : k = 1
  · subst k1
    refine wpAny_binaryOp_repeat_ref (T := "tuple") (U := "int") (by decide) ⟨_, g1, rfl⟩ (fun s' => typeIs_int s' 1 tk) noFill_tuple_mul F.fills_int_mul F.slot_int_rmul repeat_tuple F.slot_int_index.lookup
      (call_meets F.slot_int_rmul (typeIs_int s 1 tk) F.entry_int_rmul (F.args_int_rmul_2 _ _) (int_rmul_tuple 1 tk l conc.toArray cap dd sl)
        ⟨g1, rfl, ⟨_, g1, rfl⟩, call_meets F.slot_tuple_mul ⟨_, g1, rfl⟩ F.entry_tuple_mul (F.args_tuple_mul_2 _ _) (mul_once l conc.toArray cap dd sl tk) ⟨g1, ?_⟩⟩)
    exact ⟨.ref l, H, I, rfl, q1 rfl⟩
  · have k0 : k ≤ 0 := by omega
    have e1 : (k == 1) = false := beq_eq_false_iff_ne.mpr k1
    refine wpAny_binaryOp_repeat_ref (T := "tuple") (U := "int") (by decide) ⟨_, g1, rfl⟩ (fun s' => typeIs_int s' k tk) noFill_tuple_mul F.fills_int_mul F.slot_int_rmul repeat_tuple F.slot_int_index.lookup
      (call_meets F.slot_int_rmul (typeIs_int s k tk) F.entry_int_rmul (F.args_int_rmul_2 _ _) (int_rmul_tuple k tk l conc.toArray cap dd sl)
        ⟨g1, rfl, ⟨_, g1, rfl⟩, call_meets F.slot_tuple_mul ⟨_, g1, rfl⟩ F.entry_tuple_mul (F.args_tuple_mul_2 _ _) (mul_none l conc.toArray cap dd sl k tk
          (by rw [decide_eq_false (by omega), decide_eq_false (by omega)] <;> rfl) (by rw [ne2, e1] <;> rfl) (by rw [decide_eq_true k0] <;> rfl)) ⟨g1, ?_⟩⟩)
    refine ⟨.ref s.heap.objs.size, _, I.laid (t' := s.toks) (o := .tup []) (fun b ob q => Heap.get?_push_of_some _ q) (Nat.le_refl _) ⟨Nat.zero_le _, [], .nil, IsTup.new _ _⟩, rfl, q0 k0 _ (I.hok.fresh (Nat.le_refl _))⟩
end L2
namespace Pd
open PySem L2 PySem.Spec PyProof.Rows
section
variable {K : PySem.W.Frag} {ds : List PyData} {k : Int}
theorem rd_times (hn : ds ≠ []) (h : -1000 ≤ k ∧ k ≤ 1) : RD K (rTimes K) (.tuple ds) (.int k) (.tuple (List.replicate k.toNat ds).flatten) := fun x y Hk Hr kr hx hy Q q => by
  cases hy
  cases hx with
  | tup hs ha =>
    have l1 := DpAll.len ha
    refine ⟨_, k, _, rfl, rfl, same_t kr hs, fun z => hn (List.length_eq_zero_iff.mp (by rw [← l1, z]; rfl)), h.1, h.2, fun k0 p hp => q _ _ (new_same hp _) ?_, fun k1 => q _ Hr (Same.refl _) ?_⟩
    · have : k.toNat = 0 := by omega
      rw [this]
      exact gro_tup kr hp .nil
    · subst k1
      have : (List.replicate (1 : Int).toNat ds).flatten = ds := by simp
      rw [this]
      exact gro_refl kr (.tup hs ha)
theorem rd_rep (hn : ds ≠ []) (h : 2 ≤ k ∧ k ≤ 1000 ∧ ds.length ≤ 1000) : RD K (rRepT K) (.tuple ds) (.int k) (.tuple (List.replicate k.toNat ds).flatten) := fun x y Hk Hr kr hx hy Q q => by
  cases hy
  cases hx with
  | tup hs ha =>
    have l1 := DpAll.len ha
    exact ⟨_, k, _, rfl, rfl, same_t kr hs, fun z => hn (List.length_eq_zero_iff.mp (by rw [← l1, z]; rfl)), h.1, h.2.1, by rw [l1]; exact h.2.2, fun p hp => q _ _ (new_same hp _) (gro_tup kr hp (rep_all ha _))⟩
end
theorem ee_rep {X : Cx} {a b : Expr} {ρ ρ1 ρ2 : List Sl} {ds : List PyData} {k : Int} {pos : Pos} (ha : EE X a ρ (.tuple ds) ρ1) (hb : EE X b ρ1 (.int k) ρ2) (hn : ds ≠ []) (h : -1000 ≤ k ∧ k ≤ 1000 ∧ ds.length ≤ 1000) : EE X (.BinOp a .Mult b pos) ρ (.tuple (List.replicate k.toNat ds).flatten) ρ2 := by
  by_cases hk : k ≤ 1
  · exact ee_op op_times ha hb (rd_times hn ⟨h.1, hk⟩)
  · exact ee_op op_repT ha hb (rd_rep hn ⟨by omega, h.2⟩)
end Pd
namespace Pd
open PySem L2 PySem.Spec PyProof.Rows
section
variable {K : PySem.W.Frag} {bi : List Nat} {σ0 σ : L2.St} {B H0 Hk Hr : Hp} {ρ : List Sl}
theorem Ok.nk (I : Ok K bi σ0 B H0 ρ σ Hk Hr) {p : Addr} (h : Hr p = none) : Hk p = none := by
  cases z : Hk p with
  | none => rfl
  | some u => rw [I.kr _ _ z] at h; cases h
theorem Ok.n0 (I : Ok K bi σ0 B H0 ρ σ Hk Hr) {p : Addr} (h : Hr p = none) : H0 p = none := by
  cases z : H0 p with
  | none => rfl
  | some u => rw [I.real _ _ z] at h; cases h
theorem Ok.no (I : Ok K bi σ0 B H0 ρ σ Hk Hr) {p : Addr} (h : Hr p = none) : ¬ Ow ρ σ p := by
  rintro ⟨i, ds, q1, q2⟩
  obtain ⟨a, vs, s1, s2, _⟩ := I.own i ds q1
  rw [q2] at s1
  injection s1 with s1; injection s1 with s1; injection s1 with s1; subst s1
  rw [h] at s2
  cases s2
theorem Ok.bors (I : Ok K bi σ0 B H0 ρ σ Hk Hr) {Hk' Hr' : Hp} {ρ' : List Sl} (I' : Ok K [] σ Hk (fen ρ σ Hr) ρ' σ Hk' Hr') : Ok K bi σ0 B H0 ρ' σ Hk' Hr' := { I.outer I' with bor := I.bor }
/-- what is not the def's list stays through an expression -/
theorem Ok.stay (I : Ok K bi σ0 B H0 ρ σ Hk Hr) {Hk' Hr' : Hp} {ρ' : List Sl} (I' : Ok K [] σ Hk (fen ρ σ Hr) ρ' σ Hk' Hr') {p : Addr} {o : HO} (hp : Hr p = some o) (hk : Hk p = none) (no : ¬ Ow ρ σ p) : Hr' p = some o ∧ Hk' p = none ∧ ¬ Ow ρ' σ p := by
  have f : fen ρ σ Hr p = some o := by rw [fen_not no]; exact hp
  refine ⟨I'.real _ _ f, ?_, ?_⟩
  · cases z : Hk' p with
    | none => rfl
    | some u =>
      have := I'.old p u z (by rw [f]; exact fun z => nomatch z)
      rw [hk] at this
      cases this
  · rintro ⟨i, ds, q1, q2⟩
    obtain ⟨a, vs, s1, s2, s3, s4, s5⟩ := I'.own i ds q1
    rw [q2] at s1
    injection s1 with s1; injection s1 with s1; injection s1 with s1; subst s1
    rw [f] at s4
    cases s4
end
section
variable {X : Cx} {a b e : Expr} {es : List Expr} {ρ ρ1 ρ2 : List Sl} {d : PyData} {ds ds2 : List PyData} {pos p0 p1 : Pos} {k : Int}
/-- a new list as data -/
theorem EL.ee (h : EL X e ρ ρ1 ds) : EE X e ρ (.list ds) ρ1 := fun bi σ0 B H0 σ Hk Hr I Q q =>
  h bi σ0 B H0 σ Hk Hr I Q fun p vs Hk' Hr' I' m' hp nk n0 no ha => q (.ref p) _ Hr' (I'.learn nk n0 hp no) (m'.trans (new_same nk _)) (.lst (.inl (.inl upd_same)) (DpAll.mono (new_same nk _) _ ha))
theorem el_cast (h : EL X e ρ ρ1 ds) (he : ds = ds2) : EL X e ρ ρ1 ds2 := he ▸ h
theorem el_lst (h : EA X es ρ ds ρ1) (hl : ds.length ≤ 100000 := by first | decide | simp) : EL X (.List es pos) ρ ρ1 ds := fun bi σ0 B H0 σ Hk Hr I Q q =>
  sE_of (pe_lst pa_s) (h bi σ0 B H0 σ Hk Hr I _ fun vs Hk1 Hr1 I1 m1 h1 => ⟨by rw [DpAll.len h1]; exact le_line hl, fun p hp =>
    q p vs Hk1 _ (I1.put (I1.nk hp) (I1.n0 hp) (I1.no hp)) m1 upd_same (I1.nk hp) (I1.n0 hp) (I1.no hp) h1⟩)
theorem el_cat (ha : EL X a ρ ρ1 ds) (hb : EL X b ρ1 ρ2 ds2) (hl : ds.length + ds2.length ≤ 100000) : EL X (.BinOp a .Add b pos) ρ ρ2 (ds ++ ds2) := fun bi σ0 B H0 σ Hk Hr I Q q => by
  refine sE_of (pe_op op_cat pe_s pe_s) (ha bi σ0 B H0 σ Hk Hr I _ fun p vs Hk1 Hr1 I1 m1 hp nk n0 no h1 => ?_)
  refine hb _ _ _ _ σ Hk1 Hr1 I1.inner _ fun p2 vs2 Hk2 Hr2 I2 m2 hp2 nk2 n02 no2 h2 => ?_
  obtain ⟨s1, s2, s3⟩ := I1.stay I2 hp nk no
  have I3 := I1.bors I2
  refine ⟨p, p2, vs, vs2, rfl, rfl, s1, hp2, by rw [DpAll.len h1, DpAll.len h2]; exact le_line hl, fun r hr => ?_⟩
  exact q r _ Hk2 _ (I3.put (I3.nk hr) (I3.n0 hr) (I3.no hr)) (m1.trans m2) upd_same (I3.nk hr) (I3.n0 hr) (I3.no hr) (DpAll.app (DpAll.mono m2 _ h1) h2)
theorem el_rep (ha : EL X a ρ ρ1 ds) (hb : EE X b ρ1 (.int k) ρ2) (hk : -1000 ≤ k ∧ k ≤ 1000 ∧ ds.length ≤ 50) : EL X (.BinOp a .Mult b pos) ρ ρ2 (List.replicate k.toNat ds).flatten := fun bi σ0 B H0 σ Hk Hr I Q q => by
  refine sE_of (pe_op op_rep pe_s pe_s) (ha bi σ0 B H0 σ Hk Hr I _ fun p vs Hk1 Hr1 I1 m1 hp nk n0 no h1 => ?_)
  refine hb _ _ _ _ σ Hk1 Hr1 I1.inner _ fun y Hk2 Hr2 I2 m2 h2 => ?_
  cases h2
  obtain ⟨s1, s2, s3⟩ := I1.stay I2 hp nk no
  have I3 := I1.bors I2
  refine ⟨p, k, vs, rfl, rfl, s1, by omega, by omega, ?_, fun r hr => ?_⟩
  · rw [DpAll.len h1]
    have z : ds.length * k.toNat ≤ 50 * 1000 := Nat.mul_le_mul hk.2.2 (by omega)
    exact le_line (by omega)
  · exact q r _ Hk2 _ (I3.put (I3.nk hr) (I3.n0 hr) (I3.no hr)) (m1.trans m2) upd_same (I3.nk hr) (I3.n0 hr) (I3.no hr) (rep_all (DpAll.mono m2 _ h1) _)
end
/-! ### defs that hand back a new list -/
/-- a new list -/
def RNewD (K : PySem.W.Frag) (P : List PyData → Prop) : RTy := fun H0 v ρ' Hk' Hr' => ∃ p vs ds, v = .ref p ∧ H0 p = none ∧ Hr' p = some (.lst vs) ∧ Hk' p = none ∧ DpAll K Hk' vs ds ∧ P ds
def spL (K : PySem.W.Frag) (n : Nat) (φ : List PyData → List PyData → Prop) : Sp := fun vs H Q _ => ∃ (B : Hp) (ds es : List PyData), φ ds es ∧ ds.length = n ∧ Same B H ∧ DpAll K B vs ds ∧ ∀ p H' us, Same H H' → H p = none → H' p = some (.lst us) → DpAll K (fun b => if b = p then none else gro B H H' b) us es → Q (.ref p) H'
section
variable {X : Cx} {bi : List Nat} {e : Expr} {rest : List Stmt} {ρ ρ1 : List Sl} {N : List Sl → Prop} {ds cs : List PyData} {pos epos p0 p1 : Pos} {x : Str} {n : Nat} {R : RTy}
theorem ss_retL {P : List PyData → Prop} (he : EL X e ρ ρ1 ds) (h : P ds) : SS X bi (.Return (some e) pos :: rest) ρ N (RNewD X.K P) := fun σ0 B H0 hz σ Hk Hr D I nx rt =>
  sSs_of (pss_cons (ps_ret pe_s) pss_s) (he bi σ0 B H0 σ Hk Hr I _ fun p vs Hk1 Hr1 I1 m1 hp nk n0 no h1 => rt (.ref p) ρ1 σ Hk1 Hr1 ⟨p, vs, ds, rfl, n0, hp, nk, h1, h⟩ I1)
theorem ss_retOwn {P : List PyData → Prop} (hN : X.N[n]? = some x) (ho : ρ[n]? = some (.own ds)) (h : P ds) (hv : Vis X.env.scope x := by first | exact Or.inl rfl | exact Or.inr (Or.inl rfl) | exact Or.inr (Or.inr rfl)) (hd : (x == ("__debug__" : Str)) = false := by decide)
    (hcd : (x == ("__classdict__" : Str)) = false := by decide) : SS X bi (.Return (some (.Name x p0)) pos :: rest) ρ N (RNewD X.K P) := fun σ0 B H0 hz σ Hk Hr D I nx rt => by
  obtain ⟨a, vs, s1, s2, s3, s4, s5⟩ := I.own n ds ho
  exact sSs_of (pss_cons (ps_ret (pe_var hN hv hd hcd)) pss_s) ⟨.ref a, s1, rt (.ref a) ρ σ Hk Hr ⟨a, vs, ds, rfl, s4, s2, s3, s5, h⟩ I⟩
/-- x.extend(a new list) -/
theorem ss_extendL (h0 : ρ[n]? = some (.own cs)) (he : EL X e ρ ρ ds) (hl : cs.length + ds.length ≤ 100000) (hr : SS X bi rest (ρ.set n (.own (cs ++ ds))) N R)
    (hp : PE X (.Call (.Attribute (.Name x p0) "extend" p1) [e] [] epos) (tBM X.K "list" rExtend (tVar n) (tCons (sE X e) tNil))) (hs : swapsWith (.Call (.Attribute (.Name x p0) "extend" p1) [e] [] epos) none pos.line X.env = pure false := by rfl) :
    SS X bi (.Expr (.Call (.Attribute (.Name x p0) "extend" p1) [e] [] epos) pos :: rest) ρ N R := fun σ0 B H0 hz σ Hk Hr D I nx rt => by
  obtain ⟨a0, vs0, t1, t2, t3, t4, t5⟩ := I.own n cs h0
  refine sSs_of (pss_cons (ps_expr hp hs) pss_s) ⟨.ref a0, t1, .inl ⟨rfl, _, .inl (.inl t2)⟩, he bi σ0 B H0 σ Hk Hr I _ fun p vs Hk1 Hr1 I1 m1 hp nk n0 no h1 => ?_⟩
  obtain ⟨a1, vs1, u1, u2, u3, u4, u5⟩ := I1.own n cs h0
  have ea : a0 = a1 := by
    rw [t1] at u1
    injection u1 with u1; injection u1 with u1; injection u1
  subst ea
  refine ⟨a0, p, vs1, vs, rfl, rfl, u2, hp, by rw [DpAll.len u5, DpAll.len h1]; exact le_line hl, ?_⟩
  exact hr σ0 B H0 hz σ Hk1 _ D (I1.mut h0 u1 (DpAll.app u5 h1)) (fun ρ' σ' Hk' Hr' q I' m' => nx ρ' σ' Hk' Hr' q I' (m1.trans m')) rt
end
section
variable {P : Program} {w : World} {K : PySem.W.Frag} {mg : Str → Option Value} {base : Heap} {x qual : Str} {st : Stmt} {f : Addr} {fd : FuncData} {N ps : List Str} {k : Nat}
theorem entry_ok {A0 : L2.St} {vs : List V} {ds : List PyData} {B H : Hp} (kr : Same B H) (ha : DpAll K B vs ds) (h1 : ds.length = ps.length) (hl : ps.length ≤ N.length) : Ok K [] A0 B H (rho ds (N.length - ps.length)) (L2.start N vs) B H := by
  have lv : vs.length = ps.length := by rw [DpAll.len ha, h1]
  have noOwn : ∀ {i : Nat} {e : List PyData}, (rho ds (N.length - ps.length))[i]? = some (.own e) → False := fun {i e} hi => by
    unfold rho at hi
    by_cases q : i < ds.length
    · rw [List.getElem?_append_left (by simpa using q), List.getElem?_map, List.getElem?_eq_getElem q] at hi
      cases Option.some.inj hi
    · rw [List.getElem?_append_right (by simpa using q), List.getElem?_replicate] at hi
      split at hi
      · cases Option.some.inj hi
      · cases hi
  refine ⟨Same.refl _, Same.refl _, kr, fun b o h _ => h, (fun i hi => nomatch hi), ?_, fun i e hi => ?_, fun i e hi => (noOwn hi).elim, fun i j e1 e2 hi _ => (noOwn hi).elim⟩
  · unfold rho L2.start
    simp [h1, lv]
  · unfold rho at hi
    by_cases q : i < ds.length
    · rw [List.getElem?_append_left (by simpa using q), List.getElem?_map, List.getElem?_eq_getElem q] at hi
      have hi := Option.some.inj hi
      injection hi with hi
      obtain ⟨v, s1, s2⟩ := DpAll.get ha (List.getElem?_eq_getElem q)
      subst hi
      exact ⟨v, start_get s1, s2⟩
    · rw [List.getElem?_append_right (by simpa using q), List.getElem?_replicate] at hi
      split at hi
      · cases Option.some.inj hi
      · cases hi
theorem fdL_of {φ : List PyData → List PyData → Prop} (F : Fun K x qual st f fd) (S : FnScope N ps (defScope st)) (hl : ps.length ≤ N.length)
    (body : ∀ (cdv : Value) (A : Around) (outer : List Env) (s : Shared) (H : Hp) (E : XK), Room k (A.deeper (envOfC qual (defScope st) s.heap.objs.size f cdv)) → ∀ ds es, φ ds es → ds.length = ps.length →
      SS (cxOf CX0 P w K mg base N qual (defScope st) f cdv A outer s H E).nox [] (defBody st) (rho ds (N.length - ps.length)) (fun _ => False) (RNewD K fun es' => es' = es)) :
    FnOk P w K mg base CX0 (k + 1) f fd ps (spL K ps.length φ) := by
  refine F.ok S (fun vs H Q E h => ?_) (fun cdv A outer s H vs Q E hr h => ?_)
  · obtain ⟨B, ds, es, _, h1, _, h2, _⟩ := h
    rw [DpAll.len h2, h1]
  · obtain ⟨B, ds, es, hφ, h1, kr, ha, q⟩ := h
    refine ⟨_, pss_s, body cdv A outer s H E hr ds es hφ h1 (L2.start N vs) B H (fun _ _ _ h => h) (L2.start N vs) B H _ (entry_ok kr ha h1 hl) (fun _ _ _ _ e _ _ => e.elim) ?_⟩
    rintro v ρ' σ' Hk' Hr' ⟨p, us, es', rfl, hp, hu, nk, hall, rfl⟩ I'
    refine q p Hr' us I'.real hp hu (DpAll.mono (fun b o h => ?_) _ hall)
    have nb : b ≠ p := fun z => by rw [z, nk] at h; cases h
    rw [if_neg nb]
    cases z : H b with
    | none => rw [gro_new z]; exact I'.kr _ _ h
    | some u => rw [gro_old z]; exact I'.old b o h (by rw [z]; exact fun z => nomatch z)
end
section
variable {X : Cx} {e : Expr} {es : List Expr} {ρ ρ1 : List Sl} {ds cs : List PyData} {pos p0 : Pos} {x : Str} {ps : List Str} {k n : Nat}
theorem el_callC {φ : List PyData → List PyData → Prop} (c : Cal X.prog X.w X.K X.mg X.base k x ps (spL X.K n φ)) (hr : Room k X.A) (ha : EA X (e :: es) ρ ds ρ1) (h : φ ds cs) (hn : ds.length = n := by rfl)
    (hg : Gl X x := by rfl) (hdb : (x == ("__debug__" : Str)) = false := by decide) (he : starEach (e :: es) X.env = (false, eval e X.env) :: starEach es X.env := by rfl) (hpl : (backTo pos (starEach es X.env)).any (·.1) = false := by rfl) : EL X (.Call (.Name x p0) (e :: es) [] pos) ρ ρ1 cs := fun bi σ0 B H0 σ Hk Hr I Q q => by
  obtain ⟨f, fd, F, hm, hk, hb⟩ := c.ex
  refine sE_of (pe_call (E := E0) F hr hg hm hk hb .nil pass0 pa_s hdb he hpl) (ha bi σ0 B H0 σ Hk Hr I _ fun vs Hk1 Hr1 I1 m1 h1 => ?_)
  rw [List.append_nil]
  refine ⟨Hk1, ds, cs, h, hn, I1.kr, h1, fun p H' us e' hp hu hall => ?_⟩
  have Ig := I1.gro e'
  have nkp : gro Hk1 Hr1 H' p = some (.lst us) := by rw [gro_new hp]; exact hu
  -- all that is new but p
  let G : Hp := fun b => if b = p then none else gro Hk1 Hr1 H' b
  have sG : Same Hk1 G := fun b o hb => by
    have nb : b ≠ p := ne_of_none hb (I1.nk hp)
    show (if b = p then none else gro Hk1 Hr1 H' b) = some o
    rw [if_neg nb]
    exact gro_same I1.kr _ _ hb
  have sub : ∀ b o, G b = some o → gro Hk1 Hr1 H' b = some o := fun b o hb => by
    have hb : (if b = p then none else gro Hk1 Hr1 H' b) = some o := hb
    split at hb
    · cases hb
    · exact hb
  have I2 : Ok X.K bi σ0 B H0 ρ1 σ G H' := ⟨I1.base.trans sG, Ig.real, fun b o hb => Ig.kr _ _ (sub b o hb), fun b o hb h0 => Ig.old _ _ (sub b o hb) h0, Ig.bor, Ig.len, fun i d hi => by
    obtain ⟨v, s1, s2⟩ := I1.val i d hi
    exact ⟨v, s1, Dp.mono sG _ s2⟩, fun i zs hi => by
    obtain ⟨a, ws, s1, s2, s3, s4, s5⟩ := I1.own i zs hi
    refine ⟨a, ws, s1, e' _ _ s2, ?_, s4, DpAll.mono sG _ s5⟩
    show (if a = p then none else gro Hk1 Hr1 H' a) = none
    split
    · rfl
    · rw [gro_old s2]; exact s3, Ig.dis⟩
  exact q p us G H' I2 (m1.trans sG) hu (if_pos rfl) (I1.n0 hp) (I1.no hp) hall
end
end Pd
namespace Pd
open PySem L2 PySem.Spec PyProof.Rows
theorem wipe_set {σ : L2.St} {i : Nat} {x : Option V} : ∀ {vs : List Nat}, i ∈ vs → wipe (σ.set i x) vs = wipe σ vs
  | [], h => by cases h
  | v :: vs, h => by
    unfold wipe
    by_cases q : i ∈ vs
    · rw [wipe_set q]
    · have e : i = v := by
        rcases List.mem_cons.mp h with e | e
        · exact e
        · exact absurd e q
      subst e
      have aux : ∀ (ws : List Nat) (τ : L2.St), i ∉ ws → wipe (τ.set i x) ws = (wipe τ ws).set i x := fun ws => by
        induction ws with
        | nil => intro τ _; rfl
        | cons w ws ih =>
          intro τ hw
          have hw : ¬ i = w ∧ i ∉ ws := ⟨fun e => hw (by simp [e]), fun e => hw (by simp [e])⟩
          unfold wipe
          rw [ih τ hw.2, List.set_comm _ _ hw.1]
      rw [aux vs σ q, List.set_set]
theorem wipe_twice {σ : L2.St} {vs : List Nat} : wipe (wipe σ vs) vs = wipe σ vs := by
  have : ∀ ws : List Nat, (∀ i ∈ ws, i ∈ vs) → wipe (wipe σ ws) vs = wipe σ vs := fun ws => by
    induction ws with
    | nil => intro _; rfl
    | cons w ws ih =>
      intro h
      show wipe ((wipe σ ws).set w none) vs = _
      rw [wipe_set (h w (by simp)), ih fun i hi => h i (by simp [hi])]
  exact this vs fun i hi => hi
theorem gw_in {n : Nat} {vs : List Nat} (h : n ∈ vs) : GW (gName n) vs := fun v σ H Q q => by
  have z : wipe ((wipe σ vs).set n (some v)) vs = wipe σ vs := by rw [wipe_set h, wipe_twice]
  exact ⟨z, q z⟩
theorem gw_pairIn {K : PySem.W.Frag} {i j : Nat} {vs : List Nat} (hi : i ∈ vs) (hj : j ∈ vs) : GW (gTup K 2 (gCons (gName i) (gCons (gName j) gNil))) vs := fun v σ H Q q => by
  obtain ⟨a, xs, rfl, hs, hl, x, r, rfl, y, r2, rfl, rfl, q⟩ := q
  have z : wipe (((wipe σ vs).set i (some x)).set j (some y)) vs = wipe σ vs := by rw [wipe_set hj, wipe_set hi, wipe_twice]
  exact ⟨a, _, rfl, hs, hl, x, _, rfl, y, _, rfl, rfl, z, q z⟩
/-- ((x, y), z) = .. -/
theorem eg_nest {K : PySem.W.Frag} {bi : List Nat} {ρ : List Sl} {i j k : Nat} {d1 d2 d3 : PyData} (hi : i ∉ bi) (hj : j ∉ bi) (hk : k ∉ bi) : EG K bi (gTup K 2 (gCons (gTup K 2 (gCons (gName i) (gCons (gName j) gNil))) (gCons (gName k) gNil))) ρ (.tuple [.tuple [d1, d2], d3]) (((ρ.set i (.val d1)).set j (.val d2)).set k (.val d3)) := fun σ0 B H0 σ Hk Hr v I h Q q => by
  cases h with
  | tup hs ha =>
    cases ha with
    | cons h1 h2 =>
      cases h2 with
      | cons h2 h3 =>
        cases h3
        cases h1 with
        | tup hs1 ha1 =>
          cases ha1 with
          | cons g1 g2 =>
            cases g2 with
            | cons g2 g3 =>
              cases g3
              exact ⟨_, _, rfl, same_t I.kr hs, rfl, _, _, rfl, ⟨_, _, rfl, same_t I.kr hs1, rfl, _, _, rfl, _, _, rfl, rfl, _, _, rfl, rfl, q _ (((I.set hi g1).set hj g2).set hk h2)⟩⟩
/-- what an iterable's reading asks at the least -/
def sI (X : Cx) (tg iter : Expr) : TI := fun σ H R => ∀ pins s, Inv X pins σ H s → wpAny (model X.prog X.w) X.A (eval iter X.env) (fun v s1 => wpAny (model X.prog X.w) X.A (pyIter v) (PIE X pins σ tg R) X.xe s1) X.xe s
def bI (X : Cx) (scope : Scope) (tg iter : Expr) : TI := fun σ H R => ∀ (s : Shared) (H1 : Hp) (C : Addr) (cl : List (Str × Addr)) (fp : List Addr), sI (X.blk s H1 scope (compEnvC scope cl C X.env) fp) tg iter σ H R
def GI (K : PySem.W.Frag) (wi : TI) (ρ : List Sl) (ds : List PyData) (ρ1 : List Sl) : Prop := ∀ (bi : List Nat) (σ0 : L2.St) (B H0 : Hp) (σ : L2.St) (Hk Hr : Hp), Ok K bi σ0 B H0 ρ σ Hk Hr → ∀ R : It → Hp → Prop, (∀ J Hk' Hr', Ok K bi σ0 B H0 ρ1 σ Hk' Hr' → Same Hk Hk' → Wk K J ds Hk' → R J Hr') → wi σ Hr R
def BI (X : Cx) (scope : Scope) (tg iter : Expr) (ρ : List Sl) (ds : List PyData) (ρ' : List Sl) : Prop := ∀ (s : Shared) (H : Hp) (C : Addr) (cl : List (Str × Addr)) (fp : List Addr), EI (X.blk s H scope (compEnvC scope cl C X.env) fp) tg iter ρ ds ρ'
section
variable {X : Cx} {scope : Scope} {tg iter : Expr} {ρ ρ1 : List Sl} {ds : List PyData}
theorem pi_b (s : Shared) (H : Hp) (C : Addr) (cl : List (Str × Addr)) (fp : List Addr) : PI (X.blk s H scope (compEnvC scope cl C X.env) fp) tg iter (bI X scope tg iter) := ⟨fun pins s' σ H' R I h => h s H C cl fp pins s' I⟩
theorem BI.gi (h : BI X scope tg iter ρ ds ρ1) : GI X.K (bI X scope tg iter) ρ ds ρ1 := fun bi σ0 B H0 σ Hk Hr I R q s H C cl fp => by
  obtain ⟨wi, pi, hw⟩ := h s H C cl fp
  exact fun pins s' I' => pi.run pins s' σ Hr R I' (hw bi σ0 B H0 σ Hk Hr I R q)
end
theorem len_le_flat {α β : Type} {l : List α} {F : α → List β} {i : Nat} {x : α} {m : Nat} (hx : l[i]? = some x) (hm : m ≤ (F x).length) : ((l.take i).flatMap F).length + m ≤ (l.flatMap F).length := by
  have e : l = l.take i ++ x :: l.drop (i + 1) := by
    have h := (List.getElem?_eq_some_iff.mp hx)
    obtain ⟨h1, h2⟩ := h
    rw [← h2, List.getElem_cons_drop]
    exact (List.take_append_drop i l).symm
  have : (l.flatMap F).length = ((l.take i).flatMap F).length + ((F x).length + ((l.drop (i + 1)).flatMap F).length) := by
    conv => lhs; rw [e]
    rw [List.flatMap_append, List.flatMap_cons, List.length_append, List.length_append]
  omega
theorem yes_of {σ : L2.St} {H : Hp} {Q : Bool → Hp → Prop} (q : Q true H) : tYes σ H Q := q
/-- [.. for tg in iter for tg1 in iter1] -/
theorem lc2_raw {K : PySem.W.Frag} {α β : Type} {wi wi1 : TI} {g g1 : TG} {te : TE} {vs vs1 : List Nat} {ρ ρ1 : List Sl} {l : List α} {f : α → PyData} {l1 : α → List β} {f1 : α → β → PyData} {gg : α → β → PyData}
    (hi : GI K wi ρ (l.map f) ρ1) (hw : GW g vs) (hw1 : GW g1 vs1) (hv : ∀ i ∈ vs, ρ1[i]? = some .no) (hlen : (l.flatMap fun x => (l1 x).map (gg x)).length ≤ 100000)
    (ht : ∀ x ∈ l, ∃ ρd, EG K [] g ρ1 (f x) ρd ∧ wipeS ρd vs = ρ1 ∧ (∀ i ∈ vs1, ρd[i]? = some .no) ∧ GI K wi1 ρd ((l1 x).map (f1 x)) ρd ∧ ∀ y ∈ l1 x, ∃ ρe, EG K [] g1 ρd (f1 x y) ρe ∧ wipeS ρe vs1 = ρd ∧ GE K te ρe (gg x y) ρe)
    (bi : List Nat) (σ0 : L2.St) (B H0 : Hp) (σ : L2.St) (Hk Hr : Hp) (I : Ok K bi σ0 B H0 ρ σ Hk Hr) (Q : VK)
    (q : ∀ D avs Hk' Hr', Ok K bi σ0 B H0 ρ1 σ Hk' Hr' → Same Hk Hk' → Hr' D = some (.lst avs) → Hk' D = none → H0 D = none → ¬ Ow ρ1 σ D → DpAll K Hk' avs (l.flatMap fun x => (l1 x).map (gg x)) → Q (.ref D) Hr') : tLc2 wi g tYes wi1 g1 tYes te vs vs1 σ Hr Q := by
  refine hi bi σ0 B H0 σ Hk Hr I _ fun Jt Hk1 Hr1 I1 m1 wk D nD => ?_
  refine ⟨fun i m H => i + m = l.length ∧ ∃ avs Hk', Ok K bi σ0 B H0 ρ1 σ Hk' H ∧ Same Hk1 Hk' ∧ Hk' D = none ∧ H D = some (.lst avs) ∧ DpAll K Hk' avs ((l.take i).flatMap fun x => (l1 x).map (gg x)) ∧ ¬ Ow ρ1 σ D,
    ⟨l.length, by omega, [], Hk1, I1.put (I1.nk nD) (I1.n0 nD) (I1.no nD), Same.refl _, I1.nk nD, upd_same, .nil, I1.no nD⟩, fun i m H hW => ?_⟩
  obtain ⟨em, avs, Hk', I', m', nk, hD, hacc, no⟩ := hW
  have n0 := I1.n0 nD
  obtain ⟨w1, w2, w3⟩ := wk i H (m'.trans I'.kr)
  rw [List.length_map] at w1 w2
  by_cases hil : i < l.length
  · refine .inr ⟨w1 hil, fun H2 => ∃ avs Hk', Ok K bi σ0 B H0 ρ1 σ Hk' H2 ∧ Same Hk1 Hk' ∧ Hk' D = none ∧ H2 D = some (.lst avs) ∧ DpAll K Hk' avs ((l.take (i + 1)).flatMap fun x => (l1 x).map (gg x)) ∧ ¬ Ow ρ1 σ D,
      fun H2 hN => ⟨m - 1, by omega, by omega, hN⟩, fun xv H2 hy => ?_⟩
    obtain ⟨e2, fd⟩ := w3 xv H2 hy
    have hx := List.getElem?_eq_getElem hil
    have hxm : l[i] ∈ l := List.getElem_mem hil
    revert hx hxm
    generalize l[i] = x
    intro hx hxm
    have hd : (l.map f)[i]? = some (f x) := by rw [List.getElem?_map, hx]; rfl
    have htk : l.take (i + 1) = l.take i ++ [x] := by rw [List.take_add_one, hx]; rfl
    obtain ⟨ρd, eg, ew, nv1, gi, inner⟩ := ht x hxm
    have I2 := I'.gro e2
    have hD2 : H2 D = some (.lst avs) := e2 _ _ hD
    have nk2 : gro Hk' H H2 D = none := by rw [gro_old hD]; exact nk
    have Iw : Ok K [] (wipe σ vs) B H0 ρ1 (wipe σ vs) (gro Hk' H H2) H2 := by
      refine I2.swap (fun i hi => nomatch hi) (by rw [wipe_length]; exact I'.len) fun i x hx => ?_
      by_cases z : i ∈ vs
      · have := hv i z
        rw [hx] at this
        exact .inl (Option.some.inj this)
      · exact .inr ⟨hx, wipe_out z⟩
    have noW : ¬ Ow ρ1 (wipe σ vs) D := by
      rintro ⟨i, ds, q1, q2⟩
      exact no ⟨i, ds, q1, (wipe_some q2).1⟩
    have D0 : fen ρ1 (wipe σ vs) H2 D = some (.lst avs) := by rw [fen_not noW]; exact hD2
    refine hw _ _ _ _ (eg _ _ _ _ _ _ xv Iw.inner (Dp.mono (gro_le m') _ (fd _ hd)) _ fun σ2 I3i wz => yes_of (iteT ?_))
    have I3 := Iw.outer I3i
    have no2 : ¬ Ow ρd σ2 D := by
      rintro ⟨i, zs, q1, q2⟩
      obtain ⟨a, us, s1, s2, s3, s4, s5⟩ := I3i.own i zs q1
      rw [q2] at s1
      injection s1 with s1; injection s1 with s1; injection s1 with s1; subst s1
      rw [D0] at s4
      cases s4
    have keyS : ∀ (i : Nat) (y : Sl), ρ1[i]? = some y → y = .no ∨ (ρd[i]? = some y ∧ σ[i]? = σ2[i]?) := fun i y hy => by
      rw [← ew] at hy
      rcases wipeS_get hy with e | ⟨q1, q2⟩
      · exact .inl e
      · refine .inr ⟨q2, ?_⟩
        rw [← wipe_out (σ := σ) q1, ← wipe_out (σ := σ2) q1, wz]
    refine gi _ _ _ _ σ2 _ H2 I3.inner _ fun J1 Hk4 Hr4 I4 m4 wk1 => ?_
    obtain ⟨hD4, nk4, _⟩ := I3.stay I4 hD2 nk2 no2
    have I4' := I3.bors I4
    have s14 : Same Hk' Hk4 := (gro_same I'.kr).trans m4
    refine ⟨fun j k H => j + k = (l1 x).length ∧ ∃ avs Hk5, Ok K [] σ2 B H0 ρd σ2 Hk5 H ∧ Same Hk4 Hk5 ∧ Hk5 D = none ∧ H D = some (.lst avs) ∧ DpAll K Hk5 avs (((l.take i).flatMap fun x => (l1 x).map (gg x)) ++ ((l1 x).take j).map (gg x)),
      ⟨(l1 x).length, by omega, avs, Hk4, { I4' with bor := fun _ hi => nomatch hi }, Same.refl _, nk4, hD4, by
        rw [List.take_zero, List.map_nil, List.append_nil]
        exact DpAll.mono s14 _ hacc⟩, fun j k H5 hW1 => ?_⟩
    obtain ⟨ek, avs5, Hk5, I5, m5, nk5, hD5, hacc5⟩ := hW1
    obtain ⟨v1, v2, v3⟩ := wk1 j H5 (m5.trans I5.kr)
    rw [List.length_map] at v1 v2
    by_cases hjl : j < (l1 x).length
    · refine .inr ⟨v1 hjl, fun H6 => ∃ avs Hk6, Ok K [] σ2 B H0 ρd σ2 Hk6 H6 ∧ Same Hk4 Hk6 ∧ Hk6 D = none ∧ H6 D = some (.lst avs) ∧ DpAll K Hk6 avs (((l.take i).flatMap fun x => (l1 x).map (gg x)) ++ ((l1 x).take (j + 1)).map (gg x)),
        fun H6 hN => ⟨k - 1, by omega, by omega, hN⟩, fun yv H6 hy1 => ?_⟩
      obtain ⟨e6, fd6⟩ := v3 yv H6 hy1
      have hyj := List.getElem?_eq_getElem hjl
      have hym : (l1 x)[j] ∈ l1 x := List.getElem_mem hjl
      revert hyj hym
      generalize (l1 x)[j] = y
      intro hyj hym
      have hd6 : ((l1 x).map (f1 x))[j]? = some (f1 x y) := by rw [List.getElem?_map, hyj]; rfl
      have htk6 : (l1 x).take (j + 1) = (l1 x).take j ++ [y] := by rw [List.take_add_one, hyj]; rfl
      obtain ⟨ρe, eg1, ew1, ge⟩ := inner y hym
      have I6 := I5.gro e6
      have hD6 : H6 D = some (.lst avs5) := e6 _ _ hD5
      have nk6 : gro Hk5 H5 H6 D = none := by rw [gro_old hD5]; exact nk5
      have Iw1 : Ok K [] (wipe σ2 vs1) B H0 ρd (wipe σ2 vs1) (gro Hk5 H5 H6) H6 := by
        refine I6.swap (fun i hi => nomatch hi) (by rw [wipe_length]; exact I5.len) fun i x hx => ?_
        by_cases z : i ∈ vs1
        · have := nv1 i z
          rw [hx] at this
          exact .inl (Option.some.inj this)
        · exact .inr ⟨hx, wipe_out z⟩
      have noW1 : ¬ Ow ρd (wipe σ2 vs1) D := by
        rintro ⟨i, ds, q1, q2⟩
        exact no2 ⟨i, ds, q1, (wipe_some q2).1⟩
      have D6 : fen ρd (wipe σ2 vs1) H6 D = some (.lst avs5) := by rw [fen_not noW1]; exact hD6
      refine hw1 _ _ _ _ (eg1 _ _ _ _ _ _ yv Iw1.inner (Dp.mono (gro_le m5) _ (fd6 _ hd6)) _ fun σ3 I7i wz1 => yes_of (iteT ?_))
      have I7 := Iw1.outer I7i
      have no3 : ¬ Ow ρe σ3 D := by
        rintro ⟨i, zs, q1, q2⟩
        obtain ⟨a, us, s1, s2, s3, s4, s5⟩ := I7i.own i zs q1
        rw [q2] at s1
        injection s1 with s1; injection s1 with s1; injection s1 with s1; subst s1
        rw [D6] at s4
        cases s4
      have keyE : ∀ (i : Nat) (y : Sl), ρd[i]? = some y → y = .no ∨ (ρe[i]? = some y ∧ σ2[i]? = σ3[i]?) := fun i y hy => by
        rw [← ew1] at hy
        rcases wipeS_get hy with e | ⟨q1, q2⟩
        · exact .inl e
        · refine .inr ⟨q2, ?_⟩
          rw [← wipe_out (σ := σ2) q1, ← wipe_out (σ := σ3) q1, wz1]
      refine ge _ _ _ _ σ3 _ H6 I7.inner _ fun v Hk8 Hr8 I8 m8 hv8 => ?_
      obtain ⟨hD8, nk8, _⟩ := I7.stay I8 hD6 nk6 no3
      have I8' := (I7.bors I8).swap (bi' := []) (σ0' := σ2) (fun i hi => nomatch hi) I5.len keyE
      have mm : Same Hk5 Hk8 := (gro_same I5.kr).trans m8
      have hl1 : (((l.take i).flatMap fun x => (l1 x).map (gg x)) ++ ((l1 x).take j).map (gg x)).length < 100000 := by
        have := len_le_flat (F := fun x => (l1 x).map (gg x)) hx (m := j + 1) (by rw [List.length_map]; omega)
        rw [List.length_append, List.length_map, List.length_take]
        omega
      refine ⟨avs5, hD8, by rw [DpAll.len hacc5]; exact lt_line hl1, avs5 ++ [v], Hk8, I8'.put nk8 n0 no2, m5.trans mm, nk8, upd_same, ?_⟩
      rw [htk6, List.map_append, ← List.append_assoc]
      exact DpAll.app (DpAll.mono mm _ hacc5) (.cons hv8 .nil)
    · have ej : j = (l1 x).length := by omega
      refine .inl ⟨v2 (by omega), avs5, Hk5, I5.swap I'.bor I'.len keyS, m'.trans (s14.trans m5), nk5, hD5, ?_, no⟩
      rw [htk, List.flatMap_append]
      rw [ej, List.take_length] at hacc5
      simpa using hacc5
  · have : i = l.length := by omega
    subst this
    rw [List.take_length] at hacc
    exact .inl ⟨w2 (Nat.le_refl _), q D avs Hk' H I' (m1.trans m') hD nk n0 no hacc⟩
section
variable {X : Cx} {elt tg iter tg1 iter1 : Expr} {scope : Scope} {own : List (Str × Nat)} {vs1 : List Nat} {ρ ρ1 : List Sl} {pos : Pos} {α β : Type} {l : List α} {f : α → PyData} {l1 : α → List β} {f1 : α → β → PyData} {gg : α → β → PyData} {g g1 : TG}
theorem el_lc2 (hi : EI X tg iter ρ (l.map f) ρ1) (hw : GW g (own.map (·.2))) (hw1 : GW g1 vs1) (hv : ∀ i ∈ own.map (·.2), ρ1[i]? = some .no) (hlen : (l.flatMap fun x => (l1 x).map (gg x)).length ≤ 100000)
    (ht : ∀ x ∈ l, ∃ ρd, EG X.K [] g ρ1 (f x) ρd ∧ wipeS ρd (own.map (·.2)) = ρ1 ∧ (∀ i ∈ vs1, ρd[i]? = some .no) ∧ BI X scope tg1 iter1 ρd ((l1 x).map (f1 x)) ρd ∧ ∀ y ∈ l1 x, ∃ ρe, EG X.K [] g1 ρd (f1 x y) ρe ∧ wipeS ρe vs1 = ρd ∧ BE X scope elt ρe (gg x y) ρe)
    (hN : X.N.Nodup) (ok : BlkOk X.N X.env.scope scope own) (hsub : ∀ i ∈ vs1, i ∈ own.map (·.2)) (hg : ∀ (s : Shared) (H : Hp) (C : Addr) (cl : List (Str × Addr)) (fp : List Addr), PG (X.blk s H scope (compEnvC scope cl C X.env) fp) tg g)
    (hg1 : ∀ (s : Shared) (H : Hp) (C : Addr) (cl : List (Str × Addr)) (fp : List Addr), PG (X.blk s H scope (compEnvC scope cl C X.env) fp) tg1 g1)
    (hc : X.calm = true := by rfl) (hs : ∀ x, foldedSetIterable iter X.env x = pure x := by intro _; rfl) (hs1 : ∀ env x, foldedSetIterable iter1 env x = pure x := by intro _ _; rfl) : EL X (.ListComp elt [⟨tg, iter, [], 0⟩, ⟨tg1, iter1, [], 0⟩] scope pos) ρ ρ1 (l.flatMap fun x => (l1 x).map (gg x)) := fun bi σ0 B H0 σ Hk Hr I Q q => by
  obtain ⟨wi, pi, hi⟩ := hi
  exact sE_of (pe_lc2 hc hN pi ok hsub hg (fun _ _ _ _ _ => pts_nil) pi_b hg1 (fun _ _ _ _ _ => pts_nil) pe_b hs hs1) (lc2_raw hi hw hw1 hv hlen (fun x hx => by
    obtain ⟨ρd, h1, h2, h3, h4, h5⟩ := ht x hx
    exact ⟨ρd, h1, h2, h3, h4.gi, fun y hy => by
      obtain ⟨ρe, k1, k2, k3⟩ := h5 y hy
      exact ⟨ρe, k1, k2, k3.ge⟩⟩) bi σ0 B H0 σ Hk Hr I Q q)
end
end Pd
namespace Pd
open PySem L2 PySem.Spec PyProof.Rows
/-- an exception class of the program's own with an __init__ that stores its one argument as fld -/
structure XCls (K : PySem.W.Frag) (mg : Str → Option Value) (x fld : Str) (C fI : Addr) : Prop where
  T : OexC K C
  xf : XfC K C
  noN : PySem.W.findIn K (.ref C) fld = some none
  iC : PySem.W.findIn K (.ref C) "__init__" = some (some (.ref fI))
  tI : PySem.W.typeIn K (.ref fI) = some (.type "function")
  gC : mg x = some (.ref C)
  te : PySem.W.exmOne K (.ref C) (.ref C) = some true
def spI (K : PySem.W.Frag) (C : Addr) (fld : Str) : Sp := fun vs H Q _ => ∃ (a : Addr) (v : V), vs = [.ref a, v] ∧ H a = some (exo a C none) ∧ ∀ dx, H dx = none → dx ≠ a → Q .non (upd (upd H dx (exd dx [(fld, v)])) a (exo a C (some dx)))
section
variable {P : Program} {w : World} {K : PySem.W.Frag} {mg : Str → Option Value} {base : Heap} {qual p fld : Str} {st : Stmt} {f C : Addr} {fd : FuncData} {q1 q2 q3 q4 : Pos}
theorem init_ok (F : Fun K "__init__" qual st f fd) (S : FnScope [Str.ofString "self", p] [Str.ofString "self", p] (defScope st)) (T : OexC K C) (noN : PySem.W.findIn K (.ref C) fld = some none)
    (hb : ∀ X : Cx, X.N = [Str.ofString "self", p] → X.env.scope = defScope st → PSs X (defBody st) (tOst X.K fld (tVar 0) (tVar 1))) : FnOk P w K mg base CX0 1 f fd [Str.ofString "self", p] (spI K C fld) := by
  refine F.ok S (fun vs H Q E h => ?_) (fun cdv A outer s H vs Q E hr h => ?_)
  · obtain ⟨a, v, rfl, _⟩ := h
    rfl
  · obtain ⟨a, v, rfl, ha, k⟩ := h
    exact ⟨_, hb _ rfl rfl, v, rfl, .ref a, rfl, a, C, rfl, T, noN, .inl ⟨ha, fun dx n ne => k dx n ne⟩⟩
end
section
variable {X : Cx} {bi : List Nat} {e : Expr} {rest : List Stmt} {ρ ρ1 : List Sl} {N : List Sl → Prop} {R : RTy} {d : PyData} {pos cpos p0 : Pos} {x fld p : Str} {C fI : Addr} {fd : FuncData} {k : Nat} {W : WX}
theorem ss_raise (T : XCls X.K X.mg x fld C fI) (F1 : FnOk X.prog X.w X.K X.mg X.base CX0 k fI fd [Str.ofString "self", p] (spI X.K C fld)) (hr : Room (k + 1) X.A) (hb : Binds X.K fd [Str.ofString "self", p] []) (tk : Takes X W) (he : EE X e ρ d ρ1) (hbi : bi = [])
    (hW : ∀ σ v dd H', Same X.H_0 H' → H' dd = some (.xd [(fld, v)]) → Dp X.K H' v d → W (.ref C) (some dd) σ H') (hc : X.calm = true := by rfl) (hg : Gl X x := by rfl) (hdb : (x == ("__debug__" : Str)) = false := by decide) (hs : starEach [e] X.env = (false, eval e X.env) :: starEach [] X.env := by rfl) (hpl : (backTo cpos (starEach [] X.env)).any (·.1) = false := by rfl) :
    SS X bi (.Raise (some (.Call (.Name x p0) [e] [] cpos)) none pos :: rest) ρ N R := fun σ0 B H0 hz σ Hk Hr D I nx rt =>
  sSs_of (pss_cons (ps_raise hc tk (pmk_oex T.T T.iC T.tI F1 hr hb .nil pass0 hg T.gC pa_s hdb hs hpl)) pss_s) ((ea_cons he ea_nil hs) bi σ0 B H0 σ Hk Hr I _ fun vs Hk1 Hr1 I1 m1 h1 => by
    cases h1 with
    | cons h1 h2 =>
      rename_i v vs'
      cases h2
      refine ⟨by show 1 ≤ 1000; decide, fun a ha => ⟨a, v, rfl, upd_same, fun dx n ne => ⟨rfl, dx, [(fld, v)], upd_same, by rw [upd_ne ne, upd_same], ?_, ?_⟩⟩⟩
      · rw [upd_ne ne] at n
        exact n
      · rw [upd_ne ne] at n
        have far : ∀ b o, Hr1 b = some o → upd (del (upd (upd (upd Hr1 a (exo a C none)) dx (exd dx [(fld, v)])) a (exo a C (some dx))) a) dx (.xd [(fld, v)]) b = some o := fun b o hb' => by
          have n1 : b ≠ a := ne_of_none hb' ha
          have n2 : b ≠ dx := ne_of_none hb' n
          rw [upd_ne n2, del_ne n1, upd_ne n1, upd_ne n2, upd_ne n1]
          exact hb'
        exact hW σ v dx _ (fun b o hb' => far b o (I1.real _ _ (hz hbi b o hb'))) upd_same (Dp.mono (fun b o hb' => far b o (I1.kr _ _ hb')) _ h1))
end
/-- a def that gives d, or raises C with d in fld -/
def spX (K : PySem.W.Frag) (n : Nat) (C : Addr) (fld : Str) (φ ψ : List PyData → PyData → Prop) : Sp := fun vs H Q E => ∃ (B : Hp) (ds : List PyData), ds.length = n ∧ Same B H ∧ DpAll K B vs ds ∧
  ((∃ d, φ ds d ∧ ∀ v H', Same H H' → Dp K (gro B H H') v d → Q v H') ∨ ∃ d, ψ ds d ∧ ∀ v dd H', Same H H' → H' dd = some (.xd [(fld, v)]) → Dp K H' v d → E (.ref C) (some dd) H')
section
variable {P : Program} {w : World} {K : PySem.W.Frag} {mg : Str → Option Value} {base : Heap} {x qual fld : Str} {st : Stmt} {f C : Addr} {fd : FuncData} {N ps : List Str} {k : Nat}
theorem fdX_of {φ ψ : List PyData → PyData → Prop} (F : Fun K x qual st f fd) (S : FnScope N ps (defScope st)) (hl : ps.length ≤ N.length)
    (body : ∀ (cdv : Value) (A : Around) (outer : List Env) (s : Shared) (H : Hp) (E : XK), Room k (A.deeper (envOfC qual (defScope st) s.heap.objs.size f cdv)) →
      (∀ ds d, φ ds d → ds.length = ps.length → SS (cxOf (L2.CX P w) P w K mg base N qual (defScope st) f cdv A outer s H E) [] (defBody st) (rho ds (N.length - ps.length)) (fun _ => d = .none) (RDt K fun d' _ => d' = d)) ∧
      (∀ ds d, ψ ds d → ds.length = ps.length → (∀ v dd H', Same H H' → H' dd = some (.xd [(fld, v)]) → Dp K H' v d → E (.ref C) (some dd) H') →
        SS (cxOf (L2.CX P w) P w K mg base N qual (defScope st) f cdv A outer s H E) [] (defBody st) (rho ds (N.length - ps.length)) (fun _ => False) (fun _ _ _ _ _ => False))) :
    FnOk P w K mg base (L2.CX P w) (k + 1) f fd ps (spX K ps.length C fld φ ψ) := by
  refine F.okX S (fun vs H Q E h => ?_) (fun cdv A outer s H vs Q E hr h => ?_)
  · obtain ⟨B, ds, h1, _, h2, _⟩ := h
    rw [DpAll.len h2, h1]
  · obtain ⟨B, ds, h1, kr, ha, h⟩ := h
    obtain ⟨b1, b2⟩ := body cdv A outer s H E hr
    rcases h with ⟨d, hφ, q⟩ | ⟨d, hψ, q⟩
    · refine ⟨_, pss_s, b1 ds d hφ h1 (L2.start N vs) B H (fun _ _ _ h => h) (L2.start N vs) B H _ (entry_ok kr ha h1 hl) ?_ ?_⟩
      · intro ρ' σ' Hk' Hr' e I' _
        subst e
        exact q .non Hr' I'.real .non
      · rintro v ρ' σ' Hk' Hr' ⟨d', e, hv⟩ I'
        subst e
        refine q v Hr' I'.real (Dp.mono (fun b o h => ?_) _ hv)
        cases z : H b with
        | none => rw [gro_new z]; exact I'.kr _ _ h
        | some u => rw [gro_old z]; exact I'.old b o h (by rw [z]; exact fun z => nomatch z)
    · exact ⟨_, pss_s, b2 ds d hψ h1 q (L2.start N vs) B H (fun _ _ _ h => h) (L2.start N vs) B H _ (entry_ok kr ha h1 hl) (fun _ _ _ _ e _ _ => e.elim) (fun _ _ _ _ _ e _ => e.elim)⟩
end
/-- a def that may raise, called by its name -/
structure CalX (P : Program) (w : World) (K : PySem.W.Frag) (mg : Str → Option Value) (base : Heap) (k : Nat) (x : Str) (ps : List Str) (sp : Sp) : Prop where
  ex : ∃ (f : Addr) (fd : FuncData), FnOk P w K mg base (L2.CX P w) k f fd ps sp ∧ mg x = some (.ref f) ∧ PySem.W.keepIn K (.ref f) = true ∧ Binds K fd ps []
section
variable {X : Cx} {e : Expr} {es : List Expr} {ρ ρ1 : List Sl} {d : PyData} {ds : List PyData} {pos p0 : Pos} {x fld : Str} {ps : List Str} {k n : Nat} {C : Addr} {φ ψ : List PyData → PyData → Prop}
/-- where it does not raise -/
theorem ee_callX (c : CalX X.prog X.w X.K X.mg X.base k x ps (spX X.K n C fld φ ψ)) (hr : Room k X.A) (ha : EA X (e :: es) ρ ds ρ1) (h : φ ds d) (hn : ds.length = n := by rfl)
    (hg : Gl X x := by rfl) (hdb : (x == ("__debug__" : Str)) = false := by decide) (he : starEach (e :: es) X.env = (false, eval e X.env) :: starEach es X.env := by rfl) (hpl : (backTo pos (starEach es X.env)).any (·.1) = false := by rfl) : EE X (.Call (.Name x p0) (e :: es) [] pos) ρ d ρ1 := fun bi σ0 B H0 σ Hk Hr I Q q => by
  obtain ⟨f, fd, F, hm, hk, hb⟩ := c.ex
  refine sE_of (pe_call (E := E0) F hr hg hm hk hb .nil passL pa_s hdb he hpl) (ha bi σ0 B H0 σ Hk Hr I _ fun vs Hk1 Hr1 I1 m1 h1 => ?_)
  rw [List.append_nil]
  exact ⟨Hk1, ds, hn, I1.kr, h1, .inl ⟨d, h, fun v H' e' hv => q v _ H' (I1.gro e') (m1.trans (gro_same I1.kr)) hv⟩⟩
end
section
variable {X : Cx} {e : Expr} {es : List Expr} {rest : List Stmt} {ρ ρ1 : List Sl} {N : List Sl → Prop} {d : PyData} {ds : List PyData} {pos cpos ep p0 np pos' a1 a2 cp rp sp0 : Pos} {x xn vn fld : Str} {ps : List Str} {k n i kk : Nat} {C fI : Addr} {φ ψ : List PyData → PyData → Prop} {y z : Str} {R : PyData → List Sl → Prop}
/-- try: f(..) except C as e: return e.fld == 'z', where f raises -/
theorem ss_tryEq (T : XCls X.K X.mg xn fld C fI) (c : CalX X.prog X.w X.K X.mg X.base k x ps (spX X.K n C fld φ ψ)) (hr : Room k X.A) (hxe : X.xe = fun _ _ => False) (ha : ∀ pn xe, EA (X.tr pn xe) (e :: es) ρ ds ρ1) (h : ψ ds (.str y)) (hn : ds.length = n)
    (hil : i < ρ1.length) (hR : R (.bool (decide (V.str y = V.str z))) (ρ1.set i .no)) (hN : X.N.Nodup) (hi : X.N[i]? = some vn) (hln : X.env.kindOf vn = some .local) (hs : X.stack = X.env :: X.outer) (hf : X.env.frame = some X.env.locals) (hgn : Names X xn (.ref C))
    (hcall : ∀ (W : WX) (pn : List (Addr × Obj)) (xe : Value → Shared → Prop), Takes (X.tr pn xe) W → ∀ (f : Addr) (fd : FuncData), FnOk X.prog X.w X.K X.mg X.base (L2.CX X.prog X.w) k f fd ps (spX X.K n C fld φ ψ) → X.mg x = some (.ref f) → PySem.W.keepIn X.K (.ref f) = true → Binds X.K fd ps [] →
      PSs (X.tr pn xe) [.Expr (.Call (.Name x p0) (e :: es) [] cpos) ep] (tDrop (tCallS (spX X.K n C fld φ ψ) (WE W) (sA (X.tr pn xe) (e :: es)))))
    (hsuite : ∀ (a : Addr) (oe : Obj) (cls : Value) (dd : Option Addr) (pn : List (Addr × Obj)), Zc cls dd oe → (∃ vs, oe.data = .fields vs) →
      PSs (X.suite a ((a, oe) :: pn)) [.Return (some (.Compare (.Attribute (.Name vn a1) fld a2) [.Eq] [.Constant (.str z) kk sp0] cp)) rp] (tRet (tOp rEq (tXf a cls dd C fld (tVar i)) (tC (.str z))))) :
    SS X [] (.Try [.Expr (.Call (.Name x p0) (e :: es) [] cpos) ep] [.ExceptHandler (some (.Name xn np)) (some vn) [.Return (some (.Compare (.Attribute (.Name vn a1) fld a2) [.Eq] [.Constant (.str z) kk sp0] cp)) rp] pos'] [] [] pos :: rest) ρ N (RDt X.K R) := fun σ0 B H0 hz σ Hk Hr D I nx rt => by
  obtain ⟨f, fd, F, hm, hk, hb⟩ := c.ex
  have tk0 : Takes X (fun _ _ _ _ => False) := takes0
  refine sSs_of (pss_cons (ps_try_as (tb := fun W D σ H => ∀ pn xe, Takes (X.tr pn xe) W → sSs (X.tr pn xe) [.Expr (.Call (.Name x p0) (e :: es) [] cpos) ep] D σ H) hs hf hN hi hln hgn tk0 (fun W pn xe tk _ => ⟨fun pins s σ H D I h => h pn xe tk pins s I⟩) hsuite) pss_s) ?_
  intro pn xe tk
  refine sSs_of (hcall _ pn xe tk f fd F hm hk hb) (ha pn xe [] σ0 B H0 σ Hk Hr I _ fun vs Hk1 Hr1 I1 m1 h1 => ?_)
  refine ⟨Hk1, ds, hn, I1.kr, h1, .inr ⟨.str y, h, fun v dd H' same hx hv => ?_⟩⟩
  cases hv
  refine ⟨true, T.te, fun _ a na => ?_, fun q => nomatch q⟩
  have hli : i < σ.length := by rw [← I1.len]; exact hil
  refine ⟨.ref a, by rw [List.getElem?_set_self hli], rfl, rfl, dd, [(fld, .str y)], .str y, rfl, hx, by simp [List.lookup], rfl, ?_⟩
  have I2 := I1.gro same
  refine rt (.bl (decide (V.str y = V.str z))) (ρ1.set i .no) (σ.set i (some (.ref a))) (gro Hk1 Hr1 H') H' ⟨.bool _, hR, .bl _⟩ ?_
  refine I2.swap (fun i hi => nomatch hi) (by simp [I2.len]) fun j q hj => ?_
  by_cases e : i = j
  · subst e
    have hl2 : i < ρ1.length := by rw [I1.len]; exact hli
    rw [List.getElem?_set_self hl2] at hj
    exact .inl (Option.some.inj hj).symm
  · rw [List.getElem?_set_ne e] at hj
    exact .inr ⟨hj, by rw [List.getElem?_set_ne e]⟩
end
end Pd
namespace Pd
open PySem L2 PySem.Spec PyProof.Rows
/-! ### sorted(t, reverse=True), t a tuple of tuples of ints that stands in that order -/
abbrev dTu (xs : List Int) : PyData := .tuple (xs.map .int)
theorem reads_ints {h : Heap} : ∀ {ns : List Int} {us : List Value}, Vals (ns.map V.int) us → ReadsAll h us (ns.map PyData.int) []
  | [], _, .nil => .nil
  | n :: ns, _ :: us, .cons r t => by
    have h2 := reads_ints (h := h) t
    obtain ⟨tk, e⟩ := r
    subst e
    exact ReadsAll.cons (as := []) (bs := []) (.int _ _) h2
theorem dT_reads {X : Cx} {pins : List (Addr × Obj)} {σ : L2.St} {H : Hp} {s : Shared} (I : Inv X pins σ H s) {B : Hp} (sm : Same B H) {v : V} {u : Value} {d : List Int} (hd0 : Dp X.K B v (dTu d)) (r : RelV v u) : (∃ a, u = .ref a ∧ Dp X.K B (.ref a) (dTu d)) ∧ Reads s.heap u (dTu d) [] := by
  have hd : Dp X.K H v (dTu d) := Dp.mono sm _ hd0
  cases hd with
  | tup hs ha =>
    have e1 := DpAll.ints ha
    subst e1
    obtain ⟨its, rv, ⟨o, ho, hc, n, hdt⟩, _⟩ := I.tuple hs
    obtain rfl := r
    exact ⟨⟨_, rfl, hd0⟩, .tuple ho hc hdt (by simpa using reads_ints (h := s.heap) rv)⟩
theorem each_data {X : Cx} {pins : List (Addr × Obj)} {σ : L2.St} {H : Hp} {s : Shared} (I : Inv X pins σ H s) {B : Hp} (sm : Same B H) : ∀ {vs : List V} {us : List Value} {ds : List (List Int)}, DpAll X.K B vs (ds.map dTu) → Vals vs us →
    PySem.W.EachIs (fun u d => ∃ a, u = Value.ref a ∧ Dp X.K B (.ref a) (dTu d)) us ds ∧ PySem.W.EachIs (fun u d => Reads s.heap u (dTu d) []) us ds
  | [], _, [], _, .nil => ⟨.nil, .nil⟩
  | _ :: _, _, [], h, _ => by cases h
  | [], _, _ :: _, h, _ => by cases h
  | v :: vs, _ :: us, d :: ds, h, .cons r t => by
    cases h with
    | cons h1 h2 =>
      obtain ⟨e1, e2⟩ := each_data I sm h2 t
      obtain ⟨f1, f2⟩ := dT_reads I sm h1 r
      exact ⟨.cons f1 e1, .cons f2 e2⟩
theorem dT_depth (d : List Int) : (dTu d).depth ≤ 1 := by
  show (PyData.tuple (d.map .int)).depth ≤ 1
  rw [PyData.depth, PySem.W.depth_ints]
  omega
theorem each_refs {R : Value → List Int → Prop} (hR : ∀ u d, R u d → ∃ a, u = Value.ref a) : ∀ {us : List Value} {ds : List (List Int)}, PySem.W.EachIs R us ds → ∀ u ∈ us, ∃ a, u = Value.ref a
  | _, _, .nil, u, hu => by cases hu
  | _, _, .cons h t, u, hu => by
    rcases List.mem_cons.mp hu with rfl | hu
    · exact hR _ _ h
    · exact each_refs hR t u hu
theorem each_dp {K : PySem.W.Frag} {H : Hp} : ∀ {us : List Value} {ds : List (List Int)}, PySem.W.EachIs (fun u d => ∃ a, u = Value.ref a ∧ Dp K H (.ref a) (dTu d)) us ds → DpAll K H (us.map backV) (ds.map dTu)
  | _, _, .nil => .nil
  | _, _, .cons h t => by
    obtain ⟨a, e, h⟩ := h
    subst e
    exact .cons h (each_dp t)
theorem alike_dT (x y : List Int) : PySem.W.alike (dTu x) (dTu y) = true := by
  show PySem.W.alike (.tuple (x.map .int)) (.tuple (y.map .int)) = true
  rw [PySem.W.alike, PySem.W.alike_ints]
theorem swo_none : SrtO.Swo fun (_ _ : Value) => false := ⟨fun _ _ h => (nomatch h), fun _ _ _ _ _ => rfl⟩
theorem sorted_tupR {X : Cx} {pins : List (Addr × Obj)} {σ : L2.St} {H : Hp} {s : Shared} {t : Addr} {vs : List V} {ds : List (List Int)} {Q : VK} (I : Inv X pins σ H s) (hs : SqT X.K H t vs) {B : Hp} (sm : Same B H) (hd : DpAll X.K B vs (ds.map dTu)) (hz : ds.length ≤ sizeLine)
    (hne : ds.length ≤ 1 ∨ ∀ d ∈ ds, d ≠ []) (ho : ds.Pairwise fun a b => PySem.W.dataLe true dTu a b = true) (hu : X.A.units + 100 < cLine)
    (q : ∀ (ys : List V) (p : Addr), DpAll X.K B ys (ds.map dTu) → H p = none → Q (.ref p) (upd H p (.lst ys))) :
    wpAny (model X.prog X.w) X.A (call (.builtin "sorted") [.ref t] [(Str.ofString "reverse", .bool true)]) (EP X pins σ Q) X.xe s := by
  obtain ⟨its, r, ⟨o, hob, hc, n, hdt⟩, hzt⟩ := I.tuple hs
  obtain ⟨e1, e2⟩ := each_data I sm hd r
  have hl : its.length = ds.length := e1.length
  refine call_function_entry_kw kind_sorted plain_sorted entry_sorted (args_sorted_rev _ _) ?_
  unfold Builtin.«sorted»
  refine wpAny_bind (m := checkCount "sorted" 1 1 _) (wpAny_pure (wpAny_bind (wpAny_collect_seq t (.inr rfl) hob hc hdt (fun h' hk => ?_) (by rw [List.size_toArray]; omega))))
  refine wpAny_bind (wpAny_newList ?_ (by simpa [hl] using hz))
  have hat : (h'.push (seqObj "list" its.toArray 0)).get? h'.objs.size = some (seqObj "list" its.toArray 0) := Heap.get?_push_size _ rfl
  have keep : ∀ b o, s.heap.get? b = some o → b < h'.objs.size ∧ (h'.push (seqObj "list" its.toArray 0)).get? b = some o := fun b o e => ⟨Heap.lt_size (hk b o e), Heap.get?_push_of_some _ (hk b o e)⟩
  have fr : s.heap.get? h'.objs.size = none := by
    cases z : s.heap.get? h'.objs.size with
    | none => rfl
    | some o => exact absurd (keep _ _ z).1 (Nat.lt_irrefl _)
  have fin : ∀ out : List Value, out.length = ds.length → PySem.W.EachIs (fun u d => ∃ a, u = Value.ref a ∧ Dp X.K B (.ref a) (dTu d)) out ds → EP X pins σ Q (.ref h'.objs.size) { s with heap := sortedHeap (h'.push (seqObj "list" its.toArray 0)) h'.objs.size its out.toArray } := fun out ol oe => by
    obtain ⟨ep, hat2⟩ := sortedHeap_at (out := out.toArray) hat
    have hn := I.hok.gone fr
    refine ⟨.ref h'.objs.size, upd H h'.objs.size (.lst (out.map backV)), I.laidN (t' := s.toks) (fun b u e => ?_) fr hn ⟨by rw [List.length_map, ol]; exact hz, out, ep, vals_back (each_refs (fun u d h => ⟨h.choose, h.choose_spec.1⟩) oe), hat2⟩, rfl, q _ _ (each_dp oe) hn⟩
    obtain ⟨k1, k2⟩ := keep b u e
    rw [sortedHeap_old (Nat.ne_of_lt k1) (Heap.lt_size k2)]
    exact k2
  have hzi : its.length ≤ sizeLine := by rw [hl]; exact hz
  rcases hne with h1 | h1
  · refine wpAny_bind (wpAny_holding (wpAny_call_entry_kw slot_list_sort ⟨_, hat, rfl⟩ entry_list_sort (SrtR.list_sort_ordR swo_none hat hzi (fun h2 => absurd h2 (by omega)) fun out _ hb => ⟨_, rfl, wpAny_pure ⟨_, rfl, ?_⟩⟩) (args_list_sort_rev _ _)))
    have hp : out.Perm its := hb.perm.trans (List.reverse_perm its)
    have e : out.toArray.reverse = its.toArray := by
      match its, hl, hp with
      | [], _, hp => rw [hp.eq_nil]; rfl
      | [x], _, hp => rw [List.perm_singleton.mp hp]; rfl
      | _ :: _ :: _, hl, _ => simp only [List.length_cons] at hl; omega
    simp only [if_true, e]
    exact fin its hl e1
  · refine wpAny_bind (wpAny_holding (PySem.W.list_sort_rev_data (enc := dTu) hat e1 (e2.mono fun u d h => ⟨[], PyProof.Rows.Reads.keeps (fun b o e => (keep b o e).2) h, fun z => nomatch z⟩) (PySem.W.AllAlike.of alike_dT) (.inl fun d hd => ?_) hz (fun d _ => ?_) fun out ol oe => wpAny_pure ⟨_, rfl, ?_⟩))
    · obtain ⟨d, hm, rfl⟩ := List.mem_map.mp hd
      cases d with
      | nil => exact absurd rfl (h1 _ hm)
      | cons x r => exact ⟨_, _, rfl⟩
    · have := dT_depth d
      show X.A.units + 1 + 1 + (dTu d).depth < cLine
      omega
    · rw [List.mergeSort_of_pairwise ho] at oe
      exact fin out ol oe
def rSortTR (K : PySem.W.Frag) : List V → List V → Hp → VK → Prop := fun vs zs H Q => ∃ (t : Addr) (xs : List V) (ds : List (List Int)) (B : Hp), vs = [V.ref t] ∧ zs = [.bl true] ∧ SqT K H t xs ∧ Same B H ∧ DpAll K B xs (ds.map dTu) ∧ ds.length ≤ sizeLine ∧ (ds.length ≤ 1 ∨ ∀ d ∈ ds, d ≠ []) ∧ (ds.Pairwise fun a b => PySem.W.dataLe true dTu a b = true) ∧
  ∀ (ys : List V) (p : Addr), DpAll K B ys (ds.map dTu) → H p = none → Q (.ref p) (upd H p (.lst ys))
theorem cr_sortTR {X : Cx} (hu : X.A.units + 100 < cLine) : CallRK X (.builtin "sorted") [Str.ofString "reverse"] (rSortTR X.K) := by
  intro pins s σ H vs zs us ws Q I r rz h
  obtain ⟨t, xs, ds, B, rfl, rfl, h1, sm, h2, h3, h4, h5, q⟩ := h
  obtain rfl := Vals.ref1 r
  obtain ⟨w1, rfl, e1⟩ := vals1 rz
  obtain rfl : w1 = Value.bool true := e1
  exact sorted_tupR I h1 sm h2 h3 h4 h5 hu q
section
variable {X : Cx} {e : Expr} {ρ ρ1 : List Sl} {ds : List (List Int)} {p0 p1 pos kp : Pos} {kn k : Nat}
theorem ee_sortTR (hr : Room k X.A) (hm : X.mg "sorted" = none) (ha : EE X e ρ (.tuple (ds.map dTu)) ρ1) (h3 : ds.length ≤ sizeLine) (h4 : ds.length ≤ 1 ∨ ∀ d ∈ ds, d ≠ []) (h5 : ds.Pairwise fun a b => PySem.W.dataLe true dTu a b = true)
    (h : PE X (.Call (.Name "sorted" p0) [e] [⟨some "reverse", .Constant (.bool true) kn p1, kp⟩] pos) (tCKw (rSortTR X.K) (tCons (sE X e) tNil) (tCons (tC (.bl true)) tNil))) :
    EE X (.Call (.Name "sorted" p0) [e] [⟨some "reverse", .Constant (.bool true) kn p1, kp⟩] pos) ρ (.list (ds.map dTu)) ρ1 := fun bi σ0 B H0 σ Hk Hr I Q q => by
  refine sE_of h (ha bi σ0 B H0 σ Hk Hr I _ fun v Hk1 Hr1 I1 m1 h1 => ?_)
  cases h1 with
  | tup hs ha =>
    refine ⟨_, _, ds, Hk1, rfl, rfl, same_t I1.kr hs, I1.kr, ha, h3, h4, h5, fun ys p hy hf => ?_⟩
    exact q _ _ _ (I1.gro (new_same hf _)) (m1.trans (gro_same I1.kr)) (gro_lst I1.kr hf hy)
end
end Pd
namespace Pd
open PySem L2 PySem.Spec PyProof.Rows
/-! isinstance of a list; a comprehension whose turns change the slots -/
theorem ty_lst {K : PySem.W.Frag} {H : Hp} {v : V} {ds : List PyData} (h : Dp K H v (.list ds)) : TyX K H v (.type "list") := by
  cases h with
  | lst hs ha =>
    rcases hs with (h | ⟨o, h⟩) | h
    · exact .base (.lst h)
    · exact .base (.frz h)
    · obtain ⟨o, its, n, ho, hc, _⟩ := h
      exact .kList ho hc
section
variable {X : Cx} {e elt tg iter : Expr} {scope : Scope} {own : List (Str × Nat)} {ρ ρ1 : List Sl} {ds : List PyData} {pos p0 : Pos} {k : Bool}
theorem ee_isL {T : String} {t : Expr} (ha : EE X e ρ (.list ds) ρ1) (hk : kitB "list" T = some k) (h : PE X (.Call (.Name "isinstance" p0) [e, t] [] pos) (tCB (rIsi X.K) (tCons (sE X e) (tCons (tC (.ty T)) tNil)))) : EE X (.Call (.Name "isinstance" p0) [e, t] [] pos) ρ (.bool k) ρ1 := fun bi σ0 B H0 σ Hk Hr I Q q => by
  refine sE_of h (ha bi σ0 B H0 σ Hk Hr I _ fun v Hk1 Hr1 I1 m1 h1 => ?_)
  exact ⟨v, .ty T, .type "list", .type T, k, rfl, .ty T, ty_lst (Dp.mono I1.kr _ h1), kit_ty hk, q _ Hk1 Hr1 I1 m1 (.bl _)⟩
theorem ee_lcS {g : TG} (S : Nat → List Sl) (F : Nat → PyData) (hi : EI X tg iter ρ ds (S 0)) (hw : GW g (own.map (·.2))) (hv : ∀ j, ∀ i ∈ own.map (·.2), (S j)[i]? = some .no) (hn : ds.length ≤ 100000)
    (ht : ∀ j d, ds[j]? = some d → ∃ ρd ρe, EG X.K [] g (S j) d ρd ∧ wipeS ρe (own.map (·.2)) = S (j + 1) ∧ ∀ (s : Shared) (H : Hp) (C : Addr) (cl : List (Str × Addr)) (fp : List Addr), EE (X.blk s H scope (compEnvC scope cl C X.env) fp) elt ρd (F j) ρe)
    (hN : X.N.Nodup) (ok : BlkOk X.N X.env.scope scope own) (hg : ∀ (s : Shared) (H : Hp) (C : Addr) (cl : List (Str × Addr)) (fp : List Addr), PG (X.blk s H scope (compEnvC scope cl C X.env) fp) tg g)
    (hc : X.calm = true := by rfl) (hs : ∀ x, foldedSetIterable iter X.env x = pure x := by intro _; rfl) : EE X (.ListComp elt [⟨tg, iter, [], 0⟩] scope pos) ρ (.list ((List.range ds.length).map F)) (S ds.length) := fun bi σ0 B H0 σ Hk Hr I Q q => by
  obtain ⟨wi, pi, hi⟩ := hi
  refine sE_of (pe_lc hc hN pi ok hg (fun _ _ _ _ _ => pts_nil) pe_b hs) (lc_ok hi hw (fun j acc ρ' => acc = (List.range j).map F ∧ ρ' = S j) ⟨rfl, rfl⟩ (fun j acc ρj h i hi => by rw [h.2]; exact hv j i hi) (fun j d acc ρj hd h => ?_) bi σ0 B H0 σ Hk Hr I Q fun v Hk' Hr' acc ρ' h I' m' hvd => ?_)
  · obtain ⟨rfl, rfl⟩ := h
    obtain ⟨ρd, ρe, eg, ew, be⟩ := ht j d hd
    have hj := (List.getElem?_eq_some_iff.mp hd).1
    have be2 : GE X.K (bE X scope elt) ρd (F j) ρe := fun bi σ0 B H0 σ Hk Hr I Q q s H C cl fp => be s H C cl fp bi σ0 B H0 σ Hk Hr I Q q
    refine ⟨by simp; omega, ρd, true, ρd, eg, gt_yes, fun _ => ⟨F j, ρe, be2, ?_, ew⟩, fun z => nomatch z⟩
    rw [List.range_succ, List.map_append]
    rfl
  · obtain ⟨rfl, rfl⟩ := h
    exact q v Hk' Hr' I' m' hvd
end
end Pd
namespace K03
open PySem L2 Pd PySem.Spec PyProof.Rows
def top (i : Nat) : Stmt := PySem.Challenge.pw_fivebases_k03_partitions_listed.main.body.getD i (.Pass ⟨0, 0, 0, 0⟩)
abbrev sState : Stmt := top 12
abbrev sTake : Stmt := top 13
abbrev sParts : Stmt := top 14
abbrev sDrawn : Stmt := top 15
theorem scState : FnScope ["script", "seed", "total", "cell"] ["script"] (defScope sState) := ⟨rfl, rfl, rfl, by decide +kernel, rfl, by decide +kernel, by decide +kernel⟩
theorem scTake : FnScope ["state", "m", "value"] ["state", "m"] (defScope sTake) := ⟨rfl, rfl, rfl, by decide +kernel, rfl, by decide +kernel, by decide +kernel⟩
theorem scParts : FnScope ["n", "most", "out", "head", "rest"] ["n", "most"] (defScope sParts) := ⟨rfl, rfl, rfl, by decide +kernel, rfl, by decide +kernel, by decide +kernel⟩
theorem scDrawn : FnScope ["state", "n", "rows"] ["state", "n"] (defScope sDrawn) := ⟨rfl, rfl, rfl, by decide +kernel, rfl, by decide +kernel, by decide +kernel⟩
/-- the built-in names that the top leaves as they are -/
structure Mg (mg : Str → Option Value) : Prop where
  len : mg "len" = none
  int : mg "int" = none
  abs : mg "abs" = none
  min : mg "min" = none
  range : mg "range" = none

/-! the script's numbers -/
def stepS (p : Int × Int) (x : Int) : Int × Int := (p.1 * 1000003 + (if x < 0 then -x else x), (p.2 * 48271 + x) % 2147483647)
def stateOf (ns : List Int) : Int × Int := (ns.take 63).foldl stepS (0, 1)
def phState : List PyData → List Int → Prop := fun ds ms => ∃ ns : List Int, ds = [.list (ns.map .int)] ∧ ms = [(stateOf ns).1, (stateOf ns).2]
theorem cut63 (ns : List Int) : Pd.cutD (ns.map PyData.int) none (some 63) = (ns.take 63).map PyData.int := by
  unfold Pd.cutD
  have e : HT.sIx (ns.map PyData.int).length (ns.map PyData.int).length (some 63) = min 63 (ns.map PyData.int).length := HT.sIx_nat _ _ 63
  rw [e]
  show ((ns.map PyData.int).drop 0).take (min 63 (ns.map PyData.int).length - 0) = _
  rw [List.drop_zero, Nat.sub_zero, ← List.map_take]
  congr 1
  rw [List.length_map, List.take_eq_take_iff]
  omega
theorem int_at {ns : List Int} {i : Nat} {d : PyData} (h : (ns.map PyData.int)[i]? = some d) : ∃ x, ns[i]? = some x ∧ d = .int x := by
  rw [List.getElem?_map] at h
  cases q : ns[i]? with
  | none => rw [q] at h; cases h
  | some x => rw [q] at h; exact ⟨x, rfl, (Option.some.inj h).symm⟩
theorem take_succ_at {α : Type} {ns : List α} {i : Nat} {x : α} (h : ns[i]? = some x) : ns.take (i + 1) = ns.take i ++ [x] := by
  rw [List.take_add_one, h]
  rfl
section
variable {P : Program} {w : World} {K : PySem.W.Frag} {mg : Str → Option Value} {base : Heap} {f : Addr} {fd : FuncData}
theorem ok_state (F : Fun K "_law_state" "_law_state" sState f fd) (T : Mg mg) : FnOk P w K mg base CX0 1 f fd ["script"] (spN K 1 phState) := by
  refine fdN_of F scState (by decide) (fun cdv A outer s H E hr ds ms h hl => ?_)
  obtain ⟨ns, rfl, rfl⟩ := h
  refine ss_set (n := 1) scState.nd rfl (by decide) ee_int ?_
  refine ss_set (n := 2) scState.nd rfl (by decide) ee_int ?_
  refine ss_for (fun i ρ => ∃ c, ρ = [.val (.list (ns.map .int)), .val (.int (((ns.take 63).take i).foldl stepS (0, 1)).1), .val (.int (((ns.take 63).take i).foldl stepS (0, 1)).2), c])
    (ei_list (ee_sliceL (ee_var (n := 0) rfl rfl) eo_none (eo_some ee_int))) (pg_name (i := 3) scState.nd rfl (.inl rfl)) ⟨_, rfl⟩ (fun i d ρi hd h => ?_) (fun ρ' h => ?_)
  · obtain ⟨c, rfl⟩ := h
    rw [cut63] at hd
    obtain ⟨x, hx, rfl⟩ := int_at hd
    refine ⟨_, eg_name (by decide), ?_⟩
    refine ss_set (n := 1) scState.nd rfl (by decide) (ee_op op_add (ee_op op_mul (ee_var (n := 1) rfl rfl) ee_int (rd_int (C := CMul) (.inr (by decide)))) (ee_abs T.abs (ee_var (n := 3) rfl rfl)) rd_int0) ?_
    refine ss_set (n := 2) scState.nd rfl (by decide) (ee_op op_mod (ee_toInt T.int (ee_op op_add (ee_op op_mul (ee_var (n := 2) rfl rfl) ee_int (rd_int (C := CMul) (.inr (by decide)))) (ee_var (n := 3) rfl rfl) rd_int0)) ee_int (rd_int (by decide))) ?_
    refine ss_nil ⟨.val (.int x), ?_⟩
    rw [take_succ_at hx, List.foldl_append]
    rfl
  · obtain ⟨c, rfl⟩ := h
    rw [cut63, List.length_map, List.take_length]
    exact ss_retNew (ns := [(stateOf ns).1, (stateOf ns).2]) (ea_cons (ee_var (n := 1) rfl rfl) (ea_cons (ee_var (n := 2) rfl rfl) ea_nil)) rfl
/-! the draws -/
end
def take (s t m : Int) : Int × Int × Int := if 0 < s then (s % m, s / m, t) else ((((t * 48271 + 11) % 2147483647) / 7) % m, s, (t * 48271 + 11) % 2147483647)
theorem take_lt (s t m : Int) (h : 0 < m) : 0 ≤ (take s t m).1 ∧ (take s t m).1 < m := by
  unfold take
  split
  · exact ⟨Int.emod_nonneg _ (by omega), Int.emod_lt_of_pos _ h⟩
  · exact ⟨Int.emod_nonneg _ (by omega), Int.emod_lt_of_pos _ h⟩
def phTake : List PyData → List PyData → PyData → List PyData → Prop := fun cs ds d cs' => ∃ s t m : Int, cs = [.int s, .int t] ∧ ds = [.int m] ∧ 0 < m ∧ m < 1000000 ∧ d = .int (take s t m).1 ∧ cs' = [.int (take s t m).2.1, .int (take s t m).2.2]
section
variable {P : Program} {w : World} {K : PySem.W.Frag} {mg : Str → Option Value} {base : Heap} {f g : Addr} {fd gd : FuncData}
theorem ok_take (F : Fun K "_law_take" "_law_take" sTake f fd) (T : Mg mg) : FnOk P w K mg base CX0 1 f fd ["state", "m"] (spB K 1 phTake) := by
  refine fdB_of F scTake rfl (by decide) (fun cdv A outer s H E hr cs ds d cs' h hl => ?_)
  obtain ⟨s, t, m, rfl, rfl, h0, h1, rfl, rfl⟩ := h
  refine ss_ifR (et_cmp op_gt (own_ix (n := 0) rfl rfl ee_int rfl) ee_int rd_cmp) (fun hs => ?_) (fun hs => ?_)
  · have hs : 0 < s := of_decide_eq_true hs
    have e : take s t m = (s % m, s / m, t) := if_pos hs
    rw [e]
    refine ss_set (n := 2) scTake.nd rfl (by decide) (ee_op op_mod (ee_toInt T.int (own_ix (n := 0) rfl rfl ee_int rfl)) (ee_var (n := 1) rfl rfl) (rd_int h0)) ?_
    refine ss_put (n := 0) rfl rfl (ee_op op_fdiv (own_ix (n := 0) rfl rfl ee_int rfl) (ee_var (n := 1) rfl rfl) (rd_int (C := CDiv) ?_)) ee_int rfl ?_ (ps_asg pe_s (pg_sub (pv 0) pe_s set_list))
    · exact ⟨h0, by omega⟩
    · exact ss_ret (ee_var (n := 2) rfl rfl) ⟨rfl, rfl⟩
  · have hs : ¬ 0 < s := of_decide_eq_false hs
    have e : take s t m = ((((t * 48271 + 11) % 2147483647) / 7) % m, s, (t * 48271 + 11) % 2147483647) := if_neg hs
    rw [e]
    refine ss_put (n := 0) rfl rfl (ee_op op_mod (ee_toInt T.int (ee_op op_add (ee_op op_mul (own_ix (n := 0) rfl rfl ee_int rfl) ee_int (rd_int (C := CMul) (.inr (by decide)))) ee_int rd_int0)) ee_int (rd_int (by decide))) ee_int rfl ?_ (ps_asg pe_s (pg_sub (pv 0) pe_s set_list))
    exact ss_ret (ee_op op_mod (ee_toInt T.int (ee_op op_fdiv (own_ix (n := 0) rfl rfl ee_int rfl) ee_int (rd_int (C := CDiv) ⟨by decide, by decide⟩))) (ee_var (n := 1) rfl rfl) (rd_int h0)) ⟨rfl, rfl⟩
end
/-! partitions -/
def headAt (n most i : Nat) : Nat := min n most - i
def partsF : Nat → Nat → Nat → List (List Int)
  | 0, _, _ => []
  | k + 1, n, most => if n = 0 then [[]] else (List.range (min n most)).flatMap fun i => (partsF k (n - headAt n most i) (headAt n most i)).map fun r => (headAt n most i : Int) :: r
theorem partsF_len : ∀ (k n most : Nat), n ≤ 13 → (partsF k n most).length ≤ 2 ^ n
  | 0, n, most, _ => by show 0 ≤ _; exact Nat.zero_le _
  | k + 1, n, most, h => by
    unfold partsF
    split
    · rename_i h0
      subst h0
      exact Nat.le_refl _
    · rename_i h0
      have key : ∀ j, j ≤ min n most → ((List.range j).flatMap fun i => (partsF k (n - headAt n most i) (headAt n most i)).map fun r => (headAt n most i : Int) :: r).length ≤ 2 ^ (n - (min n most - j)) - 2 ^ (n - min n most) := fun j => by
        induction j with
        | zero => intro _; simp
        | succ j ih =>
          intro hj
          have ih := ih (by omega)
          rw [List.range_succ, List.flatMap_append, List.length_append]
          have l1 : ((List.flatMap (fun i => (partsF k (n - headAt n most i) (headAt n most i)).map fun r => (headAt n most i : Int) :: r) [j])).length = (partsF k (n - headAt n most j) (headAt n most j)).length := by simp
          rw [l1]
          have l2 := partsF_len k (n - headAt n most j) (headAt n most j) (by omega)
          unfold headAt at l2
          unfold headAt
          have e1 : n - (min n most - j) = n - (min n most - (j + 1)) - 1 := by omega
          have e2 : 2 ^ (n - (min n most - (j + 1))) = 2 * 2 ^ (n - (min n most - j)) := by
            rw [e1, ← Nat.pow_succ']
            congr 1
            omega
          have e3 : 2 ^ (n - min n most) ≤ 2 ^ (n - (min n most - j)) := Nat.pow_le_pow_right (by decide) (by omega)
          unfold headAt at ih
          omega
      have := key (min n most) (Nat.le_refl _)
      rw [Nat.sub_self, Nat.sub_zero] at this
      exact Nat.le_trans this (Nat.sub_le _ _)
theorem parts_item : ∀ (k n most : Nat) (r : List Int), r ∈ partsF k n most → r.length ≤ n
  | 0, n, most, r, h => by cases h
  | k + 1, n, most, r, h => by
    unfold partsF at h
    split at h
    · rw [List.mem_singleton] at h
      subst h
      exact Nat.zero_le _
    · obtain ⟨i, hi, h⟩ := List.mem_flatMap.mp h
      obtain ⟨q, hq, rfl⟩ := List.mem_map.mp h
      have := parts_item k _ _ q hq
      have hi := List.mem_range.mp hi
      rw [List.length_cons]
      unfold headAt at this
      omega
def phParts (k : Nat) : List PyData → PyData → Prop := fun ds d => ∃ n most : Nat, ds = [.int (n : Nat), .int (most : Nat)] ∧ n < k ∧ n ≤ 12 ∧ most ≤ 12 ∧ d = .list ((partsF k n most).map dT)
section
variable {P : Program} {w : World} {K : PySem.W.Frag} {mg : Str → Option Value} {base : Heap} {f g : Addr} {fd gd : FuncData}
theorem ok_parts1 {k : Nat} (F : Fun K "_law_partitions" "_law_partitions" sParts f fd) (T : Mg mg) (m1 : mg "_law_partitions" = some (.ref f)) (b1 : Binds K fd ["n", "most"] []) (G : FnOk P w K mg base CX0 k f fd ["n", "most"] (spD K 2 (phParts k))) : FnOk P w K mg base CX0 (k + 1) f fd ["n", "most"] (spD K 2 (phParts (k + 1))) := by
  refine fd_of F scParts (by decide) (fun cdv A outer s H E hr ds d h hl => ?_)
  obtain ⟨n, most, rfl, hk, hn, hm, rfl⟩ := h
  refine ss_ifR (et_cmp (op_eqD hr.units) (ee_var (n := 0) rfl rfl) ee_int (rd_eqD (shaped_int _) (shaped_int _))) (fun h0 => ?_) (fun h0 => ?_)
  · have h0 : ((n : Int) == 0) = true := h0
    have h0 : n = 0 := by have := eq_of_beq h0; omega
    subst h0
    exact ss_ret (ee_lst (ea_cons (ee_tup ea_nil) ea_nil)) rfl
  · have h0 : ((n : Int) == 0) = false := h0
    have h0 : ¬ n = 0 := fun e => by rw [e] at h0; cases h0
    have eP : partsF (k + 1) n most = (List.range (min n most)).flatMap fun i => (partsF k (n - headAt n most i) (headAt n most i)).map fun r => (headAt n most i : Int) :: r := by
      show (if n = 0 then _ else _) = _
      rw [if_neg h0]
    rw [eP]
    have emin : (if (most : Int) < (n : Int) then (most : Int) else (n : Int)) = ((min n most : Nat) : Int) := by
      split <;> omega
    refine ss_own (n := 2) scParts.nd rfl (by decide) ea_nil ?_
    refine ss_for (fun i ρ => ∃ c e, ρ = [.val (.int (n : Nat)), .val (.int (most : Nat)), .own (((List.range i).flatMap fun i => (partsF k (n - headAt n most i) (headAt n most i)).map fun r => (headAt n most i : Int) :: r).map dT), c, e] ∧ ((List.range i).flatMap fun i => (partsF k (n - headAt n most i) (headAt n most i)).map fun r => (headAt n most i : Int) :: r).length ≤ 4096 * i)
      (ei_down T.range (ea_cons (ee_min2 T.min (ee_var (n := 0) rfl rfl) (ee_var (n := 1) rfl rfl)) (ea_cons ee_int (ea_cons (ee_un un_neg ee_int (d := .int (-1)) (fun x Hk Hr kr hx Q q => by cases hx; exact ⟨1, rfl, q _ Hr (Same.refl _) (.int _)⟩)) ea_nil))) (by rw [emin]; omega))
      (pg_name (i := 3) scParts.nd rfl (.inl rfl)) ⟨_, _, rfl, by simp⟩ (fun i d ρi hd h => ?_) (fun ρ' h => ?_)
    · obtain ⟨c, e, rfl, hlen⟩ := h
      obtain ⟨hi, rfl⟩ := dwnD_get hd
      rw [emin] at hi ⊢
      have hi' : i < min n most := by omega
      have eh : ((min n most : Nat) : Int) + (i : Nat) * (-1) = ((headAt n most i : Nat) : Int) := by unfold headAt; omega
      rw [eh]
      have hh : 1 ≤ headAt n most i ∧ headAt n most i ≤ n ∧ headAt n most i ≤ 12 := by unfold headAt; omega
      have sub : (n : Int) - ((headAt n most i : Nat) : Int) = ((n - headAt n most i : Nat) : Int) := by omega
      have l1 : (partsF k (n - headAt n most i) (headAt n most i)).length ≤ 4096 := Nat.le_trans (partsF_len _ _ _ (by omega)) (Nat.pow_le_pow_right (by decide) (by omega : n - headAt n most i ≤ 12))
      refine ⟨_, eg_name (by decide), ?_⟩
      refine ss_for (fun j ρ => ∃ e, ρ = [.val (.int (n : Nat)), .val (.int (most : Nat)), .own ((((List.range i).flatMap fun i => (partsF k (n - headAt n most i) (headAt n most i)).map fun r => (headAt n most i : Int) :: r) ++ ((partsF k (n - headAt n most i) (headAt n most i)).take j).map fun r => (headAt n most i : Int) :: r).map dT), .val (.int ((headAt n most i : Nat) : Int)), e])
        (ei_list (ee_call G hr m1 F.kp b1 (ea_cons (ee_op op_sub (ee_var (n := 0) rfl rfl) (ee_var (n := 3) rfl rfl) rd_int0) (ea_cons (ee_var (n := 3) rfl rfl) ea_nil)) ⟨n - headAt n most i, headAt n most i, by rw [sub], by omega, by omega, by omega, rfl⟩))
        (pg_name (i := 4) scParts.nd rfl (.inl rfl)) ⟨e, by simp⟩ (fun j d ρj hd h => ?_) (fun ρ' h => ?_)
      · obtain ⟨e, rfl⟩ := h
        rw [List.getElem?_map] at hd
        cases q : (partsF k (n - headAt n most i) (headAt n most i))[j]? with
        | none => rw [q] at hd; cases hd
        | some r =>
          rw [q] at hd
          have hd := (Option.some.inj hd).symm
          subst hd
          have hj := (List.getElem?_eq_some_iff.mp q).1
          have lr : r.length ≤ 1000 := by
            have := parts_item k (n - headAt n most i) (headAt n most i) r (List.mem_of_getElem? q)
            omega
          refine ⟨_, eg_name (by decide), ?_⟩
          refine ss_append (n := 2) rfl rfl (d := dT ((headAt n most i : Int) :: r)) (ee_op op_catA (ee_tup (ea_cons (ee_var (n := 3) rfl rfl) ea_nil)) (ee_var (n := 4) rfl rfl) (rd_cat (by simp; omega))) ?_ ⟨_, rfl⟩ ?_ (pe_bm PySem.F.plainAttrs_list PySem.F.slot_list_append PySem.F.type_list_append mt_append (pv 2) (pa_cons pe_s pa_nil))
          · refine ss_nil ⟨.val (dT r), ?_⟩
            rw [take_succ_at q, List.map_append, List.map_append, List.map_append, List.map_append, ← List.append_assoc]
            rfl
          · rw [List.length_map, List.length_append, List.length_map, List.length_take]
            omega
      · obtain ⟨e, rfl⟩ := h
        rw [List.length_map, List.take_length]
        refine ss_nil ⟨.val (.int ((headAt n most i : Nat) : Int)), e, ?_, ?_⟩
        · rw [List.range_succ, List.flatMap_append]
          simp
        · rw [List.range_succ, List.flatMap_append, List.length_append]
          simp
          simp at hlen
          omega
    · obtain ⟨c, e, rfl, hlen⟩ := h
      rw [emin, dwnD_len]
      have : (((min n most : Nat) : Int) - 0).toNat = min n most := by omega
      rw [this]
      exact ss_freeze (n := 2) rfl (ss_ret (ee_var (n := 2) rfl rfl) rfl)
end

theorem parts_none {P : Program} {w : World} {K : PySem.W.Frag} {mg : Str → Option Value} {base : Heap} {f : Addr} {fd : FuncData} : FnOk P w K mg base CX0 0 f fd ["n", "most"] (spD K 2 (phParts 0)) := by
  have no : ∀ vs H Q E, ¬ spD K 2 (phParts 0) vs H Q E := fun vs H Q E h => by
    obtain ⟨B, ds, d, ⟨n, most, _, h, _⟩, _⟩ := h
    omega
  exact ⟨fun vs H Q E h => absurd h (no vs H Q E), fun A outer s H args us vs Q E _ _ _ _ h => absurd h (no vs H Q E)⟩
section
variable {P : Program} {w : World} {K : PySem.W.Frag} {mg : Str → Option Value} {base : Heap} {f g h1 : Addr} {fd gd hd1 : FuncData}
theorem ok_parts (F : Fun K "_law_partitions" "_law_partitions" sParts f fd) (T : Mg mg) (m1 : mg "_law_partitions" = some (.ref f)) (b1 : Binds K fd ["n", "most"] []) : ∀ k : Nat, FnOk P w K mg base CX0 k f fd ["n", "most"] (spD K 2 (phParts k))
  | 0 => parts_none
  | k + 1 => ok_parts1 F T m1 b1 (ok_parts F T m1 b1 k)
/-- the partitions of n as the law lists them -/
def parts (n : Nat) : List (List Int) := partsF 13 n n
theorem at_lt {ds : List PyData} {j : Int} (h : 0 ≤ j ∧ j < (ds.length : Nat)) : ∃ d, ds[j.toNat]? = some d ∧ atI ds j = some d := by
  obtain ⟨k, rfl⟩ := Int.eq_ofNat_of_zero_le h.1
  have hl : k < ds.length := by omega
  exact ⟨ds[k], List.getElem?_eq_getElem hl, atI_nat (List.getElem?_eq_getElem hl)⟩
def phDrawn : List PyData → List PyData → PyData → List PyData → Prop := fun cs ds d cs' => ∃ (s t : Int) (n : Nat), cs = [.int s, .int t] ∧ ds = [.int (n : Nat)] ∧ n ≤ 12 ∧ 0 < (parts n).length ∧ d = dT ((parts n).getD (take s t (parts n).length).1.toNat []) ∧ cs' = [.int (take s t (parts n).length).2.1, .int (take s t (parts n).length).2.2]
theorem ok_drawn (F : Fun K "_law_drawn_partition" "_law_drawn_partition" sDrawn f fd) (T : Mg mg) (FT : FnOk P w K mg base CX0 1 g gd ["state", "m"] (spB K 1 phTake)) (mT : mg "_law_take" = some (.ref g)) (kT : PySem.W.keepIn K (.ref g) = true) (bT : Binds K gd ["state", "m"] [])
    (FP : FnOk P w K mg base CX0 13 h1 hd1 ["n", "most"] (spD K 2 (phParts 13))) (mP : mg "_law_partitions" = some (.ref h1)) (kP : PySem.W.keepIn K (.ref h1) = true) (bP : Binds K hd1 ["n", "most"] []) : FnOk P w K mg base CX0 14 f fd ["state", "n"] (spB K 1 phDrawn) := by
  refine fdB_of F scDrawn rfl (by decide) (fun cdv A outer s0 H E hr cs ds d cs' h hl => ?_)
  obtain ⟨s, t, n, rfl, rfl, hn, hpos, rfl, rfl⟩ := h
  have hle : (parts n).length ≤ 8192 := Nat.le_trans (partsF_len _ _ _ (by omega)) (Nat.pow_le_pow_right (by decide) (by omega : n ≤ 13))
  refine ss_set (n := 2) scDrawn.nd rfl (by decide) (d := .list ((parts n).map dT)) (ee_call FP hr mP kP bP (ea_cons (ee_var (n := 1) rfl rfl) (ea_cons (ee_var (n := 1) rfl rfl) ea_nil)) ⟨n, n, rfl, by omega, hn, hn, rfl⟩) ?_
  have hm : 0 < (((parts n).map dT).length : Int) ∧ (((parts n).map dT).length : Int) < 1000000 := by
    rw [List.length_map]
    omega
  have hb := take_lt s t _ hm.1
  obtain ⟨d, g1, g2⟩ := at_lt hb
  have ed : d = dT ((parts n).getD (take s t (parts n).length).1.toNat []) := by
    rw [List.length_map] at g1
    rw [List.getElem?_map] at g1
    rw [List.getD_eq_getElem?_getD]
    cases q : (parts n)[(take s t (parts n).length).1.toNat]? with
    | none => rw [q] at g1; cases g1
    | some r => rw [q] at g1; exact (Option.some.inj g1).symm
  rw [ed] at g2
  refine ss_ret (ee_ix ix_list (ee_var (n := 2) rfl rfl) (ee_callS (i := 0) FT (hr.mono (by decide)) mT kT bT rfl rfl (ea_cons (ee_lenL T.len (ee_var (n := 2) rfl rfl)) ea_nil) rfl ⟨s, t, _, rfl, rfl, hm.1, hm.2, rfl, rfl⟩) (rd_ixL g2)) ⟨rfl, ?_⟩
  rw [List.length_map]
  rfl
end
end K03
namespace K03
open PySem L2 Pd PySem.Spec PyProof.Rows
theorem ei_cast {X : Cx} {tg iter : Expr} {ρ ρ1 : List Sl} {ds es : List PyData} (h : EI X tg iter ρ ds ρ1) (e : ds = es) : EI X tg iter ρ es ρ1 := e ▸ h
structure Mg2 (mg : Str → Option Value) : Prop extends Mg mg where
  tuple : mg "tuple" = none
  list : mg "list" = none
  all : mg "all" = none
  zip : mg "zip" = none
  sum : mg "sum" = none
  sorted : mg "sorted" = none
  isinstance : mg "isinstance" = none
  bool : mg "bool" = none
abbrev sIsInt : Stmt := top 4
abbrev sIsP : Stmt := top 7
abbrev sSize : Stmt := top 8
abbrev sPar : Stmt := top 9
abbrev sWith : Stmt := top 10
theorem scIsInt : FnScope ["value"] ["value"] (defScope sIsInt) := ⟨rfl, rfl, rfl, by decide +kernel, rfl, by decide +kernel, by decide +kernel⟩
theorem scIsP : FnScope ["value", "part", "above", "below"] ["value"] (defScope sIsP) := ⟨rfl, rfl, rfl, by decide +kernel, rfl, by decide +kernel, by decide +kernel⟩
theorem scSize : FnScope ["a"] ["a"] (defScope sSize) := ⟨rfl, rfl, rfl, by decide +kernel, rfl, by decide +kernel, by decide +kernel⟩
theorem scPar : FnScope ["n"] ["n"] (defScope sPar) := ⟨rfl, rfl, rfl, by decide +kernel, rfl, by decide +kernel, by decide +kernel⟩
theorem scWith : FnScope ["n", "most", "part", "rest"] ["n", "most"] (defScope sWith) := ⟨rfl, rfl, rfl, by decide +kernel, rfl, by decide +kernel, by decide +kernel⟩
/-! values of any of these kinds -/
def simple : PyData → Bool
  | .none | .bool _ | .int _ | .str _ | .tuple _ | .list _ => true
  | _ => false
def isI : PyData → Bool
  | .int _ => true
  | _ => false
def posI : PyData → Bool
  | .int i => decide (0 < i)
  | _ => false
def toI : PyData → Int
  | .int i => i
  | _ => 0
theorem ee_isA {X : Cx} {e t : Expr} {ρ ρ1 : List Sl} {d : PyData} {p0 pos : Pos} {T : String} {k : Bool} (hd : simple d = true) (ha : EE X e ρ d ρ1) (hk : kitB (tyN d) T = some k) (h : PE X (.Call (.Name "isinstance" p0) [e, t] [] pos) (tCB (rIsi X.K) (tCons (sE X e) (tCons (tC (.ty T)) tNil)))) : EE X (.Call (.Name "isinstance" p0) [e, t] [] pos) ρ (.bool k) ρ1 := by
  cases d with
  | none => exact ee_isS ha rfl hk h
  | bool b => exact ee_isS ha rfl hk h
  | int b => exact ee_isS ha rfl hk h
  | str b => exact ee_isS ha rfl hk h
  | tuple b => exact ee_isT ha hk h
  | list b => exact ee_isL ha hk h
  | dict b => cases hd
def isIB : PyData → Bool
  | .int _ | .bool _ => true
  | _ => false
def isBB : PyData → Bool
  | .bool _ => true
  | _ => false
def isTT : PyData → Bool
  | .tuple _ => true
  | _ => false
theorem kit_int (d : PyData) (h : simple d = true) : kitB (tyN d) "int" = some (isIB d) := match d, h with
  | .none, _ => (by decide +kernel : kitB "NoneType" "int" = some false)
  | .bool _, _ => (by decide +kernel : kitB "bool" "int" = some true)
  | .int _, _ => (by decide +kernel : kitB "int" "int" = some true)
  | .str _, _ => (by decide +kernel : kitB "str" "int" = some false)
  | .tuple _, _ => (by decide +kernel : kitB "tuple" "int" = some false)
  | .list _, _ => (by decide +kernel : kitB "list" "int" = some false)
theorem kit_bool (d : PyData) (h : simple d = true) : kitB (tyN d) "bool" = some (isBB d) := match d, h with
  | .none, _ => (by decide +kernel : kitB "NoneType" "bool" = some false)
  | .bool _, _ => (by decide +kernel : kitB "bool" "bool" = some true)
  | .int _, _ => (by decide +kernel : kitB "int" "bool" = some false)
  | .str _, _ => (by decide +kernel : kitB "str" "bool" = some false)
  | .tuple _, _ => (by decide +kernel : kitB "tuple" "bool" = some false)
  | .list _, _ => (by decide +kernel : kitB "list" "bool" = some false)
theorem kit_tuple (d : PyData) (h : simple d = true) : kitB (tyN d) "tuple" = some (isTT d) := match d, h with
  | .none, _ => (by decide +kernel : kitB "NoneType" "tuple" = some false)
  | .bool _, _ => (by decide +kernel : kitB "bool" "tuple" = some false)
  | .int _, _ => (by decide +kernel : kitB "int" "tuple" = some false)
  | .str _, _ => (by decide +kernel : kitB "str" "tuple" = some false)
  | .tuple _, _ => (by decide +kernel : kitB "tuple" "tuple" = some true)
  | .list _, _ => (by decide +kernel : kitB "list" "tuple" = some false)
def phInt : List PyData → PyData → Prop := fun ds d => ∃ v, ds = [v] ∧ simple v = true ∧ d = .bool (isI v)
section
variable {P : Program} {w : World} {K : PySem.W.Frag} {mg : Str → Option Value} {base : Heap} {f : Addr} {fd : FuncData}
theorem ok_isInt (F : Fun K "is_integer" "is_integer" sIsInt f fd) (T : Mg2 mg) : FnOk P w K mg base CX0 1 f fd ["value"] (spD K 1 phInt) := by
  refine fd_of F scIsInt (by decide) (fun cdv A outer s H E hr ds d h hl => ?_)
  obtain ⟨v, rfl, hv, rfl⟩ := h
  refine ss_ret (ee_and (ee_isA (T := "int") hv (ee_var (n := 0) rfl rfl) (kit_int v hv) (pe_callB call_isi rfl T.isinstance (by decide +kernel) (pa_cons pe_s (pa_cons (pe_bltn rfl T.int (by decide +kernel) rfl) pa_nil))))
    (fun _ => ee_one (ee_not (ee_isA (T := "bool") hv (ee_var (n := 0) rfl rfl) (kit_bool v hv) (pe_callB call_isi rfl T.isinstance (by decide +kernel) (pa_cons pe_s (pa_cons (pe_bltn rfl T.bool (by decide +kernel) rfl) pa_nil))))))) ?_
  show PyData.bool _ = PyData.bool _
  cases v <;> rfl
/-! is_partition -/
end
def dsc (ns : List Int) : Bool := ((List.range (min ns.length (ns.length - 1))).map fun j => decide ((ns.drop 1).getD j 0 ≤ ns.getD j 0)).all id
def isPF : PyData → Bool
  | .tuple es => es.all posI && dsc (es.map toI)
  | _ => false
def okv (v : PyData) : Bool := simple v && match v with
  | .tuple es => es.all simple && decide (es.length ≤ 1000)
  | _ => true
def phIsP : List PyData → PyData → Prop := fun ds d => ∃ v, ds = [v] ∧ okv v = true ∧ d = .bool (isPF v)
theorem all_pos : ∀ {es : List PyData}, es.all posI = true → es = (es.map toI).map .int
  | [], _ => rfl
  | e :: es, h => by
    rw [List.all_cons, Bool.and_eq_true] at h
    rw [List.map_cons, List.map_cons, ← all_pos h.2]
    congr 1
    cases e <;> first | rfl | cases h.1
theorem cut1 (ns : List Int) : Pd.cutD (ns.map PyData.int) (some 1) none = (ns.drop 1).map .int := by
  unfold Pd.cutD
  have e : HT.sIx (ns.map PyData.int).length 0 (some 1) = min 1 (ns.map PyData.int).length := HT.sIx_nat _ _ 1
  have e2 : HT.sIx (ns.map PyData.int).length (ns.map PyData.int).length none = (ns.map PyData.int).length := rfl
  rw [e, e2, List.length_map]
  cases ns with
  | nil => rfl
  | cons x r =>
    have : min 1 (x :: r).length = 1 := by simp
    rw [this]
    simp
    exact List.take_of_length_le (by simp)
section
variable {P : Program} {w : World} {K : PySem.W.Frag} {mg : Str → Option Value} {base : Heap} {f : Addr} {fd : FuncData}
theorem ok_isP (F : Fun K "is_partition" "is_partition" sIsP f fd) (T : Mg2 mg) (cI : Cal P w K mg base 1 "is_integer" ["value"] (spD K 1 phInt)) : FnOk P w K mg base CX0 2 f fd ["value"] (spD K 1 phIsP) := by
  refine fd_of F scIsP (by decide) (fun cdv A outer s H E hr ds d h hl => ?_)
  obtain ⟨v, rfl, hv, rfl⟩ := h
  unfold okv at hv
  rw [Bool.and_eq_true] at hv
  obtain ⟨hv, hv2⟩ := hv
  refine ss_ifR (et_not (et_val (ee_isA (T := "tuple") hv (ee_var (n := 0) rfl rfl) (kit_tuple v hv) (pe_callB call_isi rfl T.isinstance (by decide +kernel) (pa_cons pe_s (pa_cons (pe_bltn rfl T.tuple (by decide +kernel) rfl) pa_nil)))))) (fun hk => ?_) (fun hk => ?_)
  · refine ss_ret ee_bl ?_
    show PyData.bool _ = PyData.bool _
    cases v <;> first | rfl | cases hk
  cases v with
  | tuple es =>
    have hv3 := Bool.and_eq_true_iff.mp hv2
    have hlen : es.length ≤ 1000 := of_decide_eq_true hv3.2
    have hs := List.all_eq_true.mp hv3.1
    refine ss_ifR (et_not (et_val (ee_all (bs := es.map posI) T.all (ee_cast (ee_lcM (own := [("part", 1)]) (l := es) (f := id) (g := fun v => .bool (posI v)) (gt := gName 1)
      (ei_tup (ee_cast (ee_var (n := 0) rfl rfl) (by simp))) gw_name (no1 rfl) (by omega)
      (fun p hp => ⟨_, eg_name (by decide), rfl, fun s H C cl fp => ?_⟩) scIsP.nd
      (blkOk_by (N := ["value", "part", "above", "below"]) (sc := defScope sIsP) (by decide +kernel)) (fun _ _ _ _ _ => pg_name (i := 1) scIsP.nd rfl (.inl rfl))) (by rw [List.map_map]; rfl))))) (fun hk => ?_) (fun hk => ?_)
    · refine ee_cast (ee_and (m := isI p) (k := posI p) (ee_callC cI hr (ea_cons (ee_var (n := 1) rfl rfl) ea_nil) ⟨p, rfl, hs p hp, rfl⟩) (fun hm => ee_one ?_)) (by cases p <;> rfl)
      cases p with
      | int i => exact ee_cmp op_gt (ee_var (n := 1) rfl rfl) ee_int rd_cmp
      | _ => cases hm
    · refine ss_ret ee_bl ?_
      have e0 : es.all posI = false := by
        rw [List.all_map] at hk
        simpa using hk
      show PyData.bool _ = PyData.bool (es.all posI && _)
      rw [e0]
      rfl
    · have e0 : es.all posI = true := by
        rw [List.all_map] at hk
        simpa using hk
      have e1 := all_pos e0
      show SS _ _ _ _ _ (RDt _ fun d' _ => d' = PyData.bool (es.all posI && dsc (es.map toI)))
      rw [e0, Bool.true_and]
      have hn : (es.map toI).length ≤ 1000 := by rw [List.length_map]; exact hlen
      revert e1 hn
      generalize es.map toI = ns
      intro e1 hn
      subst e1
      refine ss_ret (ee_all (bs := (List.range (min ns.length (ns.length - 1))).map fun j => decide ((ns.drop 1).getD j 0 ≤ ns.getD j 0)) (ρ1 := rho [PyData.tuple (List.map PyData.int ns)] 3) T.all ?_) rfl
      have e : ((List.range (min ns.length (ns.length - 1))).map fun j => decide ((ns.drop 1).getD j 0 ≤ ns.getD j 0)).map PyData.bool = (List.range (zipD (ns.map .int) ((ns.drop 1).map .int)).length).map fun j => .bool (decide ((ns.drop 1).getD j 0 ≤ ns.getD j 0)) := by
        rw [zipD_len, List.length_map, List.length_map, List.length_drop, List.map_map]
        rfl
      rw [e]
      refine ee_lc (own := [("above", 2), ("below", 3)]) (g := gTup K 2 (gCons (gName 2) (gCons (gName 3) gNil))) (ei_zipT T.zip (ea_cons (ee_var (n := 0) rfl rfl) (ea_cons (ee_cast (ee_sliceT (ee_var (n := 0) rfl rfl) (eo_some ee_int) eo_none) (by rw [cut1])) ea_nil))) (gw_pair (by decide)) (no2 rfl rfl) _ (by rw [zipD_len, List.length_map]; omega) (fun j d hd => ?_) scIsP.nd
        (blkOk_by (N := ["value", "part", "above", "below"]) (sc := defScope sIsP) (by decide +kernel)) (fun _ _ _ _ _ => pg_tup rfl (pgs_cons (pg_name (i := 2) scIsP.nd rfl (.inl rfl)) (pgs_cons (pg_name (i := 3) scIsP.nd rfl (.inl rfl)) pgs_nil)))
      obtain ⟨x, y, h1, h2, rfl⟩ := zipD_get hd
      obtain ⟨x, g1, rfl⟩ := int_at h1
      obtain ⟨y, g2, rfl⟩ := int_at h2
      refine ⟨_, eg_pair (by decide) (by decide), rfl, fun s H C cl fp => ?_⟩
      have e1 : ns.getD j 0 = x := by rw [List.getD_eq_getElem?_getD, g1]; rfl
      have e2 : (ns.drop 1).getD j 0 = y := by rw [List.getD_eq_getElem?_getD, g2]; rfl
      rw [e1, e2]
      exact ee_cmp op_ge (ee_var (n := 2) rfl rfl) (ee_var (n := 3) rfl rfl) rd_cmp
  | _ => cases hk
theorem ok_size (F : Fun K "size" "size" sSize f fd) (T : Mg2 mg) : FnOk P w K mg base CX0 1 f fd ["a"] (spD K 1 fun ds d => ∃ ns : List Int, ds = [dT ns] ∧ d = .int ns.sum) := by
  refine fd_of F scSize (by decide) (fun cdv A outer s H E hr ds d h hl => ?_)
  obtain ⟨ns, rfl, rfl⟩ := h
  exact ss_ret (ee_sumT T.sum (ee_var (n := 0) rfl rfl)) rfl
/-! the program's list of partitions -/
theorem with_none : FnOk P w K mg base CX0 0 f fd ["n", "most"] (spD K 2 (phParts 0)) := parts_none
theorem ok_with1 {k : Nat} (F : Fun K "partitions_within" "partitions_within" sWith f fd) (T : Mg mg) (m1 : mg "partitions_within" = some (.ref f)) (b1 : Binds K fd ["n", "most"] []) (G : FnOk P w K mg base CX0 k f fd ["n", "most"] (spD K 2 (phParts k))) : FnOk P w K mg base CX0 (k + 1) f fd ["n", "most"] (spD K 2 (phParts (k + 1))) := by
  refine fd_of F scWith (by decide) (fun cdv A outer s H E hr ds d h hl => ?_)
  obtain ⟨n, most, rfl, hk, hn, hm, rfl⟩ := h
  refine ss_ifR (et_cmp (op_eqD hr.units) (ee_var (n := 0) rfl rfl) ee_int (rd_eqD (shaped_int _) (shaped_int _))) (fun h0 => ?_) (fun h0 => ?_)
  · have h0 : ((n : Int) == 0) = true := h0
    have h0 : n = 0 := by have := eq_of_beq h0; omega
    subst h0
    exact ss_ret (ee_lst (ea_cons (ee_tup ea_nil) ea_nil)) rfl
  · have h0 : ((n : Int) == 0) = false := h0
    have h0 : ¬ n = 0 := fun e => by rw [e] at h0; cases h0
    have eP : partsF (k + 1) n most = (List.range (min n most)).flatMap fun i => (partsF k (n - headAt n most i) (headAt n most i)).map fun r => (headAt n most i : Int) :: r := by
      show (if n = 0 then _ else _) = _
      rw [if_neg h0]
    have emin : (if (most : Int) < (n : Int) then (most : Int) else (n : Int)) = ((min n most : Nat) : Int) := by
      split <;> omega
    have hlen := partsF_len (k + 1) n most (by omega)
    have h2 : (2 : Nat) ^ n ≤ 2 ^ 12 := Nat.pow_le_pow_right (by decide) hn
    refine ss_ret (ρ1 := rho [.int (n : Nat), .int (most : Nat)] 2) (d := .list ((partsF (k + 1) n most).map dT)) ?_ rfl
    have eD : (partsF (k + 1) n most).map dT = (List.range (min n most)).flatMap fun i => (partsF k (n - headAt n most i) (headAt n most i)).map fun r => dT ((headAt n most i : Int) :: r) := by
      rw [eP, List.map_flatMap]
      simp [Function.comp_def]
    rw [eD]
    refine (el_lc2 (own := [("part", 2), ("rest", 3)]) (vs1 := [3]) (l := List.range (min n most)) (f := fun i => .int (((min n most : Nat) : Int) + (i : Nat) * (-1))) (l1 := fun i => partsF k (n - headAt n most i) (headAt n most i)) (f1 := fun _ r => dT r) (gg := fun i r => dT ((headAt n most i : Int) :: r)) (g := gName 2) (g1 := gName 3)
      ?_ (gw_in (by decide)) (gw_in (by decide)) (no2 rfl rfl) ?_ (fun i hi => ?_) scWith.nd (blkOk_by (N := ["n", "most", "part", "rest"]) (sc := defScope sWith) (by decide +kernel)) (by decide) (fun _ _ _ _ _ => pg_name (i := 2) scWith.nd rfl (.inl rfl)) (fun _ _ _ _ _ => pg_name (i := 3) scWith.nd rfl (.inl rfl))).ee
    · refine ei_cast (ei_down T.range (ea_cons (ee_min2 T.min (ee_var (n := 0) rfl rfl) (ee_var (n := 1) rfl rfl)) (ea_cons ee_int (ea_cons (ee_un un_neg ee_int (d := .int (-1)) (fun x Hk Hr kr hx Q q => by cases hx; exact ⟨1, rfl, q _ Hr (Same.refl _) (.int _)⟩)) ea_nil))) (by rw [emin]; omega)) ?_
      rw [emin]
      unfold dwnD
      congr 2
    · rw [← eD, List.length_map]
      omega
    · have hi := List.mem_range.mp hi
      have eh : ((min n most : Nat) : Int) + (i : Nat) * (-1) = ((headAt n most i : Nat) : Int) := by unfold headAt; omega
      have hh : 1 ≤ headAt n most i ∧ headAt n most i ≤ n ∧ headAt n most i ≤ 12 := by unfold headAt; omega
      have sub : (n : Int) - ((headAt n most i : Nat) : Int) = ((n - headAt n most i : Nat) : Int) := by omega
      rw [eh]
      refine ⟨_, eg_name (by decide), rfl, fun j hj => ?_, fun s H C cl fp => ?_, fun r hr2 => ⟨_, eg_name (by decide), rfl, fun s H C cl fp => ?_⟩⟩
      · rw [List.mem_singleton.mp hj]
        rfl
      · exact ei_list (ee_call G hr m1 F.kp b1 (ea_cons (ee_op op_sub (ee_var (n := 0) rfl rfl) (ee_var (n := 2) rfl rfl) rd_int0) (ea_cons (ee_var (n := 2) rfl rfl) ea_nil)) ⟨n - headAt n most i, headAt n most i, by rw [sub], by omega, by omega, by omega, rfl⟩)
      · have := parts_item k (n - headAt n most i) (headAt n most i) r hr2
        exact ee_op op_catA (ee_tup (ea_cons (ee_var (n := 2) rfl rfl) ea_nil)) (ee_var (n := 3) rfl rfl) (rd_cat (by simp; omega))
theorem ok_with (F : Fun K "partitions_within" "partitions_within" sWith f fd) (T : Mg mg) (m1 : mg "partitions_within" = some (.ref f)) (b1 : Binds K fd ["n", "most"] []) : ∀ k : Nat, FnOk P w K mg base CX0 k f fd ["n", "most"] (spD K 2 (phParts k))
  | 0 => with_none
  | k + 1 => ok_with1 F T m1 b1 (ok_with F T m1 b1 k)
end
end K03
namespace K03
open PySem L2 Pd PySem.Spec PyProof.Rows
def inCls : Stmt → Stmt
  | .ClassDef _ _ _ body _ _ _ _ _ _ _ => body.getD 0 (.Pass ⟨0, 0, 0, 0⟩)
  | s => s
abbrev sInit : Stmt := inCls (top 2)
abbrev sRef : Stmt := top 17
theorem scInit : FnScope [Str.ofString "self", Str.ofString "reason"] [Str.ofString "self", Str.ofString "reason"] (defScope sInit) := ⟨rfl, rfl, rfl, by decide +kernel, rfl, by decide +kernel, by decide +kernel⟩
theorem scRef : FnScope ["n", "e"] ["n"] (defScope sRef) := ⟨rfl, rfl, rfl, by decide +kernel, rfl, by decide +kernel, by decide +kernel⟩
def badv (v : PyData) : Bool := simple v && match v with
  | .int i => decide (i < 0) || decide (12 < i)
  | _ => true
def phPar : List PyData → PyData → Prop := fun ds d => ∃ n : Nat, ds = [.int (n : Nat)] ∧ n ≤ 12 ∧ d = .tuple ((parts n).map dT)
def phBad : List PyData → PyData → Prop := fun ds d => ∃ v, ds = [v] ∧ badv v = true ∧ d = .str "large"
def phRef : List PyData → PyData → Prop := fun ds d => ∃ v, ds = [v] ∧ badv v = true ∧ d = .bool true
section
variable {P : Program} {w : World} {K : PySem.W.Frag} {mg : Str → Option Value} {base : Heap} {f fI C : Addr} {fd fdI : FuncData}
theorem ok_init (F : Fun K "__init__" "Refused.__init__" sInit fI fdI) (T : XCls K mg "Refused" "reason" C fI) : FnOk P w K mg base CX0 1 fI fdI [Str.ofString "self", Str.ofString "reason"] (spI K C "reason") :=
  init_ok F scInit T.T T.noN fun X hN hsc => pss_one (ps_ost (pe_var (by rw [hN]; rfl) (by rw [hsc]; exact .inl rfl)) (pe_var (by rw [hN]; rfl) (by rw [hsc]; exact .inl rfl)))
theorem ok_par (F : Fun K "partitions" "partitions" sPar f fd) (T : Mg2 mg) {tk : Tok} (mM : mg "_MOST" = some (.int 12 tk)) (cI : Cal P w K mg base 1 "is_integer" ["value"] (spD K 1 phInt)) (cW : Cal P w K mg base 13 "partitions_within" ["n", "most"] (spD K 2 (phParts 13)))
    (TX : XCls K mg "Refused" "reason" C fI) (FI : FnOk P w K mg base CX0 1 fI fdI [Str.ofString "self", Str.ofString "reason"] (spI K C "reason")) (bI : Binds K fdI [Str.ofString "self", Str.ofString "reason"] []) :
    FnOk P w K mg base (L2.CX P w) 14 f fd ["n"] (spX K 1 C "reason" phPar phBad) := by
  refine fdX_of F scPar (by decide) (fun cdv A outer s H E hr => ⟨fun ds d h hl => ?_, fun ds d h hl hE => ?_⟩)
  · obtain ⟨n, rfl, hn, rfl⟩ := h
    refine ss_ifR (ew_pt (ew_or (et_not (et_val (ee_callC cI (hr.mono (by decide)) (ea_cons (ee_var (n := 0) rfl rfl) ea_nil) ⟨_, rfl, rfl, rfl⟩))) (fun _ => ew_or (et_cmp op_lt (ee_var (n := 0) rfl rfl) ee_int rd_cmp)
      (fun _ => ew_or1 (et_cmp op_gt (ee_var (n := 0) rfl rfl) (ee_glob rfl mM ⟨_, rfl⟩) rd_cmp))))) (fun hk => ?_) (fun _ => ?_)
    · exfalso
      have a1 : decide ((n : Int) < 0) = false := decide_eq_false (by omega)
      have a2 : decide ((12 : Int) < (n : Int)) = false := decide_eq_false (by omega)
      rw [a1, a2] at hk
      cases hk
    · exact ss_ret (ee_tupleOf (.inl rfl) T.tuple (ee_callC cW hr (ea_cons (ee_var (n := 0) rfl rfl) (ea_cons (ee_var (n := 0) rfl rfl) ea_nil)) ⟨n, n, rfl, by omega, hn, hn, rfl⟩)) rfl
  · obtain ⟨v, rfl, hv, rfl⟩ := h
    unfold badv at hv
    rw [Bool.and_eq_true] at hv
    cases v with
    | int i =>
      refine ss_ifR (ew_pt (ew_or (et_not (et_val (ee_callC cI (hr.mono (by decide)) (ea_cons (ee_var (n := 0) rfl rfl) ea_nil) ⟨_, rfl, rfl, rfl⟩))) (fun _ => ew_or (et_cmp op_lt (ee_var (n := 0) rfl rfl) ee_int rd_cmp)
        (fun _ => ew_or1 (et_cmp op_gt (ee_var (n := 0) rfl rfl) (ee_glob rfl mM ⟨_, rfl⟩) rd_cmp))))) (fun _ => ?_) (fun hk => ?_)
      · exact ss_raise TX FI (hr.mono (by decide)) bI (takes_of rfl rfl rfl rfl) ee_str rfl (fun σ v dd H' sm hx hv => hE v dd H' sm hx hv)
      · exfalso
        have h2 : (decide (i < 0) || decide ((12 : Int) < i)) = true := hv.2
        have hk2 : (decide (i < 0) || decide ((12 : Int) < i)) = false := hk
        rw [hk2] at h2
        cases h2
    | dict xs => cases hv.1
    | _ =>
      refine ss_ifR (ew_pt (ew_or (k := false) (et_not (et_val (ee_callC cI (hr.mono (by decide)) (ea_cons (ee_var (n := 0) rfl rfl) ea_nil) ⟨_, rfl, rfl, rfl⟩))) (fun hm => Bool.noConfusion (show true = false from hm)))) (fun _ => ?_) (fun hk => Bool.noConfusion (show true = false from hk))
      exact ss_raise TX FI (hr.mono (by decide)) bI (takes_of rfl rfl rfl rfl) ee_str rfl (fun σ v dd H' sm hx hv => hE v dd H' sm hx hv)
theorem ok_ref (F : Fun K "_law_refused" "_law_refused" sRef f fd) (TX : XCls K mg "Refused" "reason" C fI) (cP : CalX P w K mg base 14 "partitions" ["n"] (spX K 1 C "reason" phPar phBad)) :
    FnOk P w K mg base CX0 15 f fd ["n"] (spD K 1 phRef) := by
  refine fd_of F scRef (by decide) (fun cdv A outer s H E hr ds d h hl => ?_)
  obtain ⟨v, rfl, hv, rfl⟩ := h
  refine ss_tryEq (i := 1) TX cP hr rfl (fun pn xe => ea_cons (ee_var (n := 0) rfl rfl) ea_nil) ⟨v, rfl, hv, rfl⟩ rfl (by show 1 < 2; decide) (congrArg PyData.bool (decide_eq_true rfl)) scRef.nd rfl rfl rfl rfl ⟨rfl, by decide, .inl TX.gC⟩
    (fun W pn xe tk f fd F hm hk hb => pss_one (ps_expr (pe_callS F hr rfl hm hk hb (fun σ => passAt tk σ) pa_s)))
    (fun a oe cls dd pn hz hf => pss_one (ps_ret (pe_cmpR op_eq (pe_xf TX.xf TX.noN hz hf (pv 1)) pe_str rfl)))
end
end K03
namespace K03
open PySem L2 Pd PySem.Spec PyProof.Rows
abbrev sLaw : Stmt := top 18
theorem scLaw : FnScope ["script", "state", "n", "found", "a", "drawn", "due", "k", "value"] ["script"] (defScope sLaw) := ⟨rfl, rfl, rfl, by decide +kernel, rfl, by decide +kernel, by decide +kernel⟩
/-! what is seen by trying -/
def okS (n : Nat) : Bool := decide ((parts n).length ≤ 1 ∨ ∀ d ∈ parts n, d ≠ []) && decide ((parts n).Pairwise fun a b => PySem.W.dataLe true dTu a b = true) && decide (0 < (parts n).length) && decide ((parts n).length ≤ 1000)
def okF (n : Nat) : Bool := (parts n).all fun a => decide (a.sum = (n : Nat)) && (isPF (dT a) && okv (dT a))
theorem all_S : ∀ n, n < 10 → okS n = true := by decide +kernel
theorem all_F : ∀ n, n < 10 → okF n = true := by decide +kernel
theorem nat_of {x m : Int} (h : 0 ≤ x ∧ x < m) : ∃ n : Nat, x = (n : Int) ∧ (n : Int) < m := by
  obtain ⟨n, rfl⟩ := Int.eq_ofNat_of_zero_le h.1
  exact ⟨n, rfl, h.2⟩
/-! the drawn tuple -/
def dr (s t : Int) : Nat → Int × Int
  | 0 => (s, t)
  | j + 1 => (take (dr s t j).1 (dr s t j).2 6).2
def drX (s t : Int) (j : Nat) : Int := (take (dr s t j).1 (dr s t j).2 6).1 - 1
def dueF (xs : List Int) (j : Nat) : Bool := (List.range j).all fun k => decide (0 < xs.getD k 0) && (decide (k = 0) || decide (xs.getD k 0 ≤ xs.getD (k - 1) 0))
theorem due_is : ∀ xs : List Int, xs.length ≤ 4 → isPF (dT xs) = dueF xs xs.length
  | [], _ => rfl
  | [a], _ => by
    rw [Bool.eq_iff_iff]
    simp [isPF, dT, dsc, dueF, List.range_succ, posI, toI]
  | [a, b], _ => by
    rw [Bool.eq_iff_iff]
    simp [isPF, dT, dsc, dueF, List.range_succ, posI, toI]
    try omega
  | [a, b, c], _ => by
    rw [Bool.eq_iff_iff]
    simp [isPF, dT, dsc, dueF, List.range_succ, posI, toI]
    try omega
  | [a, b, c, d], _ => by
    rw [Bool.eq_iff_iff]
    simp [isPF, dT, dsc, dueF, List.range_succ, posI, toI]
    try omega
  | _ :: _ :: _ :: _ :: _ :: _, h => by simp at h
theorem okv_dT (xs : List Int) (h : xs.length ≤ 4) : okv (dT xs) = true := by
  show (true && ((xs.map PyData.int).all simple && decide ((xs.map PyData.int).length ≤ 1000))) = true
  rw [Bool.true_and, Bool.and_eq_true, List.length_map]
  refine ⟨List.all_eq_true.mpr fun d hd => ?_, decide_eq_true (by omega)⟩
  obtain ⟨x, _, rfl⟩ := List.mem_map.mp hd
  rfl
theorem eqv_tT (xs ys : List (List Int)) : PyData.eqv (.tuple (xs.map dT)) (.tuple (ys.map dT)) = decide (xs = ys) := by
  simp only [PyData.eqv, eqvAll_tups]
theorem eqv_lT (xs ys : List (List Int)) : PyData.eqv (.list (xs.map dT)) (.list (ys.map dT)) = decide (xs = ys) := by
  simp only [PyData.eqv, eqvAll_tups]
theorem eqv_bb (a b : Bool) : PyData.eqv (.bool a) (.bool b) = decide (a = b) := by cases a <;> cases b <;> rfl
def vals (h : List Int) : List PyData := [.list (h.map .int), .none, .int 3, .tuple [.bool true], .tuple [.str "1"], .tuple [.int 2, .int 3], .tuple [.int 1, .int 0], .tuple [.tuple [.int 1]], .str "1"]
theorem vals_ok (h : List Int) : ∀ v ∈ vals h, okv v = true ∧ isPF v = false := by
  intro v hv
  unfold vals at hv
  simp only [List.mem_cons, List.not_mem_nil, or_false] at hv
  rcases hv with rfl | rfl | rfl | rfl | rfl | rfl | rfl | rfl | rfl
  · exact ⟨rfl, rfl⟩
  all_goals exact ⟨by decide +kernel, by decide +kernel⟩
end K03
namespace K03
open PySem L2 Pd PySem.Spec PyProof.Rows
theorem seC {c : Const} {k : Nat} {p : Pos} {es : List Expr} {env : Env} : starEach (.Constant c k p :: es) env = (false, eval (.Constant c k p) env) :: starEach es env := rfl
theorem seT {xs : List Expr} {k : Nat} {p : Pos} {es : List Expr} {env : Env} : starEach (.Tuple xs k p :: es) env = (false, eval (.Tuple xs k p) env) :: starEach es env := rfl
theorem seA {f : Expr} {xs : List Expr} {ks : List Keyword} {p : Pos} {es : List Expr} {env : Env} : starEach (.Call f xs ks p :: es) env = (false, eval (.Call f xs ks p) env) :: starEach es env := rfl
theorem room100 {k : Nat} {A : Around} (hr : Room k A) : A.units + 100 < cLine := by
  have := hr.un
  omega
theorem at_x {xs : List Int} {j : Nat} (h : j < xs.length) : atI (xs.map PyData.int) (j : Nat) = some (.int (xs.getD j 0)) := by
  refine atI_nat ?_
  rw [List.getElem?_map, List.getD_eq_getElem?_getD, List.getElem?_eq_getElem h]
  rfl
section
variable {P : Program} {w : World} {K : PySem.W.Frag} {mg : Str → Option Value} {base : Heap} {f C : Addr} {fd : FuncData}
set_option maxHeartbeats 0 in
theorem ok_law (F : Fun K "law" "law" sLaw f fd) (T : Mg2 mg) (cS : Cal P w K mg base 1 "_law_state" ["script"] (spN K 1 phState)) (cT : Cal P w K mg base 1 "_law_take" ["state", "m"] (spB K 1 phTake)) (cL : Cal P w K mg base 13 "_law_partitions" ["n", "most"] (spD K 2 (phParts 13)))
    (cP : CalX P w K mg base 14 "partitions" ["n"] (spX K 1 C "reason" phPar phBad)) (cZ : Cal P w K mg base 1 "size" ["a"] (spD K 1 fun ds d => ∃ ns : List Int, ds = [dT ns] ∧ d = .int ns.sum)) (cI : Cal P w K mg base 2 "is_partition" ["value"] (spD K 1 phIsP)) (cR : Cal P w K mg base 15 "_law_refused" ["n"] (spD K 1 phRef)) :
    FnOk P w K mg base CX0 16 f fd ["script"] (spD K 1 phLaw) := by
  refine fd_of F scLaw (by decide) (fun cdv A outer s0 H E hr ds d h hl => ?_)
  obtain ⟨⟨ns, rfl, h63⟩, rfl⟩ := h
  have hr1 : Room 1 _ := hr.mono (by decide)
  have hr2 : Room 2 _ := hr.mono (by decide)
  refine ss_callNC (m := 1) cS hr1 (ea_cons (ee_var (n := 0) rfl rfl) ea_nil) ⟨ns, rfl, rfl⟩ rfl scLaw.nd rfl (by decide) ?_
  generalize (stateOf ns).1 = s
  generalize (stateOf ns).2 = t
  refine ss_set (n := 2) scLaw.nd rfl (by decide) (ee_callSC (i := 1) cT hr1 rfl rfl (ea_cons ee_int ea_nil) rfl ⟨s, t, 10, rfl, rfl, by decide, by decide, rfl, rfl⟩) ?_
  have b10 := take_lt s t 10 (by decide)
  revert b10
  generalize take s t 10 = q
  intro b10
  obtain ⟨v, s, t⟩ := q
  obtain ⟨n, en, hn⟩ := nat_of b10
  simp only at en
  subst en
  have hn : n < 10 := by omega
  have cn := all_S n hn
  have cf := all_F n hn
  unfold okS at cn
  simp only [Bool.and_eq_true, decide_eq_true_eq] at cn
  obtain ⟨⟨⟨n1, n2⟩, n3⟩, n4⟩ := cn
  have cf := List.all_eq_true.mp cf
  refine ss_set (n := 3) scLaw.nd rfl (by decide) (ee_callX cP (hr.mono (by decide)) (ea_cons (ee_var (n := 2) rfl rfl) ea_nil) ⟨n, rfl, by omega, rfl⟩) ?_
  refine ss_ifR (ew_pt (ew_or (et_ne hr (ee_var (n := 3) rfl rfl) (ee_tupleOf (.inl rfl) T.tuple (ee_callC cL (hr.mono (by decide)) (ea_cons (ee_var (n := 2) rfl rfl) (ea_cons (ee_var (n := 2) rfl rfl) ea_nil)) ⟨n, n, rfl, by omega, by omega, by omega, rfl⟩)) (shaped_tupT _) (shaped_tupT _))
    (fun _ => ew_or1 (et_ne hr (ee_listOf (.inr rfl) T.list (ee_var (n := 3) rfl rfl)) (ee_sortTR (ds := parts n) hr T.sorted (ee_var (n := 3) rfl rfl) (le_line (by omega)) n1 n2
      (pe_callBK (cr_sortTR (room100 hr)) rfl T.sorted (by decide +kernel) (pa_cons pe_s pa_nil) (pk_cons pe_bl pk_nil))) (shaped_lstT _) (shaped_lstT _))))) (fun hk => ?_) (fun _ => ?_)
  · exfalso
    have e1 : PyData.eqv (.tuple ((parts n).map dT)) (.tuple ((partsF 13 n n).map dT)) = true := by rw [eqv_tT]; exact decide_eq_true rfl
    have e2 : PyData.eqv (.list ((parts n).map dT)) (.list ((parts n).map dTu)) = true := by
      show PyData.eqv (.list ((parts n).map dT)) (.list ((parts n).map dT)) = true
      rw [eqv_lT]; exact decide_eq_true rfl
    rw [e1, e2] at hk
    cases hk
  refine ss_for (fun j ρ => ∃ c, ρ = [.val (.list (ns.map .int)), .own [.int s, .int t], .val (.int (n : Nat)), .val (.tuple ((parts n).map dT)), c, .no, .no, .no, .no])
    (ei_tup (ee_var (n := 3) rfl rfl)) (pg_name (i := 4) scLaw.nd rfl (.inl rfl)) ⟨.no, rfl⟩ (fun j d ρj hd h => ?_) (fun ρ' h => ?_)
  · obtain ⟨c, rfl⟩ := h
    rw [List.getElem?_map] at hd
    cases q : (parts n)[j]? with
    | none => rw [q] at hd; cases hd
    | some a =>
      rw [q] at hd
      have hd := (Option.some.inj hd).symm
      subst hd
      have ha := cf a (List.mem_of_getElem? q)
      simp only [Bool.and_eq_true, decide_eq_true_eq] at ha
      obtain ⟨a1, a2, a3⟩ := ha
      refine ⟨_, eg_name (by decide), ?_⟩
      refine ss_ifR (ew_pt (ew_or (et_ne hr (ee_callC cZ hr1 (ea_cons (ee_var (n := 4) rfl rfl) ea_nil) ⟨a, rfl, rfl⟩) (ee_var (n := 2) rfl rfl) (shaped_int _) (shaped_int _))
        (fun _ => ew_or1 (et_cmp op_notBl (ee_callC cI hr2 (ea_cons (ee_var (n := 4) rfl rfl) ea_nil) ⟨dT a, rfl, a3, rfl⟩) ee_bl rd_notB)))) (fun hk => ?_) (fun _ => ss_nil ⟨_, rfl⟩)
      exfalso
      rw [eqv_int, a1, a2] at hk
      simp at hk
  obtain ⟨c4, rfl⟩ := h
  have b5 := take_lt s t 5 (by decide)
  obtain ⟨m, em, hm⟩ := nat_of b5
  have hm : m < 5 := by omega
  obtain ⟨D, F, hD0, hDs, hF⟩ : ∃ (D : Nat → Int × Int) (F : Nat → Int), D 0 = (take s t 5).2 ∧ (∀ j, D (j + 1) = (take (D j).1 (D j).2 6).2) ∧ ∀ j, F j = (take (D j).1 (D j).2 6).1 - 1 := ⟨dr (take s t 5).2.1 (take s t 5).2.2, _, rfl, fun _ => rfl, fun _ => rfl⟩
  have eL : (rngD 0 (take s t 5).1.toNat).length = m := by rw [rngD_len, em]; rfl
  refine ss_set (n := 5) (d := dT ((List.range m).map (F))) scLaw.nd rfl (by decide) (ee_cast (ee_tupleOf (.inl rfl) T.tuple (ee_lcS (own := [("k", 7)]) (g := gName 7) (ds := rngD 0 (take s t 5).1.toNat)
    (fun j => [.val (.list (ns.map .int)), .own [.int (D j).1, .int (D j).2], .val (.int (n : Nat)), .val (.tuple ((parts n).map dT)), c4, .no, .no, .no, .no]) (fun j => .int (F j))
    (ei_range1 T.range (ea_cons (ee_callSC (i := 1) (d := .int (take s t 5).1) (cs2 := [.int (D 0).1, .int (D 0).2]) cT hr1 rfl rfl (ea_cons ee_int ea_nil) rfl ⟨s, t, 5, rfl, rfl, by decide, by decide, rfl, by rw [hD0]⟩) ea_nil) (by omega))
    gw_name (fun j i hi => by rw [List.mem_singleton.mp hi]; rfl) (by omega)
    (fun j d hd => ⟨[.val (.list (ns.map .int)), .own [.int (D j).1, .int (D j).2], .val (.int (n : Nat)), .val (.tuple ((parts n).map dT)), c4, .no, .no, .val d, .no], [.val (.list (ns.map .int)), .own [.int (D (j + 1)).1, .int (D (j + 1)).2], .val (.int (n : Nat)), .val (.tuple ((parts n).map dT)), c4, .no, .no, .val d, .no], eg_name (by decide), rfl, fun s H C cl fp => by
      rw [hF]
      exact ee_op op_sub (ee_callSC (i := 1) (d := .int (take (D j).1 (D j).2 6).1) (cs2 := [.int (D (j + 1)).1, .int (D (j + 1)).2]) cT hr1 rfl rfl (ea_cons ee_int ea_nil) rfl ⟨(D j).1, (D j).2, 6, rfl, rfl, by decide, by decide, rfl, by rw [hDs]⟩) ee_int rd_int0⟩) scLaw.nd
    (blkOk_by (N := ["script", "state", "n", "found", "a", "drawn", "due", "k", "value"]) (sc := defScope sLaw) (by decide +kernel)) (fun _ _ _ _ _ => pg_name (i := 7) scLaw.nd rfl (.inl rfl)))) (by rw [eL]; show PyData.tuple _ = PyData.tuple _; rw [List.map_map]; rfl)) ?_
  have lx : ((List.range m).map (F)).length ≤ 4 := by simp; omega
  revert lx
  generalize (List.range m).map (F) = xs
  intro lx
  rw [eL]
  refine ss_set (n := 6) scLaw.nd rfl (by decide) ee_bl ?_
  refine ss_for (fun j ρ => ∃ c, ρ = [.val (.list (ns.map .int)), .own [.int (D m).1, .int (D m).2], .val (.int (n : Nat)), .val (.tuple ((parts n).map dT)), c4, .val (dT xs), .val (.bool (dueF xs j)), c, .no])
    (ei_range1 T.range (ea_cons (ee_lenT T.len (ee_var (n := 5) rfl rfl)) ea_nil) (by rw [List.length_map]; omega)) (pg_name (i := 7) scLaw.nd rfl (.inl rfl)) ⟨.no, rfl⟩ (fun j d ρj hd h => ?_) (fun ρ' h => ?_)
  · obtain ⟨c, rfl⟩ := h
    obtain ⟨hj, rfl⟩ := rngD_get hd
    have hj : j < xs.length := by rw [List.length_map] at hj; omega
    rw [show (0 : Int) + (j : Nat) = (j : Nat) from Int.zero_add _]
    refine ⟨_, eg_name (by decide), ?_⟩
    refine ss_set (n := 6) (d := .bool (dueF xs (j + 1))) scLaw.nd rfl (by decide) (ee_cast (ee_and (m := dueF xs j) (k := decide (0 < xs.getD j 0) && (decide (j = 0) || decide (xs.getD j 0 ≤ xs.getD (j - 1) 0))) (ee_var (n := 6) rfl rfl)
      (fun _ => ee_and (m := decide (0 < xs.getD j 0)) (ee_cmp op_gt (ee_ix ix_tup (ee_var (n := 5) rfl rfl) (ee_var (n := 7) rfl rfl) (rd_ixT (at_x hj))) ee_int rd_cmp)
        (fun _ => ee_one (ee_or (m := decide (j = 0)) (ee_cast (ee_eq hr (ee_var (n := 7) rfl rfl) ee_int (shaped_int _) (shaped_int _)) (by rw [eqv_int]; congr 1; exact decide_eq_decide.mpr (by omega)))
          (fun h0 => ee_one (ee_cmp op_le (ee_ix ix_tup (ee_var (n := 5) rfl rfl) (ee_var (n := 7) rfl rfl) (rd_ixT (at_x hj))) (ee_ix ix_tup (ee_var (n := 5) rfl rfl) (ee_op op_sub (ee_var (n := 7) rfl rfl) ee_int rd_int0) (rd_ixT (by
            have h0 : ¬ j = 0 := of_decide_eq_false h0
            rw [show (j : Int) - 1 = ((j - 1 : Nat) : Int) by omega]
            exact at_x (by omega)))) rd_cmp)))))) (by
        congr 1
        unfold dueF
        rw [List.range_succ, List.all_append]
        simp)) (ss_nil ⟨_, rfl⟩)
  obtain ⟨c7, rfl⟩ := h
  rw [rngD_len, List.length_map]
  have eT : ((xs.length : Int) : Int).toNat = xs.length := rfl
  rw [eT, ← due_is xs lx]
  refine ss_ifR (ew_pt (ew_or (et_ne hr (ee_callC cI hr2 (ea_cons (ee_var (n := 5) rfl rfl) ea_nil) ⟨dT xs, rfl, okv_dT xs lx, rfl⟩) (ee_var (n := 6) rfl rfl) (shaped_bool _) (shaped_bool _))
    (fun _ => ew_or1 (ew_pt (ew_and (et_val (ee_var (n := 6) rfl rfl)) (fun _ => ew_and1 (et_ne hr (ee_callC cZ hr1 (ea_cons (ee_var (n := 5) rfl rfl) ea_nil) ⟨xs, rfl, rfl⟩) (ee_sumT T.sum (ee_var (n := 5) rfl rfl)) (shaped_int _) (shaped_int _)))))))) (fun hk => ?_) (fun _ => ?_)
  · exfalso
    rw [eqv_bb, eqv_int] at hk
    simp at hk
  obtain ⟨p0, pr, ep⟩ : ∃ p0 pr, parts n = p0 :: pr := by
    cases z : parts n with
    | nil => rw [z] at n3; cases n3
    | cons a b => exact ⟨a, b, rfl⟩
  have e0 : atI ((parts n).map dT) 0 = some (.tuple (p0.map .int)) := by rw [ep]; exact atI_nat (j := 0) rfl
  revert e0
  clear ep
  generalize isPF (dT xs) = dd
  generalize (parts n).map dT = pd
  intro e0
  refine ss_for (fun j ρ => ∃ c, ρ = [.val (.list (ns.map .int)), .own [.int (D m).1, .int (D m).2], .val (.int (n : Nat)), .val (.tuple pd), c4, .val (dT xs), .val (.bool dd), c7, c])
    (ds := vals p0) (ρ1 := [.val (.list (ns.map .int)), .own [.int (D m).1, .int (D m).2], .val (.int (n : Nat)), .val (.tuple pd), c4, .val (dT xs), .val (.bool dd), c7, .no]) (?ev) (pg_name (i := 8) scLaw.nd rfl (.inl rfl)) ⟨.no, rfl⟩ (fun j d ρj hd h => ?_) (fun ρ' h => ?_)
  case ev =>
    refine ei_list (ee_lst (ds := vals p0) ?_ (by show 9 ≤ 100000; decide))
    refine ea_cons (ee_listOf (ds := p0.map .int) (.inr rfl) T.list (ee_ix ix_tup (ee_var (n := 3) rfl rfl) ee_int (rd_ixT e0))) ?_ seA
    refine ea_cons ee_non ?_ seC
    refine ea_cons ee_int ?_ seC
    refine ea_cons (ee_tup (ds := [.bool true]) (ea_cons ee_bl ea_nil seC) (by decide)) ?_ seT
    refine ea_cons (ee_tup (ds := [.str "1"]) (ea_cons ee_str ea_nil seC) (by decide)) ?_ seT
    refine ea_cons (ee_tup (ds := [.int 2, .int 3]) (ea_cons ee_int (ea_cons ee_int ea_nil seC) seC) (by decide)) ?_ seT
    refine ea_cons (ee_tup (ds := [.int 1, .int 0]) (ea_cons ee_int (ea_cons ee_int ea_nil seC) seC) (by decide)) ?_ seT
    refine ea_cons (ee_tup (ds := [.tuple [.int 1]]) (ea_cons (ee_tup (ds := [.int 1]) (ea_cons ee_int ea_nil seC) (by decide)) ea_nil seT) (by decide)) ?_ seT
    exact ea_cons ee_str ea_nil seC
  · obtain ⟨c, rfl⟩ := h
    obtain ⟨v1, v2⟩ := vals_ok p0 d (List.mem_of_getElem? hd)
    refine ⟨_, eg_name (by decide), ?_⟩
    refine ss_ifR (et_cmp op_notBl (ee_callC cI hr2 (ea_cons (ee_var (n := 8) rfl rfl) ea_nil) ⟨d, rfl, v1, rfl⟩) ee_bl rd_notB) (fun hk => ?_) (fun _ => ss_nil ⟨_, rfl⟩)
    exfalso
    rw [v2] at hk
    simp at hk
  obtain ⟨c8, rfl⟩ := h
  refine ss_ret (ee_and (m := true) (ee_callC cR hr (ea_cons ee_int ea_nil) ⟨_, rfl, rfl, rfl⟩) (fun _ => ee_and (m := true) (ee_callC cR hr (ea_cons (ee_neg ee_int) ea_nil) ⟨_, rfl, rfl, rfl⟩) (fun _ => ee_and (m := true) (ee_callC cR hr (ea_cons ee_non ea_nil) ⟨_, rfl, rfl, rfl⟩) (fun _ => ee_one (k := true) (ee_callC cR hr (ea_cons ee_bl ea_nil) ⟨_, rfl, rfl, rfl⟩))))) rfl
end
end K03
namespace K03
open PySem L2 Pd PySem.Spec PyProof.Rows
theorem exm_self {K : PySem.W.Frag} {C : Addr} (T : OexC K C) (h : PySem.W.subIn K (.ref C) (.ref C) = some true) : PySem.W.exmOne K (.ref C) (.ref C) = some true := by
  unfold PySem.W.exmOne
  rw [T.exC, if_pos (by rfl)]
  unfold PySem.W.kitCls
  obtain ⟨nm, q, N, bs, bm, sn, sub, ab, col, dd, k0, k1, k2, k3, k5, e, _⟩ := T.cls
  have h1 : (PySem.W.clsIn K C).isSome = true := by
    unfold PySem.W.clsIn
    rw [e]
    rfl
  simp only [h1, T.tyC]
  rw [if_pos (by rfl)]
  exact h
end K03
namespace K03
open PySem L2 Pd PySem.Spec PyProof.Rows
theorem all_mk {l : PySem.W.OpenLaw} {w : World} {K : PySem.W.Frag} {h : Heap} {mg : Str → Option Value} {fa f1 f2 f3 f4 f5 f6 f7 f8 f9 f10 : Addr} (X : K.In h) (G : h.Ns mainGlobals mg) (hfa : mg "law" = some (.ref fa))
    {od1 an1 od2 an2 od3 an3 od4 an4 od5 an5 od6 an6 od7 an7 od8 an8 od9 an9 od10 an10 : Option Addr} {sl1 sl2 sl3 sl4 sl5 sl6 sl7 sl8 sl9 sl10 : Array (Option Value)} {oc1 kV1 dc1 pm1 cd1 ct1 oc2 kV2 dc2 pm2 cd2 ct2 oc3 kV3 dc3 pm3 cd3 ct3 oc4 kV4 dc4 pm4 cd4 ct4 oc5 kV5 dc5 pm5 cd5 ct5 oc6 kV6 dc6 pm6 cd6 ct6 oc7 kV7 dc7 pm7 cd7 ct7 oc8 kV8 dc8 pm8 cd8 ct8 oc9 kV9 dc9 pm9 cd9 ct9 oc10 kV10 dc10 pm10 cd10 ct10 : Value}
    (a1 : PySem.W.nsIn K mainGlobals "_law_state" = some (some (.ref f1))) (l1 : K.lookup f1 = some ⟨oc1, od1, .func (PySem.W.fnOf "_law_state" "_law_state" (defArgs sState) (defBody sState) (defScope sState) .none kV1 dc1 pm1 an1 cd1 ct1), sl1⟩) (c1 : PySem.W.codeIn K cd1 "_law_state" = true) (k1 : PySem.W.keepIn K (.ref f1) = true)
    (a2 : PySem.W.nsIn K mainGlobals "_law_take" = some (some (.ref f2))) (l2 : K.lookup f2 = some ⟨oc2, od2, .func (PySem.W.fnOf "_law_take" "_law_take" (defArgs sTake) (defBody sTake) (defScope sTake) .none kV2 dc2 pm2 an2 cd2 ct2), sl2⟩) (c2 : PySem.W.codeIn K cd2 "_law_take" = true) (k2 : PySem.W.keepIn K (.ref f2) = true)
    (a3 : PySem.W.nsIn K mainGlobals "_law_partitions" = some (some (.ref f3))) (l3 : K.lookup f3 = some ⟨oc3, od3, .func (PySem.W.fnOf "_law_partitions" "_law_partitions" (defArgs sParts) (defBody sParts) (defScope sParts) .none kV3 dc3 pm3 an3 cd3 ct3), sl3⟩) (c3 : PySem.W.codeIn K cd3 "_law_partitions" = true) (k3 : PySem.W.keepIn K (.ref f3) = true)
    (a4 : PySem.W.nsIn K mainGlobals "is_integer" = some (some (.ref f4))) (l4 : K.lookup f4 = some ⟨oc4, od4, .func (PySem.W.fnOf "is_integer" "is_integer" (defArgs sIsInt) (defBody sIsInt) (defScope sIsInt) .none kV4 dc4 pm4 an4 cd4 ct4), sl4⟩) (c4 : PySem.W.codeIn K cd4 "is_integer" = true) (k4 : PySem.W.keepIn K (.ref f4) = true)
    (a5 : PySem.W.nsIn K mainGlobals "is_partition" = some (some (.ref f5))) (l5 : K.lookup f5 = some ⟨oc5, od5, .func (PySem.W.fnOf "is_partition" "is_partition" (defArgs sIsP) (defBody sIsP) (defScope sIsP) .none kV5 dc5 pm5 an5 cd5 ct5), sl5⟩) (c5 : PySem.W.codeIn K cd5 "is_partition" = true) (k5 : PySem.W.keepIn K (.ref f5) = true)
    (a6 : PySem.W.nsIn K mainGlobals "size" = some (some (.ref f6))) (l6 : K.lookup f6 = some ⟨oc6, od6, .func (PySem.W.fnOf "size" "size" (defArgs sSize) (defBody sSize) (defScope sSize) .none kV6 dc6 pm6 an6 cd6 ct6), sl6⟩) (c6 : PySem.W.codeIn K cd6 "size" = true) (k6 : PySem.W.keepIn K (.ref f6) = true)
    (a7 : PySem.W.nsIn K mainGlobals "partitions" = some (some (.ref f7))) (l7 : K.lookup f7 = some ⟨oc7, od7, .func (PySem.W.fnOf "partitions" "partitions" (defArgs sPar) (defBody sPar) (defScope sPar) .none kV7 dc7 pm7 an7 cd7 ct7), sl7⟩) (c7 : PySem.W.codeIn K cd7 "partitions" = true) (k7 : PySem.W.keepIn K (.ref f7) = true)
    (a8 : PySem.W.nsIn K mainGlobals "partitions_within" = some (some (.ref f8))) (l8 : K.lookup f8 = some ⟨oc8, od8, .func (PySem.W.fnOf "partitions_within" "partitions_within" (defArgs sWith) (defBody sWith) (defScope sWith) .none kV8 dc8 pm8 an8 cd8 ct8), sl8⟩) (c8 : PySem.W.codeIn K cd8 "partitions_within" = true) (k8 : PySem.W.keepIn K (.ref f8) = true)
    (a9 : PySem.W.nsIn K mainGlobals "_law_refused" = some (some (.ref f9))) (l9 : K.lookup f9 = some ⟨oc9, od9, .func (PySem.W.fnOf "_law_refused" "_law_refused" (defArgs sRef) (defBody sRef) (defScope sRef) .none kV9 dc9 pm9 an9 cd9 ct9), sl9⟩) (c9 : PySem.W.codeIn K cd9 "_law_refused" = true) (k9 : PySem.W.keepIn K (.ref f9) = true)
    (a10 : PySem.W.nsIn K mainGlobals "law" = some (some (.ref f10))) (l10 : K.lookup f10 = some ⟨oc10, od10, .func (PySem.W.fnOf "law" "law" (defArgs sLaw) (defBody sLaw) (defScope sLaw) .none kV10 dc10 pm10 an10 cd10 ct10), sl10⟩) (c10 : PySem.W.codeIn K cd10 "law" = true) (k10 : PySem.W.keepIn K (.ref f10) = true)
    (z1 : PySem.W.nsIn K mainGlobals "len" = some none) (z2 : PySem.W.nsIn K mainGlobals "int" = some none) (z3 : PySem.W.nsIn K mainGlobals "abs" = some none) (z4 : PySem.W.nsIn K mainGlobals "min" = some none) (z5 : PySem.W.nsIn K mainGlobals "range" = some none) (z6 : PySem.W.nsIn K mainGlobals "tuple" = some none) (z7 : PySem.W.nsIn K mainGlobals "list" = some none) (z8 : PySem.W.nsIn K mainGlobals "all" = some none) (z9 : PySem.W.nsIn K mainGlobals "zip" = some none) (z10 : PySem.W.nsIn K mainGlobals "sum" = some none) (z11 : PySem.W.nsIn K mainGlobals "sorted" = some none) (z12 : PySem.W.nsIn K mainGlobals "isinstance" = some none) (z13 : PySem.W.nsIn K mainGlobals "bool" = some none)
    {tk : Tok} {C fI : Addr} {odI anI : Option Addr} {slI : Array (Option Value)} {ocI kVI dcI pmI cdI ctI : Value}
    (y1 : PySem.W.nsIn K mainGlobals "_MOST" = some (some (.int 12 tk))) (y2 : PySem.W.nsIn K mainGlobals "Refused" = some (some (.ref C))) (y3 : OexC K C) (y4 : XfC K C) (y5 : PySem.W.findIn K (.ref C) "reason" = some none)
    (y6 : PySem.W.findIn K (.ref C) "__init__" = some (some (.ref fI))) (y7 : PySem.W.typeIn K (.ref fI) = some (.type "function")) (y8 : PySem.W.subIn K (.ref C) (.ref C) = some true)
    (y9 : K.lookup fI = some ⟨ocI, odI, .func (PySem.W.fnOf "__init__" "Refused.__init__" (defArgs sInit) (defBody sInit) (defScope sInit) .none kVI dcI pmI anI cdI ctI), slI⟩) (y10 : PySem.W.codeIn K cdI "Refused.__init__" = true) (y11 : PySem.W.keepIn K (.ref fI) = true) :
    ∃ fd : FuncData, (∀ (s : Shared) (v : Value), BindsTo s fd ⟨[v], []⟩ [("script", v)]) ∧ ∀ base : Heap, K.In base → base.Ns mainGlobals mg → FnOk l.prog w K mg base CX0 16 fa fd ["script"] (spLaw K) := by
  have e := hfa.symm.trans (PySem.W.mg_of X G a10)
  cases e
  have F1 := fun_mk (st := sState) l1 c1 k1
  have F2 := fun_mk (st := sTake) l2 c2 k2
  have F3 := fun_mk (st := sParts) l3 c3 k3
  have F4 := fun_mk (st := sIsInt) l4 c4 k4
  have F5 := fun_mk (st := sIsP) l5 c5 k5
  have F6 := fun_mk (st := sSize) l6 c6 k6
  have F7 := fun_mk (st := sPar) l7 c7 k7
  have F8 := fun_mk (st := sWith) l8 c8 k8
  have F9 := fun_mk (st := sRef) l9 c9 k9
  have F10 := fun_mk (st := sLaw) l10 c10 k10
  have b1 := F1.binds (ps := ["script"]) fun _ _ _ _ _ _ us hl => match us, hl with | [_], _ => rfl
  have b2 := F2.binds (ps := ["state", "m"]) fun _ _ _ _ _ _ us hl => match us, hl with | [_, _], _ => rfl
  have b3 := F3.binds (ps := ["n", "most"]) fun _ _ _ _ _ _ us hl => match us, hl with | [_, _], _ => rfl
  have b4 := F4.binds (ps := ["value"]) fun _ _ _ _ _ _ us hl => match us, hl with | [_], _ => rfl
  have b5 := F5.binds (ps := ["value"]) fun _ _ _ _ _ _ us hl => match us, hl with | [_], _ => rfl
  have b6 := F6.binds (ps := ["a"]) fun _ _ _ _ _ _ us hl => match us, hl with | [_], _ => rfl
  have b7 := F7.binds (ps := ["n"]) fun _ _ _ _ _ _ us hl => match us, hl with | [_], _ => rfl
  have b8 := F8.binds (ps := ["n", "most"]) fun _ _ _ _ _ _ us hl => match us, hl with | [_, _], _ => rfl
  have b9 := F9.binds (ps := ["n"]) fun _ _ _ _ _ _ us hl => match us, hl with | [_], _ => rfl
  have m1 := PySem.W.mg_of X G a1
  have m2 := PySem.W.mg_of X G a2
  have m3 := PySem.W.mg_of X G a3
  have m4 := PySem.W.mg_of X G a4
  have m5 := PySem.W.mg_of X G a5
  have m6 := PySem.W.mg_of X G a6
  have m7 := PySem.W.mg_of X G a7
  have m8 := PySem.W.mg_of X G a8
  have m9 := PySem.W.mg_of X G a9
  have n1 := PySem.W.mg_none_of X G z1
  have n2 := PySem.W.mg_none_of X G z2
  have n3 := PySem.W.mg_none_of X G z3
  have n4 := PySem.W.mg_none_of X G z4
  have n5 := PySem.W.mg_none_of X G z5
  have n6 := PySem.W.mg_none_of X G z6
  have n7 := PySem.W.mg_none_of X G z7
  have n8 := PySem.W.mg_none_of X G z8
  have n9 := PySem.W.mg_none_of X G z9
  have n10 := PySem.W.mg_none_of X G z10
  have n11 := PySem.W.mg_none_of X G z11
  have n12 := PySem.W.mg_none_of X G z12
  have n13 := PySem.W.mg_none_of X G z13
  have T : Mg2 mg := ⟨⟨n1, n2, n3, n4, n5⟩, n6, n7, n8, n9, n10, n11, n12, n13⟩
  refine ⟨PySem.W.fnOf "law" "law" (defArgs sLaw) (defBody sLaw) (defScope sLaw) .none kV10 dc10 pm10 an10 cd10 ct10, fun s v => .of_eq rfl, fun base _ _ => ?_⟩
  have GT := ok_take (P := l.prog) (w := w) (base := base) F2 T.toMg
  have GP := ok_parts (P := l.prog) (w := w) (base := base) F3 T.toMg m3 b3 13
  have GW := ok_with (P := l.prog) (w := w) (base := base) F8 T.toMg m8 b8 13
  have FI := fun_mk (st := sInit) y9 y10 y11
  have bI := FI.binds (ps := [Str.ofString "self", Str.ofString "reason"]) fun _ _ _ _ _ _ us hl => match us, hl with | [_, _], _ => rfl
  have TX : XCls K mg "Refused" "reason" C fI := ⟨y3, y4, y5, y6, y7, PySem.W.mg_of X G y2, exm_self y3 y8⟩
  have GI := ok_init (P := l.prog) (w := w) (base := base) FI TX
  have cI : Cal l.prog w K mg base 1 "is_integer" ["value"] (spD K 1 phInt) := ⟨_, _, ok_isInt F4 T, m4, k4, b4⟩
  have cP : CalX l.prog w K mg base 14 "partitions" ["n"] (spX K 1 C "reason" phPar phBad) := ⟨_, _, ok_par F7 T (PySem.W.mg_of X G y1) cI ⟨_, _, GW, m8, k8, b8⟩ TX GI bI, m7, k7, b7⟩
  exact law_of (ok_law F10 T ⟨_, _, ok_state F1 T.toMg, m1, k1, b1⟩ ⟨_, _, GT, m2, k2, b2⟩ ⟨_, _, GP, m3, k3, b3⟩ cP ⟨_, _, ok_size F6 T, m6, k6, b6⟩ ⟨_, _, ok_isP F5 T cI, m5, k5, b5⟩ ⟨_, _, ok_ref F9 TX cP, m9, k9, b9⟩)
end K03
open PySem PySem.W PyProof.Rows
set_option maxRecDepth 100000 in
set_option maxHeartbeats 0 in
theorem PySem.Challenge.cw_fivebases_k03_partitions_listed_holds : PySem.Challenge.rw_fivebases_k03_partitions_listed.Holds := by
  w_on; o_law; k_head; (case hw => w_witness2)
  k_fill
  refine L2.walk_of (l := PySem.Challenge.rw_fivebases_k03_partitions_listed) (n := 63) (k := 16) (x := "script") (CX := fun _ => L2.CX0) (sp := fun w => Pd.spLaw _) rfl (by decide) rfl ⟨rfl, by decide, by decide⟩ (fun w h Y => PySem.W.kIn_of Y) ?F (fun _ _ a ns hl _ hS => ⟨a, ns, rfl, hS, hl, fun _ => rfl⟩) (fun _ _ _ _ _ h => h)
  case F =>
    intro w mg fa h KX G hmg
    refine' K03.all_mk KX G hmg ?a1 ?l1 ?c1 ?k1 ?a2 ?l2 ?c2 ?k2 ?a3 ?l3 ?c3 ?k3 ?a4 ?l4 ?c4 ?k4 ?a5 ?l5 ?c5 ?k5 ?a6 ?l6 ?c6 ?k6 ?a7 ?l7 ?c7 ?k7 ?a8 ?l8 ?c8 ?k8 ?a9 ?l9 ?c9 ?k9 ?a10 ?l10 ?c10 ?k10 ?z1 ?z2 ?z3 ?z4 ?z5 ?z6 ?z7 ?z8 ?z9 ?z10 ?z11 ?z12 ?z13 ?y1 ?y2 ?y3 ?y4 ?y5 ?y6 ?y7 ?y8 ?y9 ?y10 ?y11
    (case a1 => k_is)
    (case l1 => k_is)
    (case c1 => k_is)
    (case k1 => k_is)
    (case a2 => k_is)
    (case l2 => k_is)
    (case c2 => k_is)
    (case k2 => k_is)
    (case a3 => k_is)
    (case l3 => k_is)
    (case c3 => k_is)
    (case k3 => k_is)
    (case a4 => k_is)
    (case l4 => k_is)
    (case c4 => k_is)
    (case k4 => k_is)
    (case a5 => k_is)
    (case l5 => k_is)
    (case c5 => k_is)
    (case k5 => k_is)
    (case a6 => k_is)
    (case l6 => k_is)
    (case c6 => k_is)
    (case k6 => k_is)
    (case a7 => k_is)
    (case l7 => k_is)
    (case c7 => k_is)
    (case k7 => k_is)
    (case a8 => k_is)
    (case l8 => k_is)
    (case c8 => k_is)
    (case k8 => k_is)
    (case a9 => k_is)
    (case l9 => k_is)
    (case c9 => k_is)
    (case k9 => k_is)
    (case a10 => k_is)
    (case l10 => k_is)
    (case c10 => k_is)
    (case k10 => k_is)
    (case z1 => k_is)
    (case z2 => k_is)
    (case z3 => k_is)
    (case z4 => k_is)
    (case z5 => k_is)
    (case z6 => k_is)
    (case z7 => k_is)
    (case z8 => k_is)
    (case z9 => k_is)
    (case z10 => k_is)
    (case z11 => k_is)
    (case z12 => k_is)
    (case z13 => k_is)
    (case y1 => k_is)
    (case y2 => k_is)
    (case y3 => exact ⟨⟨_, _, _, _, _, _, _, _, _, _, _, _, _, _, _, by k_is, by decide +kernel⟩, by k_is, by k_is, by k_is, by k_is⟩)
    (case y4 => exact ⟨by k_is, by k_is, by k_is, by k_is⟩)
    (case y5 => k_is)
    (case y6 => k_is)
    (case y7 => k_is)
    (case y8 => k_is)
    (case y9 => k_is)
    (case y10 => k_is)
    (case y11 => k_is)
