import PyProof.Rows.All
import Wide.All
import OpenK.AllK
import Wide.FinOn
import HandS.ForExc
import KE.KOpsOwn
import KE.KCallOwn
import HandS.OwnEq
import PyProof.NeKinds
import HandS.ClsMeth
import KE.KExcInit
import HandS.ExcOwn
import HandS.TryMany
import HandS.Wide
import HandS.Gcd
import HandS.IsInst
import HandS.Defaults
import HandS.FStr
import HandS.Flow
import HandS.Codes
import KE.KEqSeq
import HandS.ForMost
import HandS.StrMore
import HandS.Steps
import HandS.ExcIs
import PySem.Challenge.RW_wishedwires_k02_ratios_as_texts
-- RatMath
section
namespace RatM
/-- the divisor that Ratio's __init__ takes: the gcd with the bottom's sign -/
def cmn (t b : Int) : Int := if b > 0 then (Nat.gcd t.natAbs b.natAbs : Int) else -(Nat.gcd t.natAbs b.natAbs : Int)
def nt (t b : Int) : Int := t.fdiv (cmn t b)
def nb (t b : Int) : Int := b.fdiv (cmn t b)

theorem gpos {t b : Int} (h : b ≠ 0) : 0 < Nat.gcd t.natAbs b.natAbs := Nat.gcd_pos_of_pos_right _ (by omega)
theorem cmn_ne {t b : Int} (h : b ≠ 0) : cmn t b ≠ 0 := by
  have := gpos (t := t) h
  unfold cmn
  split <;> omega
theorem cmn_scale {t b k : Int} (hb : b ≠ 0) (hk : k ≠ 0) : cmn (t * k) (b * k) = cmn t b * k := by
  unfold cmn
  rw [Int.natAbs_mul, Int.natAbs_mul, Nat.gcd_mul_right, Int.natCast_mul]
  rcases Int.lt_or_gt_of_ne hk with h | h
  · have e : ((k.natAbs : Nat) : Int) = -k := by omega
    rw [e]
    rcases Int.lt_or_gt_of_ne hb with h2 | h2
    · rw [if_pos (show b * k > 0 from Int.mul_pos_of_neg_of_neg h2 h), if_neg (show ¬ b > 0 by omega), Int.mul_neg, Int.neg_mul]
    · rw [if_neg (show ¬ b * k > 0 from by have := Int.mul_neg_of_pos_of_neg h2 h; omega), if_pos (show b > 0 by omega), Int.mul_neg, Int.neg_neg]
  · have e : ((k.natAbs : Nat) : Int) = k := by omega
    rw [e]
    rcases Int.lt_or_gt_of_ne hb with h2 | h2
    · rw [if_neg (show ¬ b * k > 0 from by have := Int.mul_neg_of_neg_of_pos h2 h; omega), if_neg (show ¬ b > 0 by omega), Int.neg_mul]
    · rw [if_pos (show b * k > 0 from Int.mul_pos h2 h), if_pos (show b > 0 by omega)]
theorem cmn_dvd_t (t b : Int) : cmn t b ∣ t := by
  have h : ((Nat.gcd t.natAbs b.natAbs : Nat) : Int) ∣ t := Int.dvd_natAbs.mp (Int.natCast_dvd_natCast.mpr (Nat.gcd_dvd_left _ _))
  unfold cmn
  split
  · exact h
  · exact Int.neg_dvd.mpr h
theorem cmn_dvd_b (t b : Int) : cmn t b ∣ b := by
  have h : ((Nat.gcd t.natAbs b.natAbs : Nat) : Int) ∣ b := Int.dvd_natAbs.mp (Int.natCast_dvd_natCast.mpr (Nat.gcd_dvd_right _ _))
  unfold cmn
  split
  · exact h
  · exact Int.neg_dvd.mpr h
theorem nt_mul {t b : Int} : nt t b * cmn t b = t := Int.fdiv_mul_cancel (cmn_dvd_t t b)
theorem nb_mul {t b : Int} : nb t b * cmn t b = b := Int.fdiv_mul_cancel (cmn_dvd_b t b)
theorem nb_pos {t b : Int} (h : b ≠ 0) : 0 < nb t b := by
  have e := nb_mul (t := t) (b := b)
  have g := gpos (t := t) h
  have hc : cmn t b = if b > 0 then (Nat.gcd t.natAbs b.natAbs : Int) else -(Nat.gcd t.natAbs b.natAbs : Int) := rfl
  rcases Int.lt_trichotomy (nb t b) 0 with h1 | h1 | h1
  · exfalso
    split at hc
    · have := Int.mul_neg_of_neg_of_pos h1 (show 0 < cmn t b by omega); omega
    · have := Int.mul_pos_of_neg_of_neg h1 (show cmn t b < 0 by omega); omega
  · rw [h1, Int.zero_mul] at e; omega
  · exact h1
theorem nt_scale {t b k : Int} (hb : b ≠ 0) (hk : k ≠ 0) : nt (t * k) (b * k) = nt t b := by
  have e : t * k = nt t b * (cmn t b * k) := by rw [← Int.mul_assoc, nt_mul]
  show (t * k).fdiv (cmn (t * k) (b * k)) = nt t b
  rw [cmn_scale hb hk, e]
  exact Int.mul_fdiv_cancel _ (Int.mul_ne_zero (cmn_ne hb) hk)
theorem nb_scale {t b k : Int} (hb : b ≠ 0) (hk : k ≠ 0) : nb (t * k) (b * k) = nb t b := by
  have e : b * k = nb t b * (cmn t b * k) := by rw [← Int.mul_assoc, nb_mul]
  show (b * k).fdiv (cmn (t * k) (b * k)) = nb t b
  rw [cmn_scale hb hk, e]
  exact Int.mul_fdiv_cancel _ (Int.mul_ne_zero (cmn_ne hb) hk)
/-- pairs that are in proportion have one normal form -/
theorem nrm_of {t b t' b' k k' : Int} (hb : b ≠ 0) (hb' : b' ≠ 0) (hk : k ≠ 0) (hk' : k' ≠ 0) (e1 : t * k = t' * k') (e2 : b * k = b' * k') : nt t b = nt t' b' ∧ nb t b = nb t' b' := by
  refine ⟨?_, ?_⟩
  · rw [← nt_scale hb hk, e1, e2, nt_scale hb' hk']
  · rw [← nb_scale hb hk, e1, e2, nb_scale hb' hk']
theorem nrm_cross {t b t' b' : Int} (hb : b ≠ 0) (hb' : b' ≠ 0) (e : t * b' = t' * b) : nt t b = nt t' b' ∧ nb t b = nb t' b' :=
  nrm_of hb hb' hb' hb e (Int.mul_comm b b')
theorem nrm_id {t b : Int} (hb : b ≠ 0) : nt (nt t b) (nb t b) = nt t b ∧ nb (nt t b) (nb t b) = nb t b := by
  have p := nb_pos (t := t) hb
  have h := nrm_of (t := nt t b) (b := nb t b) (t' := t) (b' := b) (k := cmn t b) (k' := 1) (by omega) hb (cmn_ne hb) (by decide) (by rw [nt_mul, Int.mul_one]) (by rw [nb_mul, Int.mul_one])
  exact h
/-- equal normal forms are pairs in proportion -/
theorem cross_of {t b t' b' : Int} (e1 : nt t b = nt t' b') (e2 : nb t b = nb t' b') : t * b' = t' * b := by
  have a := nt_mul (t := t) (b := b); have c := nb_mul (t := t) (b := b)
  have a' := nt_mul (t := t') (b := b'); have c' := nb_mul (t := t') (b := b')
  rw [e1] at a
  rw [e2] at c
  generalize nt t' b' = x at a a'
  generalize nb t' b' = y at c c'
  generalize cmn t b = g at a c
  generalize cmn t' b' = g' at a' c'
  rw [← a, ← c', ← a', ← c]
  simp only [Int.mul_assoc, Int.mul_left_comm, Int.mul_comm]
theorem natAbs_le_mul {x y : Int} (hy : y ≠ 0) : x.natAbs ≤ (x * y).natAbs := by
  rw [Int.natAbs_mul]
  exact Nat.le_mul_of_pos_right _ (by omega)
theorem nt_le {t b : Int} (hb : b ≠ 0) : (nt t b).natAbs ≤ t.natAbs := by
  have h := natAbs_le_mul (x := nt t b) (cmn_ne (t := t) hb)
  rwa [nt_mul] at h
theorem nb_le {t b : Int} (hb : b ≠ 0) : (nb t b).natAbs ≤ b.natAbs := by
  have h := natAbs_le_mul (x := nb t b) (cmn_ne (t := t) hb)
  rwa [nb_mul] at h
theorem cmn_le {t b : Int} (hb : b ≠ 0) : (cmn t b).natAbs ≤ b.natAbs := by
  have p := nb_pos (t := t) hb
  have h := natAbs_le_mul (x := cmn t b) (y := nb t b) (by omega)
  rwa [Int.mul_comm, nb_mul] at h
theorem nt_one (t : Int) : nt t 1 = t ∧ nb t 1 = 1 := by
  have c : cmn t 1 = 1 := by
    unfold cmn
    rw [if_pos (by decide), show (1 : Int).natAbs = 1 from rfl, Nat.gcd_one_right]
    rfl
  exact ⟨by show t.fdiv (cmn t 1) = t; rw [c, Int.fdiv_one], by show (1 : Int).fdiv (cmn t 1) = 1; rw [c, Int.fdiv_one]⟩
end RatM
end

-- RatMath2
section
namespace RatM
theorem add_nrm {a b c d : Int} (hb : b ≠ 0) (hd : d ≠ 0) : nt (nt a b * nb c d + nt c d * nb a b) (nb a b * nb c d) = nt (a * d + c * b) (b * d) ∧ nb (nt a b * nb c d + nt c d * nb a b) (nb a b * nb c d) = nb (a * d + c * b) (b * d) := by
  have p1 := nb_pos (t := a) hb
  have p2 := nb_pos (t := c) hd
  have h1 := nt_mul (t := a) (b := b); have h2 := nb_mul (t := a) (b := b)
  have h3 := nt_mul (t := c) (b := d); have h4 := nb_mul (t := c) (b := d)
  have g1 := cmn_ne (t := a) hb; have g2 := cmn_ne (t := c) hd
  refine nrm_of (k := cmn a b * cmn c d) (k' := 1) (Int.mul_ne_zero (by omega) (by omega)) (Int.mul_ne_zero hb hd) (Int.mul_ne_zero g1 g2) (by decide) ?_ ?_
  · generalize nt a b = x at *; generalize nb a b = y at *; generalize cmn a b = g at *
    generalize nt c d = x' at *; generalize nb c d = y' at *; generalize cmn c d = h at *
    rw [← h1, ← h2, ← h3, ← h4, Int.mul_one, Int.add_mul]
    congr 1 <;> ac_rfl
  · generalize nt a b = x at *; generalize nb a b = y at *; generalize cmn a b = g at *
    generalize nt c d = x' at *; generalize nb c d = y' at *; generalize cmn c d = h at *
    rw [← h2, ← h4, Int.mul_one]
    ac_rfl
theorem sub_nrm {a b c d : Int} (hb : b ≠ 0) (hd : d ≠ 0) : nt (nt a b * nb c d - nt c d * nb a b) (nb a b * nb c d) = nt (a * d - c * b) (b * d) ∧ nb (nt a b * nb c d - nt c d * nb a b) (nb a b * nb c d) = nb (a * d - c * b) (b * d) := by
  have p1 := nb_pos (t := a) hb
  have p2 := nb_pos (t := c) hd
  have h1 := nt_mul (t := a) (b := b); have h2 := nb_mul (t := a) (b := b)
  have h3 := nt_mul (t := c) (b := d); have h4 := nb_mul (t := c) (b := d)
  have g1 := cmn_ne (t := a) hb; have g2 := cmn_ne (t := c) hd
  refine nrm_of (k := cmn a b * cmn c d) (k' := 1) (Int.mul_ne_zero (by omega) (by omega)) (Int.mul_ne_zero hb hd) (Int.mul_ne_zero g1 g2) (by decide) ?_ ?_
  · generalize nt a b = x at *; generalize nb a b = y at *; generalize cmn a b = g at *
    generalize nt c d = x' at *; generalize nb c d = y' at *; generalize cmn c d = h at *
    rw [← h1, ← h2, ← h3, ← h4, Int.mul_one, Int.sub_mul]
    congr 1 <;> ac_rfl
  · generalize nt a b = x at *; generalize nb a b = y at *; generalize cmn a b = g at *
    generalize nt c d = x' at *; generalize nb c d = y' at *; generalize cmn c d = h at *
    rw [← h2, ← h4, Int.mul_one]
    ac_rfl
theorem mul_nrm {a b c d : Int} (hb : b ≠ 0) (hd : d ≠ 0) : nt (nt a b * nt c d) (nb a b * nb c d) = nt (a * c) (b * d) ∧ nb (nt a b * nt c d) (nb a b * nb c d) = nb (a * c) (b * d) := by
  have p1 := nb_pos (t := a) hb
  have p2 := nb_pos (t := c) hd
  have h1 := nt_mul (t := a) (b := b); have h2 := nb_mul (t := a) (b := b)
  have h3 := nt_mul (t := c) (b := d); have h4 := nb_mul (t := c) (b := d)
  have g1 := cmn_ne (t := a) hb; have g2 := cmn_ne (t := c) hd
  refine nrm_of (k := cmn a b * cmn c d) (k' := 1) (Int.mul_ne_zero (by omega) (by omega)) (Int.mul_ne_zero hb hd) (Int.mul_ne_zero g1 g2) (by decide) ?_ ?_
  · generalize nt a b = x at *; generalize nb a b = y at *; generalize cmn a b = g at *
    generalize nt c d = x' at *; generalize nb c d = y' at *; generalize cmn c d = h at *
    rw [← h1, ← h3, Int.mul_one]
    ac_rfl
  · generalize nt a b = x at *; generalize nb a b = y at *; generalize cmn a b = g at *
    generalize nt c d = x' at *; generalize nb c d = y' at *; generalize cmn c d = h at *
    rw [← h2, ← h4, Int.mul_one]
    ac_rfl
theorem nt_ne {c d : Int} (hd : d ≠ 0) (hc : c ≠ 0) : nt c d ≠ 0 := fun z => by
  have h3 := nt_mul (t := c) (b := d)
  rw [z, Int.zero_mul] at h3
  exact hc h3.symm
theorem over_nrm {a b c d : Int} (hb : b ≠ 0) (hd : d ≠ 0) (hc : c ≠ 0) : nt (nt a b * nb c d) (nb a b * nt c d) = nt (a * d) (b * c) ∧ nb (nt a b * nb c d) (nb a b * nt c d) = nb (a * d) (b * c) := by
  have p1 := nb_pos (t := a) hb
  have p2 := nt_ne hd hc
  have h1 := nt_mul (t := a) (b := b); have h2 := nb_mul (t := a) (b := b)
  have h3 := nt_mul (t := c) (b := d); have h4 := nb_mul (t := c) (b := d)
  have g1 := cmn_ne (t := a) hb; have g2 := cmn_ne (t := c) hd
  refine nrm_of (k := cmn a b * cmn c d) (k' := 1) (Int.mul_ne_zero (by omega) p2) (Int.mul_ne_zero hb hc) (Int.mul_ne_zero g1 g2) (by decide) ?_ ?_
  · generalize nt a b = x at *; generalize nb a b = y at *; generalize cmn a b = g at *
    generalize nt c d = x' at *; generalize nb c d = y' at *; generalize cmn c d = h at *
    rw [← h1, ← h4, Int.mul_one]
    ac_rfl
  · generalize nt a b = x at *; generalize nb a b = y at *; generalize cmn a b = g at *
    generalize nt c d = x' at *; generalize nb c d = y' at *; generalize cmn c d = h at *
    rw [← h2, ← h3, Int.mul_one]
    ac_rfl
theorem eq_iff {a b c d : Int} (hb : b ≠ 0) (hd : d ≠ 0) : (nt a b = nt c d ∧ nb a b = nb c d) ↔ nt a b * nb c d = nt c d * nb a b := by
  constructor
  · rintro ⟨h1, h2⟩
    rw [h1, h2]
  · intro h
    have p1 := nb_pos (t := a) hb
    have p2 := nb_pos (t := c) hd
    have q := nrm_cross (by omega) (by omega) h
    rw [(nrm_id hb).1, (nrm_id hb).2, (nrm_id hd).1, (nrm_id hd).2] at q
    exact q
/-- the sign that makes cross products comparable -/
def sg (v : Int) : Int := 1 - 2 * (if decide (v < 0) = true then (1 : Int) else 0)
theorem sg_cases (v : Int) : (v < 0 ∧ sg v = -1) ∨ (0 ≤ v ∧ sg v = 1) := by
  unfold sg
  by_cases h : v < 0
  · exact .inl ⟨h, by rw [decide_eq_true h, if_pos rfl]; rfl⟩
  · exact .inr ⟨by omega, by rw [decide_eq_false h, if_neg Bool.false_ne_true]; rfl⟩
theorem sg_pos {v : Int} (h : v ≠ 0) : 0 < v * sg v := by
  rcases sg_cases v with ⟨h1, h2⟩ | ⟨h1, h2⟩ <;> rw [h2] <;> omega
theorem cmp_facts {a b c d : Int} (hb : b ≠ 0) (hd : d ≠ 0) : ∃ m : Int, 0 < m ∧ a * d * sg (b * d) = nt a b * nb c d * m ∧ c * b * sg (b * d) = nt c d * nb a b * m := by
  have p1 := nb_pos (t := a) hb
  have p2 := nb_pos (t := c) hd
  have h1 := nt_mul (t := a) (b := b); have h2 := nb_mul (t := a) (b := b)
  have h3 := nt_mul (t := c) (b := d); have h4 := nb_mul (t := c) (b := d)
  have hp := sg_pos (Int.mul_ne_zero hb hd)
  refine ⟨cmn a b * cmn c d * sg (b * d), ?_, ?_, ?_⟩
  · have e : b * d * sg (b * d) = (nb a b * nb c d) * (cmn a b * cmn c d * sg (b * d)) := by
      generalize sg (b * d) = s
      generalize nb a b = y at *; generalize cmn a b = g at *; generalize nb c d = y' at *; generalize cmn c d = h at *
      rw [← h2, ← h4]
      ac_rfl
    rw [e] at hp
    rcases Int.lt_trichotomy (cmn a b * cmn c d * sg (b * d)) 0 with z | z | z
    · have := Int.mul_neg_of_pos_of_neg (Int.mul_pos p1 p2) z; omega
    · rw [z, Int.mul_zero] at hp; omega
    · exact z
  · generalize sg (b * d) = s
    generalize nt a b = x at *; generalize cmn a b = g at *; generalize nb c d = y' at *; generalize cmn c d = h at *
    rw [← h1, ← h4]
    ac_rfl
  · generalize sg (b * d) = s
    generalize nb a b = y at *; generalize cmn a b = g at *; generalize nt c d = x' at *; generalize cmn c d = h at *
    rw [← h2, ← h3]
    ac_rfl
theorem cmp_all {a b c d : Int} (hb : b ≠ 0) (hd : d ≠ 0) :
    ((nt a b = nt c d ∧ nb a b = nb c d) ↔ a * d * sg (b * d) = c * b * sg (b * d)) ∧ (nt a b * nb c d < nt c d * nb a b ↔ a * d * sg (b * d) < c * b * sg (b * d)) ∧ (nt c d * nb a b < nt a b * nb c d ↔ c * b * sg (b * d) < a * d * sg (b * d)) := by
  obtain ⟨m, m0, e1, e2⟩ := cmp_facts (a := a) (c := c) hb hd
  rw [e1, e2, eq_iff hb hd]
  refine ⟨⟨fun h => by rw [h], fun h => Int.eq_of_mul_eq_mul_right (by omega) h⟩, ⟨fun h => Int.mul_lt_mul_of_pos_right h m0, fun h => Int.lt_of_mul_lt_mul_right h (by omega)⟩, ⟨fun h => Int.mul_lt_mul_of_pos_right h m0, fun h => Int.lt_of_mul_lt_mul_right h (by omega)⟩⟩
end RatM
end

-- OwnOps
section
set_option Elab.async false
set_option linter.all false
set_option maxRecDepth 100000
/-! Operators of own classes, as rules over values: by this text's own hand. -/
namespace OwnOps
open PySem L2

section
variable {X : Cx} {pins : List (Addr × Obj)} {σ : St} {H : Hp} {s : Shared} {a b C dx dy g : Addr} {fs fs' : List (Str × V)}

theorem inst_at (I : Inv X pins σ H s) (e : H a = some (.ins C dx fs)) : ∃ od, PySem.W.InstAt s.heap a (PySem.W.instObj C dx) C (some od) := by
  obtain ⟨mA, O, _⟩ := ins_get I.hok e
  obtain ⟨od, J, _⟩ := O.look
  exact ⟨od, J⟩

theorem back_of {Q : Value → Shared → Prop} {s' : Shared} {v : V} {u : Value} (r : RelV v u) (q : Q u s') : PySem.W.CmpBack Q u s' := by
  cases v with
  | non => cases (show u = Value.none from r); exact q
  | bl b => cases (show u = Value.bool b from r); exact q
  | int i => obtain ⟨t, rfl⟩ := (show ∃ t, u = Value.int i t from r); exact q
  | str y => obtain ⟨t, rfl⟩ := (show ∃ t, u = Value.str y t from r); exact q
  | byt y => obtain ⟨t, rfl⟩ := (show ∃ t, u = Value.bytes y t from r); exact q
  | flt y => obtain ⟨t, rfl⟩ := (show ∃ t, u = Value.float y t from r); exact q
  | ref c => cases (show u = Value.ref c from r); exact q
  | ty n => cases (show u = Value.type n from r); exact q

variable {CX : CXT} {k : Nat} {fd : FuncData} {ps : List Str} {sp : Sp} {E : XK} {A : Around}

/-- a def's call wherever the builtins around it stand -/
theorem run_any {Q : VK} {us : List Value} {vs : List V} (F : FnOk X.prog X.w X.K X.mg X.base CX k g fd ps sp) (hr : Room k A) (e0 : Env0 X.prog X.w X.K X.mg X.base A X.stack s H)
    (hb : Binds X.K fd ps []) (hx : Passes CX X E) (I : Inv X pins σ H s) (r : Vals vs us) (h : sp vs H Q E) :
    wpAny (model X.prog X.w) A (call (.ref g) us) (EP X pins σ Q) X.xe s := by
  have hl : (us ++ []).length = ps.length := by rw [List.append_nil, ← r.length]; exact F.len _ _ _ _ h
  have hb' := hb s us I.kIn hl
  rw [List.append_nil] at hb'
  refine wpAny_call (codeAny_mono (F.run A X.stack s H ⟨us, []⟩ us vs Q E hr e0 hb' r h) fun res s' hq => ?_)
  cases res with
  | error e => exact hx pins σ H s e s' I hq
  | ok fl =>
    cases fl with
    | ret u => exact I.after hq
    | next => exact False.elim hq
    | brk => exact False.elim hq
    | cont => exact False.elim hq
end

/-- what an own class says of a two-place operator: its def, of this class -/
structure Op2 (K : PySem.W.Frag) (C g : Addr) (nm : String) : Prop where
  at_ : PySem.W.findIn K (.ref C) (PySem.dunder nm) = some (some (.ref g))
  rf : ∃ rc, PySem.W.findIn K (.ref C) (PySem.dunderR nm) = some rc ∧ (rc = none ∨ ∃ q : Addr, rc = some (.ref q))
  fn : PySem.W.isFn K (.ref g) = true
  first : PySem.W.selfFirst K C = true
/-- what is known of a built-in type beside the class at C, for the operator -/
structure Ty2 (K : PySem.W.Frag) (C : Addr) (nm T : String) : Prop where
  lf : ∃ fo, PySem.W.findIn K (.type T) (PySem.dunder nm) = some fo
  rt : ∃ ro, PySem.W.findIn K (.type T) (PySem.dunderR nm) = some ro
  sub : PySem.W.subIn K (.type T) (.ref C) = some false

/-- the reading of x op y by x's own def -/
def rOwn2 (C : Addr) (R : V → Hp → Prop) (sp : Sp) (E : XK) : R2 := fun x y H Q => ∃ a dx fs, x = .ref a ∧ H a = some (.ins C dx fs) ∧ R y H ∧ sp [x, y] H Q E
def RIns (C : Addr) : V → Hp → Prop := fun y H => ∃ b dy fs, y = .ref b ∧ H b = some (.ins C dy fs)
def RInt : V → Hp → Prop := fun y _ => ∃ i, y = .int i

section
variable {X : Cx} {CX : CXT} {C g : Addr} {k : Nat} {fd : FuncData} {ps : List Str} {sp : Sp} {E : XK} {op : Operator} {T : String}

/-- x op y, both of the class at C -/
theorem op_ins (O : Op2 X.K C g op.info.2) (F : FnOk X.prog X.w X.K X.mg X.base CX k g fd ps sp) (hr : Room k X.A) (hb : Binds X.K fd ps []) (hx : Passes CX X E) :
    OpR X (binaryOp op) (rOwn2 C (RIns C) sp E) := by
  intro pins s σ H x y v u Q I rx ry h
  obtain ⟨a, dx, fs, rfl, ha, ⟨b, dy, fs', rfl, hb'⟩, q⟩ := h
  cases (show v = Value.ref a from rx)
  cases (show u = Value.ref b from ry)
  obtain ⟨od, J⟩ := inst_at I ha
  obtain ⟨od', J'⟩ := inst_at I hb'
  obtain ⟨m, hF⟩ := I.fr
  refine PySem.W.binop_K hF I.ok.mod.kin J J'.type O.first O.at_ O.fn ?_
  refine wpAny_mono (run_any (us := [.ref a, .ref b]) (vs := [.ref a, .ref b]) F hr I.env0 hb hx I (.cons rfl (.cons rfl .nil)) q) (fun w s' z => ?_) fun _ _ e => e
  obtain ⟨z', H', I', rz, qz⟩ := id z
  exact back_of rz z

/-- x op y, y of a built-in type that tells its type at once -/
theorem op_val (O : Op2 X.K C g op.info.2) (Y : Ty2 X.K C op.info.2 T) (F : FnOk X.prog X.w X.K X.mg X.base CX k g fd ps sp) (hr : Room k X.A) (hb : Binds X.K fd ps []) (hx : Passes CX X E)
    {R : V → Hp → Prop} (hR : ∀ {y : V} {H : Hp} {u : Value}, R y H → RelV y u → typeOf u = pure (.type T)) :
    OpR X (binaryOp op) (rOwn2 C R sp E) := by
  intro pins s σ H x y v u Q I rx ry h
  obtain ⟨a, dx, fs, rfl, ha, hy, q⟩ := h
  cases (show v = Value.ref a from rx)
  obtain ⟨od, J⟩ := inst_at I ha
  obtain ⟨m, hF⟩ := I.fr
  obtain ⟨fo, hfo⟩ := Y.lf
  obtain ⟨ro, hro⟩ := Y.rt
  obtain ⟨rc, hrc, hp⟩ := O.rf
  refine PySem.W.ksp_binT hF I.ok.mod.kin J (hR hy ry) O.first O.at_ O.fn hrc hp hfo hro Y.sub ?_
  refine wpAny_mono (run_any (us := [.ref a, u]) (vs := [.ref a, y]) F hr I.env0 hb hx I (.cons rfl (.cons ry .nil)) q) (fun w s' z => ?_) fun _ _ e => e
  obtain ⟨z', H', I', rz, qz⟩ := id z
  exact back_of rz z
end
end OwnOps
end

-- OwnOps2
section
set_option Elab.async false
set_option linter.all false
set_option maxRecDepth 100000
namespace OwnOps
open PySem L2

section
variable {prog : Program} {w : World} {A : Around} {E : Value → Shared → Prop} {s : Shared} {K : PySem.W.Frag} {y C f g : Addr} {oy : Obj} {od : Option Obj} {u : Value} {T : String}

/-- u op y by y's reflected def: u's own type has no slot for it, or declines -/
theorem refl_K {op : Operator} {left : Bool} {Q : Value → Shared → Prop} (Y : K.In s.heap) (I : PySem.W.InstAt s.heap y oy C od)
    (ht : PySem.W.Looks (model prog w) s.heap (typeOf u) (.type T)) (hc : PySem.W.selfFirst K C = true)
    (hs : PySem.W.findIn K (.ref C) (PySem.dunder op.info.2) = some (some (.ref f))) (hr : PySem.W.findIn K (.ref C) (PySem.dunderR op.info.2) = some (some (.ref g)))
    (hg : PySem.W.isFn K (.ref g) = true) (hl : PySem.W.Looks (model prog w) s.heap (fillsNumberSlot (.type T) op.info.2) left)
    (hsub : PySem.W.subIn K (.ref C) (.type T) = some false)
    (hd : left = true → ∀ {Q : Option Value → Shared → Prop}, Q none s → wpAny (model prog w) A (tryMethod u (PySem.dunder op.info.2) (.ref y)) Q E s)
    (h : wpAny (model prog w) A (call (.ref g) [.ref y, u]) (PySem.W.CmpBack Q) E s) : wpAny (model prog w) A (binaryOp op u (.ref y)) Q E s := by
  obtain ⟨cd, rest, hcd, hm⟩ := PySem.W.ksp_first hc
  rcases hi : op.info with ⟨sym, nm⟩
  rw [hi] at hs hr hl hd
  dsimp only at hs hr hl hd
  have one := PySem.W.ksp_try Y I hr hg h
  obtain ⟨hh, gg, d, tt, os⟩ := s
  have L1 : PySem.W.Looks (model prog w) hh (typeOf (.ref y)) (.ref C) := I.type
  have L3 : PySem.W.Looks (model prog w) hh (fillsNumberSlot (.ref C) nm) true := PySem.W.fills_K Y hcd hm hs
  have L5 : PySem.W.Looks (model prog w) hh (isSubtype (.ref C) (.type T)) false := PySem.W.looks_subIn Y hsub
  have L7 : PySem.W.Looks (model prog w) hh (numberSlotInPython (.type T) nm) false := PySem.W.Looks.of_pure rfl
  have hne : (Value.type T == Value.ref C) = false := Bool.eq_false_iff.mpr fun q => by cases beq_iff_eq.mp q
  simp only [binaryOp, hi]
  refine wpAny_holding (wpAny_bind ?_)
  unfold binaryOp1
  refine wpAny_bind (ht.at (wpAny_bind (L1.at (wpAny_bind (hl.at ?_)))))
  simp only [hne, Bool.false_eq_true, if_false]
  cases left with
  | false =>
    ksp_lk
    refine wpAny_mono one (fun r s' hr' => ?_) fun _ _ e => e
    obtain ⟨v, rfl, hq⟩ := hr'
    ksp_lk
    exact hq
  | true =>
    ksp_lk
    refine hd rfl ?_
    ksp_lk
    refine wpAny_mono one (fun r s' hr' => ?_) fun _ _ e => e
    obtain ⟨v, rfl, hq⟩ := hr'
    ksp_lk
    exact hq
end
end OwnOps
end

-- OwnOps3
section
set_option Elab.async false
set_option linter.all false
set_option maxRecDepth 100000
namespace OwnOps
open PySem L2

section
variable {prog : Program} {w : World} {A : Around} {E : Value → Shared → Prop} {s : Shared} {K : PySem.W.Frag} {y C f g : Addr} {oy : Obj} {od : Option Obj} {n : Int} {t : Tok}
open MeetsSeq MeetsSeq2 MeetsSeq3 SeqRoads2 AutoSeq1
theorem int_call_add {Q : Value → Shared → Prop} (hy : s.heap.get? y = some oy) (hp : oy.data = .plain) (h : Q .notImplemented s) :
    wpAny (model prog w) A (call (.builtin "int.__add__") [.int n t, .ref y]) Q E s := by
  refine GQ.call_here F.slot_int_add (typeIs_int s n t) F.entry_int_add (F.args_int_add_2 _ _) ?_
  obtain ⟨c, dd, dt, sl⟩ := oy
  cases hp
  obtain ⟨hh, gg, d, tt, os⟩ := s
  wp_walk using wpAny_loadPart' hy
  exact h
theorem int_call_sub {Q : Value → Shared → Prop} (hy : s.heap.get? y = some oy) (hp : oy.data = .plain) (h : Q .notImplemented s) :
    wpAny (model prog w) A (call (.builtin "int.__sub__") [.int n t, .ref y]) Q E s := by
  refine GQ.call_here F.slot_int_sub (typeIs_int s n t) F.entry_int_sub (F.args_int_sub_2 _ _) ?_
  obtain ⟨c, dd, dt, sl⟩ := oy
  cases hp
  obtain ⟨hh, gg, d, tt, os⟩ := s
  wp_walk using wpAny_loadPart' hy
  exact h
theorem int_call_mul {Q : Value → Shared → Prop} (hy : s.heap.get? y = some oy) (hp : oy.data = .plain) (h : Q .notImplemented s) :
    wpAny (model prog w) A (call (.builtin "int.__mul__") [.int n t, .ref y]) Q E s := by
  refine GQ.call_here F.slot_int_mul (typeIs_int s n t) F.entry_int_mul (F.args_int_mul_2 _ _) ?_
  obtain ⟨c, dd, dt, sl⟩ := oy
  cases hp
  obtain ⟨hh, gg, d, tt, os⟩ := s
  wp_walk using wpAny_loadPart' hy
  exact h
theorem bool_call_mul {k : Bool} {Q : Value → Shared → Prop} (hy : s.heap.get? y = some oy) (hp : oy.data = .plain) (h : Q .notImplemented s) :
    wpAny (model prog w) A (call (.builtin "int.__mul__") [.bool k, .ref y]) Q E s := by
  refine GQ.call_here F.slot_bool_mul (typeIs_bool s k) F.entry_int_mul (F.args_int_mul_2 _ _) ?_
  obtain ⟨c, dd, dt, sl⟩ := oy
  cases hp
  obtain ⟨hh, gg, d, tt, os⟩ := s
  wp_walk using wpAny_loadPart' hy
  exact h
/-- how an int meets an instance of no built-in kind -/
theorem int_cmp_eq {Q : Value → Shared → Prop} (hy : s.heap.get? y = some oy) (hp : oy.data = .plain) (h : Q .notImplemented s) :
    wpAny (model prog w) A (call (.builtin "int.__eq__") [.int n t, .ref y]) Q E s := by
  refine GQ.call_here F.slot_int_eq (typeIs_int s n t) F.entry_int_eq (F.args_int_eq_2 _ _) ?_
  obtain ⟨c, dd, dt, sl⟩ := oy
  cases hp
  obtain ⟨hh, gg, d, tt, os⟩ := s
  wp_walk using wpAny_loadPart' hy
  exact h
theorem int_cmp_ne {Q : Value → Shared → Prop} (hy : s.heap.get? y = some oy) (hp : oy.data = .plain) (h : Q .notImplemented s) :
    wpAny (model prog w) A (call (.builtin "int.__ne__") [.int n t, .ref y]) Q E s := by
  refine GQ.call_here F.slot_int_ne (typeIs_int s n t) F.entry_int_ne (F.args_int_ne_2 _ _) ?_
  obtain ⟨c, dd, dt, sl⟩ := oy
  cases hp
  obtain ⟨hh, gg, d, tt, os⟩ := s
  wp_walk using wpAny_loadPart' hy
  exact h
theorem int_cmp_lt {Q : Value → Shared → Prop} (hy : s.heap.get? y = some oy) (hp : oy.data = .plain) (h : Q .notImplemented s) :
    wpAny (model prog w) A (call (.builtin "int.__lt__") [.int n t, .ref y]) Q E s := by
  refine GQ.call_here F.slot_int_lt (typeIs_int s n t) F.entry_int_lt (F.args_int_lt_2 _ _) ?_
  obtain ⟨c, dd, dt, sl⟩ := oy
  cases hp
  obtain ⟨hh, gg, d, tt, os⟩ := s
  wp_walk using wpAny_loadPart' hy
  exact h
theorem int_cmp_le {Q : Value → Shared → Prop} (hy : s.heap.get? y = some oy) (hp : oy.data = .plain) (h : Q .notImplemented s) :
    wpAny (model prog w) A (call (.builtin "int.__le__") [.int n t, .ref y]) Q E s := by
  refine GQ.call_here F.slot_int_le (typeIs_int s n t) F.entry_int_le (F.args_int_le_2 _ _) ?_
  obtain ⟨c, dd, dt, sl⟩ := oy
  cases hp
  obtain ⟨hh, gg, d, tt, os⟩ := s
  wp_walk using wpAny_loadPart' hy
  exact h
theorem int_cmp_gt {Q : Value → Shared → Prop} (hy : s.heap.get? y = some oy) (hp : oy.data = .plain) (h : Q .notImplemented s) :
    wpAny (model prog w) A (call (.builtin "int.__gt__") [.int n t, .ref y]) Q E s := by
  refine GQ.call_here F.slot_int_gt (typeIs_int s n t) F.entry_int_gt (F.args_int_gt_2 _ _) ?_
  obtain ⟨c, dd, dt, sl⟩ := oy
  cases hp
  obtain ⟨hh, gg, d, tt, os⟩ := s
  wp_walk using wpAny_loadPart' hy
  exact h
theorem int_cmp_ge {Q : Value → Shared → Prop} (hy : s.heap.get? y = some oy) (hp : oy.data = .plain) (h : Q .notImplemented s) :
    wpAny (model prog w) A (call (.builtin "int.__ge__") [.int n t, .ref y]) Q E s := by
  refine GQ.call_here F.slot_int_ge (typeIs_int s n t) F.entry_int_ge (F.args_int_ge_2 _ _) ?_
  obtain ⟨c, dd, dt, sl⟩ := oy
  cases hp
  obtain ⟨hh, gg, d, tt, os⟩ := s
  wp_walk using wpAny_loadPart' hy
  exact h
end
/-- int op instance, declined -/
def IntDec (op : CmpOp) : Prop := ∀ {prog : Program} {w : World} {A : Around} {E : Value → Shared → Prop} {s : Shared} {y : Addr} {oy : Obj} {n : Int} {t : Tok} {Q : Option Value → Shared → Prop}, s.heap.get? y = some oy → oy.data = .plain → Q none s →
  wpAny (model prog w) A (tryCompare (.int n t) (cmpInfo op).2.1 (.ref y)) Q E s
theorem dec_eq : IntDec .Eq := fun hy hp h => wpAny_tryCompare_declines (typeIs_int _ _ _) F.slot_int_eq (int_cmp_eq hy hp ⟨rfl, h⟩)
theorem dec_ne : IntDec .NotEq := fun hy hp h => wpAny_tryCompare_declines (typeIs_int _ _ _) F.slot_int_ne (int_cmp_ne hy hp ⟨rfl, h⟩)
theorem dec_lt : IntDec .Lt := fun hy hp h => wpAny_tryCompare_declines (typeIs_int _ _ _) F.slot_int_lt (int_cmp_lt hy hp ⟨rfl, h⟩)
theorem dec_le : IntDec .LtE := fun hy hp h => wpAny_tryCompare_declines (typeIs_int _ _ _) F.slot_int_le (int_cmp_le hy hp ⟨rfl, h⟩)
theorem dec_gt : IntDec .Gt := fun hy hp h => wpAny_tryCompare_declines (typeIs_int _ _ _) F.slot_int_gt (int_cmp_gt hy hp ⟨rfl, h⟩)
theorem dec_ge : IntDec .GtE := fun hy hp h => wpAny_tryCompare_declines (typeIs_int _ _ _) F.slot_int_ge (int_cmp_ge hy hp ⟨rfl, h⟩)
def IntDecB (op : Operator) : Prop := ∀ {prog : Program} {w : World} {A : Around} {E : Value → Shared → Prop} {s : Shared} {y : Addr} {oy : Obj} {n : Int} {t : Tok} {Q : Option Value → Shared → Prop}, s.heap.get? y = some oy → oy.data = .plain → Q none s →
  wpAny (model prog w) A (tryMethod (.int n t) (PySem.dunder op.info.2) (.ref y)) Q E s
theorem dec_add : IntDecB .Add := by
  intro prog w A E s y oy n t Q hy hp h
  show wpAny (model prog w) A (tryMethod (.int n t) (PySem.dunder "add") (.ref y)) Q E s
  have hc : wpAny (model prog w) A (call (.builtin "int.__add__") [.int n t, .ref y]) (fun v s' => v = .notImplemented ∧ Q none s') E s := int_call_add hy hp ⟨rfl, h⟩
  exact wpAny_tryMethod_declines (name := PySem.dunder "add") (id := "int.__add__") (typeIs_int s n t) F.slot_int_add hc
theorem dec_sub : IntDecB .Sub := by
  intro prog w A E s y oy n t Q hy hp h
  show wpAny (model prog w) A (tryMethod (.int n t) (PySem.dunder "sub") (.ref y)) Q E s
  have hc : wpAny (model prog w) A (call (.builtin "int.__sub__") [.int n t, .ref y]) (fun v s' => v = .notImplemented ∧ Q none s') E s := int_call_sub hy hp ⟨rfl, h⟩
  exact wpAny_tryMethod_declines (name := PySem.dunder "sub") (id := "int.__sub__") (typeIs_int s n t) F.slot_int_sub hc
theorem dec_mul : IntDecB .Mult := by
  intro prog w A E s y oy n t Q hy hp h
  show wpAny (model prog w) A (tryMethod (.int n t) (PySem.dunder "mul") (.ref y)) Q E s
  have hc : wpAny (model prog w) A (call (.builtin "int.__mul__") [.int n t, .ref y]) (fun v s' => v = .notImplemented ∧ Q none s') E s := int_call_mul hy hp ⟨rfl, h⟩
  exact wpAny_tryMethod_declines (name := PySem.dunder "mul") (id := "int.__mul__") (typeIs_int s n t) F.slot_int_mul hc

section
variable {prog : Program} {w : World} {A : Around} {E : Value → Shared → Prop} {s : Shared} {K : PySem.W.Frag} {y C f g : Addr} {oy : Obj} {od : Option Obj} {n : Int} {t : Tok}
/-- n op y by y's def for the comparison turned round -/
theorem cmp_refl {op : CmpOp} {Q : Value → Shared → Prop} (hu : A.units < cLine) (Y : K.In s.heap) (I : PySem.W.InstAt s.heap y oy C od) (hp : oy.data = .plain) (dec : IntDec op)
    (hsub : PySem.W.subIn K (.ref C) (.type "int") = some false) (hr : PySem.W.findIn K (.ref C) (cmpInfo op).2.2 = some (some (.ref g))) (hg : PySem.W.isFn K (.ref g) = true)
    (h : wpAny (model prog w) A (call (.ref g) [.ref y, .int n t]) (PySem.W.CmpBack Q) E s) : wpAny (model prog w) A (richCompare op (.int n t) (.ref y)) Q E s := by
  have one : wpAny (model prog w) A (tryCompare (.ref y) (cmpInfo op).2.2 (.int n t)) (fun r s' => ∃ v, r = some v ∧ Q v s') E s := by
    unfold tryCompare
    refine wpAny_bind (PySem.W.ifBound_K Y I hr hg (wpAny_mono h (fun v s' hv => ?_) fun _ _ e => e))
    cases v <;> first | exact hv.elim | exact wpAny_pure ⟨_, rfl, hv⟩
  have h1 : oneThing? op (.int n t) (.ref y) = none := rfl
  have hne : (Value.type "int" != Value.ref C) = true := rfl
  unfold richCompare
  simp only [h1]
  refine wpAny_holding (wpAny_bind (wpAny_cRoomFor hu ?_))
  refine wpAny_bind ((PySem.W.Looks.of_pure rfl : PySem.W.Looks (model prog w) s.heap (typeOf (.int n t)) (.type "int")).here (wpAny_bind (I.type.here ?_)))
  rw [hne]
  simp only [if_true]
  refine wpAny_bind ((PySem.W.looks_subIn Y hsub).here ?_)
  simp only [Bool.false_eq_true, if_false]
  refine wpAny_bind (dec I.at_ hp ?_)
  simp only [Bool.not_false, if_true]
  refine wpAny_bind (wpAny_mono one (fun r s' z => ?_) fun _ _ e => e)
  obtain ⟨v, rfl, hq⟩ := z
  exact wpAny_pure hq
end
end OwnOps
end

-- OwnOps4
section
set_option Elab.async false
set_option linter.all false
set_option maxRecDepth 100000
namespace OwnOps
open PySem L2

section
variable {X : Cx} {CX : CXT} {C g f : Addr} {k : Nat} {fd : FuncData} {ps : List Str} {sp : Sp} {E : XK} {op : Operator} {T : String}

/-- the reading of n op y by y's def -/
def rRef2 (C : Addr) (sp : Sp) (E : XK) : R2 := fun x y H Q => ∃ (i : Int) (b dy : Addr) (fs : List (Str × V)), x = .int i ∧ y = .ref b ∧ H b = some (.ins C dy fs) ∧ sp [y, x] H Q E

theorem op_refl {nm : String} (hnm : op.info.2 = nm) (O : Op2 X.K C f nm) (hrf : PySem.W.findIn X.K (.ref C) (PySem.dunderR nm) = some (some (.ref g))) (hg : PySem.W.isFn X.K (.ref g) = true) (hl : fillsNumberSlot (.type "int") nm = pure true)
    (hsub : PySem.W.subIn X.K (.ref C) (.type "int") = some false) (dec : IntDecB op)
    (F : FnOk X.prog X.w X.K X.mg X.base CX k g fd ps sp) (hr : Room k X.A) (hb : Binds X.K fd ps []) (hx : Passes CX X E) : OpR X (binaryOp op) (rRef2 C sp E) := by
  subst hnm
  intro pins s σ H x y v u Q I rx ry h
  obtain ⟨i, b, dy, fs, rfl, rfl, hb', q⟩ := h
  obtain ⟨t, rfl⟩ := (show ∃ t, v = Value.int i t from rx)
  cases (show u = Value.ref b from ry)
  obtain ⟨od, J⟩ := inst_at I hb'
  refine refl_K I.kIn J (PySem.W.Looks.of_pure rfl) O.first O.at_ hrf hg (PySem.W.Looks.of_pure hl) hsub (fun _ Q' q' => dec J.at_ rfl q') ?_
  refine wpAny_mono (run_any (us := [.ref b, .int i t]) (vs := [.ref b, .int i]) F hr I.env0 hb hx I (.cons rfl (.cons ⟨t, rfl⟩ .nil)) q) (fun w s' z => ?_) fun _ _ e => e
  obtain ⟨z', H', I', rz, qz⟩ := id z
  exact back_of rz z

/-- x op y (a comparison), x of the class at C -/
theorem cmp_own {op : CmpOp} (hop : ∀ a b, compareOp op a b = richCompare op a b) (hs : PySem.W.findIn X.K (.ref C) (cmpInfo op).2.1 = some (some (.ref g))) (hf : PySem.W.isFn X.K (.ref g) = true)
    (F : FnOk X.prog X.w X.K X.mg X.base CX k g fd ps sp) (hr : Room k X.A) (hb : Binds X.K fd ps []) (hx : Passes CX X E)
    {R : V → Hp → Prop} (hR : ∀ {y : V} {H : Hp} {u : Value} {pins : List (Addr × Obj)} {σ : St} {s : Shared}, L2.Inv X pins σ H s → R y H → RelV y u → ∃ tb, PySem.W.Looks (model X.prog X.w) s.heap (typeOf u) tb ∧ PySem.W.notFirst X.K C tb = true) :
    OpR X (compareOp op) (rOwn2 C R sp E) := by
  intro pins s σ H x y v u Q I rx ry h
  obtain ⟨a, dx, fs, rfl, ha, hy, q⟩ := h
  cases (show v = Value.ref a from rx)
  obtain ⟨od, J⟩ := inst_at I ha
  obtain ⟨m, hF⟩ := I.fr
  obtain ⟨tb, ht, hn⟩ := hR I hy ry
  rw [hop]
  refine PySem.W.cmp_K (op := op) hr.units0 hF I.ok.mod.kin J ht hn hs hf ?_
  refine wpAny_mono (run_any (us := [.ref a, u]) (vs := [.ref a, y]) F hr I.env0 hb hx I (.cons rfl (.cons ry .nil)) q) (fun w s' z => ?_) fun _ _ e => e
  obtain ⟨z', H', I', rz, qz⟩ := id z
  exact back_of rz z
theorem looks_ins (hsame : PySem.W.notFirst X.K C (.ref C) = true) {y : V} {H : Hp} {u : Value} {pins : List (Addr × Obj)} {σ : St} {s : Shared} (I : L2.Inv X pins σ H s) (h : RIns C y H) (ry : RelV y u) :
    ∃ tb, PySem.W.Looks (model X.prog X.w) s.heap (typeOf u) tb ∧ PySem.W.notFirst X.K C tb = true := by
  obtain ⟨b, dy, fs, rfl, hb⟩ := h
  cases (show u = Value.ref b from ry)
  obtain ⟨od, J⟩ := inst_at I hb
  exact ⟨_, J.type, hsame⟩
theorem looks_int (hi : PySem.W.notFirst X.K C (.type "int") = true) {y : V} {H : Hp} {u : Value} {pins : List (Addr × Obj)} {σ : St} {s : Shared} (I : L2.Inv X pins σ H s) (h : RInt y H) (ry : RelV y u) :
    ∃ tb, PySem.W.Looks (model X.prog X.w) s.heap (typeOf u) tb ∧ PySem.W.notFirst X.K C tb = true := by
  obtain ⟨i, rfl⟩ := h
  obtain ⟨t, rfl⟩ := (show ∃ t, u = Value.int i t from ry)
  exact ⟨_, PySem.W.Looks.of_pure rfl, hi⟩

theorem cmp_refl2 {op : CmpOp} (hop : ∀ a b, compareOp op a b = richCompare op a b) (dec : IntDec op) (hs : PySem.W.findIn X.K (.ref C) (cmpInfo op).2.2 = some (some (.ref g))) (hf : PySem.W.isFn X.K (.ref g) = true)
    (hsub : PySem.W.subIn X.K (.ref C) (.type "int") = some false)
    (F : FnOk X.prog X.w X.K X.mg X.base CX k g fd ps sp) (hr : Room k X.A) (hb : Binds X.K fd ps []) (hx : Passes CX X E) : OpR X (compareOp op) (rRef2 C sp E) := by
  intro pins s σ H x y v u Q I rx ry h
  obtain ⟨i, b, dy, fs, rfl, rfl, hb', q⟩ := h
  obtain ⟨t, rfl⟩ := (show ∃ t, v = Value.int i t from rx)
  cases (show u = Value.ref b from ry)
  obtain ⟨od, J⟩ := inst_at I hb'
  rw [hop]
  refine cmp_refl hr.units0 I.kIn J rfl dec hsub hs hf ?_
  refine wpAny_mono (run_any (us := [.ref b, .int i t]) (vs := [.ref b, .int i]) F hr I.env0 hb hx I (.cons rfl (.cons ⟨t, rfl⟩ .nil)) q) (fun w s' z => ?_) fun _ _ e => e
  obtain ⟨z', H', I', rz, qz⟩ := id z
  exact back_of rz z

/-- one-place: what x's own def hands back -/
def rOwn1 (C : Addr) (sp : Sp) (E : XK) (R : V → Prop) : V → Hp → VK → Prop := fun x H Q => ∃ a dx fs, x = .ref a ∧ H a = some (.ins C dx fs) ∧ sp [x] H (fun z H' => R z ∧ Q z H') E
theorem neg_own (hs : PySem.W.findIn X.K (.ref C) "__neg__" = some (some (.ref g))) (hf : PySem.W.isFn X.K (.ref g) = true)
    (F : FnOk X.prog X.w X.K X.mg X.base CX k g fd ps sp) (hr : Room k X.A) (hb : Binds X.K fd ps []) (hx : Passes CX X E) : UnR X (unaryOp .USub) (rOwn1 C sp E fun _ => True) := by
  intro pins s σ H x v Q I rx h
  obtain ⟨a, dx, fs, rfl, ha, q⟩ := h
  cases (show v = Value.ref a from rx)
  obtain ⟨od, J⟩ := inst_at I ha
  obtain ⟨m, hF⟩ := I.fr
  refine PySem.W.ksp_neg hF I.ok.mod.kin J hs hf ?_
  refine wpAny_mono (run_any (us := [.ref a]) (vs := [.ref a]) F hr I.env0 hb hx I (.cons rfl .nil) q) (fun w s' z => ?_) fun _ _ e => e
  obtain ⟨z', H', I', rz, _, qz⟩ := z
  exact ⟨z', H', I', rz, qz⟩

open Builtin in
theorem abs_K {prog : Program} {w : World} {A : Around} {E : Value → Shared → Prop} {s : Shared} {K : PySem.W.Frag} {x C f : Addr} {ox : Obj} {od : Option Obj} {Q : Value → Shared → Prop} (Y : K.In s.heap) (I : PySem.W.InstAt s.heap x ox C od)
    (hs : PySem.W.findIn K (.ref C) "__abs__" = some (some (.ref f))) (hf : PySem.W.isFn K (.ref f) = true)
    (h : wpAny (model prog w) A.in1 (call (.ref f) [.ref x]) Q E s) : wpAny (model prog w) A (call (.builtin "abs") [.ref x]) Q E s := by
  refine Calls.call_function_entry PyProof.Rows.kind_abs PyProof.Rows.plain_abs PyProof.Rows.entry_abs (PyProof.Rows.args_abs _) ?_
  unfold Builtin.«abs»
  refine wpAny_bind (m := oneArg "abs" _) (wpAny_pure ?_)
  refine wpAny_bind (m := callSpecial? (.ref x) (Str.ofString "__abs__")) (PySem.W.special_fn Y I hs (beq_iff_eq.mp hf) (wpAny_mono h (fun r s' z => ?_) fun _ _ e => e))
  exact wpAny_pure ⟨_, rfl, z⟩

theorem room2 {k : Nat} {A : Around} (r : Room (k + 2) A) : Room k A.in1.in1 := (Room.in1 (r.in1))

theorem call_absO (hs : PySem.W.findIn X.K (.ref C) "__abs__" = some (some (.ref g))) (hf : PySem.W.isFn X.K (.ref g) = true)
    (F : FnOk X.prog X.w X.K X.mg X.base CX k g fd ps sp) (hr : Room (k + 1) X.A) (hb : Binds X.K fd ps []) (hx : Passes CX X E) : CallR X (.builtin "abs") (fun xs H Q => ∃ x, xs = [x] ∧ rOwn1 C sp E (fun _ => True) x H Q) := by
  intro pins s σ H xs us Q I rx h
  obtain ⟨x, rfl, a, dx, fs, rfl, ha, q⟩ := h
  obtain ⟨u, rfl, ru⟩ := vals1 rx
  cases (show u = Value.ref a from ru)
  obtain ⟨od, J⟩ := inst_at I ha
  refine abs_K I.kIn J hs hf ?_
  refine wpAny_mono (run_any (us := [.ref a]) (vs := [.ref a]) F hr.in1 I.env0.in1 hb hx I (.cons rfl .nil) q) (fun w s' z => ?_) fun _ _ e => e
  obtain ⟨z', H', I', rz, _, qz⟩ := z
  exact ⟨z', H', I', rz, qz⟩

def IsStr : V → Prop := fun z => ∃ y, z = .str y
theorem strback {Q : Value → Shared → Prop} {z : V} {u : Value} {s' : Shared} (hz : IsStr z) (r : RelV z u) (q : Q u s') : PySem.W.StrBack Q u s' := by
  obtain ⟨y, rfl⟩ := hz
  obtain ⟨t, rfl⟩ := (show ∃ t, u = Value.str y t from r)
  exact q
theorem call_reprO (hs : PySem.W.findIn X.K (.ref C) "__repr__" = some (some (.ref g))) (hf : PySem.W.isFn X.K (.ref g) = true)
    (F : FnOk X.prog X.w X.K X.mg X.base CX k g fd ps sp) (hr : Room (k + 1) X.A) (hb : Binds X.K fd ps []) (hx : Passes CX X E) : CallR X (.builtin "repr") (fun xs H Q => ∃ x, xs = [x] ∧ rOwn1 C sp E IsStr x H Q) := by
  intro pins s σ H xs us Q I rx h
  obtain ⟨x, rfl, a, dx, fs, rfl, ha, q⟩ := h
  obtain ⟨u, rfl, ru⟩ := vals1 rx
  cases (show u = Value.ref a from ru)
  obtain ⟨od, J⟩ := inst_at I ha
  obtain ⟨m, hF⟩ := I.fr
  refine PySem.W.repr_K hr.in1.units0 hF I.ok.mod.kin J hs hf ?_
  refine wpAny_mono (run_any (us := [.ref a]) (vs := [.ref a]) F hr.in1 I.env0.in1 hb hx I (.cons rfl .nil) q) (fun w s' z => ?_) fun _ _ e => e
  obtain ⟨z', H', I', rz, hz, qz⟩ := z
  exact strback hz rz ⟨z', H', I', rz, qz⟩
theorem call_strO (hs : PySem.W.findIn X.K (.ref C) "__str__" = some (some (.ref g))) (hf : PySem.W.isFn X.K (.ref g) = true)
    (F : FnOk X.prog X.w X.K X.mg X.base CX k g fd ps sp) (hr : Room (k + 2) X.A) (hb : Binds X.K fd ps []) (hx : Passes CX X E) : CallR X (.type "str") (fun xs H Q => ∃ x, xs = [x] ∧ rOwn1 C sp E IsStr x H Q) := by
  intro pins s σ H xs us Q I rx h
  obtain ⟨x, rfl, a, dx, fs, rfl, ha, q⟩ := h
  obtain ⟨u, rfl, ru⟩ := vals1 rx
  cases (show u = Value.ref a from ru)
  obtain ⟨od, J⟩ := inst_at I ha
  refine PySem.W.kso_call (room2 hr).units0 I.kIn J hs hf ?_
  refine wpAny_mono (run_any (us := [.ref a]) (vs := [.ref a]) F (room2 hr) I.env0.in1.in1 hb hx I (.cons rfl .nil) q) (fun w s' z => ?_) fun _ _ e => e
  obtain ⟨z', H', I', rz, hz, qz⟩ := z
  exact strback hz rz ⟨z', H', I', rz, qz⟩

open Builtin in
theorem bool_K {prog : Program} {w : World} {A : Around} {E : Value → Shared → Prop} {s : Shared} {K : PySem.W.Frag} {x C f : Addr} {ox : Obj} {od : Option Obj} {Q : Value → Shared → Prop} {m : Str → Option Value} {h₀ : Heap} {L : Addr} (F : PyProof.Rows.Fr h₀ L s.heap m) (Y : K.In h₀) (I : PySem.W.InstAt s.heap x ox C od)
    (hs : PySem.W.findIn K (.ref C) "__bool__" = some (some (.ref f))) (hf : PySem.W.isFn K (.ref f) = true)
    (h : wpAny (model prog w) A.in1.in1 (call (.ref f) [.ref x]) (PySem.W.BoolBack fun b s' => Q (.bool b) s') E s) : wpAny (model prog w) A (call (.type "bool") [.ref x]) Q E s := by
  refine callType_codes (T := "bool") (Bi := Builtin.«object.__init__») (Q₁ := fun r s₁ => ∃ y, r = .bool y ∧ Q r s₁) PySem.F.called_bool (PySem.F.typeCall_bool_1 _) PySem.F.entry_object_init ?_ ?_
  · refine codeAny_of_tree ?_
    show wpAny _ A.in1.in1 (do checkBuiltinCall "bool.__new__" ⟨[.type "bool", .ref x], []⟩; again (.builtin "bool.__new__" ⟨[.type "bool", .ref x], []⟩)) _ _ s
    refine wpAny_bind (wpAny_of_eq (PySem.F.newCall_bool_1 _) (wpAny_pure ⟨plainId_quiet (by decide +kernel) _, codeAny_builtin PySem.F.entry_bool_new ?_⟩))
    rw [Around.under_plainId (by decide +kernel) _]
    have key : wpAny (model prog w) A.in1.in1 (truthy (.ref x)) (fun b s₁ => Q (.bool b) s₁) E s := PySem.W.truthy_K F Y I hs hf h
    have f1 := PySem.F.conv_sub_bool
    obtain ⟨hp, gg, d, tk, os⟩ := s
    repeat (any_goals (first | assumption | (with_reducible refine wpAny_bind (wpAny_mono key (fun b s1 z => ?_) fun _ _ e => e)) | wp_step))
    all_goals first | exact ⟨_, rfl, z⟩ | exact ⟨_, rfl, _, rfl, z⟩ | skip
  · rintro obj s₁ ⟨y, rfl, hq⟩
    exact ⟨typeIs_bool _ _, PySem.F.args_object_init_2 _ _, object_init_meets PySem.F.called_bool.init.lookup PySem.F.called_bool.made (by decide) prog w A.in1 _ s₁ ⟨typeIs_bool _ _, rfl, hq⟩⟩
end
end OwnOps
end

-- OwnOps5
section
set_option Elab.async false
set_option linter.all false
set_option maxRecDepth 100000
namespace OwnOps
open PySem L2

section
variable {prog : Program} {w : World} {A : Around} {E : Value → Shared → Prop} {s : Shared} {K : PySem.W.Frag} {x C g : Addr} {ox : Obj} {od : Option Obj} {u : Value} {T : String}
/-- x op u by x's own def, u of a built-in type that is told by a look -/
theorem left_K {op : Operator} {fo ro rc : Option Value} {Q : Value → Shared → Prop} (Y : K.In s.heap) (I : PySem.W.InstAt s.heap x ox C od)
    (ht : PySem.W.Looks (model prog w) s.heap (typeOf u) (.type T)) (hc : PySem.W.selfFirst K C = true)
    (hs : PySem.W.findIn K (.ref C) (PySem.dunder op.info.2) = some (some (.ref g))) (hg : PySem.W.isFn K (.ref g) = true)
    (hrc : PySem.W.findIn K (.ref C) (PySem.dunderR op.info.2) = some rc) (hp : rc = none ∨ ∃ q : Addr, rc = some (.ref q))
    (hfo : PySem.W.findIn K (.type T) (PySem.dunder op.info.2) = some fo) (hro : PySem.W.findIn K (.type T) (PySem.dunderR op.info.2) = some ro) (hsub : PySem.W.subIn K (.type T) (.ref C) = some false)
    (h : wpAny (model prog w) A (call (.ref g) [.ref x, u]) (PySem.W.CmpBack Q) E s) : wpAny (model prog w) A (binaryOp op (.ref x) u) Q E s := by
  obtain ⟨dat, tl, hcd, hmro⟩ := PySem.W.ksp_first hc
  rcases hi : op.info with ⟨sy, nam⟩
  rw [hi] at hs hrc hfo hro
  dsimp only at hs hrc hfo hro
  have one := PySem.W.ksp_try Y I hs hg h
  obtain ⟨hh, gg, d, tt, os⟩ := s
  have M1 : PySem.W.Looks (model prog w) hh (typeOf (.ref x)) (.ref C) := I.type
  have M3 : PySem.W.Looks (model prog w) hh (fillsNumberSlot (.ref C) nam) true := PySem.W.fills_K Y hcd hmro hs
  have M4 : PySem.W.Looks (model prog w) hh (fillsNumberSlot (.type T) nam) ((fo.isSome && !isSeqSlot fo) || (ro.isSome && !isSeqSlot ro)) := PySem.W.ksp_fillsT Y hfo hro
  have M5 : PySem.W.Looks (model prog w) hh (isSubtype (.type T) (.ref C)) false := PySem.W.looks_subIn Y hsub
  have M6 : PySem.W.Looks (model prog w) hh (numberSlotInPython (.ref C) nam) true := PySem.W.ksp_inPy Y hs hrc hp
  have M7 : PySem.W.Looks (model prog w) hh (numberSlotInPython (.type T) nam) false := PySem.W.Looks.of_pure rfl
  have M8 : PySem.W.Looks (model prog w) hh (typeLookup (.type T) (PySem.dunderR nam)) ro := PySem.W.looks_findIn Y hro
  generalize ((fo.isSome && !isSeqSlot fo) || (ro.isSome && !isSeqSlot ro)) = fills at M4
  have differ : (Value.ref C == Value.type T) = false := Bool.eq_false_iff.mpr fun q => by cases beq_iff_eq.mp q
  simp only [binaryOp, hi]
  refine wpAny_holding (wpAny_bind ?_)
  unfold binaryOp1
  refine wpAny_bind (M1.at (wpAny_bind (ht.at (wpAny_bind (M3.at ?_)))))
  simp only [differ, Bool.false_eq_true, if_false]
  cases fills
  all_goals
    ksp_lk
    refine wpAny_mono one (fun r s' back => ?_) fun _ _ e => e
    obtain ⟨v, rfl, hq⟩ := back
    ksp_lk
    exact hq
end
end OwnOps
end

-- OwnNe
section
set_option Elab.async false
set_option linter.all false
set_option maxRecDepth 100000
/-! != of two lists that are equal item by item, by an own == too. -/
namespace OwnNe
open PySem PySem.SeqAt GQ
open AutoSeq1 (wpAny_loadPart')
open MeetsSeq MeetsSeq2 MeetsSeq3 SeqRoads2
section
variable {prog : Program} {w : World} {A : Around} {R : Result → Shared → Prop} {E : Value → Shared → Prop}
/-- the loop over the items, from i on: all are equal, so the answer is no -/
theorem loopN (l b : Addr) (N : Nat) (I : Nat → Shared → Prop) (hl : ListI prog w A (fun e s' => R (.error e) s') l b N I) (fin : ∀ s, I N s → R (.ok (.ret (.bool false))) s) :
    ∀ (k i : Nat), N - i = k → i ≤ N → ∀ s, I i s → wpAny (model prog w) A.in1 (Builtin.«list.__eq__.loop» ⟨[.ref l, .ref b, rawInt i, rawInt 3], []⟩) (FinOf prog w A R) (fun e s' => R (.error e) s') s
  | 0, i, hk, hi, s, h => by
    obtain ⟨xs, ys, n, n2, hl1, hb1, z1, z2, _⟩ := hl _ _ h
    have last : i = N := by omega
    have done : R (.ok (.ret (.bool false))) s := fin s (last ▸ h)
    obtain ⟨hp, g, d, tk, os⟩ := s
    wp_walk using wpAny_loadPart' hl1, wpAny_loadPart' hb1
    have no1 : xs[((i : Nat) : Int).toNat]? = none := by simp; omega
    have no2 : ys[((i : Nat) : Int).toNat]? = none := by simp; omega
    rw [no1, no2]
    wp_walk using wpAny_loadPart' hl1, wpAny_loadPart' hb1
    show R (.ok (.ret (.bool (xs.size != ys.size)))) _
    rw [z1, z2]
    simpa using done
  | k + 1, i, hk, hi, s, h => by
    obtain ⟨xs, ys, n, n2, hl1, hb1, z1, z2, one⟩ := hl _ _ h
    have lt1 : i < xs.size := by omega
    have lt2 : i < ys.size := by omega
    have here := one lt1 lt2
    obtain ⟨hp, g, d, tk, os⟩ := s
    wp_walk using wpAny_loadPart' hl1, wpAny_loadPart' hb1
    have is1 : xs[((i : Nat) : Int).toNat]? = some xs[i] := by simp [lt1]
    have is2 : ys[((i : Nat) : Int).toNat]? = some ys[i] := by simp [lt2]
    have up : ((i : Int) + 1) = ((i + 1 : Nat) : Int) := by omega
    rw [is1, is2]
    refine wpAny_bind (wpAny_mono here (fun r s2 q => ?_) fun _ _ x => x)
    obtain ⟨hr, q⟩ := q
    subst hr
    have rest := loopN l b N I hl fin k (i + 1) (by omega) (by omega) s2 q
    obtain ⟨hp2, g2, d2, tk2, os2⟩ := s2
    wp_walk
    rw [up]
    exact ⟨plainId_quiet plain_eq_loop _, codeAny_builtin entry_eq_loop (by rw [Around.under_plainId plain_eq_loop _] <;> exact rest)⟩
theorem listN (l b : Addr) (N : Nat) (I : Nat → Shared → Prop) (hl : ListI prog w A (fun e s' => R (.error e) s') l b N I) (fin : ∀ s, I N s → R (.ok (.ret (.bool false))) s) {s : Shared} (h : I 0 s) :
    wpAny (model prog w) A.in1 (Builtin.«list.__ne__» ⟨[.ref l, .ref b], []⟩) (FinOf prog w A R) (fun e s' => R (.error e) s') s := by
  obtain ⟨xs, ys, n, n2, hl1, hb1, z1, z2, _⟩ := hl _ _ h
  have rest := loopN (A := A) (R := R) l b N I hl fin _ 0 rfl (Nat.zero_le _) s h
  obtain ⟨hp, g, d, tk, os⟩ := s
  have sub := AutoSeq1.sub_list_list
  have same : ¬ (xs.size != ys.size) = true := by simp [z1, z2]
  wp_walk using wpAny_loadPart' hl1, wpAny_loadPart' hb1
  exact ⟨plainId_quiet plain_eq_loop _, codeAny_builtin entry_eq_loop (by rw [Around.under_plainId plain_eq_loop _] <;> exact rest)⟩
theorem rcN {l b : Addr} {N : Nat} {Q : Value → Shared → Prop} {s : Shared} (hu : A.units < cLine) (I : Nat → Shared → Prop) (hl : ListI prog w A E l b N I)
    (fin : ∀ s, I N s → Q (.bool false) s) (h : I 0 s) : wpAny (model prog w) A (richCompare .NotEq (.ref l) (.ref b)) Q E s := by
  obtain ⟨xs, ys, n, n2, hl1, hb1, _, _, _⟩ := hl _ _ h
  refine wpAny_richCompare_same_room (op := .NotEq) ⟨_, hl1, rfl⟩ ⟨_, hb1, rfl⟩ F.slot_list_ne (call_here F.slot_list_ne ⟨_, hl1, rfl⟩ F.entry_list_ne (F.args_list_ne_2 _ _) ?_) hu
  exact listN (R := wants (fun v s' => v ≠ .notImplemented ∧ Q v s') E) l b N I hl (fun s' q => ⟨(fun x => nomatch x), fin s' q⟩) h
end
open L2
/-- x != y of two lists, item by item equal -/
def rNeG (D : Eqv) : R2 := fun x y H Q => DList D x y H ∧ ∀ H', Ext H H' → Q (.bl false) H'
theorem op_neG {X : Cx} {n : Nat} {D : Eqv} (hD : Mon D) (h : EqG X n D) (hr : Room (n + 1) X.A) : OpR X (compareOp .NotEq) (rNeG D) := by
  intro pins s σ H x y v u Q I rx ry hq
  obtain ⟨⟨a, b, xs, ys, rfl, rfl, ha, hb, p⟩, q⟩ := hq
  cases rx
  cases ry
  have sb : Sub X (n + 1) X.A := ⟨hr, rfl⟩
  show wpAny (model X.prog X.w) X.A (richCompare .NotEq (.ref a) (.ref b)) (EP X pins σ Q) X.xe s
  refine rcN (N := xs.length) hr.units0 (fun _ s' => LoopI X pins σ H s') (fun i s' z => ?_) (fun s' ⟨H', I', e⟩ => ⟨.bl false, H', I', rfl, q H' e⟩) ⟨H, I, Ext.rfl'⟩
  obtain ⟨H1, I1, e1⟩ := id z
  obtain ⟨zz, its, k, r, e⟩ := I1.hok a _ (e1 _ _ ha)
  obtain ⟨zz2, its2, k2, r2, e2⟩ := I1.hok b _ (e1 _ _ hb)
  refine ⟨its.toArray, its2.toArray, k, k2, e, e2, by rw [List.size_toArray, ← r.length], by rw [List.size_toArray, ← r2.length, ← p.1], fun h1 h2 => ?_⟩
  exact turnG hD h sb p r r2 i h1 h2 s' z
/-- the same thing -/
def DSame : Eqv := fun x y _ => x = y ∧ ∃ a, x = .ref a
theorem mon_same : Mon DSame := fun _ _ _ _ _ d => d
theorem eqG_same {X : Cx} {n : Nat} : EqG X n DSame := by
  intro A pins s σ H x y u v sb I rx ry d
  obtain ⟨rfl, a, rfl⟩ := d
  cases rx
  cases ry
  exact SeqAt.EqAt.same (A := A) (s := s) (.ref a) X.prog X.w X.xe _ ⟨rfl, H, I, Ext.rfl'⟩
end OwnNe
end

-- OwnNe2
section
set_option Elab.async false
set_option linter.all false
set_option maxRecDepth 100000
namespace OwnNe
open PySem L2
def rNeEmp : R2 := fun x y H Q => ∃ l b xs, x = .ref l ∧ y = .ref b ∧ H l = some (.lst xs) ∧ H b = some (.lst []) ∧ Q (.bl (!xs.isEmpty)) H
/-- a list != [] -/
theorem op_neEmp {X : Cx} (hu : X.A.units < cLine) : OpR X (compareOp .NotEq) rNeEmp := by
  intro pins s σ H x y v u Q I rx ry h
  obtain ⟨l, b, xs, rfl, rfl, hl, hb, q⟩ := h
  cases rx
  cases ry
  obtain ⟨_, its, n, r, _, e⟩ := I.lstM hl
  obtain ⟨_, its2, n2, r2, _, e2⟩ := I.lstM hb
  cases r2
  have L1 : s.heap.IsList l its.toArray := ⟨_, e, rfl, n, rfl⟩
  have L2' : s.heap.IsList b ([] : List Value).toArray := ⟨_, e2, rfl, n2, rfl⟩
  show wpAny (model X.prog X.w) X.A (richCompare .NotEq (.ref l) (.ref b)) (EP X pins σ Q) X.xe s
  cases r with
  | nil => exact PySem.SeqAt.RcNeAt.lists (e := fun _ => true) L1 L2' rfl hu (fun j h1 _ => absurd h1 (by simp)) X.prog X.w X.xe _ ⟨.bl false, H, I, rfl, q⟩
  | cons a r => exact PySem.SeqAt.RcNeAt.lists_lengths L1 L2' (by simp) hu X.prog X.w X.xe _ ⟨.bl true, H, I, rfl, q⟩
end OwnNe
end

-- OwnStat
section
set_option Elab.async false
set_option linter.all false
set_option maxRecDepth 100000
/-! C.m(..), m a staticmethod of the class at C. -/
namespace OwnOps
open PySem L2
structure SMet (K : PySem.W.Frag) (C : Addr) (m : Str) (p f : Addr) : Prop where
  rd : ∃ mc, PySem.W.typeIn K (.ref C) = some mc ∧ PySem.W.readsIn K C mc = true ∧ PySem.W.findCls K (.ref C) mc m = some (.get (.builtin "staticmethod.__get__") (.ref p) .none (.ref C))
  ga : PySem.W.specialIn K (.ref C) "__getattribute__" = some (some (.builtin "type.__getattribute__"))
  rc : ∃ rest, PySem.W.recIn K p "staticmethod" = some (.ref f :: rest)
  kp : PySem.W.keepIn K (.ref f) = true
def tSM (C : Addr) (sp : Sp) (E : XK) (ta : TE) (t : TA) : TE := fun σ H Q => ta σ H fun x H1 => x = .ref C ∧ t σ H1 fun vs H2 => sp vs H2 Q E
section
variable {X : Cx} {CX : CXT} {C p f : Addr} {k : Nat} {fd : FuncData} {ps : List Str} {sp : Sp} {E : XK} {m : Str} {o e : Expr} {es : List Expr} {apos pos : Pos} {ta : TE} {t : TA}
theorem pe_smeth {pl : Sem Bool} (he : PE X o ta) (c : SMet X.K C m p f) (F : FnOk X.prog X.w X.K X.mg X.base CX k f fd ps sp) (hr : Room k X.A) (hb : L2.Binds X.K fd ps []) (hx : Passes CX X E) (ha : PA X (e :: es) t)
    (hst : starEach (e :: es) X.env = (false, eval e X.env) :: starEach es X.env := by rfl) (hpl : (backTo pos (starEach es X.env)).any (·.1) = false := by rfl)
    (ht : eval (.Call (.Attribute o m apos) (e :: es) [] pos) X.env = (do
      let ov ← eval o X.env
      standAt apos.atName
      let (f, first) ← holding [ov] (getMethod ov m pl)
      callWith pos f first (backTo pos (starEach (e :: es) X.env)) (backToKw pos (keywordEach [] X.env))) := by rfl) :
    PE X (.Call (.Attribute o m apos) (e :: es) [] pos) (tSM C sp E ta t) := by
  refine ⟨fun pins s σ H Q I h => ?_⟩
  refine PySem.W.methodCall_KW (pl := pl) (thn (he.run pins s σ H _ I h) fun u s1 ⟨x, H1, I1, rx, ex, q⟩ => ?_) ht
  subst ex
  obtain rfl : u = Value.ref C := rx
  obtain ⟨m0, hF⟩ := I1.fr
  obtain ⟨mc, h1, h2, h3⟩ := c.rd
  obtain ⟨rest, h4⟩ := c.rc
  refine PySem.W.method_of_cls hF I1.ok.mod.kin c.ga (PySem.W.cls_sm hF I1.ok.mod.kin h1 h2 h3 h4 rfl ?_)
  have I2 : L2.Inv X pins σ H1 { s1 with toks := s1.toks + 1 } := I1.tok _
  refine PySem.W.callWith_K (h₀ := X.base) I2.ok.mod.kin c.kp (thn (ha.run pos pins _ σ H1 _ I2 q) fun us s3 hh => ?_) hst hpl
  obtain ⟨vs, H3, I3, r3, q3⟩ := hh
  refine ⟨I3.kIn, ?_⟩
  exact run_any F hr I3.env0 hb hx I3 r3 q3
end
end OwnOps
end

-- GivErr
section
set_option Elab.async false
set_option linter.all false
set_option maxRecDepth 100000
set_option maxHeartbeats 2000000
/-! An own error class, over any of three built-in ones, that keeps its one argument in the field `given`. -/
namespace PySem
namespace Giv
open PySem.W PySem.Calls PyProof.Rows PySem.HandSPX Builtin Builtin.ObjectAttr
/-- own classes, then the given tail -/
def tailIs (bt : List Value) : List Value → Bool
  | .ref _ :: r => tailIs bt r
  | l => l == bt
theorem tail_cases (bt : List Value) : ∀ l : List Value, tailIs bt l = true → (∃ c r, l = .ref c :: r ∧ tailIs bt r = true) ∨ l = bt := fun l e => by
  cases l with
  | nil => exact .inr (beq_iff_eq.mp e)
  | cons a r => cases a <;> first | exact .inl ⟨_, _, rfl, e⟩ | exact .inr (beq_iff_eq.mp e)
theorem tail_pass {bt : List Value} (hb : ∀ self, refuseLoop self "__setattr__" bt = pure ()) (self : Value) : ∀ l : List Value, tailIs bt l = true → refuseLoop self "__setattr__" l = pure () := fun l => by
  induction l with
  | nil => intro e; rcases tail_cases bt _ e with ⟨_, _, q, _⟩ | q; cases q; rw [q]; exact hb self
  | cons a r ih =>
    intro e
    rcases tail_cases bt (a :: r) e with ⟨c, r', q, h⟩ | q
    · cases q; rw [refuseLoop_ref]; exact ih h
    · rw [q]; exact hb self
theorem tail_has {bt : List Value} (Y : String) : ∀ l : List Value, tailIs bt l = true → l.contains (.type Y) = bt.contains (.type Y) := fun l => by
  induction l with
  | nil => intro e; rcases tail_cases bt _ e with ⟨_, _, q, _⟩ | q; cases q; rw [q]
  | cons a r ih =>
    intro e
    rcases tail_cases bt (a :: r) e with ⟨c, r', q, h⟩ | q
    · cases q; rw [List.contains_cons, ih h]; rfl
    · rw [q]
/-- what is used of the built-in base -/
structure BaseOk (B newId initId : String) (bt : List Value) : Prop where
  facts : ExcBaseFacts B newId initId bt
  pass : ∀ self, refuseLoop self "__setattr__" bt = pure ()
  obj : bt.contains (.type "object") = true
theorem ok_VE : BaseOk "ValueError" "ValueError.__new__" "ValueError.__init__" [.type "ValueError", .type "Exception", .type "BaseException", .type "object"] :=
  ⟨F.excBase_ValueError, fun self => F.store_ValueError.passes self, by decide +kernel⟩
theorem ok_ZD : BaseOk "ZeroDivisionError" "ZeroDivisionError.__new__" "ZeroDivisionError.__init__" [.type "ZeroDivisionError", .type "ArithmeticError", .type "Exception", .type "BaseException", .type "object"] :=
  ⟨F.excBase_ZeroDivisionError, fun self => F.store_ZeroDivisionError.passes self, by decide +kernel⟩

section
variable {prog : Program} {w : World} {A : Around} {E : Value → Shared → Prop} {R : Result → Shared → Prop} {hp : Heap} {g : Array GenState} {d : Drawn} {t : Nat} {os : OsState}
/-- self.name = v on a new exception -/
theorem osa_giv {K : W.Frag} {name : Str} {tk : Tok} {v : Value} {x C : Addr} {fv : Array Value} {cd : ClassData} {bt bm : List Value} (hb : ∀ self, refuseLoop self "__setattr__" bt = pure ()) (hbo : bt.contains (.type "object") = true)
    (Y : K.In hp) (hx : hp.get? x = some { cls := .ref C, data := .fields fv }) (hcd : W.clsIn K C = some cd) (hm : cd.mro = .ref C :: bm) (htl : tailIs bt bm = true) (hh : cd.hasDict = true) (hno : W.findIn K (.ref C) name = some none)
    (fin : ∀ h' tk' dx, (∀ b o, b ≠ x → hp.get? b = some o → h'.get? b = some o) → hp.objs.size ≤ dx → dx ≠ x → h'.get? x = some { cls := .ref C, dict := some dx, data := .fields fv } →
      h'.Ns1 dx (fun y => if y = name then some v else none) → R (.ok (.ret .none)) ⟨h', g, d, tk', os⟩) :
    codeAny (model prog w) A (.call (.builtin "object.__setattr__") ⟨[.ref x, .str name tk, v], []⟩) R ⟨hp, g, d, t, os⟩ := by
  have J : W.InstAt hp x { cls := .ref C, data := .fields fv } C none := ⟨hx, rfl, rfl, trivial⟩
  have SO := F.store_object
  have htail : tailIs bt cd.mro = true := by rw [hm]; exact htl
  have hob2 : cd.mro.contains (.type "object") = true := by rw [tail_has "object" _ htail]; exact hbo
  have hemp : cd.mro.isEmpty = false := by rw [hm]; rfl
  have apart : x ≠ hp.objs.size := Nat.ne_of_lt (Heap.lt_size hx)
  have Lsub : W.Looks (model prog w) hp (isInstance (.ref x) (.type "object")) true :=
    J.type.andThen (W.looks_mroIn Y (by unfold W.mroIn; rw [hcd, Option.bind_some, if_neg (by rw [hemp]; decide), hob2]))
  refine codeAny_call_builtin SO.slot.plain SO.entry (@W.check_slot (model prog w) _ _ ⟨hp, g, d, t, os⟩ "object.__setattr__" "object" "__setattr__" (.ref x)
    [.str name tk, v] [] _ SO.kind SO.split Lsub (SO.args (.ref x) (.str name tk) v) ?_)
  have Lmro : W.Looks (model prog w) hp (mroOf (.ref C)) cd.mro := (W.looks_clsIn Y hcd).andThen .now
  have Lno : W.Looks (model prog w) hp (storeTaker? none) none := .now
  have Lcd : W.Looks (model prog w) hp (classData C) cd := W.looks_clsIn Y hcd
  rw [W.osa_eq, refuse_eq]
  refine wpAny_bind (wpAny_bind (J.type.at (wpAny_bind (Lmro.at ?_))))
  rw [tail_pass hb _ _ htail]
  refine wpAny_pure (wpAny_bind (J.type.at (wpAny_bind ((W.looks_findIn Y hno).at (wpAny_bind (Lno.at ?_))))))
  show wpAny _ _ (storeInOwnDict (.ref x) (.ref C) (.str name tk) name v false) _ _ _
  obtain ⟨c1, c2, c3, c4, c5, c6, c7, c8, c9, c10, c11⟩ := cd
  dsimp only at hh
  subst hh
  unfold storeInOwnDict ownDictForStores
  repeat (first | (with_reducible refine store_in_new ?_ ?_) | (with_reducible refine wpAny_loadPart_at hx ?_) | (with_reducible refine Lcd.at ?_) | wp_step)
  · exact ⟨_, #[], _, (Heap.get?_update_ne _ _ _ _ apart.symm).trans (Heap.get?_push_at rfl rfl), rfl, fun e he => absurd he (by simp), fun _ => rfl⟩
  · intro h' tk' hn' hs
    have hx1 : (hp.push { cls := .type "dict", data := .dict #[] }).get? x = some { cls := .ref C, data := .fields fv } := Heap.get?_push_of_some _ hx
    refine fin h' tk' hp.objs.size (fun b o hb ho => ?_) (Nat.le_refl _) apart.symm ?_ hn'
    · exact (hs.2 b (Nat.ne_of_lt (Heap.lt_size ho))).trans ((Heap.get?_update_ne _ _ _ _ hb).trans (Heap.get?_push_of_some _ ho))
    · exact (hs.2 x apart).trans (Heap.get?_update_self _ hx1 rfl)
end

/-! ### the text of __init__ -/
def gA (p1 p2 : Pos) : Arguments := { posonlyargs := [], args := [{ arg := "self", annotation := none, pos := p1 }, { arg := "given", annotation := none, pos := p2 }], vararg := none, kwonlyargs := [], kw_defaults := [], kwarg := none, defaults := [] }
def gB (q1 q2 q3 q4 : Pos) : List Stmt := [.Assign [.Attribute (.Name "self" q1) "given" q2] (.Name "given" q3) q4]
def gS : Scope := { kind := .function, names := [(PySem.Str.ofString "self", .local), (PySem.Str.ofString "given", .local)], isGenerator := false, isCoroutine := false, more := [] }
/-- what the written part says of the class called cn, at C, and of its __init__, at fI -/
structure ErrTxt (K : Frag) (mg : Str → Option Value) (cn qn : Str) (newId : String) (bt : List Value) (C fI : Addr) : Prop where
  gC : mg cn = some (.ref C)
  cls : ∃ nm q N bs bm sn sub ab col dd k0 k1 k2 k3 k5, K.lookup C = some (excClassObj nm q C N bs bm true sn sub ab col dd k0 k1 k2 k3 k5 newId) ∧ tailIs bt bm = true
  sa : findIn K (.ref C) "__setattr__" = some (some (.builtin "object.__setattr__"))
  ga : findIn K (.ref C) "__getattribute__" = some (some (.builtin "BaseException.__getattribute__"))
  gg : findIn K (.ref C) "__getattr__" = some none
  noN : findIn K (.ref C) "given" = some none
  iC : findIn K (.ref C) "__init__" = some (some (.ref fI))
  tC : typeIn K (.ref fI) = some (.type "function")
  kC : keepIn K (.ref C) = true
  exC : subIn K (.ref C) (.type "BaseException") = some true
  tyC : typeIn K (.ref C) = some (.type "type")
  hdC : hasDictIn K C = true
  te : exmOne K (.ref C) (.ref C) = some true
  fn : ∃ (oc : Value) (od : Option Addr) (doc pm : Value) (an : Option Addr) (cdv ct : Value) (osl : Array (Option Value)) (p1 p2 q1 q2 q3 q4 : Pos),
    K.lookup fI = some ⟨oc, od, .func (fnOf "__init__" qn (gA p1 p2) (gB q1 q2 q3 q4) gS .none .none doc pm an cdv ct), osl⟩ ∧ codeIn K cdv qn = true
theorem one_fits (v : Value) : [v].length ≤ sizeLine := by
  rw [sizeLine_eq]
  exact (by decide : 1 ≤ 16777216)
theorem ldG {M : Model} {s : Shared} {name : Str} {scope : Scope} {L a : Addr} {cd : Value} {m : Str → Option Value} {x : Str} {pos : Pos} {v : Value} {Q : Value → Shared → Prop} {A : Around} {E : Value → Shared → Prop} (hn : s.heap.Ns L m) (hv : m x = some v) (h : Q v s)
    (hk : scope.kind = .function := by rfl) (hl : (envOfC name scope L a cd).kindOf x = some .local := by rfl) (hd : (x == ("__debug__" : Str)) = false := by decide) :
    wpAny M A (eval (.Name x pos) (envOfC name scope L a cd)) Q E s := wpAny_Name (wpAny_loadName_local hk hl hn hv h) hd
/-- what __init__ leaves -/
structure GivEnd (h h' : Heap) (x C dx t1 : Addr) (v : Value) : Prop where
  keep : ∀ b o, b ≠ x → h.get? b = some o → h'.get? b = some o
  obj : h'.get? x = some { cls := .ref C, dict := some dx, data := .fields #[.ref t1, .none, .none, .none, .bool false, .none] }
  dbig : h.objs.size ≤ dx
  dne : dx ≠ x
  ns : h'.Ns1 dx (fun y => if y = "given" then some v else none)
/-- a made one -/
structure GivMade (h h' : Heap) (e C d : Addr) (v : Value) : Prop where
  keep : ∀ b o, h.get? b = some o → h'.get? b = some o
  new : h.objs.size ≤ e
  obj : ∃ oe vs, h'.get? e = some oe ∧ oe.cls = .ref C ∧ oe.dict = some d ∧ oe.data = .fields vs ∧ vs[1]? = some .none
  dbig : h.objs.size ≤ d
  dne : d ≠ e
  ns : h'.Ns1 d (fun y => if y = "given" then some v else none)
section
variable {prog : Program} {w : World} {A : Around} {E : Value → Shared → Prop} {R : Result → Shared → Prop} {s : Shared} {K : Frag} {mg : Str → Option Value} {C fI : Addr} {cn qn : Str} {B newId initId : String} {bt : List Value}
theorem giv_init (Z : BaseOk B newId initId bt) (T : ErrTxt K mg cn qn newId bt C fI) {x t0 : Addr} {v : Value} (X : K.In s.heap) (hlim : s.heap.NoLimit) (hx : s.heap.get? x = some (excO C t0)) (hroom : A.depth < recursionLimit)
    (hq : ∀ h' tk dx, GivEnd s.heap h' x C dx t0 v → R (.ok (.ret .none)) { s with heap := h', toks := tk }) :
    codeAny (model prog w) A (.call (.ref fI) ⟨[.ref x, v], []⟩) R s := by
  obtain ⟨oc, od, doc, pm, an, cdv, ct, osl, p1, p2, q1, q2, q3, q4, ho, hcd⟩ := T.fn
  obtain ⟨nm, q, N, bs, bm, sn, sub, ab, col, dd, k0, k1, k2, k3, k5, hC, hbm⟩ := T.cls
  have hcl : clsIn K C = some { name := nm, bases := bs, mro := .ref C :: bm, ns := N, qualname := q, hasDict := true, slotNames := sn, subclasses := sub, abstract := ab, collection := col, hasDel := false } := by unfold clsIn; rw [hC] <;> rfl
  refine Att.call_fn (binds := [("self", .ref x), ("given", v)]) X hlim ho hcd hroom (BindsTo.of_eq (by first | rfl | with_unfolding_all rfl)) (by first | rfl | decide | with_unfolding_all rfl) (fun s₁ IC => ?_) rfl rfl rfl
  obtain ⟨h₁, tk₁, rfl⟩ := IC.toInCall.same
  have k : ∀ b o, s.heap.get? b = some o → h₁.get? b = some o := IC.toInCall.keep
  have hn := IC.toInCall.ns
  have X₁ : K.In h₁ := X.keeps k
  have hx₁ := k _ _ hx
  show wpAny _ _ (execs _ _) _ _ _
  refine wpAny_execs_cons (plainObj_wpAny_Assign_Attribute ?_)
  refine ldG (v := v) hn (by first | rfl | with_unfolding_all rfl | kernel_rfl) (ldG (v := .ref x) hn (by first | rfl | with_unfolding_all rfl | kernel_rfl) ?_)
  refine set_plain X₁ (ox := excO C t0) (od := none) ⟨hx₁, rfl, rfl, trivial⟩ T.sa ?_
  refine osa_giv Z.pass Z.obj X₁ hx₁ hcl rfl hbm rfl T.noN (fun h₃ tk₃ dx k₃ dn dne hx₃ hn₃ => ?_)
  show wpAny _ _ (execs _ _) _ _ _
  have z : s.heap.objs.size < h₁.objs.size := hn.lt
  exact wpAny_execs_nil (hq h₃ tk₃ dx ⟨fun b o hb e => k₃ b o hb (k b o e), hx₃, Nat.le_of_lt (Nat.lt_of_lt_of_le z dn), dne, hn₃⟩)
theorem giv_made (Z : BaseOk B newId initId bt) (T : ErrTxt K mg cn qn newId bt C fI) {v : Value} (X : K.In s.heap) (hlim : s.heap.NoLimit) (hroom : A.depth + 1 < recursionLimit)
    (hq : ∀ h' tk e d, GivMade s.heap h' e C d v → R (.ok (.ret (.ref e))) { s with heap := h', toks := tk }) :
    codeAny (model prog w) A (.call (.ref C) ⟨[v], []⟩) R s := by
  obtain ⟨nm, q, N, bs, bm, sn, sub, ab, col, dd, k0, k1, k2, k3, k5, hC, hbm⟩ := T.cls
  obtain ⟨hp, g, dr, tk, os⟩ := s
  have k : ∀ b o, hp.get? b = some o → ((hp.push (kdv_tup [v])).push (excO C hp.objs.size)).get? b = some o := fun b o e => Heap.get?_push_of_some _ (Heap.get?_push_of_some _ e)
  have hget : ((hp.push (kdv_tup [v])).push (excO C hp.objs.size)).get? (hp.objs.size + 1) = some (excO C hp.objs.size) := by heap_get
  refine call_own Z.facts (fun X => tail_has X bm hbm) (X _ _ hC) (looks_findIn X T.iC) (fun self => bind_fn X self T.tC) (one_fits v) ?_
  refine giv_init (s := ⟨(hp.push (kdv_tup [v])).push (excO C hp.objs.size), g, dr, tk, os⟩) Z T (X.keeps k) (hlim.keeps k) hget ?_ fun h' tk' dx ⟨k', hx, dn, dne, hns⟩ => ?_
  · show A.depth + 1 < recursionLimit
    exact hroom
  · have old : ∀ b o, hp.get? b = some o → h'.get? b = some o := fun b o e => k' b o (Nat.ne_of_lt (Nat.lt_succ_of_lt (Heap.lt_size e))) (k b o e)
    have z : hp.objs.size + 1 + 1 ≤ dx := by
      first
        | (simpa only [Heap.size_push] using dn)
        | exact dn
        | (have q := dn; rw [Heap.size_push, Heap.size_push] at q; exact q)
    exact ⟨rfl, hq h' tk' (hp.objs.size + 1) dx ⟨old, Nat.le_succ _, ⟨_, _, hx, rfl, rfl, rfl, rfl⟩, Nat.le_trans (Nat.le_trans (Nat.le_succ _) (Nat.le_succ _)) z, dne, hns⟩⟩
end
end Giv
end PySem
end

-- GivErr2
section
set_option Elab.async false
set_option linter.all false
set_option maxRecDepth 100000
set_option maxHeartbeats 2000000
namespace L2
open PySem PySem.Spec PyProof.Rows
theorem relO_giv {v : V} {v' : Value} (r : RelV v v') (f : Str) : RelO (List.lookup f [(("given" : Str), v)]) (if f = "given" then some v' else none) := by
  by_cases hw : f = "given"
  · subst hw
    rw [if_pos rfl]
    have q : List.lookup ("given" : Str) [(("given" : Str), v)] = some v := by simp [List.lookup]
    rw [q]
    exact r
  · rw [if_neg hw]
    have qw : (f == ("given" : Str)) = false := by simpa using hw
    have q2 : List.lookup f [(("given" : Str), v)] = none := by simp [List.lookup, qw]
    rw [q2]
    trivial
section
variable {X : Cx} {C fI : Addr} {cn qn : Str} {B newId initId : String} {bt : List Value}
/-- Err(e) -/
def tMkGiv (C : Addr) (ta : TA) : L2.St → Hp → XK → Prop := fun σ H Q => ta σ H fun vs H1 => ∃ v, vs = [v] ∧ ∀ d, H1 d = none → Q (.ref C) (some d) (upd H1 d (.xd [(("given" : Str), v)]))
theorem pmk_giv {a : Expr} {ta : TA} {p pos : Pos} {k : Nat} (Z : PySem.Giv.BaseOk B newId initId bt) (T : PySem.Giv.ErrTxt X.K X.mg cn qn newId bt C fI) (hr : Room k X.A) (ha : PA X [a] ta) (hg : Gl X cn) (hdb : (cn == ("__debug__" : Str)) = false)
    (he : starEach (a :: []) X.env = (false, eval a X.env) :: starEach [] X.env := by rfl) (hpl : (backTo pos (starEach [] X.env)).any (·.1) = false := by rfl) :
    PMk X (.Call (.Name cn p) [a] [] pos) (tMkGiv C ta) := by
  intro pins s σ H Q I h
  refine wpAny_Call_Name_kw (ld_glob I hg T.gC ?_ hdb)
  refine PySem.W.callWith_K (h₀ := X.base) I.ok.mod.kin T.kC (thn (ha.run pos pins s σ H _ I h) fun us s1 hh => ?_) he hpl
  obtain ⟨vs, H1, I1, r1, v, ev, q1⟩ := hh
  subst ev
  refine ⟨I1.kIn, ?_⟩
  cases r1 with
  | cons rv rn =>
    rename_i v' us'
    cases rn
    show wpAny _ _ (call (.ref C) [v']) _ _ _
    have hlim := I1.nolimit
    obtain ⟨hp, g, dr, tk, os⟩ := s1
    refine wpAny_call (PySem.Giv.giv_made Z T I1.kIn hlim (by have := hr.dp; omega) fun h' tk' e d M => ?_)
    show MkP X pins σ Q (.ref e) ⟨h', g, dr, tk', os⟩
    obtain ⟨oe, fv, hoe, hc, hd, hdat, h1⟩ := M.obj
    have hns := M.ns
    obtain ⟨G', g1, g2⟩ := restrict h' fun b => decide (b ≠ e)
    have gk : ∀ b, b ≠ e → G'.get? b = h'.get? b := fun b hb => g1 b (decide_eq_true hb)
    have ge : G'.get? e = none := g2 e (by simp)
    have old : ∀ b o, hp.get? b = some o → G'.get? b = some o := fun b o q => (gk b (Nat.ne_of_lt (Nat.lt_of_lt_of_le (Heap.lt_size q) M.new))).trans (M.keep b o q)
    have ob : ObjOk X.prog X.w (upd H1 d (.xd [(("given" : Str), v)])) G' d (.xd [(("given" : Str), v)]) :=
      ⟨_, hns.at (fun o q => (gk d M.dne).trans q), fun f => relO_giv rv f⟩
    have J : L2.Inv X pins σ (upd H1 d (.xd [(("given" : Str), v)])) ⟨G', g, dr, tk', os⟩ := I1.laid (t' := tk') old M.dbig ob
    refine ⟨e, oe, fv, ⟨G', g, dr, tk', os⟩, _, .ref C, some d, rfl, J, fun b o q => ?_, ge, hoe, ⟨hc, hd⟩, hdat, h1, ?_, rfl, I1.bare, raises_own T.exC T.tyC, q1 d (I1.hok.fresh M.dbig)⟩
    · by_cases hb : b = e
      · have q' : G'.get? b = some o := q
        rw [hb, ge] at q'; cases q'
      · exact (gk b hb).symm.trans q
    · rw [upd_ne (Ne.symm M.dne)]
      exact I1.hok.fresh M.new
/-- raise Err(e) -/
def tRaiseGiv (C : Addr) (W : WX) (ta : TA) : TS := fun _ σ H => tMkGiv C ta σ H fun cls d H' => W cls d σ H'
theorem ps_raiseGiv {a : Expr} {ta : TA} {W : WX} {p pos pos2 : Pos} {k : Nat} (hc : X.calm = true) (Z : PySem.Giv.BaseOk B newId initId bt) (T : PySem.Giv.ErrTxt X.K X.mg cn qn newId bt C fI) (hr : Room k X.A) (tk : Takes X W) (ha : PA X [a] ta) (hg : Gl X cn) (hdb : (cn == ("__debug__" : Str)) = false := by decide)
    (he : starEach (a :: []) X.env = (false, eval a X.env) :: starEach [] X.env := by rfl) (hpl : (backTo pos (starEach [] X.env)).any (·.1) = false := by rfl) :
    PS X (.Raise (some (.Call (.Name cn p) [a] [] pos)) none pos2) (tRaiseGiv C W ta) := ps_raise hc tk (pmk_giv Z T hr ha hg hdb he hpl)
/-- err.given, err the exception that the suite holds (at a; its class cls, its dict d) -/
def tByGiv (C : Addr) (a : Addr) (cls : Value) (d : Option Addr) (te : TE) : TE := fun σ H Q => te σ H fun x H1 => x = .ref a ∧ cls = .ref C ∧ ∃ (dd : Addr) (v : V), d = some dd ∧ H1 dd = some (.xd [(("given" : Str), v)]) ∧ Q v H1
theorem pe_byGiv {a : Addr} {oe : Obj} {cls : Value} {d : Option Addr} {pn : List (Addr × Obj)} {e : Expr} {te : TE} {pos : Pos} (T : PySem.Giv.ErrTxt X.K X.mg cn qn newId bt C fI) (hz : Zc cls d oe) (hf : ∃ vs, oe.data = .fields vs) (he : PE (X.suite a ((a, oe) :: pn)) e te)
    (hb : attributeBase e "given" X.env (eval e X.env) = eval e X.env := by rfl) :
    PE (X.suite a ((a, oe) :: pn)) (.Attribute e "given" pos) (tByGiv C a cls d te) := by
  refine ⟨fun pins s σ H Q I h => ?_⟩
  refine attr_of hb (thn (he.run pins s σ H _ I h) fun u s1 hh => ?_)
  obtain ⟨x, H1, I1, rx, ex, ec, dd, v, ed, ea, q⟩ := hh
  subst ex
  obtain rfl : u = Value.ref a := rx
  subst ec
  subst ed
  obtain ⟨ha, _⟩ := I1.pin (a, oe) (List.mem_append_left _ List.mem_cons_self)
  obtain ⟨vs, hd⟩ := hf
  have hx : ObjOk X.prog X.w H1 s1.heap dd (.xd [(("given" : Str), v)]) := I1.hok dd _ ea
  obtain ⟨mA, hns, hr⟩ := hx
  obtain ⟨od, ho, hl⟩ := lookIn_ns hns
  have l : List.lookup ("given" : Str) [(("given" : Str), v)] = some v := by simp [List.lookup]
  obtain ⟨u, hu, ru⟩ := RelO.some_of (v := v) (o := mA "given") (by rw [← l]; exact hr "given")
  have J : PySem.W.InstAt s1.heap a oe C (some od) := ⟨ha, hz.1, by unfold PySem.W.notCls; rw [hd] <;> rfl, by rw [hz.2]; exact ho⟩
  exact HandSPX.exc_get I1.kIn J T.ga T.gg T.exC (PySem.W.findObj_own T.hdC T.noN rfl (by rw [hl, hu])) (handed_of ru) ⟨v, H1, I1.tok _, ru, q⟩
end
end L2
end

-- TryAs
section
set_option Elab.async false
set_option linter.all false
set_option maxRecDepth 100000
/-! try: with several clauses «except X as n». -/
namespace TryAs
open PySem L2
/-- the ends of a clause's suite: slot i is emptied on every way out -/
def endsAs (D : Ends) (i : Nat) : Ends where
  nx := fun t K => D.nx (t.set i none) K
  rt := D.rt
  bk := fun t K => D.bk (t.set i none) K
  ct := fun t K => D.ct (t.set i none) K
abbrev Cl := Value × Nat × (Addr → Value → Option Addr → TS)
def wAll (K : PySem.W.Frag) (Wout : WX) (D : Ends) : List Cl → WX
  | [] => Wout
  | (c, i, ts) :: r => fun cls d σ H => ∃ b, PySem.W.exmOne K cls c = some b ∧
      (b = true → ∀ a, H a = none → ts a cls d (endsAs D i) (σ.set i (some (.ref a))) H) ∧ (b = false → wAll K Wout D r cls d σ H)
inductive Clauses (X : Cx) : List ExceptHandler → List Cl → Prop
  | nil : Clauses X [] []
  | cons {x n : Str} {c : Value} {i : Nat} {ts : Addr → Value → Option Addr → TS} {fst : Stmt} {suite : List Stmt} {np hpos : Pos} {hds : List ExceptHandler} {l : List Cl}
      (at_ : X.N[i]? = some n) (loc : X.env.kindOf n = some .local) (nam : Names X x c)
      (run : ∀ (a : Addr) (oe : Obj) (cls : Value) (d : Option Addr) (pn : List (Addr × Obj)), Zc cls d oe → (∃ vs, oe.data = .fields vs) → PSs (X.suite a ((a, oe) :: pn)) (fst :: suite) (ts a cls d))
      (more : Clauses X hds l) : Clauses X (.ExceptHandler (some (.Name x np)) (some n) (fst :: suite) hpos :: hds) ((c, i, ts) :: l)
section
variable {X : Cx} {body : List Stmt} {hd0 : ExceptHandler} {hds : List ExceptHandler} {l : List Cl} {pos : Pos} {tb : WX → TS} {Wout : WX}
theorem ps_try_all (stk : X.stack = X.env :: X.outer) (frm : X.env.frame = some X.env.locals) (nod : X.N.Nodup) (tk : Takes X Wout)
    (hb : ∀ (W : WX) (pn : List (Addr × Obj)) (xe : Value → Shared → Prop), Takes (X.tr pn xe) W → PassesOwn (model X.prog X.w) X.A X.env xe → PSs (X.tr pn xe) body (tb W))
    (cl : Clauses X (hd0 :: hds) l) : PS X (.Try body (hd0 :: hds) [] [] pos) (fun D σ H => tb (wAll X.K Wout D l) D σ H) := by
  constructor
  intro pins s σ H D I h
  have okX := I.ok
  have frs2 : X.A.frames = some (X.env :: X.outer) := by rw [okX.frames, stk]
  refine wpAny_Try_except ?_
  refine wpAny_mono ((hb (wAll X.K Wout D l) (X.pn ++ pins)
    (fun e s₁ => wpAny (model X.prog X.w) X.A (noteFrame e X.env)
      (fun _ s₂ => wpAny (model X.prog X.w) X.A (setFlight e none)
        (fun _ s₃ => wpAny (model X.prog X.w) X.A (handleBy e X.env (hd0 :: hds)) (SP X pins D) X.xe s₃) X.xe s₂) X.xe s₁)
    (fun u s' xx => ?_) PassesOwn.looking).run [] s σ H D (I.toTry _) h) (fun f s1 hsp => ?_) (fun e s1 he => he)
  · obtain ⟨a, B, sI, pins1, σ1, H1, cls, d, rfl, J0, nb, up, sky, na, os, ag, w⟩ := xx
    have J1 : L2.Inv X pins σ1 H1 sI := J0.ofTry okX
    have sky1 : Sky B (X.env :: X.outer) a (Zc cls d) X.env.locals s'.heap := by rw [← stk]; exact sky
    show wpAny (model X.prog X.w) X.A (noteFrame (.ref a) X.env) _ _ _
    refine Sky.land Zc.steady frs2 frm sky1 fun h3 fl3 up3 => ?_
    have J3 : L2.Inv X pins σ1 H1 { s' with heap := h3 } := J1.landed nb fl3.1 (up.trans up3) os ag
    obtain ⟨oe3, vs3, he3, hz3, hd3⟩ := fl3.there
    have apart : a ∉ frs (X.env :: X.outer) := fun hm => by
      obtain ⟨_, o', e', hnf⟩ := fl3.2.2.1.mem hm
      have q : some o' = some oe3 := e'.symm.trans he3
      cases q
      exact hnf _ hd3
    have notL : a ≠ X.env.locals := fun z => apart (List.mem_filterMap.mpr ⟨X.env, List.mem_cons_self, by rw [frm, z]⟩)
    have notF : a ∉ X.fs := fun hm => by
      obtain ⟨e, he, q⟩ := List.mem_filterMap.mp hm
      exact apart (List.mem_filterMap.mpr ⟨e, List.mem_cons_of_mem _ he, q⟩)
    have S3 := J3.suite he3 hd3 na notL notF
    have go : ∀ {hs2 : List ExceptHandler} {l2 : List Cl}, Clauses X hs2 l2 → wAll X.K Wout D l2 cls d σ1 H1 →
        wpAny (model X.prog X.w) X.A (handleBy (.ref a) X.env hs2) (SP X pins D) X.xe { s' with heap := h3 } := by
      intro hs2 l2 hk
      induction hk with
      | nil =>
        intro w
        refine wpAny_handleBy_nil ?_
        obtain ⟨k1, k2, k3, oe, vs, T, oT, ts', he, hz, hd, h1, hr⟩ := id fl3
        unfold PySem.passOn
        refine wpAny_bind (wpAny_field he hd h1 ?_)
        have tn : ¬ ((Value.ref T == Value.none) = true) := by simp
        rw [if_neg tn]
        have fin : wpAny (model X.prog X.w) X.A (setFlight (.ref a) X.env.frame) (fun _ s4 => wpAny (model X.prog X.w) X.A (throw (.ref a) : Sem Flow) (SP X pins D) X.xe s4) X.xe { s' with heap := h3 } := by
          rw [frm]
          refine HandSPX.setFlight_upZ fl3 fun h4 hh4 up4 => wpAny_throw (tk _ _ ?_)
          exact ⟨a, B, sI, pins, σ1, H1, cls, d, rfl, J1, nb, (up.trans up3).trans up4, .inr (.inr (by rw [stk]; exact hh4)), na, os, ag, w⟩
        first | exact (wpAny_bind (wpAny_pure (wpAny_bind fin))) | exact (wpAny_bind fin)
      | @cons x n c i ts fst suite np hpos hs3 l3 at_ loc nam run more ih =>
        intro w
        obtain ⟨b, hb1, yes, no⟩ := w
        have slot : Loc X.env.scope n := .inl loc
        refine wpAny_handleBy_cons (codeAny_handlers_test ?_) (by intro q; cases q)
        have Lty : PySem.W.Looks (model X.prog X.w) h3 (typeOf (.ref a)) cls := fun A Q E s k q => wpAny_typeOf_ref (k _ _ he3) (by rw [hz3.1]; exact q)
        have Lex := PySem.W.exm_one (M := model X.prog X.w) (J3.kIn) Lty hb1
        have tst : ∀ {Q : Value → Shared → Prop} {E : Value → Shared → Prop}, Q c { s' with heap := h3 } → wpAny (model X.prog X.w) (X.A.mark (some (.ref a))) (eval (.Name x np) X.env) Q E { s' with heap := h3 } := fun {Q E} q => by
          obtain ⟨hg, ndb, hm | ⟨hm, hv, nn⟩⟩ := nam
          · exact (ld_glob (X := X.suite a ((a, oe3) :: (X.pn ++ pins))) S3 hg hm q ndb)
          · exact (ld_blt (X := X.suite a ((a, oe3) :: (X.pn ++ pins))) S3 hg hm hv q nn ndb)
        refine tst (Lex.here ?_)
        cases b with
        | true =>
          refine codeAny_handlers_suite_as ?_
          refine HandSPX.lands_againZ fl3 fun h4 fl4 up4 => ?_
          have J4 : L2.Inv X pins σ1 H1 { s' with heap := h4 } := J1.landed nb fl4.1 ((up.trans up3).trans up4) os ag
          obtain ⟨oe4, vs4, he4, hz4, hd4⟩ := fl4.there
          have S4 := J4.suite he4 hd4 na notL notF
          refine store_ok (X := X.suite a ((a, oe4) :: (X.pn ++ pins))) (v := .ref a) S4 nod at_ slot rfl (fun s5 S5 => ?_) (.inr loc)
          refine wpAny_mono ((run a oe4 cls d (X.pn ++ pins) hz4 ⟨_, hd4⟩).run [] s5 _ H1 _ S5 (yes rfl a na)) (fun f s6 hsp => ?_) (fun _ _ z => False.elim z)
          have wipe : ∀ {t6 : L2.St} {K6 : Hp} {Q : Shared → Prop}, L2.Inv (X.suite a ((a, oe4) :: (X.pn ++ pins))) [] t6 K6 s6 → (∀ s7, L2.Inv X pins (t6.set i none) K6 s7 → Q s7) →
              wpAny (model X.prog X.w) X.A (do bindName X.env n .none; unbindBehindTheSuite X.env n hpos) (fun _ s7 => Q s7) X.xe s6 := fun {t6 K6 Q} S6 hq => gone_ok (S6.unsuite okX) nod at_ loc hq
          cases f with
          | next =>
            obtain ⟨t6, K6, S6, q6⟩ := hsp
            exact (wipe S6 fun s7 J7 => ⟨_, _, J7, q6⟩)
          | brk =>
            obtain ⟨t6, K6, S6, q6⟩ := hsp
            exact (wipe S6 fun s7 J7 => ⟨_, _, J7, q6⟩)
          | cont =>
            obtain ⟨t6, K6, S6, q6⟩ := hsp
            exact (wipe S6 fun s7 J7 => ⟨_, _, J7, q6⟩)
          | ret u =>
            obtain ⟨v6, t6, K6, S6, r6, q6⟩ := hsp
            exact (wipe S6 fun s7 J7 => ⟨_, _, _, J7, r6, q6⟩)
        | false =>
          show wpAny _ X.A (handleBy (.ref a) X.env hs3) _ _ _
          exact ih (no rfl)
    exact go cl w
  · cases f with
    | next =>
      obtain ⟨t1, K1, J1, q⟩ := hsp
      exact wpAny_execs_nil ⟨t1, K1, J1.ofTry okX, q⟩
    | brk =>
      obtain ⟨t1, K1, J1, q⟩ := hsp
      exact ⟨t1, K1, J1.ofTry okX, q⟩
    | cont =>
      obtain ⟨t1, K1, J1, q⟩ := hsp
      exact ⟨t1, K1, J1.ofTry okX, q⟩
    | ret u =>
      obtain ⟨v1, t1, K1, J1, r, q⟩ := hsp
      exact ⟨v1, t1, K1, J1.ofTry okX, r, q⟩
/-- an exception of a callee, wished for at every state of the slots that fits -/
def EAll (X : Cx) (W : WX) : XK := fun cls d H' => ∀ t : L2.St, t.length = X.N.length → W cls d t H'
theorem pass_all {W : WX} (tk : Takes X W) : Passes (L2.CX X.prog X.w) X (EAll X W) := fun _ _ _ _ _ _ I c =>
  tk _ _ (XE.of_call I (fun _ _ _ z => z _ I.len) c)
end
end TryAs
end

-- Q02a
section
set_option Elab.async false
set_option linter.all false
set_option maxRecDepth 100000
namespace R1
open PySem L2 OwnOps RatM
/-! ### 1. the text by places -/
def top (i : Nat) : Stmt := PySem.Challenge.pw_wishedwires_k02_ratios_as_texts.main.body.getD i (.Pass ⟨0, 0, 0, 0⟩)
abbrev sWhole : Stmt := top 4
abbrev sRat (j : Nat) : Stmt := inClass (top 12) j
abbrev sAs : Stmt := top 13
/-! ### 2. what the written part holds -/
abbrev veT : List Value := [.type "ValueError", .type "Exception", .type "BaseException", .type "object"]
abbrev zdT : List Value := [.type "ZeroDivisionError", .type "ArithmeticError", .type "Exception", .type "BaseException", .type "object"]
structure Txt (K : PySem.W.Frag) (mg : Str → Option Value) (C CI fCI CZ fCZ : Addr) : Prop where
  cl : Cls K C
  nT : NoAttr K C "top"
  nB : NoAttr K C "bottom"
  gC : mg "Ratio" = some (.ref C)
  eI : PySem.Giv.ErrTxt K mg "InvalidNumber" "InvalidNumber.__init__" "ValueError.__new__" veT CI fCI
  eZ : PySem.Giv.ErrTxt K mg "NoDivision" "NoDivision.__init__" "ZeroDivisionError.__new__" zdT CZ fCZ
  ha : PySem.W.findIn K (.ref C) "__class__" = some (some (.builtin "object.__class__"))
  hn : PySem.W.specialIn K (.builtin "object.__class__") "__get__" = some (some (.builtin "getset_descriptor.__get__"))
  htk : PySem.W.takesIn K (.builtin "object.__class__") = some true
  hm : PySem.W.mroIn K C (.type "object") = some true
  kCC : PySem.W.kitOne K (.ref C) (.ref C) = some true
  kCi : PySem.W.kitOne K (.ref C) (.type "int") = some false
  kiC : PySem.W.kitOne K (.type "int") (.ref C) = some false
  kbC : PySem.W.kitOne K (.type "bool") (.ref C) = some false
  knC : PySem.W.kitOne K (.type "NoneType") (.ref C) = some false
  ksC : PySem.W.kitOne K (.type "str") (.ref C) = some false
  klC : PySem.W.kitOne K (.type "list") (.ref C) = some false
  ktC : PySem.W.kitOne K (.type "tuple") (.ref C) = some false
  isi : mg "isinstance" = none
  int : mg "int" = none
  bool : mg "bool" = none
  abs : mg "abs" = none
  str : mg "str" = none
  repr : mg "repr" = none
  gcd : mg "gcd" = some (.builtin "math.gcd")
/-- the values that are met where a number is wanted -/
inductive Kd (C : Addr) (H : Hp) : V → Prop
  | int (i : Int) : Kd C H (.int i)
  | bl (b : Bool) : Kd C H (.bl b)
  | non : Kd C H .non
  | str (x : Str) : Kd C H (.str x)
  | ins {a dx : Addr} {fs : List (Str × V)} (e : H a = some (.ins C dx fs)) : Kd C H (.ref a)
  | lst {a : Addr} {xs : List V} (e : H a = some (.lst xs)) : Kd C H (.ref a)
  | tup {a : Addr} {xs : List V} (e : H a = some (.tup xs)) : Kd C H (.ref a)
def isW : V → Bool
  | .int _ => true
  | _ => false
/-- an instance of Ratio with these two -/
def flds (t b : Int) : List (Str × V) := putF "bottom" (.int b) (putF "top" (.int t) [])
theorem tb : ¬ (("top" : Str) = "bottom") := by decide +kernel
theorem flds_eq (t b : Int) : flds t b = ([("top", V.int t), ("bottom", V.int b)] : List (Str × V)) := by
  show (if ("top" : Str) = "bottom" then [(("top" : Str), V.int b)] else (("top" : Str), V.int t) :: putF "bottom" (V.int b) []) = ([("top", V.int t), ("bottom", V.int b)] : List (Str × V))
  rw [if_neg tb]
  all_goals rfl
theorem flds_top (t b : Int) : (flds t b).lookup ("top" : Str) = some (.int t) := by
  unfold flds
  rw [lookup_putF, if_neg tb, lookup_putF, if_pos rfl]
theorem flds_bot (t b : Int) : (flds t b).lookup ("bottom" : Str) = some (.int b) := by
  unfold flds
  rw [lookup_putF, if_pos rfl]
theorem flds_no (t b : Int) {m : Str} (h1 : ¬ m = "bottom") (h2 : ¬ m = "top") : (flds t b).lookup m = none := by
  unfold flds
  rw [lookup_putF, if_neg h1, lookup_putF, if_neg h2]
  all_goals rfl
def Rat (C : Addr) (H : Hp) (p : Addr) (t b : Int) : Prop := ∃ dx, H p = some (.ins C dx (flds t b))
theorem Rat.same {C : Addr} {H H' : Hp} {p : Addr} {t b : Int} (r : Rat C H p t b) (e : Same H H') : Rat C H' p t b := let ⟨dx, h⟩ := r; ⟨dx, e _ _ h⟩
/-- what may be told of a number -/
def Sm (n : Nat) (x : Int) : Prop := x.natAbs < 2 ^ n

section
variable {P : Program} {w : World} {K : PySem.W.Frag} {mg : Str → Option Value} {base : Heap} {C CI fCI CZ fCZ : Addr}
/-! ### 3. is_whole -/
def spWhole (C : Addr) : Sp := fun vs H Q _ => ∃ v, vs = [v] ∧ Kd C H v ∧ Q (.bl (isW v)) H
theorem scW : FnScope ["value"] ["value"] (defScope sWhole) := ⟨rfl, rfl, rfl, by decide +kernel, rfl, by decide +kernel, by decide +kernel⟩
theorem ok_whole {f : Addr} {fd : FuncData} (F : Fun K "is_whole" "is_whole" sWhole f fd) (T : Txt K mg C CI fCI CZ fCZ) : FnOk P w K mg base (L2.CX P w) 1 f fd ["value"] (spWhole C) := by
  refine F.okX scW (fun vs H Q E h => ?_) (fun cdv A outer s H vs Q E hr h => ?_)
  · obtain ⟨v, rfl, _⟩ := h
    rfl
  · obtain ⟨v, rfl, kd, k⟩ := h
    refine ⟨_, pss_one (ps_ret (pe_and (pe_callB call_isi (by rfl) T.isi (by decide +kernel) (pa_cons (pv 0) (pa_cons (pe_bltn (v := .ty "int") (by rfl) T.int (by decide +kernel) rfl) pa_nil)))
      (pe_one (pe_not (pe_callB call_isi (by rfl) T.isi (by decide +kernel) (pa_cons (pv 0) (pa_cons (pe_bltn (v := .ty "bool") (by rfl) T.bool (by decide +kernel) rfl) pa_nil))))))), ?_⟩
    cases kd with
    | int i => exact ⟨_, rfl, _, _, _, _, _, rfl, .ty _, .base (.int i), kit_ty (by decide +kernel), _, rfl, iteT ⟨_, rfl, _, _, _, _, _, rfl, .ty _, .base (.int i), kit_ty (r := false) (by decide +kernel), _, rfl, k⟩⟩
    | bl b => exact ⟨_, rfl, _, _, _, _, _, rfl, .ty _, .base (.bl b), kit_ty (by decide +kernel), _, rfl, iteT ⟨_, rfl, _, _, _, _, _, rfl, .ty _, .base (.bl b), kit_ty (r := true) (by decide +kernel), _, rfl, k⟩⟩
    | non => exact ⟨_, rfl, _, _, _, _, _, rfl, .ty _, .base .non, kit_ty (by decide +kernel), _, rfl, iteF k⟩
    | str x => exact ⟨_, rfl, _, _, _, _, _, rfl, .ty _, .base (.str x), kit_ty (by decide +kernel), _, rfl, iteF k⟩
    | ins e => exact ⟨_, rfl, _, _, _, _, _, rfl, .ty _, .base (.ins e T.cl T.ha T.hn T.htk T.hm), T.kCi, _, rfl, iteF k⟩
    | lst e => exact ⟨_, rfl, _, _, _, _, _, rfl, .ty _, .base (.lst e), kit_ty (by decide +kernel), _, rfl, iteF k⟩
    | tup e => exact ⟨_, rfl, _, _, _, _, _, rfl, .ty _, .base (.tup e), kit_ty (by decide +kernel), _, rfl, iteF k⟩

theorem if_pos' {c : Bool} {A B : Prop} (hc : c = true) (h : A) : if c = true then A else B := by
  rw [if_pos hc]
  exact h
theorem if_neg' {c : Bool} {A B : Prop} (hc : c = false) (h : B) : if c = true then A else B := by
  rw [hc, if_neg Bool.false_ne_true]
  exact h
/-! ### 4. __init__ -/
def CDivG (_ j : Int) : Prop := j ≠ 0 ∧ j.natAbs.log2 < 9000
theorem op_fdivG {X : Cx} : OpR X (binaryOp .FloorDiv) (rI CDivG fun i j => .int (i.fdiv j)) := opI fun i j _ _ _ _ _ hc q =>
  PyProof.Rows.floordiv_int hc.1 q (.inl (PyProof.noPylong_of_log2 hc.2))
theorem wide_divG {i j : Int} {n : Nat} (h : j ≠ 0) (hb : j.natAbs < 2 ^ n) (h0 : 0 < n) (h9 : n ≤ 9000) : CDivG i j := ⟨h, Nat.lt_of_lt_of_le (PySem.Flt.log2_lt_of h0 hb) h9⟩
abbrev xd (v : V) : HO := .xd [(("given" : Str), v)]
def spInit (C CI CZ : Addr) : Sp := fun vs H Q E => ∃ (p dx : Addr) (vt vb : V), vs = [.ref p, vt, vb] ∧ H p = some (.ins C dx []) ∧ Kd C H vt ∧ (isW vt = true → Kd C H vb) ∧
  ((isW vt = false ∧ ∀ d, H d = none → E (.ref CI) (some d) (upd H d (xd vt))) ∨
   (isW vt = true ∧ isW vb = false ∧ ∀ d, H d = none → E (.ref CI) (some d) (upd H d (xd vb))) ∨
   (∃ t b, vt = .int t ∧ vb = .int b ∧ ((b = 0 ∧ ∀ d, H d = none → E (.ref CZ) (some d) (upd H d (xd vt))) ∨
     (b ≠ 0 ∧ Sm 5000 b ∧ Q .non (upd H p (.ins C dx (flds (nt t b) (nb t b))))))))
theorem scI : FnScope ["self", "top", "bottom", "common"] ["self", "top", "bottom"] (defScope (sRat 0)) := ⟨rfl, rfl, rfl, by decide +kernel, rfl, by decide +kernel, by decide +kernel⟩
theorem Kd.whole {C : Addr} {H : Hp} {v : V} (k : Kd C H v) (h : isW v = true) : ∃ i, v = .int i := by
  cases k <;> first | exact ⟨_, rfl⟩ | exact absurd h (by simp [isW])
abbrev InitD (K : PySem.W.Frag) (f : Addr) (fd : FuncData) := FunD K "__init__" "Ratio.__init__" (defArgs (sRat 0)) (defBody (sRat 0)) (defScope (sRat 0)) [.int 1] [] f fd
theorem ok_init {f fW : Addr} {fd fdW : FuncData} (F : InitD K f fd) (T : Txt K mg C CI fCI CZ fCZ)
    (GW : FnOk P w K mg base (L2.CX P w) 1 fW fdW ["value"] (spWhole C)) (mW : mg "is_whole" = some (.ref fW)) (kW : PySem.W.keepIn K (.ref fW) = true) (bW : L2.Binds K fdW ["value"] []) :
    FnOk P w K mg base (L2.CX P w) 3 f fd ["self", "top", "bottom"] (spInit C CI CZ) := by
  refine F.ok scI (fun vs H Q E h => ?_) (fun cdv A outer s H vs Q E hr h => ?_)
  · obtain ⟨p, dx, vt, vb, rfl, _⟩ := h
    rfl
  · obtain ⟨p, dx, vt, vb, rfl, hp, kt, kb, k⟩ := h
    have hr1 : Room 1 _ := hr.mono (by decide)
    refine ⟨_, pss_cons (ps_if (pt_not (pt_val (pe_call GW hr1 (by rfl) mW kW bW .nil passL (pa_cons (pv 1) pa_nil)))) (pss_one (ps_raiseGiv rfl PySem.Giv.ok_VE T.eI hr (takes_of rfl rfl rfl rfl) (pa_cons (pv 1) pa_nil) (by rfl))) pss_nil)
      (pss_cons (ps_if (pt_not (pt_val (pe_call GW hr1 (by rfl) mW kW bW .nil passL (pa_cons (pv 2) pa_nil)))) (pss_one (ps_raiseGiv rfl PySem.Giv.ok_VE T.eI hr (takes_of rfl rfl rfl rfl) (pa_cons (pv 2) pa_nil) (by rfl))) pss_nil)
      (pss_cons (ps_if (pt_cmpR op_eq (pv 2) pe_int (nomark _)) (pss_one (ps_raiseGiv rfl PySem.Giv.ok_ZD T.eZ hr (takes_of rfl rfl rfl rfl) (pa_cons (pv 1) pa_nil) (by rfl))) pss_nil)
      (pss_cons (ps_set (i := 3) scI.nd rfl (Or.inl rfl) (pe_ifExp (pt_cmpR op_gt (pv 2) pe_int (nomark _)) (pe_callBfun cr_gcd (by rfl) T.gcd (pa_cons (pv 1) (pa_cons (pv 2) pa_nil)))
        (pe_un un_neg (pe_callBfun cr_gcd (by rfl) T.gcd (pa_cons (pv 1) (pa_cons (pv 2) pa_nil))))))
      (pss_cons (ps_fld (pv 0) (pe_op op_fdivG (pv 1) (pv 3)) rfl)
      (pss_one (ps_fld (pv 0) (pe_op op_fdivG (pv 2) (pv 3)) rfl)))))), ?_⟩
    refine ⟨_, rfl, _, rfl, kt, _, rfl, ?_⟩
    rcases k with ⟨n1, k⟩ | ⟨y1, n2, k⟩ | ⟨t, b, rfl, rfl, k⟩
    · rw [n1]
      exact iteT ⟨_, rfl, _, rfl, k⟩
    · rw [y1]
      refine iteF ⟨_, rfl, _, rfl, kb y1, _, rfl, ?_⟩
      rw [n2]
      exact iteT ⟨_, rfl, _, rfl, k⟩
    · refine iteF ⟨_, rfl, _, rfl, kb rfl, _, rfl, iteF ⟨_, rfl, rfl, _, rfl, ?_⟩⟩
      rcases k with ⟨b0, k⟩ | ⟨b0, bs, k⟩
      · refine if_pos' (decide_eq_true (show V.int b = V.int 0 by rw [b0])) ?_
        exact ⟨_, rfl, _, rfl, k⟩
      · refine if_neg' (decide_eq_false (fun z => b0 (V.int.inj z))) ?_
        have cb : (cmn t b).natAbs < 2 ^ 5000 := Nat.lt_of_le_of_lt (cmn_le b0) bs
        have dv : ∀ x, CDivG x (cmn t b) := fun x => wide_divG (cmn_ne b0) cb (by decide) (by decide)
        have e0 : upd (upd H p (.ins C dx (putF "top" (.int (nt t b)) []))) p (.ins C dx (flds (nt t b) (nb t b))) = upd H p (.ins C dx (flds (nt t b) (nb t b))) := upd_upd
        rw [← e0] at k
        have nxt : ∀ c : Int, c = cmn t b → (tSeq (sFld K (tVar 0) (tOp (rI CDivG fun i j => V.int (i.fdiv j)) (tVar 1) (tVar 3)) "top") (sFld K (tVar 0) (tOp (rI CDivG fun i j => V.int (i.fdiv j)) (tVar 2) (tVar 3)) "bottom"))
            { nx := fun _ H' => Q .non H', rt := Q } [some (.ref p), some (.int t), some (.int b), some (.int c)] H := by
          rintro c rfl
          exact ⟨_, rfl, _, rfl, _, _, rfl, rfl, dv t, _, rfl, p, C, dx, _, rfl, hp, T.cl, T.nT, (by show 0 < 1000; decide), _, rfl, _, rfl, _, _, rfl, rfl, dv b, _, rfl, p, C, dx, _, rfl, upd_same, T.cl, T.nB, (by show 1 < 1000; decide), k⟩
        refine ⟨_, rfl, _, _, rfl, rfl, _, rfl, ?_⟩
        refine ite2 (fun hb => ?_) (fun hb => ?_)
        · exact ⟨_, rfl, _, rfl, _, _, rfl, nxt _ (if_pos (of_decide_eq_true hb)).symm⟩
        · exact ⟨_, rfl, _, rfl, _, _, rfl, _, rfl, nxt _ (if_neg (fun z => hb (decide_eq_true z))).symm⟩
end
end R1
end

-- Q02b
section
set_option Elab.async false
set_option linter.all false
set_option maxRecDepth 100000
namespace R1
open PySem L2 OwnOps RatM
/-- the values that are no numbers -/
inductive Bd (H : Hp) : V → Prop
  | bl (b : Bool) : Bd H (.bl b)
  | non : Bd H .non
  | str (x : Str) : Bd H (.str x)
  | lst {a : Addr} {xs : List V} (e : H a = some (.lst xs)) : Bd H (.ref a)
  | tup {a : Addr} {xs : List V} (e : H a = some (.tup xs)) : Bd H (.ref a)
theorem Bd.kd {C : Addr} {H : Hp} {v : V} (h : Bd H v) : Kd C H v := by
  cases h with
  | bl b => exact .bl b
  | non => exact .non
  | str x => exact .str x
  | lst e => exact .lst e
  | tup e => exact .tup e
theorem Bd.w {H : Hp} {v : V} (h : Bd H v) : isW v = false := by
  cases h <;> rfl
theorem Kd.same {C : Addr} {H H' : Hp} {v : V} (h : Kd C H v) (e : Same H H') : Kd C H' v := by
  cases h with
  | int i => exact .int i
  | bl b => exact .bl b
  | non => exact .non
  | str x => exact .str x
  | ins q => exact .ins (e _ _ q)
  | lst q => exact .lst (e _ _ q)
  | tup q => exact .tup (e _ _ q)
theorem Bd.same {H H' : Hp} {v : V} (h : Bd H v) (e : Same H H') : Bd H' v := by
  cases h with
  | bl b => exact .bl b
  | non => exact .non
  | str x => exact .str x
  | lst q => exact .lst (e _ _ q)
  | tup q => exact .tup (e _ _ q)
/-- v stands for the ratio t / b -/
def Num (C : Addr) (H : Hp) (v : V) (t b : Int) : Prop := (∃ q, v = .ref q ∧ Rat C H q t b) ∨ (v = .int t ∧ b = 1)
theorem Num.same {C : Addr} {H H' : Hp} {v : V} {t b : Int} (h : Num C H v t b) (e : Same H H') : Num C H' v t b := by
  rcases h with ⟨q, rfl, r⟩ | ⟨rfl, rfl⟩
  · exact .inl ⟨q, rfl, r.same e⟩
  · exact .inr ⟨rfl, rfl⟩
theorem same_upd {H : Hp} {p : Addr} {o : HO} (h : H p = none) : Same H (upd H p o) := fun b u e => by
  rw [upd_ne (ne_of_none e h)]
  exact e
/-- a new instance in making -/
theorem same_new {H : Hp} {x dx C : Addr} (hx : H x = none) (hd : H dx = none) : Same H (upd (upd H dx (.own x)) x (.ins C dx [])) := fun b u e => by
  rw [upd_ne (ne_of_none e hx), upd_ne (ne_of_none e hd)]
  exact e
section
variable {C CI CZ : Addr} {H : Hp} {Q : VK} {E : XK}
theorem mk_good {t b : Int} (hb : b ≠ 0) (bs : Sm 5000 b) (k : ∀ p H', Same H H' → Rat C H' p (nt t b) (nb t b) → Q (.ref p) H') :
    ∀ x dx, H x = none → H dx = none → dx ≠ x → spInit C CI CZ [.ref x, .int t, .int b] (upd (upd H dx (.own x)) x (.ins C dx [])) (fun v H2 => v = .non ∧ Q (.ref x) H2) E := by
  intro x dx hx hd ne
  refine ⟨x, dx, .int t, .int b, rfl, upd_same, .int t, fun _ => .int b, .inr (.inr ⟨t, b, rfl, rfl, .inr ⟨hb, bs, rfl, ?_⟩⟩)⟩
  refine k x _ (fun c o e => ?_) ⟨dx, upd_same⟩
  rw [upd_ne (ne_of_none e hx)]
  exact same_new hx hd c o e
theorem mk_bad1 {v u : V} (kd : Bd H v ∨ ∃ a dx fs, v = .ref a ∧ H a = some (.ins C dx fs)) (k : ∀ d H', Same H H' → H' d = some (xd v) → E (.ref CI) (some d) H') :
    ∀ x dx, H x = none → H dx = none → dx ≠ x → spInit C CI CZ [.ref x, v, u] (upd (upd H dx (.own x)) x (.ins C dx [])) (fun v H2 => v = .non ∧ Q (.ref x) H2) E := by
  intro x dx hx hd ne
  have nw : isW v = false := by
    rcases kd with h | ⟨a, _, _, rfl, _⟩
    · exact h.w
    · rfl
  have kk : Kd C H v := by
    rcases kd with h | ⟨a, _, _, rfl, e⟩
    · exact h.kd
    · exact .ins e
  refine ⟨x, dx, v, u, rfl, upd_same, kk.same (same_new hx hd), fun y => absurd y (by rw [nw]; decide), .inl ⟨nw, fun d hdn => ?_⟩⟩
  refine k d _ (fun c o e => ?_) upd_same
  have e2 := same_new (C := C) hx hd c o e
  rw [upd_ne (ne_of_none e2 hdn)]
  exact e2
theorem mk_bad2 {t : Int} {v : V} (kd : Bd H v ∨ ∃ a dx fs, v = .ref a ∧ H a = some (.ins C dx fs)) (k : ∀ d H', Same H H' → H' d = some (xd v) → E (.ref CI) (some d) H') :
    ∀ x dx, H x = none → H dx = none → dx ≠ x → spInit C CI CZ [.ref x, .int t, v] (upd (upd H dx (.own x)) x (.ins C dx [])) (fun v H2 => v = .non ∧ Q (.ref x) H2) E := by
  intro x dx hx hd ne
  have nw : isW v = false := by
    rcases kd with h | ⟨a, _, _, rfl, _⟩
    · exact h.w
    · rfl
  have kk : Kd C H v := by
    rcases kd with h | ⟨a, _, _, rfl, e⟩
    · exact h.kd
    · exact .ins e
  refine ⟨x, dx, .int t, v, rfl, upd_same, .int t, fun _ => kk.same (same_new hx hd), .inr (.inl ⟨rfl, nw, fun d hdn => ?_⟩)⟩
  refine k d _ (fun c o e => ?_) upd_same
  have e2 := same_new (C := C) hx hd c o e
  rw [upd_ne (ne_of_none e2 hdn)]
  exact e2
theorem mk_zero {t : Int} (k : ∀ d H', Same H H' → H' d = some (xd (.int t)) → E (.ref CZ) (some d) H') :
    ∀ x dx, H x = none → H dx = none → dx ≠ x → spInit C CI CZ [.ref x, .int t, .int 0] (upd (upd H dx (.own x)) x (.ins C dx [])) (fun v H2 => v = .non ∧ Q (.ref x) H2) E := by
  intro x dx hx hd ne
  refine ⟨x, dx, .int t, .int 0, rfl, upd_same, .int t, fun _ => .int 0, .inr (.inr ⟨t, 0, rfl, rfl, .inl ⟨rfl, fun d hdn => ?_⟩⟩)⟩
  refine k d _ (fun c o e => ?_) upd_same
  have e2 := same_new (C := C) hx hd c o e
  rw [upd_ne (ne_of_none e2 hdn)]
  exact e2
end

/-- what is known of the class's making -/
structure Mak (P : Program) (w : World) (K : PySem.W.Frag) (mg : Str → Option Value) (base : Heap) (C CI CZ : Addr) : Prop where
  ex : ∃ (fI : Addr) (fd : FuncData) (ds : List Value), Mk K C fI ∧ FnOk P w K mg base (L2.CX P w) 3 fI fd ["self", "top", "bottom"] (spInit C CI CZ) ∧ L2.Binds K fd ["self", "top", "bottom"] [] ∧ Vals [.int 1] ds ∧ L2.Binds K fd ["self", "top", "bottom"] ds
/-- a def of the module, called by its name -/
structure Glb (P : Program) (w : World) (K : PySem.W.Frag) (mg : Str → Option Value) (base : Heap) (x : Str) (k : Nat) (ps : List Str) (sp : Sp) : Prop where
  ex : ∃ (f : Addr) (fd : FuncData), mg x = some (.ref f) ∧ PySem.W.keepIn K (.ref f) = true ∧ FnOk P w K mg base (L2.CX P w) k f fd ps sp ∧ L2.Binds K fd ps []

section
variable {P : Program} {w : World} {K : PySem.W.Frag} {mg : Str → Option Value} {base : Heap} {C CI fCI CZ fCZ : Addr}
/-! ### _as_ratio -/
def spAs (C CI : Addr) : Sp := fun vs H Q E => ∃ v, vs = [v] ∧ ((∃ t b, Num C H v t b ∧ ∀ r H', Same H H' → Rat C H' r t b → Q (.ref r) H') ∨
  (Bd H v ∧ ∀ d H', Same H H' → H' d = some (xd v) → E (.ref CI) (some d) H'))
theorem scAs : FnScope ["value"] ["value"] (defScope sAs) := ⟨rfl, rfl, rfl, by decide +kernel, rfl, by decide +kernel, by decide +kernel⟩
theorem ok_as {f : Addr} {fd : FuncData} (F : Fun K "_as_ratio" "_as_ratio" sAs f fd) (T : Txt K mg C CI fCI CZ fCZ) (M : Mak P w K mg base C CI CZ) : FnOk P w K mg base (L2.CX P w) 5 f fd ["value"] (spAs C CI) := by
  obtain ⟨fI, fdI, ds, mk, GI, b3, d2, b2⟩ := M.ex
  refine F.okX scAs (fun vs H Q E h => ?_) (fun cdv A outer s H vs Q E hr h => ?_)
  · obtain ⟨v, rfl, _⟩ := h
    rfl
  · obtain ⟨v, rfl, k⟩ := h
    refine ⟨_, pss_one (ps_ret (pe_ifExp (pt_val (pe_callB call_isi (by rfl) T.isi (by decide +kernel) (pa_cons (pv 0) (pa_cons (pe_glob (v := .ref C) (by rfl) T.gC rfl) pa_nil)))) (pv 0)
      (pe_make mk GI hr (by rfl) T.gC b2 d2 (passes_call (takes_of rfl rfl rfl rfl) (fun _ _ _ _ z => z)) (pa_cons (pv 0) pa_nil)))), ?_⟩
    rcases k with ⟨t, b, ⟨q, rfl, dx, e⟩ | ⟨rfl, rfl⟩, k⟩ | ⟨bd, k⟩
    · exact ⟨_, rfl, _, _, _, _, _, rfl, .own C, .base (.ins e T.cl T.ha T.hn T.htk T.hm), T.kCC, _, rfl, iteT ⟨_, rfl, k q H (Same.refl H) ⟨dx, e⟩⟩⟩
    · refine ⟨_, rfl, _, _, _, _, _, rfl, .own C, .base (.int t), T.kiC, _, rfl, iteF ⟨_, rfl, ?_⟩⟩
      refine mk_good (by decide) (show (1 : Int).natAbs < 2 ^ 5000 by decide +kernel) fun p H' sm r => k p H' sm ?_
      rw [(nt_one t).1, (nt_one t).2] at r
      exact r
    · have fin := mk_bad1 (Q := Q) (E := E) (C := C) (CI := CI) (CZ := CZ) (u := .int 1) (.inl bd) k
      cases bd with
      | bl b => exact ⟨_, rfl, _, _, _, _, _, rfl, .own C, .base (.bl b), T.kbC, _, rfl, iteF ⟨_, rfl, fin⟩⟩
      | non => exact ⟨_, rfl, _, _, _, _, _, rfl, .own C, .base .non, T.knC, _, rfl, iteF ⟨_, rfl, fin⟩⟩
      | str x => exact ⟨_, rfl, _, _, _, _, _, rfl, .own C, .base (.str x), T.ksC, _, rfl, iteF ⟨_, rfl, fin⟩⟩
      | lst e => exact ⟨_, rfl, _, _, _, _, _, rfl, .own C, .base (.lst e), T.klC, _, rfl, iteF ⟨_, rfl, fin⟩⟩
      | tup e => exact ⟨_, rfl, _, _, _, _, _, rfl, .own C, .base (.tup e), T.ktC, _, rfl, iteF ⟨_, rfl, fin⟩⟩
end
end R1
end

-- Q02e
section
set_option Elab.async false
set_option linter.all false
set_option maxRecDepth 100000
set_option exponentiation.threshold 6000
namespace R1
open PySem L2 OwnOps RatM
/-- a method of the class, by its name -/
structure Dun (P : Program) (w : World) (K : PySem.W.Frag) (mg : Str → Option Value) (base : Heap) (C : Addr) (nm : Str) (k : Nat) (ps : List Str) (sp : Sp) : Prop where
  ex : ∃ (f : Addr) (fd : FuncData), PySem.W.findIn K (.ref C) nm = some (some (.ref f)) ∧ PySem.W.isFn K (.ref f) = true ∧ PySem.W.keepIn K (.ref f) = true ∧ FnOk P w K mg base (L2.CX P w) k f fd ps sp ∧ L2.Binds K fd ps []
theorem dI (i j : Int) : decide (V.int i = V.int j) = decide (i = j) := by
  by_cases h : i = j
  · rw [decide_eq_true h, decide_eq_true (by rw [h])]
  · rw [decide_eq_false h, decide_eq_false (fun z => h (V.int.inj z))]
def ts (i : Int) : Str := Str.ofString (toString i)
def strT (t b : Int) : Str := if b = 1 then ts t else Str.empty ++ ts t ++ ("/" : Str) ++ ts b
def reprT (t b : Int) : Str := Str.empty ++ ("Ratio(" : Str) ++ ts t ++ (", " : Str) ++ ts b ++ (")" : Str)
def Pr (i : Int) : Prop := i.natAbs.log2 < 1920
theorem ts_len {i : Int} (h : Pr i) : (ts i).length ≤ 1921 := PyProof.Rows.int_text_len_1921 h
theorem app_len (a b : Str) : (a ++ b).length = a.length + b.length := Str.length_append a b
theorem len1 : ("/" : Str).length = 1 := by decide +kernel
theorem len2 : ("Ratio(" : Str).length = 6 := by decide +kernel
theorem len3 : (", " : Str).length = 2 := by decide +kernel
theorem len4 : (")" : Str).length = 1 := by decide +kernel
theorem len0 : Str.empty.length = 0 := by decide +kernel
section
variable {P : Program} {w : World} {K : PySem.W.Frag} {mg : Str → Option Value} {base : Heap} {C CI fCI CZ fCZ : Addr}
def spStr (C : Addr) (X : Int → Int → Str) : Sp := fun vs H Q _ => ∃ p t b, vs = [.ref p] ∧ Rat C H p t b ∧ Pr t ∧ Pr b ∧ Q (.str (X t b)) H
theorem ok_str {f : Addr} {fd : FuncData} (F : Fun K "__str__" "Ratio.__str__" (sRat 18) f fd) (T : Txt K mg C CI fCI CZ fCZ) :
    FnOk P w K mg base (L2.CX P w) 1 f fd ["self"] (spStr C strT) := by
  have sc : FnScope ["self"] ["self"] (defScope (sRat 18)) := ⟨rfl, rfl, rfl, by decide +kernel, rfl, by decide +kernel, by decide +kernel⟩
  refine F.okX sc (fun vs H Q E h => ?_) (fun cdv A outer s H vs Q E hr h => ?_)
  · obtain ⟨p, t, b, rfl, _⟩ := h
    rfl
  · obtain ⟨p, t, b, rfl, ⟨dx, hp⟩, pt, pb, k⟩ := h
    refine ⟨_, pss_cons (ps_if (pt_cmpR op_eq (pe_fld (pv 0) rfl) pe_int (nomark _)) (pss_one (ps_ret (pe_callTy call_str_int (by rfl) T.str (by decide +kernel) (pa_cons (pe_fld (pv 0) rfl) pa_nil)))) pss_nil)
      (pss_one (ps_ret (pe_joined (.cons (pe_fmt (pe_fld (pv 0) rfl)) (.cons pe_str (.cons (pe_fmt (pe_fld (pv 0) rfl)) .nil)))))), ?_⟩
    refine ⟨_, rfl, p, C, dx, _, _, rfl, hp, T.cl, T.nB, flds_bot _ _, rfl, _, rfl, ?_⟩
    rw [dI]
    have lt := ts_len pt
    have lb := ts_len pb
    have ez := sizeLine_eq
    by_cases h : b = 1
    · refine if_pos' (decide_eq_true h) ⟨_, rfl, p, C, dx, _, _, rfl, hp, T.cl, T.nT, flds_top _ _, _, rfl, pt, ?_⟩
      have e : strT t b = ts t := if_pos h
      rw [e] at k
      exact k
    · refine if_neg' (decide_eq_false h) ⟨_, rfl, p, C, dx, _, _, rfl, hp, T.cl, T.nT, flds_top _ _, .inr ⟨_, rfl, pt, ts t, rfl, ?_, ("/" : Str), rfl, ?_, _, rfl, p, C, dx, _, _, rfl, hp, T.cl, T.nB, flds_bot _ _, .inr ⟨_, rfl, pb, ts b, rfl, ?_, ?_⟩⟩⟩
      · rw [app_len, len0]; omega
      · rw [app_len, app_len, len0, len1]; omega
      · rw [app_len, app_len, app_len, len0, len1]; omega
      · have e : strT t b = Str.empty ++ ts t ++ ("/" : Str) ++ ts b := if_neg h
        rw [e] at k
        exact k
end
end R1
end

-- Q02m
section
set_option Elab.async false
set_option linter.all false
set_option maxRecDepth 100000
namespace R2
open PySem SX NumText RatM R1
abbrev nl : Nat → List Nat := TL.numL
def digB (l : List Nat) : Bool := l.all fun c => decide (48 ≤ c) && decide (c ≤ 57)
theorem dig_all {l : List Nat} (h : digB l = true) : AllDigits l := fun c hc => by
  have z : (decide (48 ≤ c) && decide (c ≤ 57)) = true := List.all_eq_true.mp h c hc
  rw [Bool.and_eq_true, decide_eq_true_eq, decide_eq_true_eq] at z
  exact z
theorem dig_of {l : List Nat} (h : AllDigits l) : digB l = true := List.all_eq_true.mpr fun c hc => by
  have z := h c hc
  simp [z.1, z.2]
theorem nl_dig (n : Nat) : AllDigits (nl n) := fun c hc => TL.numL_digits n c hc
/-- no zero ahead -/
def Lead (l : List Nat) : Prop := l = [48] ∨ ∃ c r, l = c :: r ∧ 49 ≤ c
theorem back_map {l : List Nat} (h : AllDigits l) : (l.map Char.ofNat).map Char.toNat = l := by
  induction l with
  | nil => rfl
  | cons c r ih =>
    have z := h c List.mem_cons_self
    rw [List.map_cons, List.map_cons, ih fun d hd => h d (List.mem_cons_of_mem _ hd)]
    congr 1
    have v : c.isValidChar := Or.inl (by omega)
    rw [Char.ofNat, dif_pos v]
    rfl
theorem nl_back {l : List Nat} (h : AllDigits l) (p : Lead l) : nl (digitsVal l) = l := by
  have e : Nat.toDigits 10 (digitsVal l) = l.map Char.ofNat := by
    rcases p with rfl | ⟨c, r, rfl, hc⟩
    · decide
    · exact toDigits_digitsVal r.length (c :: r) rfl h (.inr ⟨c, r, rfl, hc⟩)
  show (Nat.toDigits 10 (digitsVal l)).map Char.toNat = l
  rw [e, back_map h]
theorem nl_lead (n : Nat) : Lead (nl n) := by
  have d := nl_dig n
  have e := toDigits_all (nl n) d
  have v : digitsVal (nl n) = n := TL.numL_val n
  rw [v] at e
  have b : nl n = (Nat.toDigits 10 n).map Char.toNat := rfl
  rw [e] at b
  cases q : (nl n).dropWhile (· == 48) with
  | nil =>
    rw [q] at b
    exact .inl b
  | cons c r =>
    rw [q] at b
    have sub : ∀ x ∈ c :: r, 48 ≤ x ∧ x ≤ 57 := fun x hx => d x (by
      have s := List.dropWhile_sublist (l := nl n) (· == 48)
      rw [q] at s
      exact s.subset hx)
    have b2 : nl n = c :: r := b.trans (back_map sub)
    refine .inr ⟨c, r, b2, ?_⟩
    have nc : c ≠ 48 := fun z => by
      have h0 := List.head_dropWhile_not (p := (· == 48)) (l := nl n) (by rw [q]; simp)
      simp [q, z] at h0
    have := sub c List.mem_cons_self
    omega
theorem nl_iff {l : List Nat} (h : AllDigits l) : nl (digitsVal l) = l ↔ Lead l := ⟨fun e => e ▸ nl_lead _, nl_back h⟩
/-- an integer's text -/
def itx (t : Int) : List Nat := if t < 0 then 45 :: nl t.natAbs else nl t.natAbs
theorem ts_itx (t : Int) : ts t = S (itx t) := by
  unfold ts itx
  by_cases h : t < 0
  · rw [if_pos h]
    have e0 : (0 : Int) - t = ((t.natAbs : Nat) : Int) := by omega
    rw [PyProof.Rows.toString_neg h, e0, Str.ofString_eq_toList, String.toList_append, List.map_append]
    have e1 := num_S t.natAbs
    rw [Str.ofString_eq_toList] at e1
    rw [S_inj e1]
    rfl
  · rw [if_neg h]
    have e : t = ((t.natAbs : Nat) : Int) := by omega
    rw [show toString t = toString ((t.natAbs : Nat) : Int) from by rw [← e]]
    exact num_S t.natAbs
/-- a ratio's text -/
def stx (t b : Int) : List Nat := if b = 1 then itx t else itx t ++ 47 :: itx b
theorem strT_stx (t b : Int) : strT t b = S (stx t b) := by
  unfold strT stx
  by_cases h : b = 1
  · rw [if_pos h, if_pos h, ts_itx]
  · rw [if_neg h, if_neg h, ts_itx, ts_itx, Str.empty_append, show (("/" : Str)) = S [47] from by decide +kernel, S_cat, S_cat]
    simp
theorem itx_no {t : Int} : 47 ∉ itx t := by
  unfold itx
  have z : 47 ∉ nl t.natAbs := TL.numL_free (by omega)
  split
  · simp [z]
  · exact z
theorem itx_nat (n : Nat) : itx (n : Int) = nl n := by
  unfold itx
  rw [if_neg (by omega), Int.natAbs_natCast]
theorem itx_neg {n : Nat} (h : n ≠ 0) : itx (-(n : Int)) = 45 :: nl n := by
  unfold itx
  rw [if_pos (by omega), Int.natAbs_neg, Int.natAbs_natCast]
/-! ### a text and its sign -/
def isNeg (l : List Nat) : Bool := l.take 1 == [45]
def rest (l : List Nat) : List Nat := if isNeg l = true then l.drop 1 else l
def top (ng : Bool) (n : Nat) : Int := if ng = true then -(n : Int) else n
def okn (r : List Nat) : Bool := !r.isEmpty && digB r && decide (r.length ≤ 60)
def plainB (l : List Nat) : Bool := !l.isEmpty && digB l && (l == [48] || !(l.take 1 == [48]))
def good (w : List Nat) : Bool := plainB w && decide (w.length ≤ 60)
/-- the law's reading -/
def due2 (ng : Bool) (w v : List Nat) : Option (Int × Int) :=
  if good w = true ∧ good v = true ∧ ¬ (ng = true ∧ digitsVal w = 0) ∧ 2 ≤ digitsVal v ∧ Nat.gcd (digitsVal w) (digitsVal v) = 1 then some (top ng (digitsVal w), (digitsVal v : Int)) else none
def due1 (ng : Bool) (w : List Nat) : Option (Int × Int) := if good w = true ∧ ¬ (ng = true ∧ digitsVal w = 0) then some (top ng (digitsVal w), 1) else none
def due (l : List Nat) : Option (Int × Int) := match TL.spl [47] 0 [] (rest l) with
  | [w] => due1 (isNeg l) w
  | [w, v] => due2 (isNeg l) w v
  | _ => none
/-- the program's -/
def tryR (l : List Nat) (t b : Int) : Option (Int × Int) := if b = 0 then none else if stx (nt t b) (nb t b) = l then some (nt t b, nb t b) else none
def prs (l : List Nat) : Option (Int × Int) := match TL.par [47] [] l with
  | none => if okn (rest l) = true then tryR l (top (isNeg l) (digitsVal (rest l))) 1 else none
  | some (t, b) => if okn (rest t) = true ∧ okn b = true then tryR l (top (isNeg t) (digitsVal (rest t))) (digitsVal b : Int) else none
theorem lead_iff {l : List Nat} (hd : digB l = true) (hn : l ≠ []) : Lead l ↔ (l == [48] || !(l.take 1 == [48])) = true := by
  cases l with
  | nil => exact absurd rfl hn
  | cons c r =>
    have z := dig_all hd c List.mem_cons_self
    constructor
    · rintro (h | ⟨c', r', h, hc⟩)
      · rw [h]; rfl
      · injection h with h1 h2
        subst h1
        have : c ≠ 48 := by omega
        simp [this]
    · intro h
      by_cases q : c = 48
      · subst q
        left
        simpa using h
      · exact .inr ⟨c, r, rfl, by omega⟩
theorem good_iff {w : List Nat} : good w = true ↔ okn w = true ∧ nl (digitsVal w) = w := by
  unfold good okn plainB
  by_cases hn : w = []
  · subst hn
    simp
  · by_cases hd : digB w = true
    · have e := lead_iff hd hn
      rw [nl_iff (dig_all hd), e]
      have h0 : w.isEmpty = false := by simpa using hn
      rw [h0, hd]
      simp only [Bool.not_false, Bool.true_and, Bool.and_eq_true, decide_eq_true_eq]
      exact and_comm
    · simp [hd]
theorem top_itx {ng : Bool} {n : Nat} (h : ¬ (ng = true ∧ n = 0)) : itx (top ng n) = (if ng = true then 45 :: nl n else nl n) := by
  unfold top
  cases ng with
  | true =>
    have : n ≠ 0 := fun z => h ⟨rfl, z⟩
    rw [if_pos rfl, if_pos rfl, itx_neg this]
  | false =>
    rw [if_neg Bool.false_ne_true, if_neg Bool.false_ne_true, itx_nat]
end R2
end

-- Q02n
section
set_option Elab.async false
set_option linter.all false
set_option maxRecDepth 100000
namespace R2
open PySem SX NumText RatM R1
theorem cut {x y u v : List Nat} (hx : 47 ∉ x) (hy : 47 ∉ y) : x ++ 47 :: u = y ++ 47 :: v ↔ x = y ∧ u = v := by
  constructor
  · intro e
    induction x generalizing y with
    | nil =>
      cases y with
      | nil => exact ⟨rfl, by simpa using e⟩
      | cons c r =>
        simp only [List.nil_append, List.cons_append, List.cons.injEq] at e
        exact absurd (by rw [← e.1]; exact List.mem_cons_self) hy
    | cons d s ih =>
      cases y with
      | nil =>
        simp only [List.nil_append, List.cons_append, List.cons.injEq] at e
        exact absurd (by rw [e.1]; exact List.mem_cons_self) hx
      | cons c r =>
        simp only [List.cons_append, List.cons.injEq] at e
        have := ih (fun h => hx (List.mem_cons_of_mem _ h)) (fun h => hy (List.mem_cons_of_mem _ h)) e.2
        exact ⟨by rw [e.1, this.1], this.2⟩
  · rintro ⟨rfl, rfl⟩
    rfl
def sgn (ng : Bool) (w : List Nat) : List Nat := if ng = true then 45 :: w else w
theorem itx_zero : itx 0 = [48] := by decide +kernel
theorem itx_top_iff {ng : Bool} {w : List Nat} : itx (top ng (digitsVal w)) = sgn ng w ↔ nl (digitsVal w) = w ∧ ¬ (ng = true ∧ digitsVal w = 0) := by
  by_cases z : ng = true ∧ digitsVal w = 0
  · obtain ⟨z1, z2⟩ := z
    subst z1
    rw [z2, show top true 0 = 0 from rfl, itx_zero]
    unfold sgn
    rw [if_pos rfl]
    constructor
    · intro e
      injection e with e1 _
      exact absurd e1 (by decide)
    · exact fun e => absurd ⟨rfl, rfl⟩ e.2
  · rw [top_itx z]
    unfold sgn
    cases ng with
    | true => simp [z]; intro _ h; exact z ⟨rfl, h⟩
    | false => simp
theorem part1 {ng : Bool} {w : List Nat} : (if okn w = true then tryR (sgn ng w) (top ng (digitsVal w)) 1 else none) = due1 ng w := by
  unfold due1 tryR
  rw [if_neg (by decide : ¬ (1 : Int) = 0), (nt_one _).1, (nt_one _).2]
  have e : stx (top ng (digitsVal w)) 1 = itx (top ng (digitsVal w)) := if_pos rfl
  rw [e]
  by_cases ok : okn w = true
  · rw [if_pos ok]
    by_cases c : itx (top ng (digitsVal w)) = sgn ng w
    · have q := itx_top_iff.mp c
      rw [if_pos c, if_pos ⟨good_iff.mpr ⟨ok, q.1⟩, q.2⟩]
    · rw [if_neg c, if_neg fun q => c (itx_top_iff.mpr ⟨(good_iff.mp q.1).2, q.2⟩)]
  · rw [if_neg ok, if_neg fun q => ok (good_iff.mp q.1).1]
theorem cmn_top {ng : Bool} {a b : Nat} (hb : b ≠ 0) : cmn (top ng a) (b : Int) = (Nat.gcd a b : Int) := by
  have e : (top ng a).natAbs = a := by
    unfold top
    split <;> omega
  unfold cmn
  rw [if_pos (by omega), e, Int.natAbs_natCast]
theorem part2 {ng : Bool} {p q : List Nat} (hp : 47 ∉ p) : (if okn p = true ∧ okn q = true then tryR (sgn ng p ++ 47 :: q) (top ng (digitsVal p)) (digitsVal q : Int) else none) = due2 ng p q := by
  have hs : 47 ∉ sgn ng p := by
    unfold sgn
    split
    · simp [hp]
    · exact hp
  by_cases ok : okn p = true ∧ okn q = true
  · rw [if_pos ok]
    unfold tryR due2
    generalize hb : digitsVal q = b
    generalize ha : digitsVal p = a
    by_cases b0 : b = 0
    · subst b0
      rw [if_pos (by rfl), if_neg fun z => absurd z.2.2.2.1 (by decide)]
    · rw [if_neg (by omega)]
      have g := cmn_top (ng := ng) (a := a) b0
      have h1 := nt_mul (t := top ng a) (b := (b : Int))
      have h2 := nb_mul (t := top ng a) (b := (b : Int))
      have dp := nb_pos (t := top ng a) (b := (b : Int)) (by omega)
      rw [g] at h1 h2
      generalize ht : nt (top ng a) (b : Int) = t at *
      generalize hd : nb (top ng a) (b : Int) = d at *
      have one : Nat.gcd a b = 1 → t = top ng a ∧ d = b := fun z => by
        rw [z] at h1 h2
        exact ⟨by simpa using h1, by simpa using h2⟩
      by_cases d1 : d = 1
      · have no : ¬ stx t d = sgn ng p ++ 47 :: q := fun e => by
          rw [show stx t d = itx t from if_pos d1] at e
          exact itx_no (t := t) (by rw [e]; simp)
        rw [if_neg no, if_neg fun z => ?_]
        have := (one z.2.2.2.2).2
        have := z.2.2.2.1
        omega
      · obtain ⟨dn, rfl⟩ : ∃ dn : Nat, d = dn := ⟨d.natAbs, by omega⟩
        have es : stx t dn = itx t ++ 47 :: nl dn := by
          rw [show stx t dn = itx t ++ 47 :: itx dn from if_neg d1, itx_nat]
        rw [es]
        by_cases c : itx t ++ 47 :: nl dn = sgn ng p ++ 47 :: q
        · obtain ⟨c1, c2⟩ := (cut itx_no hs).mp c
          have vb : b = dn := by
            rw [← hb, ← c2]
            exact TL.numL_val dn
          have g1 : Nat.gcd a b = 1 := by
            subst vb
            have : (b : Int) * (Nat.gcd a b : Int) = b * 1 := by rw [h2, Int.mul_one]
            have := Int.eq_of_mul_eq_mul_left (by omega) this
            omega
          obtain ⟨t1, _⟩ := one g1
          have c3 : itx (top ng (digitsVal p)) = sgn ng p := by rw [ha, ← t1]; exact c1
          have k := itx_top_iff.mp c3
          rw [ha] at k
          have gp : good p = true := good_iff.mpr ⟨ok.1, by rw [ha]; exact k.1⟩
          have gq : good q = true := good_iff.mpr ⟨ok.2, by rw [hb, vb]; exact c2⟩
          have b2 : 2 ≤ b := by
            have : ¬ b = 1 := fun z => d1 (by rw [← vb, z]; rfl)
            omega
          rw [if_pos c, if_pos ⟨gp, gq, k.2, b2, g1⟩, t1, vb]
        · rw [if_neg c, if_neg fun z => c ?_]
          obtain ⟨gp, gq, nz, b2, g1⟩ := z
          obtain ⟨t1, e2⟩ := one g1
          have e3 : dn = b := by omega
          have kp := (good_iff.mp gp).2
          have kq := (good_iff.mp gq).2
          refine (cut itx_no hs).mpr ⟨?_, ?_⟩
          · rw [t1, ← ha]
            exact itx_top_iff.mpr ⟨kp, by rw [ha]; exact nz⟩
          · rw [e3, ← hb]
            exact kq
  · rw [if_neg ok]
    unfold due2
    rw [if_neg fun z => ok ⟨(good_iff.mp z.1).1, (good_iff.mp z.2.1).1⟩]
theorem okn_no {q : List Nat} (h : 47 ∈ q) : okn q = false := by
  cases hk : okn q with
  | false => rfl
  | true =>
    unfold okn at hk
    simp only [Bool.and_eq_true] at hk
    have := dig_all hk.1.2 47 h
    omega
theorem spl_one {w : List Nat} (h : 47 ∉ w) : TL.spl [47] 0 [] w = [w] := spl_join (c := 47) (sep := []) (parts := [w]) (by simp) (fun p hp => by rw [List.mem_singleton.mp hp]; exact h)
theorem spl_two {p q : List Nat} (h : 47 ∉ p) : TL.spl [47] 0 [] (p ++ 47 :: q) = p :: TL.spl [47] 0 [] q := spl_free (sep := [47]) q (by simp) (free_head h)
theorem par_two {p q : List Nat} (h : 47 ∉ p) : TL.par [47] [] (p ++ 47 :: q) = some (p, q) := par_head (c := 47) (sep := []) q h
theorem sgn_rest (l : List Nat) : l = sgn (isNeg l) (rest l) := by
  unfold sgn rest
  cases h : isNeg l with
  | false => rfl
  | true =>
    rw [if_pos rfl, if_pos rfl]
    cases l with
    | nil => simp [isNeg] at h
    | cons c r =>
      have : c = 45 := by simpa [isNeg] using h
      rw [this]
      rfl
theorem neg_sgn {ng : Bool} {p u : List Nat} (h : isNeg (sgn ng p ++ 47 :: u) = ng) : isNeg (sgn ng p) = ng ∧ rest (sgn ng p) = p := by
  cases ng with
  | true => exact ⟨rfl, rfl⟩
  | false =>
    have e : isNeg p = false := by
      have h' : isNeg (p ++ 47 :: u) = false := h
      cases p with
      | nil => rfl
      | cons c r => exact h'
    refine ⟨e, ?_⟩
    show rest p = p
    unfold rest
    rw [e]
    rfl
theorem prs_due (l : List Nat) : prs l = due l := by
  have e := sgn_rest l
  generalize hn : isNeg l = ng at e
  generalize hr : rest l = r at e
  have k2 : due l = (match TL.spl [47] 0 [] r with | [w] => due1 ng w | [w, v] => due2 ng w v | _ => none) := by
    unfold due
    rw [hn, hr] <;> rfl
  by_cases hs : 47 ∈ r
  · obtain ⟨p, q, rfl, hp⟩ := List.eq_append_cons_of_mem hs
    have el : l = sgn ng p ++ 47 :: q := by
      rw [e]
      unfold sgn
      split <;> rfl
    have hs' : 47 ∉ sgn ng p := by
      unfold sgn
      split
      · simp [hp]
      · exact hp
    obtain ⟨n1, n2⟩ := neg_sgn (ng := ng) (p := p) (u := q) (by rw [← el]; exact hn)
    have k1 : prs l = if okn p = true ∧ okn q = true then tryR l (top ng (digitsVal p)) (digitsVal q : Int) else none := by
      unfold prs
      rw [show TL.par [47] [] l = some (sgn ng p, q) from by rw [el]; exact par_two hs']
      show (if okn (rest (sgn ng p)) = true ∧ okn q = true then tryR l (top (isNeg (sgn ng p)) (digitsVal (rest (sgn ng p)))) (digitsVal q : Int) else none) = _
      rw [n1, n2]
    rw [k1, k2, spl_two hp]
    by_cases hq : 47 ∈ q
    · rw [if_neg (by rw [okn_no hq]; simp)]
      obtain ⟨p2, q2, rfl, hp2⟩ := List.eq_append_cons_of_mem hq
      rw [spl_two hp2]
      cases h : TL.spl [47] 0 [] q2 with
      | nil => exact absurd h (by
          intro z
          have := TL.spl_nil [47] 0 []
          by_cases m : 47 ∈ q2
          · obtain ⟨p3, q3, rfl, hp3⟩ := List.eq_append_cons_of_mem m
            rw [spl_two hp3] at z
            cases z
          · rw [spl_one m] at z
            cases z)
      | cons _ _ => rfl
    · rw [spl_one hq, el]
      exact part2 hp
  · have k1 : prs l = if okn r = true then tryR l (top ng (digitsVal r)) 1 else none := by
      have nl0 : 47 ∉ l := by
        rw [e]
        unfold sgn
        split
        · simp [hs]
        · exact hs
      unfold prs
      rw [show TL.par [47] [] l = none from par_head_none nl0]
      show (if okn (rest l) = true then tryR l (top (isNeg l) (digitsVal (rest l))) 1 else none) = _
      rw [hn, hr]
    rw [k1, k2, spl_one hs]
    have := part1 (ng := ng) (w := r)
    rw [← e] at this
    exact this
/-- what is told is in lowest terms, and its text is the text -/
theorem prs_text {l : List Nat} {t b : Int} (h : prs l = some (t, b)) : stx t b = l := by
  have key : ∀ {l : List Nat} {x y : Int}, tryR l x y = some (t, b) → stx t b = l := fun {l x y} h => by
    unfold tryR at h
    split at h
    · cases h
    · split at h
      · rename_i e
        injection h with h
        injection h with h1 h2
        rw [← h1, ← h2]
        exact e
      · cases h
  unfold prs at h
  split at h
  · split at h
    · exact key h
    · cases h
  · split at h
    · exact key h
    · cases h
end R2
end

-- Q02f
section
set_option Elab.async false
set_option linter.all false
set_option maxRecDepth 100000
set_option exponentiation.threshold 6000
namespace R1
open PySem L2 OwnOps RatM
abbrev sDraws : Stmt := top 16
abbrev sDraw : Stmt := top 17
structure Nms (mg : Str → Option Value) : Prop where
  len : mg "len" = none
  max : mg "max" = none
  min : mg "min" = none
  range : mg "range" = none
theorem dp_ints {K : PySem.W.Frag} {H : Hp} : ∀ ns : List Int, DpAll K H (ns.map V.int) (ns.map PyData.int)
  | [] => .nil
  | n :: r => .cons (.int n) (dp_ints r)
theorem atI_mod {ns : List Int} {k : Int} (h : ns ≠ []) : ∃ z, atI (ns.map V.int) (k % (ns.length : Int)) = some (.int z) := by
  have hl : 0 < ns.length := List.length_pos_iff.mpr h
  have h1 : 0 ≤ k % (ns.length : Int) := Int.emod_nonneg _ (by omega)
  have h2 : k % (ns.length : Int) < ns.length := Int.emod_lt_of_pos _ (by omega)
  obtain ⟨j, hj⟩ : ∃ j : Nat, k % (ns.length : Int) = j := ⟨_, (Int.toNat_of_nonneg h1).symm⟩
  have h3 : j < ns.length := by omega
  refine ⟨ns[j], at_of hj ?_⟩
  rw [List.getElem?_map, List.getElem?_eq_getElem h3]
  rfl
section
variable {P : Program} {w : World} {K : PySem.W.Frag} {mg : Str → Option Value} {base : Heap} {C CI fCI CZ fCZ : Addr}
/-! ### the law's draws -/
def spDraws (K : PySem.W.Frag) : Sp := fun vs H Q _ => ∃ (a : Addr) (ns : List Int) (k : Int), vs = [.ref a, .int k] ∧ SqL K H a (ns.map V.int) ∧
  ∀ p x y H', Same H H' → H' p = some (.lst [.int x, .int y]) → H p = none → Q (.ref p) H'
theorem ok_draws {f : Addr} {fd : FuncData} (F : Fun K "_law_draws" "_law_draws" sDraws f fd) (T : Txt K mg C CI fCI CZ fCZ) (N : Nms mg) :
    FnOk P w K mg base (L2.CX P w) 1 f fd ["_law_script", "_law_k"] (spDraws K) := by
  have sc : FnScope ["_law_script", "_law_k", "_law_cell", "_law_seed"] ["_law_script", "_law_k"] (defScope sDraws) := ⟨rfl, rfl, rfl, by decide +kernel, rfl, by decide +kernel, by decide +kernel⟩
  refine F.okX sc (fun vs H Q E h => ?_) (fun cdv A outer s H vs Q E hr h => ?_)
  · obtain ⟨a, ns, k, rfl, _⟩ := h
    rfl
  · obtain ⟨a, ns, k, rfl, hS, fin⟩ := h
    refine ⟨_, pss_cons (ps_set (i := 2) sc.nd rfl (Or.inl rfl) pe_int)
      (pss_cons (ps_if (pt_cmpR (op_neD hr.units) (pv 0) (pe_lst pa_nil) (nomark _))
        (pss_one (ps_set (i := 2) sc.nd rfl (Or.inl rfl) (pe_ix ix_list (pv 0) (pe_op op_mod (pe_callTy call_int1 (by rfl) T.int (by decide +kernel) (pa_cons (pv 1) pa_nil)) (pe_callB call_len_seq (by rfl) N.len PySem.boot_len (pa_cons (pv 0) pa_nil))) (fun _ _ => rfl)))) pss_nil)
      (pss_cons (ps_if (pt_cmpR op_ge (pv 1) (pe_callB call_len_seq (by rfl) N.len PySem.boot_len (pa_cons (pv 0) pa_nil)) (nomark _))
        (pss_one (ps_set (i := 2) sc.nd rfl (Or.inl rfl) (pe_op op_mod (pe_callTy call_int1 (by rfl) T.int (by decide +kernel) (pa_cons (pv 2) pa_nil)) pe_int))) pss_nil)
      (pss_cons (ps_set (i := 3) sc.nd rfl (Or.inl rfl) (pe_op op_mod (pe_op op_mul (pe_callTy call_int1 (by rfl) T.int (by decide +kernel) (pa_cons
          (pe_op op_add (pe_op op_add (pe_op op_mod (pe_callTy call_int1 (by rfl) T.int (by decide +kernel) (pa_cons (pv 2) pa_nil)) pe_int) (pe_op op_mul pe_int (pv 1))) pe_int) pa_nil)) pe_int) pe_int))
      (pss_one (ps_ret (pe_lst (pa_cons (pe_op op_mul (pv 2) (pe_callTy call_int1 (by rfl) T.int (by decide +kernel) (pa_cons (pe_cmpR op_ge (pv 2) (pe_op op_pow pe_int pe_int) (nomark _)) pa_nil))) (pa_cons (pv 3) pa_nil)))))))), ?_⟩
    refine ⟨_, rfl, (by show 0 ≤ sizeLine; exact Nat.zero_le _), fun p0 np0 => ?_⟩
    have s0 : Same H (upd H p0 (.lst [])) := same_upd np0
    have hS0 := s0.seq hS
    have e0 : (upd H p0 (.lst [])) p0 = some (.lst []) := upd_same
    generalize upd H p0 (.lst []) = H0 at s0 hS0 e0
    have el : (1000003 : Int) > 0 := by decide
    have bits : ∀ z : Int, -(2 ^ 64) < (if decide (z ≥ 10 ^ 18) = true then (1 : Int) else 0) ∧ (if decide (z ≥ 10 ^ 18) = true then (1 : Int) else 0) < 2 ^ 64 := fun z => by
      split <;> exact ⟨by decide, by decide⟩
    refine ⟨.list (ns.map PyData.int), .list [], .lst hS0 (dp_ints ns), .lst (SqL.of e0) .nil, PySem.W.ke_shaped_ints ns, by decide +kernel, _, rfl, ?_⟩
    by_cases hn : ns = []
    · subst hn
      refine iteF ?_
      refine ⟨_, rfl, _, rfl, a, _, rfl, .inl hS0, _, _, rfl, rfl, _, rfl, ?_⟩
      refine ite2 (fun _ => ⟨_, rfl, .inl ⟨_, rfl, _, _, rfl, rfl, (by show (0 : Int) < 1000003; decide), ?_⟩⟩) (fun _ => ?_)
      all_goals
        refine ⟨_, rfl, .inl ⟨_, rfl, _, _, rfl, rfl, (by show (0 : Int) < 2147483629; decide), _, rfl, _, _, rfl, rfl, .inl ⟨by decide, by decide⟩, _, _, rfl, rfl, _, _, rfl, rfl, .inl ⟨_, rfl, _, _, rfl, rfl, .inr ⟨by decide, by decide⟩, _, _, rfl, rfl, (by show (0 : Int) < 2147483647; decide), ?_⟩⟩⟩
        refine ⟨_, rfl, _, rfl, _, _, rfl, rfl, ⟨by decide, by decide, by decide +kernel⟩, _, _, rfl, rfl, .inr ⟨_, rfl, _, _, rfl, rfl, .inr (bits _), _, rfl, (by show 2 ≤ sizeLine; decide), fun p np => ?_⟩⟩
        exact fin p _ _ _ (s0.trans (same_upd np)) upd_same (s0.free np)
    · have ef : PyData.eqv (.list (ns.map PyData.int)) (.list []) = false := by
        cases ns with
        | nil => exact absurd rfl hn
        | cons _ _ => rfl
      rw [ef]
      obtain ⟨z, hz⟩ := atI_mod (k := k) hn
      refine iteT ⟨_, rfl, _, rfl, .inl ⟨_, rfl, _, rfl, a, _, rfl, .inl hS0, _, _, rfl, rfl, (by rw [List.length_map]; exact Int.natCast_pos.mpr (List.length_pos_iff.mpr hn)), a, _, _, _, rfl, rfl, hS0, (by rw [List.length_map]; exact hz), ?_⟩⟩
      refine ⟨_, rfl, _, rfl, a, _, rfl, .inl hS0, _, _, rfl, rfl, _, rfl, ?_⟩
      refine ite2 (fun _ => ⟨_, rfl, .inl ⟨_, rfl, _, _, rfl, rfl, (by show (0 : Int) < 1000003; decide), ?_⟩⟩) (fun _ => ?_)
      all_goals
        refine ⟨_, rfl, .inl ⟨_, rfl, _, _, rfl, rfl, (by show (0 : Int) < 2147483629; decide), _, rfl, _, _, rfl, rfl, .inl ⟨by decide, by decide⟩, _, _, rfl, rfl, _, _, rfl, rfl, .inl ⟨_, rfl, _, _, rfl, rfl, .inr ⟨by decide, by decide⟩, _, _, rfl, rfl, (by show (0 : Int) < 2147483647; decide), ?_⟩⟩⟩
        refine ⟨_, rfl, _, rfl, _, _, rfl, rfl, ⟨by decide, by decide, by decide +kernel⟩, _, _, rfl, rfl, .inr ⟨_, rfl, _, _, rfl, rfl, .inr (bits _), _, rfl, (by show 2 ≤ sizeLine; decide), fun p np => ?_⟩⟩
        exact fin p _ _ _ (s0.trans (same_upd np)) upd_same (s0.free np)
end
end R1
end

-- Q02g
section
set_option Elab.async false
set_option linter.all false
set_option maxRecDepth 100000
set_option exponentiation.threshold 6000
namespace R1
open PySem L2 OwnOps RatM
section
variable {P : Program} {w : World} {K : PySem.W.Frag} {mg : Str → Option Value} {base : Heap} {C CI fCI CZ fCZ : Addr}
def spDraw : Sp := fun vs H Q _ => ∃ (l : Addr) (u x y : Int), vs = [.ref l, .int u] ∧ 0 < u ∧ u < 1073741824 ∧ H l = some (.lst [.int x, .int y]) ∧
  ∀ d x' y', 0 ≤ d → d < u → Q (.int d) (upd H l (.lst [.int x', .int y']))
theorem ok_draw {f : Addr} {fd : FuncData} (F : Fun K "_law_draw" "_law_draw" sDraw f fd) (T : Txt K mg C CI fCI CZ fCZ) :
    FnOk P w K mg base (L2.CX P w) 1 f fd ["_law_draws_here", "_law_upto"] spDraw := by
  have sc : FnScope ["_law_draws_here", "_law_upto", "_law_digit"] ["_law_draws_here", "_law_upto"] (defScope sDraw) := ⟨rfl, rfl, rfl, by decide +kernel, rfl, by decide +kernel, by decide +kernel⟩
  refine F.okX sc (fun vs H Q E h => ?_) (fun cdv A outer s H vs Q E hr h => ?_)
  · obtain ⟨l, u, x, y, rfl, _⟩ := h
    rfl
  · obtain ⟨l, u, x, y, rfl, u0, u1, hl, fin⟩ := h
    refine ⟨_, pss_cons (ps_if (pt_cmpR op_gt (pe_ix ix_list (pv 0) pe_int (fun _ _ => rfl)) pe_int (nomark _))
        (pss_cons (ps_set (i := 2) sc.nd rfl (Or.inl rfl) (pe_op op_mod (pe_callTy call_int1 (by rfl) T.int (by decide +kernel) (pa_cons (pe_ix ix_list (pv 0) pe_int (fun _ _ => rfl)) pa_nil)) (pv 1)))
        (pss_cons (ps_asg (pe_op op_fdiv (pe_ix ix_list (pv 0) pe_int (fun _ _ => rfl)) (pv 1)) (pg_sub (pv 0) pe_int set_list))
        (pss_one (ps_ret (pv 2))))) pss_nil)
      (pss_cons (ps_asg (pe_op op_mod (pe_callTy call_int1 (by rfl) T.int (by decide +kernel) (pa_cons (pe_op op_add (pe_op op_mul (pe_ix ix_list (pv 0) pe_int (fun _ _ => rfl)) pe_int) pe_int) pa_nil)) pe_int) (pg_sub (pv 0) pe_int set_list))
      (pss_one (ps_ret (pe_op op_mod (pe_callTy call_int1 (by rfl) T.int (by decide +kernel) (pa_cons (pe_op op_fdiv (pe_op op_mod (pe_callTy call_int1 (by rfl) T.int (by decide +kernel)
        (pa_cons (pe_op op_mul (pe_ix ix_list (pv 0) pe_int (fun _ _ => rfl)) (pe_ix ix_list (pv 0) pe_int (fun _ _ => rfl))) pa_nil)) pe_int) pe_int) pa_nil)) (pv 1))))), ?_⟩
    refine ⟨_, rfl, l, _, _, _, rfl, rfl, SqL.of hl, at_of (j := 0) rfl rfl, _, _, rfl, rfl, _, rfl, ?_⟩
    refine ite2 (fun _ => ?_) (fun _ => ?_)
    · refine ⟨_, rfl, l, _, _, _, rfl, rfl, SqL.of hl, at_of (j := 0) rfl rfl, .inl ⟨_, rfl, _, rfl, _, _, rfl, rfl, u0, ?_⟩⟩
      refine ⟨_, rfl, l, _, _, _, rfl, rfl, SqL.of hl, at_of (j := 0) rfl rfl, _, rfl, _, _, rfl, rfl, ⟨u0, u1⟩, _, rfl, l, _, _, 0, rfl, rfl, hl, rfl, _, rfl, ?_⟩
      exact fin _ _ _ (Int.emod_nonneg _ (Int.ne_of_gt u0)) (Int.emod_lt_of_pos _ u0)
    · refine ⟨_, rfl, l, _, _, _, rfl, rfl, SqL.of hl, at_of (j := 1) rfl rfl, _, _, rfl, rfl, .inr ⟨by decide, by decide⟩, _, _, rfl, rfl, .inl ⟨_, rfl, _, _, rfl, rfl, (by show (0 : Int) < 2147483647; decide), _, rfl, l, _, _, 1, rfl, rfl, hl, rfl, ?_⟩⟩
      have y0 : 0 ≤ (y * 48271 + 11) % 2147483647 := Int.emod_nonneg _ (by decide)
      have y1 : (y * 48271 + 11) % 2147483647 < 2147483647 := Int.emod_lt_of_pos _ (by decide)
      have hl2 : (upd H l (.lst [.int x, .int ((y * 48271 + 11) % 2147483647)])) l = some (.lst [.int x, .int ((y * 48271 + 11) % 2147483647)]) := upd_same
      refine ⟨_, rfl, l, _, _, .int ((y * 48271 + 11) % 2147483647), rfl, rfl, SqL.of hl2, at_of (j := 1) rfl rfl, _, rfl, l, _, _, .int ((y * 48271 + 11) % 2147483647), rfl, rfl, SqL.of hl2, at_of (j := 1) rfl rfl, _, _, rfl, rfl, .inl ⟨by omega, by omega⟩, .inl ⟨_, rfl, _, _, rfl, rfl, (by show (0 : Int) < 2147483629; decide), _, _, rfl, rfl, ⟨by decide, by decide⟩, .inl ⟨_, rfl, _, rfl, _, _, rfl, rfl, u0, ?_⟩⟩⟩
      exact fin _ _ _ (Int.emod_nonneg _ (Int.ne_of_gt u0)) (Int.emod_lt_of_pos _ u0)
end
end R1
end

-- Q02h
section
set_option Elab.async false
set_option linter.all false
set_option maxRecDepth 100000
set_option exponentiation.threshold 6000
namespace R1
open PySem L2 OwnOps RatM
open R2 (digB okn rest isNeg prs due stx itx tryR)
open SX (S)
abbrev sDig : Stmt := R1.top 5
abbrev sNum : Stmt := R1.top 14
abbrev sParse : Stmt := sRat 1
/-- the names of the module of texts -/
structure Tnm (mg : Str → Option Value) : Prop where
  all : mg "all" = none
  digits : ∃ u, mg "DIGITS" = some u ∧ RelV (.str "0123456789") u
  parsed : ∃ u, mg "PARSED_DIGITS" = some u ∧ RelV (.int 60) u
/-- a list made over the signs of a text -/
theorem lc_its {z : Str} {g : TG} {tt : TT} {te : TE} {vs : List Nat} {σ : L2.St} {H1 : Hp} {D : Addr} {Qd : Hp → Prop} (Pv : Nat → Hp → Prop) (h0 : Pv 0 (upd H1 D (.lst [])))
    (step : ∀ j c G, z.cps[j]? = some c → Pv j G → g (.str ⟨#[c]⟩) (wipe σ vs) G fun σ2 H2 => wipe σ2 vs = wipe σ vs ∧ tt σ2 H2 fun b H3 =>
      if b = true then te σ2 H3 fun y H4 => ∃ acc, H4 D = some (.lst acc) ∧ acc.length < sizeLine ∧ Pv (j + 1) (upd H4 D (.lst (acc ++ [y]))) else Pv (j + 1) H3) (fin : ∀ G, Pv z.cps.size G → Qd G) :
    ∃ W : Nat → Nat → Hp → Prop, (∃ m, W 0 m (upd H1 D (.lst []))) ∧ ∀ i m H, W i m H →
      ((Its z).stop i H ∧ Qd H) ∨ ((Its z).go i H ∧ ∃ Nx : Hp → Prop, (∀ H', Nx H' → ∃ m', m' < m ∧ W (i + 1) m' H') ∧ ∀ x H', (Its z).yld i H x H' → g x (wipe σ vs) H' fun σ2 H2 => wipe σ2 vs = wipe σ vs ∧ tt σ2 H2 fun b H3 =>
        if b = true then te σ2 H3 fun y H4 => ∃ acc, H4 D = some (.lst acc) ∧ acc.length < sizeLine ∧ Nx (upd H4 D (.lst (acc ++ [y]))) else Nx H3) := by
  refine ⟨fun j k G => k = z.cps.size - j ∧ j ≤ z.cps.size ∧ Pv j G, ⟨z.cps.size, rfl, Nat.zero_le _, h0⟩, ?_⟩
  rintro j k G ⟨rfl, hj, p⟩
  by_cases lt : j < z.cps.size
  · refine .inr ⟨lt, Pv (j + 1), fun G' p' => ⟨z.cps.size - (j + 1), by omega, rfl, lt, p'⟩, fun x G' y => ?_⟩
    obtain ⟨rfl, c, hc, rfl⟩ := y
    exact step j c G' hc p
  · have e : j = z.cps.size := by omega
    subst e
    exact .inl ⟨Nat.le_refl _, fin G p⟩
theorem yes_go {σ : L2.St} {H : Hp} {Q : Bool → Hp → Prop} (h : Q true H) : tYes σ H Q := h
abbrev isD (c : Nat) : Bool := decide (48 ≤ c) && decide (c ≤ 57)
theorem in_digits (c : Nat) : decide (c ∈ ("0123456789" : Str).cps.toList) = isD c := by
  have e : ("0123456789" : Str).cps.toList = [48, 49, 50, 51, 52, 53, 54, 55, 56, 57] := by decide +kernel
  rw [e]
  unfold isD
  rw [← Bool.decide_and]
  refine decide_eq_decide.mpr ?_
  simp only [List.mem_cons, List.not_mem_nil, or_false]
  omega
section
variable {P : Program} {w : World} {K : PySem.W.Frag} {mg : Str → Option Value} {base : Heap} {C CI fCI CZ fCZ : Addr}
def spDig : Sp := fun vs H Q _ => ∃ l : List Nat, vs = [.str (S l)] ∧ l.length ≤ 200 ∧ ∀ H', Same H H' → Q (.bl (!l.isEmpty && digB l)) H'
theorem ok_dig {f : Addr} {fd : FuncData} (F : Fun K "is_digits" "is_digits" sDig f fd) (N : Nms mg) (TN : Tnm mg) : FnOk P w K mg base (L2.CX P w) 1 f fd ["text"] spDig := by
  have sc : FnScope ["text", "sign"] ["text"] (defScope sDig) := ⟨rfl, rfl, rfl, by decide +kernel, rfl, by decide +kernel, by decide +kernel⟩
  refine F.okX sc (fun vs H Q E h => ?_) (fun cdv A outer s H vs Q E hr h => ?_)
  · obtain ⟨l, rfl, _⟩ := h
    rfl
  · obtain ⟨l, rfl, hl, k⟩ := h
    refine ⟨_, pss_one (ps_ret (pe_and (pe_cmpR op_gt (pe_callB call_len (by rfl) N.len PySem.boot_len (pa_cons (pv 0) pa_nil)) pe_int (nomark _))
      (pe_one (pe_callB (cr_all rfl) (by rfl) TN.all (by decide +kernel) (pa_cons (pe_lc (own := [("sign", 1)]) (g := gName 1) (tt := tYes) rfl sc.nd (pi_str (pv 0)) (blkOk_by (N := ["text", "sign"]) (sc := defScope sDig) (by decide +kernel))
        (fun _ _ _ _ _ => pg_name (i := 1) sc.nd rfl (Or.inl rfl)) (fun _ _ _ _ _ => pts_nil) (fun _ _ _ _ _ => pe_cmpR op_inS (pv 1) (C8.pe_gc rfl TN.digits) (by rfl))) pa_nil))))), ?_⟩
    have ez := sizeLine_eq
    refine ⟨_, rfl, _, _, rfl, ⟨by rw [SX.S_len]; omega, rfl⟩, _, _, rfl, rfl, _, rfl, ?_⟩
    by_cases h0 : l = []
    · subst h0
      exact if_neg' (by decide) (k H (Same.refl H))
    · have hp : 0 < l.length := List.length_pos_iff.mpr h0
      refine if_pos' (decide_eq_true (by rw [SX.S_len]; omega)) ?_
      refine ⟨_, rfl, _, rfl, fun D nD => ?_⟩
      refine lc_its (z := S l) (fun j G => Same H G ∧ G D = some (.lst ((l.take j).map fun c => V.bl (isD c)))) ⟨same_upd nD, upd_same⟩ (fun j c G hc ⟨sm, hD⟩ => ⟨rfl, yes_go ?_⟩) (fun G ⟨sm, hD⟩ => ?_)
      · refine iteT ⟨_, rfl, _, _, rfl, rfl, _, hD, ?_, ?_, ?_⟩
        · rw [List.length_map, List.length_take]; omega
        · exact fun c o e => by
            rw [upd_ne (ne_of_none e nD)]
            exact sm _ _ e
        · rw [upd_same]
          have hc' : l[j]? = some c := by
            have : (S l).cps[j]? = l.toArray[j]? := rfl
            rw [this, List.getElem?_toArray] at hc
            exact hc
          rw [List.take_add_one, hc', List.map_append, in_digits]
          rfl
      · have e1 : l.take (S l).cps.size = l := List.take_of_length_le (by show l.length ≤ l.toArray.size; simp)
        rw [e1] at hD
        have hD' : G D = some (.lst ((l.map isD).map V.bl)) := by rw [List.map_map]; exact hD
        refine ⟨D, l.map isD, rfl, SqL.of hD', ?_⟩
        have e2 : (l.map isD).all id = digB l := by
          rw [List.all_map]
          rfl
        have e3 : (!l.isEmpty && digB l) = digB l := by
          cases l with
          | nil => exact absurd rfl h0
          | cons a r => rfl
        rw [e2, ← e3]
        exact k G sm
end
end R1
end

-- Q02i
section
set_option Elab.async false
set_option linter.all false
set_option maxRecDepth 100000
set_option exponentiation.threshold 6000
namespace R1
open PySem L2 OwnOps RatM
open R2 (digB okn rest isNeg prs due stx itx tryR)
open SX (S)
theorem val_lt {l : List Nat} (h : NumText.AllDigits l) : NumText.digitsVal l < 10 ^ l.length := by
  have key : ∀ (l : List Nat) (a : Nat), NumText.AllDigits l → l.foldl (fun acc c => acc * 10 + (c - 48)) a < (a + 1) * 10 ^ l.length := by
    intro l
    induction l with
    | nil => intro a _; simp
    | cons c r ih =>
      intro a h
      have hc := h c List.mem_cons_self
      have q := ih (a * 10 + (c - 48)) fun d hd => h d (List.mem_cons_of_mem _ hd)
      rw [List.foldl_cons, List.length_cons, Nat.pow_succ]
      refine Nat.lt_of_lt_of_le q ?_
      have : a * 10 + (c - 48) + 1 ≤ (a + 1) * 10 := by omega
      calc (a * 10 + (c - 48) + 1) * 10 ^ r.length ≤ ((a + 1) * 10) * 10 ^ r.length := Nat.mul_le_mul_right _ this
        _ = (a + 1) * (10 ^ r.length * 10) := by rw [Nat.mul_assoc, Nat.mul_comm 10]
  have := key l 0 h
  rw [Nat.zero_add, Nat.one_mul] at this
  exact this
theorem okn_of {r : List Nat} (h : okn r = true) : r ≠ [] ∧ NumText.AllDigits r ∧ r.length ≤ 60 := by
  unfold okn at h
  simp only [Bool.and_eq_true, decide_eq_true_eq, Bool.not_eq_true'] at h
  refine ⟨fun z => ?_, R2.dig_all h.1.2, h.2⟩
  rw [z] at h
  cases h.1.1
theorem val_sm {r : List Nat} (h : okn r = true) : NumText.digitsVal r < 2 ^ 200 := by
  obtain ⟨_, h1, h2⟩ := okn_of h
  refine Nat.lt_of_lt_of_le (val_lt h1) (Nat.le_trans (Nat.pow_le_pow_right (by decide) h2) (by decide))
theorem top_abs (ng : Bool) (n : Nat) : (R2.top ng n).natAbs = n := by
  unfold R2.top
  split <;> omega
theorem int_nat {r : List Nat} (h : okn r = true) : PySem.intText? (S r) = some ((NumText.digitsVal r : Nat) : Int) := by
  obtain ⟨h0, h1, h2⟩ := okn_of h
  exact PySem.intText_digits (x := S r) h1 h0 (by rw [SX.S_len]; omega)
theorem int_top {t : List Nat} (h : okn (rest t) = true) : PySem.intText? (S t) = some (R2.top (isNeg t) (NumText.digitsVal (rest t))) := by
  have e := R2.sgn_rest t
  cases hn : isNeg t with
  | false =>
    rw [hn] at e
    have e' : t = rest t := e
    rw [← e'] at h ⊢
    exact int_nat h
  | true =>
    rw [hn] at e
    have e' : t = 45 :: rest t := e
    obtain ⟨h0, h1, h2⟩ := okn_of h
    exact PySem.intText_neg (x := S t) (cs := rest t) e' h1 h0 (by rw [SX.S_len, e', List.length_cons]; omega)
theorem rp_S (l : List Nat) : Txt.removeprefix (S l) ("-" : Str) = S (rest l) := by
  have hy : ("-" : Str) = S [45] := by decide +kernel
  rw [hy, PySem.StrLaws.removeprefix_eq, PySem.StrLaws.subAt_eq]
  have e1 : (S [45]).length = 1 := rfl
  have e2 : (S [45]).cps.toList = [45] := rfl
  have e3 : (S l).cps.toList = l := rfl
  rw [e1, e2, e3, SX.S_len]
  unfold R2.rest R2.isNeg
  cases l with
  | nil => rfl
  | cons c r =>
    by_cases h : c = 45
    · subst h
      rw [if_pos (by simp), if_pos (by simp)]
      simp
    · rw [if_neg (by simp [h]), if_neg (by simp [h])]
section
variable {P : Program} {w : World} {K : PySem.W.Frag} {mg : Str → Option Value} {base : Heap} {C CI fCI CZ fCZ : Addr}
def spNum : Sp := fun vs H Q _ => ∃ l : List Nat, vs = [.str (S l)] ∧ l.length ≤ 200 ∧ ∀ H', Same H H' → Q (.bl (okn l)) H'
theorem ok_num {f : Addr} {fd : FuncData} (F : Fun K "_is_number" "_is_number" sNum f fd) (N : Nms mg) (TN : Tnm mg) (GD : Glb P w K mg base "is_digits" 1 ["text"] spDig) : FnOk P w K mg base (L2.CX P w) 2 f fd ["text"] spNum := by
  obtain ⟨_, _, mD, kD, GD, bD⟩ := GD.ex
  have sc : FnScope ["text"] ["text"] (defScope sNum) := ⟨rfl, rfl, rfl, by decide +kernel, rfl, by decide +kernel, by decide +kernel⟩
  refine F.okX sc (fun vs H Q E h => ?_) (fun cdv A outer s H vs Q E hr h => ?_)
  · obtain ⟨l, rfl, _⟩ := h
    rfl
  · obtain ⟨l, rfl, hl, k⟩ := h
    refine ⟨_, pss_one (ps_ret (pe_and (pe_call GD hr (by rfl) mD kD bD .nil passL (pa_cons (pv 0) pa_nil)) (pe_one (pe_cmpR op_le (pe_callB call_len (by rfl) N.len PySem.boot_len (pa_cons (pv 0) pa_nil)) (C8.pe_gc rfl TN.parsed) (nomark _))))), ?_⟩
    have ez := sizeLine_eq
    refine ⟨_, rfl, l, rfl, hl, fun H' sm => ⟨_, rfl, ?_⟩⟩
    have e : okn l = ((!l.isEmpty && digB l) && decide (l.length ≤ 60)) := rfl
    cases hb : (!l.isEmpty && digB l) with
    | false =>
      refine iteF ?_
      rw [hb, Bool.false_and] at e
      rw [← e]
      exact k H' sm
    | true =>
      refine iteT ⟨_, rfl, _, _, rfl, ⟨by rw [SX.S_len]; omega, rfl⟩, _, _, rfl, rfl, ?_⟩
      rw [hb, Bool.true_and] at e
      have e2 : decide (((S l).length : Int) ≤ 60) = okn l := by
        rw [e, SX.S_len]
        exact decide_eq_decide.mpr (by omega)
      have q := k H' sm
      rw [← e2] at q
      exact q
end
end R1
end

-- Q02j
section
set_option Elab.async false
set_option linter.all false
set_option maxRecDepth 100000
set_option exponentiation.threshold 6000
namespace R1
open PySem L2 OwnOps RatM
open R2 (digB okn isNeg prs due stx itx tryR)
open SX (S)
theorem good_at {C CI CZ : Addr} {H : Hp} {x dx : Addr} {T : VK} {E : XK} {t b : Int} (hx : H x = none) (hd : H dx = none) (hb : b ≠ 0) (bs : Sm 5000 b) (k : ∀ H', Same H H' → Rat C H' x (nt t b) (nb t b) → T .non H') :
    spInit C CI CZ [.ref x, .int t, .int b] (upd (upd H dx (.own x)) x (.ins C dx [])) T E := by
  refine ⟨x, dx, .int t, .int b, rfl, upd_same, .int t, fun _ => .int b, .inr (.inr ⟨t, b, rfl, rfl, .inr ⟨hb, bs, ?_⟩⟩)⟩
  refine k _ (fun c o e => ?_) ⟨dx, upd_same⟩
  rw [upd_ne (ne_of_none e hx)]
  exact same_new hx hd c o e
def Raise1 (CI : Addr) (H : Hp) (v : V) (E : XK) : Prop := ∀ d H', Same H H' → H' d = some (xd v) → E (.ref CI) (some d) H'
theorem pr_lt {x : Int} (h : x.natAbs < 2 ^ 200) : Pr x := Nat.lt_of_lt_of_le (PySem.Flt.log2_lt_of (by decide) h) (by decide)
theorem S_ne {a b : List Nat} : (!decide (V.str (S a) = V.str (S b))) = !decide (a = b) := by
  by_cases h : a = b
  · rw [decide_eq_true h, decide_eq_true (by rw [h])]
  · rw [decide_eq_false h, decide_eq_false (fun z => h (SX.S_inj (V.str.inj z)))]
theorem slash_S : ("/" : Str) = S [47] := by decide +kernel
theorem part_cases (l : List Nat) : ∃ t sl b, Txt.partition (S l) ("/" : Str) = (S t, S sl, S b) ∧ t.length ≤ l.length ∧ b.length ≤ l.length ∧
    ((sl = [] ∧ t = l ∧ TL.par [47] [] l = none) ∨ (sl = [47] ∧ TL.par [47] [] l = some (t, b))) := by
  rw [slash_S]
  by_cases h : 47 ∈ l
  · obtain ⟨p, q, rfl, hp⟩ := List.eq_append_cons_of_mem h
    have e := R2.par_two (q := q) hp
    exact ⟨p, [47], q, SX.partition_some (by simp) e, by simp, by simp; omega, .inr ⟨rfl, e⟩⟩
  · have e : TL.par [47] [] l = none := SX.par_head_none h
    exact ⟨l, [], [], SX.partition_none (by simp) e, Nat.le_refl _, by simp, .inl ⟨rfl, rfl, e⟩⟩
abbrev rIntT : List V → Hp → VK → Prop := fun xs H Q => ∃ a n, xs = [.str a] ∧ PySem.intText? a = some n ∧ a.length ≤ 640 ∧ Q (.int n) H
abbrev tMk2 (C CI CZ : Addr) : TE := tMake C (spInit C CI CZ) [] E0 (tCons (tCB rIntT (tCons (tVar 1) tNil)) (tCons (tVar 4) tNil))
theorem parse_tail {C CI CZ : Addr} {σ : L2.St} {H : Hp} {D : Ends} {u : TS} {t l : List Nat} {T B : Int} (h0 : σ[0]? = some (some (.str (S l)))) (h1 : σ[1]? = some (some (.str (S t)))) (h4 : σ[4]? = some (some (.int B)))
    (hT : PySem.intText? (S t) = some T) (tl : t.length ≤ 640) (bT : T.natAbs < 2 ^ 200) (bB : B.natAbs < 2 ^ 200) (bad : tryR l T B = none → ∀ D' H', Same H H' → u D' σ H')
    (ok : ∀ x y r H', tryR l T B = some (x, y) → Same H H' → Rat C H' r x y → D.rt (.ref r) H') :
    tSeq (tIfS (tOr (tTest (tOp rEq (tVar 4) (tC (.int 0)))) (tTest (tOp rNe (tCB (fun xs H Q => ∃ x, xs = [x] ∧ rOwn1 C (spStr C strT) E0 IsStr x H Q) (tCons (tMk2 C CI CZ) tNil)) (tVar 0)))) u tNext) (tRet (tMk2 C CI CZ)) D σ H := by
  refine ⟨_, h4, rfl, _, rfl, ?_⟩
  rw [dI]
  by_cases b0 : B = 0
  · exact if_pos' (decide_eq_true b0) (iteT (bad (by unfold tryR; rw [if_pos b0]) _ _ (Same.refl H)))
  · refine if_neg' (decide_eq_false b0) ?_
    have tl' : (S t).length ≤ 640 := by rw [SX.S_len]; exact tl
    have b5 : Sm 5000 B := Nat.lt_of_lt_of_le bB (Nat.pow_le_pow_right (by decide) (by decide))
    refine ⟨_, h1, S t, T, rfl, hT, tl', _, h4, ?_⟩
    intro x dx nx nd ne
    refine good_at nx nd b0 b5 fun G s1 r => ⟨rfl, ?_⟩
    obtain ⟨dz, hz⟩ := id r
    have pn : Pr (nt T B) := pr_lt (Nat.lt_of_le_of_lt (nt_le b0) bT)
    have pb : Pr (nb T B) := pr_lt (Nat.lt_of_le_of_lt (nb_le b0) bB)
    refine ⟨_, rfl, x, dz, _, rfl, hz, x, _, _, rfl, r, pn, pb, ⟨_, rfl⟩, _, h0, rfl, _, rfl, ?_⟩
    rw [R2.strT_stx, S_ne]
    have tr : tryR l T B = if stx (nt T B) (nb T B) = l then some (nt T B, nb T B) else none := by
      unfold tryR
      rw [if_neg b0]
    by_cases e : stx (nt T B) (nb T B) = l
    · refine if_neg' (by rw [decide_eq_true e]; rfl) ?_
      refine ⟨_, h1, S t, T, rfl, hT, tl', _, h4, ?_⟩
      intro y dy ny ndy ney
      refine good_at ny ndy b0 b5 fun G2 s2 r2 => ⟨rfl, ?_⟩
      exact ok _ _ y G2 (by rw [tr, if_pos e]) (s1.trans s2) r2
    · exact if_pos' (by rw [decide_eq_false e]; rfl) (bad (by rw [tr, if_neg e]) _ _ s1)
section
variable {P : Program} {w : World} {K : PySem.W.Frag} {mg : Str → Option Value} {base : Heap} {C CI fCI CZ fCZ : Addr}
def spParse (K : PySem.W.Frag) (C CI : Addr) : Sp := fun vs H Q E => ∃ v, vs = [v] ∧ ((∃ l, v = .str (S l) ∧ l.length ≤ 200 ∧ ((∃ t b, prs l = some (t, b) ∧ ∀ r H', Same H H' → Rat C H' r t b → Q (.ref r) H') ∨ (prs l = none ∧ Raise1 CI H v E))) ∨
  ((∃ t, TyX K H v t ∧ PySem.W.kitOne K t (.type "str") = some false) ∧ Raise1 CI H v E))
theorem ok_parse {f : Addr} {fd : FuncData} (F : Fun K "parse" "Ratio.parse" sParse f fd) (T : Txt K mg C CI fCI CZ fCZ) (M : Mak P w K mg base C CI CZ) (GN : Glb P w K mg base "_is_number" 2 ["text"] spNum)
    (DS : Dun P w K mg base C "__str__" 1 ["self"] (spStr C strT)) : FnOk P w K mg base (L2.CX P w) 5 f fd ["text"] (spParse K C CI) := by
  obtain ⟨fI, fdI, ds, mk, GI, b3, d2, b2⟩ := M.ex
  obtain ⟨_, _, mN, kN, GN, bN⟩ := GN.ex
  obtain ⟨_, _, sta, stf, _, stG, stb⟩ := DS.ex
  have sc : FnScope ["text", "top", "slash", "bottom", "below"] ["text"] (defScope sParse) := ⟨rfl, rfl, rfl, by decide +kernel, rfl, by decide +kernel, by decide +kernel⟩
  refine F.okX sc (fun vs H Q E h => ?_) (fun cdv A outer s H vs Q E hr h => ?_)
  · obtain ⟨v, rfl, _⟩ := h
    rfl
  · obtain ⟨v, rfl, k⟩ := h
    refine ⟨_, pss_cons (ps_if (pt_not (pt_val (pe_callB call_isi (by rfl) T.isi (by decide +kernel) (pa_cons (pv 0) (pa_cons (pe_bltn (v := .ty "str") (by rfl) T.str (by decide +kernel) rfl) pa_nil)))))
        (pss_one (ps_raiseGiv rfl PySem.Giv.ok_VE T.eI hr (takes_of rfl rfl rfl rfl) (pa_cons (pv 0) pa_nil) (by rfl))) pss_nil)
      (pss_cons (ps_asg (pe_partition (pv 0) pe_str) (pg_tup rfl (pgs_cons (pg_name (i := 1) sc.nd rfl (Or.inl rfl)) (pgs_cons (pg_name (i := 2) sc.nd rfl (Or.inl rfl)) (pgs_cons (pg_name (i := 3) sc.nd rfl (Or.inl rfl)) pgs_nil)))))
      (pss_cons (ps_if (PW.pt (pw_or (pt_not (pt_val (pe_call GN (hr.mono (by decide)) (by rfl) mN kN bN .nil passL (pa_cons (pe_m1 PySem.F.slot_str_removeprefix PySem.F.type_str_removeprefix mt_removeprefix (pv 1) pe_str) pa_nil))))
          (pw_or1 (PW.pt (pw_and (pt_truth (pv 2) (fun _ => rfl)) (pw_and1 (pt_not (pt_val (pe_call GN (hr.mono (by decide)) (by rfl) mN kN bN .nil passL (pa_cons (pv 3) pa_nil))))))))))
        (pss_one (ps_raiseGiv rfl PySem.Giv.ok_VE T.eI hr (takes_of rfl rfl rfl rfl) (pa_cons (pv 0) pa_nil) (by rfl))) pss_nil)
      (pss_cons (ps_set (i := 4) sc.nd rfl (Or.inl rfl) (pe_ifExp (pt_truth (pv 2) (fun _ => rfl)) (pe_callTy call_int_str (by rfl) T.int (by decide +kernel) (pa_cons (pv 3) pa_nil)) pe_int))
      (pss_cons (ps_if (PW.pt (pw_or (pt_cmpR op_eq (pv 4) pe_int (nomark _)) (pw_or1 (pt_cmpR op_ne (pe_callTy (call_strO (E := E0) sta stf stG (hr.mono (by decide)) stb passL) (by rfl) T.str (by decide +kernel)
            (pa_cons (pe_make mk GI (hr.mono (by decide)) (by rfl) T.gC b3 .nil passL (pa_cons (pe_callTy call_int_str (by rfl) T.int (by decide +kernel) (pa_cons (pv 1) pa_nil)) (pa_cons (pv 4) pa_nil))) pa_nil)) (pv 0) (nomark _)))))
        (pss_one (ps_raiseGiv rfl PySem.Giv.ok_VE T.eI hr (takes_of rfl rfl rfl rfl) (pa_cons (pv 0) pa_nil) (by rfl))) pss_nil)
      (pss_one (ps_ret (pe_make mk GI (hr.mono (by decide)) (by rfl) T.gC b3 .nil passL (pa_cons (pe_callTy call_int_str (by rfl) T.int (by decide +kernel) (pa_cons (pv 1) pa_nil)) (pa_cons (pv 4) pa_nil))))))))), ?_⟩
    have ez := sizeLine_eq
    rcases k with ⟨l, rfl, hl, k⟩ | ⟨⟨t, ty, hk⟩, k⟩
    · refine ⟨_, rfl, _, _, _, _, _, rfl, .ty _, .base (.str _), kit_ty (r := true) (by decide +kernel), _, rfl, iteF ?_⟩
      obtain ⟨t, sl, b, hp, htl, hbl, hc⟩ := part_cases l
      refine ⟨_, rfl, ⟨_, rfl⟩, S l, _, rfl, rfl, (by decide +kernel), by rw [SX.S_len]; omega, fun p np => ?_⟩
      rw [hp]
      have s1 := same_upd (o := .tup [V.str (S t), V.str (S sl), V.str (S b)]) np
      have e1 : (upd H p (.tup [V.str (S t), V.str (S sl), V.str (S b)])) p = some (.tup [V.str (S t), V.str (S sl), V.str (S b)]) := upd_same
      generalize (upd H p (.tup [V.str (S t), V.str (S sl), V.str (S b)])) = G at s1 e1 ⊢
      refine ⟨p, _, rfl, SqT.of e1, rfl, _, _, rfl, _, _, rfl, _, _, rfl, rfl, ?_⟩
      refine ⟨_, rfl, ⟨_, rfl⟩, S t, _, rfl, rfl, by rw [SX.S_len]; omega, ?_⟩
      rw [rp_S]
      have rl : (R2.rest t).length ≤ t.length := by
        unfold R2.rest
        split
        · rw [List.length_drop]; omega
        · exact Nat.le_refl _
      refine ⟨R2.rest t, rfl, by omega, fun H2 s2 => ⟨_, rfl, ?_⟩⟩
      have s12 := s1.trans s2
      have bad : prs l = none → ∀ (D' : Ends) (H' : Hp), Same H H' → ∀ d, H' d = none → E (.ref CI) (some d) (upd H' d (xd (.str (S l)))) := fun hn D' H' sm d hd => by
        rcases k with ⟨x, y, z, _⟩ | ⟨_, k⟩
        · rw [hn] at z; cases z
        · exact k d _ (sm.trans (same_upd hd)) upd_same
      have good : ∀ x y r H', prs l = some (x, y) → Same H H' → Rat C H' r x y → Q (.ref r) H' := fun x y r H' hs sm hr => by
        rcases k with ⟨x', y', z, k⟩ | ⟨z, _⟩
        · rw [hs] at z
          injection z with z
          injection z with z1 z2
          subst z1; subst z2
          exact k r H' sm hr
        · rw [hs] at z; cases z
      by_cases o1 : okn (R2.rest t) = true
      · rw [o1]
        refine iteF ?_
        have hT := int_top o1
        have bT : (R2.top (isNeg t) (NumText.digitsVal (R2.rest t))).natAbs < 2 ^ 200 := by rw [top_abs]; exact val_sm o1
        rcases hc with ⟨rfl, rfl, hpar⟩ | ⟨rfl, hpar⟩
        · have hprs : prs t = tryR t (R2.top (isNeg t) (NumText.digitsVal (R2.rest t))) 1 := by
            unfold R2.prs
            rw [hpar]
            exact if_pos o1
          refine ⟨_, rfl, false, ⟨by rw [SX.S_len]; simp, rfl⟩, iteF (iteF ?_)⟩
          refine ⟨_, rfl, false, ⟨by rw [SX.S_len]; simp, rfl⟩, iteF ?_⟩
          exact parse_tail (l := t) (t := t) (B := 1) rfl rfl rfl hT (by omega) bT (by decide) (fun hn D' H' sm => ⟨_, rfl, _, rfl, fun d hd => bad (by rw [hprs]; exact hn) D' H' (s12.trans sm) d hd⟩) (fun x y r H' hs sm hr => good x y r H' (by rw [hprs]; exact hs) (s12.trans sm) hr)
        · refine ⟨_, rfl, true, ⟨by rw [SX.S_len]; show 1 ≤ sizeLine; decide, rfl⟩, iteT ?_⟩
          refine ⟨_, rfl, b, rfl, by omega, fun H3 s3 => ⟨_, rfl, ?_⟩⟩
          have s13 := s12.trans s3
          by_cases o2 : okn b = true
          · rw [o2]
            refine iteF ?_
            have hprs : prs l = tryR l (R2.top (isNeg t) (NumText.digitsVal (R2.rest t))) (NumText.digitsVal b : Int) := by
              unfold R2.prs
              rw [hpar]
              exact if_pos ⟨o1, o2⟩
            refine ⟨_, rfl, true, ⟨by rw [SX.S_len]; show 1 ≤ sizeLine; decide, rfl⟩, iteT ⟨_, rfl, S b, _, rfl, int_nat o2, by rw [SX.S_len]; omega, ?_⟩⟩
            exact parse_tail (l := l) (t := t) (B := (NumText.digitsVal b : Int)) rfl rfl rfl hT (by omega) bT (by rw [Int.natAbs_natCast]; exact val_sm o2) (fun hn D' H' sm => ⟨_, rfl, _, rfl, fun d hd => bad (by rw [hprs]; exact hn) D' H' (s13.trans sm) d hd⟩) (fun x y r H' hs sm hr => good x y r H' (by rw [hprs]; exact hs) (s13.trans sm) hr)
          · have hprs : prs l = none := by
              unfold R2.prs
              rw [hpar]
              exact if_neg fun z => o2 z.2
            have e2 : okn b = false := by simpa using o2
            rw [e2]
            exact iteT ⟨_, rfl, _, rfl, fun d hd => bad hprs { nx := fun _ _ => True, rt := fun _ _ => True } _ s13 d hd⟩
      · have hprs : prs l = none := by
          unfold R2.prs
          rcases hc with ⟨rfl, rfl, hpar⟩ | ⟨rfl, hpar⟩
          · rw [hpar]
            exact if_neg o1
          · rw [hpar]
            exact if_neg fun z => o1 z.1
        have e2 : okn (R2.rest t) = false := by simpa using o1
        rw [e2]
        exact iteT (iteT ⟨_, rfl, _, rfl, fun d hd => bad hprs { nx := fun _ _ => True, rt := fun _ _ => True } _ s12 d hd⟩)
    · exact ⟨_, rfl, _, _, _, _, _, rfl, .ty _, ty, hk, _, rfl, iteT ⟨_, rfl, _, rfl, fun d hd => k d _ (same_upd hd) upd_same⟩⟩
end
end R1
end

-- Q02k
section
set_option Elab.async false
set_option linter.all false
set_option maxRecDepth 100000
set_option exponentiation.threshold 6000
namespace R1
open PySem L2 OwnOps RatM OwnNe
open R2 (digB okn isNeg prs due stx itx tryR plainB good)
open SX (S)
abbrev sPlain : Stmt := R1.top 18
abbrev sDivisor : Stmt := R1.top 19
theorem S_eq {a b : List Nat} : decide (V.str (S a) = V.str (S b)) = decide (a = b) := by
  by_cases h : a = b
  · rw [decide_eq_true h, decide_eq_true (by rw [h])]
  · rw [decide_eq_false h, decide_eq_false (fun z => h (SX.S_inj (V.str.inj z)))]
theorem nil_S : ("" : Str) = S [] := by decide +kernel
theorem zero_S : ("0" : Str) = S [48] := by decide +kernel
/-- the signs of l that are no digits -/
abbrev offs (l : List Nat) : List V := (l.filter fun c => !isD c).map fun c => V.str ⟨#[c]⟩
theorem offs_nil (l : List Nat) : (offs l).isEmpty = digB l := by
  unfold digB
  induction l with
  | nil => rfl
  | cons c r ih =>
    show ((List.filter (fun c => !isD c) (c :: r)).map _).isEmpty = (isD c && digB r)
    rw [List.filter_cons]
    cases h : isD c with
    | true => exact ih
    | false => rfl
section
variable {P : Program} {w : World} {K : PySem.W.Frag} {mg : Str → Option Value} {base : Heap} {C CI fCI CZ fCZ : Addr}
def spPlain : Sp := fun vs H Q _ => ∃ l : List Nat, vs = [.str (S l)] ∧ l.length ≤ 200 ∧ ∀ H', Same H H' → Q (.bl (plainB l)) H'
theorem ok_plain {f : Addr} {fd : FuncData} (F : Fun K "_law_plain" "_law_plain" sPlain f fd) : FnOk P w K mg base (L2.CX P w) 1 f fd ["_law_text_here"] spPlain := by
  have sc : FnScope ["_law_text_here", "_law_sign"] ["_law_text_here"] (defScope sPlain) := ⟨rfl, rfl, rfl, by decide +kernel, rfl, by decide +kernel, by decide +kernel⟩
  refine F.okX sc (fun vs H Q E h => ?_) (fun cdv A outer s H vs Q E hr h => ?_)
  · obtain ⟨l, rfl, _⟩ := h
    rfl
  · obtain ⟨l, rfl, hl, k⟩ := h
    refine ⟨_, pss_cons (ps_if (PW.pt (pw_or (pt_cmpR op_eq (pv 0) pe_str (nomark _)) (pw_or1 (pt_cmpR (op_neEmp hr.units0)
        (pe_lc (own := [("_law_sign", 1)]) (g := gName 1) (tt := tTest (tOp rNotInS (tVar 1) (tC (.str "0123456789")))) rfl sc.nd (pi_str (pv 0)) (blkOk_by (N := ["_law_text_here", "_law_sign"]) (sc := defScope sPlain) (by decide +kernel))
          (fun _ _ _ _ _ => pg_name (i := 1) sc.nd rfl (Or.inl rfl)) (fun _ _ _ _ _ => pts_one (pt_cmpR op_notInS (pv 1) pe_str (by rfl))) (fun _ _ _ _ _ => pv 1)) (pe_lst pa_nil) (nomark _))))) (pss_one (ps_ret pe_bl)) pss_nil)
      (pss_one (ps_ret (pe_or (pe_cmpR op_eq (pv 0) pe_str (nomark _)) (pe_one (pe_cmpR op_ne (pe_ix ix_str (pv 0) pe_int (fun _ _ => rfl)) pe_str (nomark _)))))), ?_⟩
    have ez := sizeLine_eq
    refine ⟨_, rfl, rfl, _, rfl, ?_⟩
    rw [nil_S, S_eq]
    by_cases h0 : l = []
    · subst h0
      exact if_pos' (by rfl) (iteT (k H (Same.refl H)))
    · refine if_neg' (decide_eq_false h0) ?_
      refine ⟨_, rfl, _, rfl, fun D nD => ?_⟩
      refine lc_its (z := S l) (fun j G => Same H G ∧ G D = some (.lst (offs (l.take j)))) ⟨same_upd nD, upd_same⟩ (fun j c G hc ⟨sm, hD⟩ => ⟨rfl, _, rfl, c, _, rfl, rfl, _, rfl, ?_⟩) (fun G ⟨sm, hD⟩ => ?_)
      · have hc' : l[j]? = some c := by
          have : (S l).cps[j]? = l.toArray[j]? := rfl
          rw [this, List.getElem?_toArray] at hc
          exact hc
        have ht : l.take (j + 1) = l.take j ++ [c] := by rw [List.take_add_one, hc']; rfl
        rw [in_digits]
        cases hd : isD c with
        | true =>
          refine iteF ⟨sm, ?_⟩
          rw [ht, hD]
          unfold offs
          rw [List.filter_append, List.filter_cons, hd]
          simp
        | false =>
          refine iteT ⟨_, rfl, _, hD, ?_, ?_, ?_⟩
          · show ((List.filter _ _).map _).length < sizeLine
            rw [List.length_map]
            have := List.length_filter_le (fun c => !isD c) (l.take j)
            rw [List.length_take] at this
            omega
          · exact fun c o e => by
              rw [upd_ne (ne_of_none e nD)]
              exact sm _ _ e
          · rw [upd_same, ht]
            unfold offs
            rw [List.filter_append, List.filter_cons, hd]
            simp
      · have e1 : l.take (S l).cps.size = l := List.take_of_length_le (by show l.length ≤ l.toArray.size; simp)
        rw [e1] at hD
        refine ⟨(by show 0 ≤ sizeLine; exact Nat.zero_le _), fun D2 nD2 => ?_⟩
        have s2 := same_upd (o := .lst []) nD2
        refine ⟨D, D2, _, rfl, rfl, s2 _ _ hD, upd_same, _, rfl, ?_⟩
        rw [offs_nil]
        have pl : plainB l = (digB l && (l == [48] || !(l.take 1 == [48]))) := by
          unfold plainB
          cases l with
          | nil => exact absurd rfl h0
          | cons a r => rfl
        cases hd : digB l with
        | false =>
          refine iteT ?_
          rw [hd, Bool.false_and] at pl
          have q := k _ (sm.trans s2)
          rw [pl] at q
          exact q
        | true =>
          refine iteF ?_
          rw [hd, Bool.true_and] at pl
          refine ⟨_, rfl, rfl, _, rfl, ?_⟩
          rw [zero_S, S_eq]
          obtain ⟨a, r, rfl⟩ := List.exists_cons_of_ne_nil h0
          by_cases h1 : a :: r = [48]
          · refine if_pos' (decide_eq_true h1) ?_
            have q := k _ (sm.trans s2)
            rw [pl, h1] at q
            exact q
          · refine if_neg' (decide_eq_false h1) ?_
            have at0 : atI (S (a :: r)).cps.toList 0 = some a := by
              show atI (a :: r) 0 = some a
              simp [atI, ixN]
            refine ⟨_, rfl, S (a :: r), 0, a, rfl, rfl, by rw [SX.S_len]; omega, at0, rfl, ?_⟩
            have q := k _ (sm.trans s2)
            have e2 : (!decide (V.str ⟨#[a]⟩ = V.str ("0" : Str))) = plainB (a :: r) := by
              rw [pl, zero_S]
              show (!decide (V.str (S [a]) = V.str (S [48]))) = _
              rw [S_eq]
              have e3 : (a :: r == [48]) = false := by simpa using h1
              rw [e3, Bool.false_or]
              by_cases h2 : a = 48
              · simp [h2]
              · simp [h2]
            rw [← e2] at q
            exact q
end
end R1
end

-- Q02l
section
set_option Elab.async false
set_option linter.all false
set_option maxRecDepth 100000
set_option exponentiation.threshold 6000
namespace R1
open PySem L2 OwnOps RatM OwnNe
open R2 (digB okn isNeg prs due stx itx tryR plainB good)
open SX (S)
theorem dash_S : ("-" : Str) = S [45] := by decide +kernel
theorem neg_dec (l : List Nat) : decide (l.take 1 = [45]) = isNeg l := by
  unfold R2.isNeg
  by_cases h : l.take 1 = [45]
  · rw [decide_eq_true h, h]; rfl
  · rw [decide_eq_false h]
    symm
    simpa using h
theorem sl_one (l : List Nat) : Txt.slice (S l) none (some 1) = S (l.take 1) := SX.slice_to (a := l) (i := 1) (by decide)
theorem sl_rest (l : List Nat) : Txt.slice (S l) (some 1) none = S (l.drop 1) := SX.slice_from (a := l) (i := 1) (by decide)
abbrev tDash : TE := tOp rEq (tSl C8.rSlX (tVar 0) tNoPart (tPart (tC (.int 1)))) (tC (.str "-"))
theorem dash_go {σ : L2.St} {H : Hp} {l : List Nat} {Q : VK} (h0 : σ[0]? = some (some (.str (S l)))) (hl : l.length ≤ 200) (k : Q (.bl (isNeg l)) H) : tDash σ H Q := by
  have ez := sizeLine_eq
  refine ⟨_, h0, _, rfl, S l, rfl, by rw [SX.S_len]; omega, rfl, ?_⟩
  rw [sl_one, dash_S, S_eq, neg_dec]
  exact k
theorem rest_go {σ : L2.St} {H : Hp} {l : List Nat} {u : TS} {D : Ends} (h0 : σ[0]? = some (some (.str (S l)))) (hl : l.length ≤ 200) (k : u D (σ.set 1 (some (.str (S (R2.rest l))))) H) :
    tSeq (tAsg (tIf (tTest tDash) (tSl C8.rSlX (tVar 0) (tPart (tC (.int 1))) tNoPart) (tVar 0)) (gName 1)) u D σ H := by
  have ez := sizeLine_eq
  show tDash σ H fun x H' => ∃ b, x = .bl b ∧ (if b = true then tSl C8.rSlX (tVar 0) (tPart (tC (.int 1))) tNoPart σ H' (fun x H1 => u D (σ.set 1 (some x)) H1) else tVar 0 σ H' (fun x H1 => u D (σ.set 1 (some x)) H1))
  refine dash_go h0 hl ⟨_, rfl, ?_⟩
  unfold R2.rest at k
  cases hn : isNeg l with
  | true =>
    rw [hn, if_pos rfl] at k
    refine iteT ⟨_, h0, _, rfl, S l, rfl, by rw [SX.S_len]; omega, ?_⟩
    rw [sl_rest]
    exact k
  | false =>
    rw [hn, if_neg Bool.false_ne_true] at k
    exact iteF ⟨_, h0, k⟩
theorem words_of (r : List Nat) : Txt.split (S r) ("/" : Str) = (TL.spl [47] 0 [] r).map S := by
  rw [slash_S]
  exact SX.split_S (by simp) (by decide)
theorem mem_sum : ∀ {xs : List Nat} {n : Nat}, n ∈ xs → n ≤ xs.sum
  | a :: r, n, h => by
    rw [List.sum_cons]
    rcases List.mem_cons.mp h with rfl | h
    · omega
    · have := mem_sum h
      omega
theorem words_len {r : List Nat} : 1 ≤ (TL.spl [47] 0 [] r).length ∧ (TL.spl [47] 0 [] r).length ≤ r.length + 1 ∧ ∀ w ∈ TL.spl [47] 0 [] r, w.length ≤ r.length := by
  have a := PyProof.Rows.split_weight (S r) ("/" : Str) (by decide +kernel)
  have b := PyProof.Rows.split_pos (S r) ("/" : Str)
  rw [words_of, List.length_map, SX.S_len] at a
  rw [words_of, List.length_map] at b
  refine ⟨b, by omega, fun w hw => ?_⟩
  have m : w.length ∈ ((TL.spl [47] 0 [] r).map S).map (·.length) := by
    rw [List.map_map]
    exact List.mem_map.mpr ⟨w, hw, SX.S_len w⟩
  have := mem_sum m
  omega
abbrev wv (w : List Nat) : V := .str (S w)
abbrev bads (ws : List (List Nat)) : List V := (ws.filter fun w => !good w).map wv
theorem bads_nil {ws : List (List Nat)} : (bads ws).isEmpty = ws.all good := by
  induction ws with
  | nil => rfl
  | cons a r ih =>
    show ((List.filter (fun w => !good w) (a :: r)).map wv).isEmpty = (good a && r.all good)
    rw [List.filter_cons]
    cases h : good a with
    | true => exact ih
    | false => rfl
theorem top_mul (ng : Bool) (n : Nat) : (n : Int) * (1 - 2 * (if ng = true then 1 else 0)) = R2.top ng n := by
  unfold R2.top
  cases ng <;> simp
theorem nx_go {E : Ends} {σ : L2.St} {H : Hp} (h : E.nx σ H) : tNext E σ H := h
theorem neg_go {σ : L2.St} {H : Hp} {l : List Nat} {n : Int} {u : TS} {D : Ends} (h0 : σ[0]? = some (some (.str (S l)))) (hl : l.length ≤ 200) (h3 : σ[3]? = some (some (.int n))) (yes : isNeg l = true → n = 0 → D.rt .non H) (no : ¬ (isNeg l = true ∧ n = 0) → u D σ H) :
    tSeq (tIfS (tAnd (tTest tDash) (tTest (tOp rEq (tVar 3) (tC (.int 0))))) (tRet (tC .non)) tNext) u D σ H := by
  show tDash σ H fun x H' => ∃ k, x = .bl k ∧ (if k = true then (tTest (tOp rEq (tVar 3) (tC (.int 0)))) σ H' (fun c H1 => if c = true then D.rt .non H1 else u D σ H1) else (if false = true then D.rt .non H' else u D σ H'))
  refine dash_go h0 hl ⟨_, rfl, ?_⟩
  cases hn : isNeg l with
  | false => exact iteF (iteF (no (by rw [hn]; simp)))
  | true =>
    refine iteT ⟨_, h3, rfl, _, rfl, ?_⟩
    rw [dI]
    by_cases z : n = 0
    · exact if_pos' (decide_eq_true z) (yes hn z)
    · exact if_neg' (decide_eq_false z) (no fun q => z q.2)
abbrev rInt1 : List V → Hp → VK → Prop := fun xs H Q => (∃ i, xs = [.int i] ∧ Q (.int i) H) ∨ ∃ k, xs = [.bl k] ∧ Q (.int (if k = true then 1 else 0)) H
theorem ret_go {σ : L2.St} {H : Hp} {l : List Nat} {n : Nat} {c : Int} {tX : TE} {D : Ends} (h0 : σ[0]? = some (some (.str (S l)))) (hl : l.length ≤ 200) (h3 : σ[3]? = some (some (.int n))) (hX : ∀ (H' : Hp) (Q : VK), Q (.int c) H' → tX σ H' Q)
    (k : ∀ p H', Same H H' → H' p = some (.tup [.int (R2.top (isNeg l) n), .int c]) → D.rt (.ref p) H') :
    tRet (tTup (tCons (tOp (rI CMul fun i j => .int (i * j)) (tVar 3) (tOp (rI0 fun i j => .int (i - j)) (tC (.int 1)) (tOp (rI CMul fun i j => .int (i * j)) (tC (.int 2)) (tCB rInt1 (tCons tDash tNil))))) (tCons tX tNil))) D σ H := by
  refine ⟨_, h3, ?_⟩
  refine dash_go h0 hl ?_
  have hb : -(2 ^ 64) < (1 - 2 * (if isNeg l = true then (1 : Int) else 0)) ∧ (1 - 2 * (if isNeg l = true then (1 : Int) else 0)) < 2 ^ 64 := by
    cases isNeg l <;> exact ⟨by decide, by decide⟩
  refine .inr ⟨_, rfl, _, _, rfl, rfl, .inl ⟨by decide, by decide⟩, _, _, rfl, rfl, _, _, rfl, rfl, .inr hb, ?_⟩
  rw [← top_mul] at k
  refine hX _ _ ⟨(by show 2 ≤ sizeLine; decide), fun p np => ?_⟩
  exact k p _ (same_upd np) upd_same
abbrev sDue : Stmt := R1.top 20
section
variable {P : Program} {w : World} {K : PySem.W.Frag} {mg : Str → Option Value} {base : Heap} {C CI fCI CZ fCZ : Addr}
def spDivisor : Sp := fun vs H Q _ => ∃ a b : Nat, vs = [.int a, .int b] ∧ Q (.int ((Nat.gcd a b : Nat) : Int)) H
theorem passOwn {X : Cx} {K : Value → Shared → Prop} {E₁ : Value → Shared → Prop} (hx : X.xe = fun e s' => wpAny (model X.prog X.w) X.A (leaving X.env e) (fun _ s'' => K e s'') E₁ s' := by rfl) : PassesOwn (model X.prog X.w) X.A X.env X.xe := passes_of hx
theorem ok_divisor {f : Addr} {fd : FuncData} (F : Fun K "_law_divisor" "_law_divisor" sDivisor f fd) (T : Txt K mg C CI fCI CZ fCZ) :
    FnOk P w K mg base (L2.CX P w) 1 f fd ["_law_one", "_law_other"] spDivisor := by
  have sc : FnScope ["_law_one", "_law_other"] ["_law_one", "_law_other"] (defScope sDivisor) := ⟨rfl, rfl, rfl, by decide +kernel, rfl, by decide +kernel, by decide +kernel⟩
  refine F.okX sc (fun vs H Q E h => ?_) (fun cdv A outer s H vs Q E hr h => ?_)
  · obtain ⟨a, b, rfl, _⟩ := h
    rfl
  · obtain ⟨a, b, rfl, fin⟩ := h
    refine ⟨_, pss_cons (ps_while passOwn (pt_cmpR op_ne (pv 1) pe_int (nomark _))
        (pss_one (ps_par (i := 0) (j := 1) rfl sc.nd rfl rfl (by decide) rfl rfl (pa_cons (pv 1) (pa_cons (pe_op op_mod (pe_callTy call_int1 (by rfl) T.int (by decide +kernel) (pa_cons (pv 0) pa_nil)) (pv 1)) pa_nil)) (by rfl))))
      (pss_one (ps_ret (pv 0))), ?_⟩
    refine while_by (fun σ H' => H' = H ∧ ∃ L R : Nat, σ = [some (.int (L : Int)), some (.int (R : Int))] ∧ Nat.gcd L R = Nat.gcd a b)
      (fun σ _ => match σ with | [_, some (.int r)] => r.natAbs | _ => 0) ⟨rfl, a, b, rfl, rfl⟩ ?_ ?_
    · rintro σ H' ⟨rfl, L, R, rfl, hg⟩
      refine ⟨_, rfl, rfl, _, rfl, ?_⟩
      rw [dI]
      by_cases hR : (R : Int) = 0
      · refine if_neg' (by rw [decide_eq_true hR]; rfl) ⟨_, rfl, ?_⟩
        have hR0 : R = 0 := by omega
        rw [hR0, Nat.gcd_zero_right] at hg
        rw [hg]
        exact fin
      · have hp : 0 < R := by omega
        refine if_pos' (by rw [decide_eq_false hR]; rfl) ⟨_, rfl, _, rfl, .inl ⟨_, rfl, _, rfl, _, _, rfl, rfl, (by show (0 : Int) < (R : Int); omega), _, _, rfl, ⟨rfl, R, L % R, ?_, ?_⟩, ?_⟩⟩
        · rfl
        · rw [← hg, Nat.gcd_comm L R, Nat.gcd_rec R L, Nat.gcd_comm]
        · show ((L : Int) % (R : Int)).natAbs < ((R : Int)).natAbs
          rw [← Int.natCast_emod]
          exact Nat.mod_lt _ hp
    · rintro σ H' Q1 Q2 hq ⟨v, e, h1, h2, h3, h4⟩
      exact ⟨v, e, h1, h2, h3, hq _ _ h4⟩
abbrev ND : List Str := ["_law_text_here", "_law_rest", "_law_words", "_law_top", "_law_bottom", "_law_word"]
def spDue : Sp := fun vs H Q _ => ∃ l : List Nat, vs = [.str (S l)] ∧ l.length ≤ 200 ∧ (due l = none → ∀ H', Same H H' → Q .non H') ∧ (∀ t b, due l = some (t, b) → ∀ p H', Same H H' → H' p = some (.tup [.int t, .int b]) → Q (.ref p) H')
theorem ok_due {f : Addr} {fd : FuncData} (F : Fun K "_law_due" "_law_due" sDue f fd) (T : Txt K mg C CI fCI CZ fCZ) (N : Nms mg) (GP : Glb P w K mg base "_law_plain" 1 ["_law_text_here"] spPlain) (GD : Glb P w K mg base "_law_divisor" 1 ["_law_one", "_law_other"] spDivisor) :
    FnOk P w K mg base (L2.CX P w) 2 f fd ["_law_text_here"] spDue := by
  obtain ⟨_, _, mP, kP, GP, bP⟩ := GP.ex
  obtain ⟨_, _, mD, kD, GD, bD⟩ := GD.ex
  have sc : FnScope ND ["_law_text_here"] (defScope sDue) := ⟨rfl, rfl, rfl, by decide +kernel, rfl, by decide +kernel, by decide +kernel⟩
  refine F.okX sc (fun vs H Q E h => ?_) (fun cdv A outer s H vs Q E hr h => ?_)
  · obtain ⟨l, rfl, _⟩ := h
    rfl
  · obtain ⟨l, rfl, hl, kn, ks⟩ := h
    refine ⟨_, pss_cons (ps_set (i := 1) sc.nd rfl (Or.inl rfl) (pe_ifExp (pt_cmpR op_eq (pe_slice C8.sl_txt (pv 0) po_none (po_some pe_int)) pe_str (nomark _)) (pe_slice C8.sl_txt (pv 0) (po_some pe_int) po_none) (pv 0)))
      (pss_cons (ps_set (i := 2) sc.nd rfl (Or.inl rfl) (pe_split (pv 1) pe_str))
      (pss_cons (ps_if (PW.pt (pw_or (pt_cmpR op_gt (pe_callB call_len_seq (by rfl) N.len PySem.boot_len (pa_cons (pv 2) pa_nil)) pe_int (nomark _)) (pw_or1 (pt_cmpR (op_neEmp hr.units0)
          (pe_lc (own := [("_law_word", 5)]) (g := gName 5) (tt := tOr (tNot (tB (tCall spPlain [] E0 (tCons (tVar 5) tNil)))) (tTest (tOp (rI0 fun i j => .bl (decide (i > j))) (tCB (fun xs H Q => ∃ x n, xs = [x] ∧ LenV K x H n ∧ Q (.int n) H) (tCons (tVar 5) tNil)) (tC (.int 60))))) rfl sc.nd (pi_list (pv 2)) (blkOk_by (N := ND) (sc := defScope sDue) (by decide +kernel))
            (fun _ _ _ _ _ => pg_name (i := 5) sc.nd rfl (Or.inl rfl)) (fun _ _ _ _ _ => pts_one (PW.pt (pw_or (pt_not (pt_val (pe_call GP hr (by rfl) mP kP bP .nil passL (pa_cons (pv 5) pa_nil)))) (pw_or1 (pt_cmpR op_gt (pe_callB call_len (by rfl) N.len PySem.boot_len (pa_cons (pv 5) pa_nil)) pe_int (nomark _)))))) (fun _ _ _ _ _ => pv 5)) (pe_lst pa_nil) (nomark _))))) (pss_one (ps_ret pe_non)) pss_nil)
      (pss_cons (ps_set (i := 3) sc.nd rfl (Or.inl rfl) (pe_callTy call_int_str (by rfl) T.int (by decide +kernel) (pa_cons (pe_ix ix_list (pv 2) pe_int (fun _ _ => rfl)) pa_nil)))
      (pss_cons (ps_if (PW.pt (pw_and (pt_cmpR op_eq (pe_slice C8.sl_txt (pv 0) po_none (po_some pe_int)) pe_str (nomark _)) (pw_and1 (pt_cmpR op_eq (pv 3) pe_int (nomark _))))) (pss_one (ps_ret pe_non)) pss_nil)
      (pss_cons (ps_if (pt_cmpR op_eq (pe_callB call_len_seq (by rfl) N.len PySem.boot_len (pa_cons (pv 2) pa_nil)) pe_int (nomark _))
        (pss_one (ps_ret (pe_tup (pa_cons (pe_op op_mul (pv 3) (pe_op op_sub pe_int (pe_op op_mul pe_int (pe_callTy call_int1 (by rfl) T.int (by decide +kernel) (pa_cons (pe_cmpR op_eq (pe_slice C8.sl_txt (pv 0) po_none (po_some pe_int)) pe_str (nomark _)) pa_nil))))) (pa_cons pe_int pa_nil))))) pss_nil)
      (pss_cons (ps_set (i := 4) sc.nd rfl (Or.inl rfl) (pe_callTy call_int_str (by rfl) T.int (by decide +kernel) (pa_cons (pe_ix ix_list (pv 2) pe_int (fun _ _ => rfl)) pa_nil)))
      (pss_cons (ps_if (PW.pt (pw_or (pt_cmpR op_lt (pv 4) pe_int (nomark _)) (pw_or1 (pt_cmpR op_ne (pe_call GD hr (by rfl) mD kD bD .nil passL (pa_cons (pv 3) (pa_cons (pv 4) pa_nil))) pe_int (nomark _))))) (pss_one (ps_ret pe_non)) pss_nil)
      (pss_one (ps_ret (pe_tup (pa_cons (pe_op op_mul (pv 3) (pe_op op_sub pe_int (pe_op op_mul pe_int (pe_callTy call_int1 (by rfl) T.int (by decide +kernel) (pa_cons (pe_cmpR op_eq (pe_slice C8.sl_txt (pv 0) po_none (po_some pe_int)) pe_str (nomark _)) pa_nil))))) (pa_cons (pv 4) pa_nil)))))))))))), ?_⟩
    have ez := sizeLine_eq
    refine rest_go (l := l) rfl hl ?_
    have rl : (R2.rest l).length ≤ l.length := by
      unfold R2.rest
      split
      · rw [List.length_drop]; omega
      · exact Nat.le_refl _
    refine ⟨_, rfl, ⟨_, rfl⟩, S (R2.rest l), _, rfl, rfl, by decide +kernel, by rw [SX.S_len]; omega, fun p np => ?_⟩
    rw [words_of]
    obtain ⟨w1, w2, w3⟩ := words_len (r := R2.rest l)
    have hdue : due l = (match TL.spl [47] 0 [] (R2.rest l) with | [w] => R2.due1 (isNeg l) w | [w, v] => R2.due2 (isNeg l) w v | _ => none) := rfl
    generalize TL.spl [47] 0 [] (R2.rest l) = ws at w1 w2 w3 hdue ⊢
    have s1 := same_upd (o := .lst ((ws.map S).map V.str)) np
    have e1 : (upd H p (.lst ((ws.map S).map V.str))) p = some (.lst ((ws.map S).map V.str)) := upd_same
    generalize (upd H p (.lst ((ws.map S).map V.str))) = G at s1 e1 ⊢
    rw [List.map_map] at e1
    refine ⟨_, rfl, p, _, rfl, .inl (SqL.of e1), _, _, rfl, rfl, _, rfl, ?_⟩
    rw [List.length_map]
    by_cases h2 : ws.length ≤ 2
    · refine if_neg' (decide_eq_false (by omega)) ?_
      refine ⟨_, rfl, p, rfl, ⟨_, SqL.of e1⟩, fun D nD => ?_⟩
      refine lc_list (K := K) (a := p) (xs := ws.map (V.str ∘ S)) (fun j G' => Same G G' ∧ G' D = some (.lst (bads (ws.take j)))) ⟨same_upd nD, upd_same⟩ (fun j G' _ ⟨sm, _⟩ => SqL.of (sm _ _ e1)) (fun j x G' hx ⟨sm, hD⟩ => ⟨rfl, ?_⟩) (fun G' ⟨sm, hD⟩ => ?_)
      · rw [List.getElem?_map] at hx
        cases hw : ws[j]? with
        | none => rw [hw] at hx; cases hx
        | some w =>
          rw [hw] at hx
          obtain rfl : V.str (S w) = x := Option.some.inj hx
          have wl := w3 w (List.mem_of_getElem? hw)
          have ht : ws.take (j + 1) = ws.take j ++ [w] := by rw [List.take_add_one, hw]; rfl
          have keepB : ∀ {G1 : Hp}, good w = true → Same G' G1 → Same G G1 ∧ G1 D = some (.lst (bads (ws.take (j + 1)))) := fun {G1} hg s2 => by
            refine ⟨sm.trans s2, ?_⟩
            rw [s2 _ _ hD, ht]
            unfold bads
            rw [List.filter_append, List.filter_cons, hg]
            simp
          have addB : ∀ {G1 : Hp}, good w = false → Same G' G1 → ∃ acc, G1 D = some (.lst acc) ∧ acc.length < sizeLine ∧ Same G (upd G1 D (.lst (acc ++ [V.str (S w)]))) ∧ (upd G1 D (.lst (acc ++ [V.str (S w)]))) D = some (.lst (bads (ws.take (j + 1)))) := fun {G1} hg s2 => by
            refine ⟨_, s2 _ _ hD, ?_, fun c o e => ?_, ?_⟩
            · show ((List.filter _ _).map _).length < sizeLine
              rw [List.length_map]
              have := List.length_filter_le (fun w => !good w) (ws.take j)
              rw [List.length_take] at this
              omega
            · rw [upd_ne (ne_of_none e nD)]
              exact s2 _ _ (sm _ _ e)
            · rw [upd_same, ht]
              unfold bads
              rw [List.filter_append, List.filter_cons, hg]
              simp
          refine ⟨_, rfl, w, rfl, by omega, fun G1 s2 => ⟨_, rfl, ?_⟩⟩
          have hgood : good w = (plainB w && decide (w.length ≤ 60)) := rfl
          cases hp : plainB w with
          | false =>
            rw [hp, Bool.false_and] at hgood
            exact iteT (iteT ⟨_, rfl, addB hgood s2⟩)
          | true =>
            rw [hp, Bool.true_and] at hgood
            refine iteF ⟨_, rfl, _, _, rfl, ⟨by rw [SX.S_len]; omega, rfl⟩, _, _, rfl, rfl, _, rfl, ?_⟩
            by_cases h6 : w.length ≤ 60
            · rw [decide_eq_true h6] at hgood
              exact if_neg' (decide_eq_false (by rw [SX.S_len]; omega)) (keepB hgood s2)
            · rw [decide_eq_false h6] at hgood
              exact if_pos' (decide_eq_true (by rw [SX.S_len]; omega)) ⟨_, rfl, addB hgood s2⟩
      · have e2 : ws.take (ws.map (V.str ∘ S)).length = ws := List.take_of_length_le (by simp)
        rw [e2] at hD
        refine ⟨(by show 0 ≤ sizeLine; exact Nat.zero_le _), fun D2 nD2 => ?_⟩
        have s2 := same_upd (o := .lst []) nD2
        refine ⟨D, D2, _, rfl, rfl, s2 _ _ hD, upd_same, _, rfl, ?_⟩
        rw [bads_nil]
        have e3 := s2 _ _ (sm _ _ e1)
        have s3 := (s1.trans sm).trans s2
        generalize (upd G' D2 (.lst [])) = G2 at e3 s3 ⊢
        cases hall : ws.all good with
        | false =>
          refine iteT (kn ?_ _ s3)
          rw [hdue]
          match ws, h2, w1, hall with
          | [w], _, _, hall =>
            have : ¬ good w = true := by simpa using hall
            exact if_neg fun z => this z.1
          | [w, v], _, _, hall =>
            refine if_neg fun z => ?_
            rw [List.all_cons, List.all_cons, z.1, z.2.1] at hall
            cases hall
        | true =>
          refine iteF ?_
          have ws2 : (∃ w, ws = [w]) ∨ ∃ w v, ws = [w, v] := by
            match ws, h2, w1 with
            | [w], _, _ => exact .inl ⟨w, rfl⟩
            | [w, v], _, _ => exact .inr ⟨w, v, rfl⟩
          rcases ws2 with ⟨w, rfl⟩ | ⟨w, v, rfl⟩
          · have gw : good w = true := by simpa using hall
            have ow := (R2.good_iff.mp gw).1
            have l6 : (S w).length ≤ 640 := by rw [SX.S_len]; have := (okn_of ow).2.2; omega
            refine ⟨_, rfl, p, _, _, _, rfl, rfl, SqL.of e3, (by simp [atI, ixN]), S w, _, rfl, int_nat ow, l6, ?_⟩
            refine neg_go (l := l) rfl hl rfl (fun hn z => kn ?_ _ s3) (fun hz => ?_)
            · rw [hdue]
              exact if_neg fun q => q.2 ⟨hn, by omega⟩
            · refine ⟨_, rfl, p, _, rfl, .inl (SqL.of e3), rfl, _, rfl, if_pos' (by rfl) ?_⟩
              refine ret_go (l := l) (n := NumText.digitsVal w) (c := 1) rfl hl rfl (fun _ _ q => q) fun q H' sq hq => ?_
              refine ks _ _ ?_ q H' (s3.trans sq) hq
              rw [hdue]
              exact if_pos ⟨gw, fun q => hz ⟨q.1, by omega⟩⟩
          · have gw : good w = true := by
              rw [List.all_cons, Bool.and_eq_true] at hall
              exact hall.1
            have gv : good v = true := by
              rw [List.all_cons, List.all_cons, Bool.and_eq_true, Bool.and_eq_true] at hall
              exact hall.2.1
            have ow := (R2.good_iff.mp gw).1
            have ov := (R2.good_iff.mp gv).1
            have l6 : (S w).length ≤ 640 := by rw [SX.S_len]; have := (okn_of ow).2.2; omega
            have l7 : (S v).length ≤ 640 := by rw [SX.S_len]; have := (okn_of ov).2.2; omega
            refine ⟨_, rfl, p, _, _, _, rfl, rfl, SqL.of e3, (by simp [atI, ixN]), S w, _, rfl, int_nat ow, l6, ?_⟩
            refine neg_go (l := l) rfl hl rfl (fun hn z => kn ?_ _ s3) (fun hz => ?_)
            · rw [hdue]
              exact if_neg fun q => q.2.2.1 ⟨hn, by omega⟩
            · refine ⟨_, rfl, p, _, rfl, .inl (SqL.of e3), rfl, _, rfl, if_neg' (by rfl) ?_⟩
              refine ⟨_, rfl, p, _, _, _, rfl, rfl, SqL.of e3, (by simp [atI, ixN]), S v, _, rfl, int_nat ov, l7, ?_⟩
              refine ⟨_, rfl, _, _, rfl, rfl, _, rfl, ?_⟩
              by_cases v2 : 2 ≤ NumText.digitsVal v
              · refine if_neg' (decide_eq_false (by omega)) ?_
                refine ⟨_, rfl, _, rfl, NumText.digitsVal w, NumText.digitsVal v, rfl, rfl, _, rfl, ?_⟩
                rw [dI]
                by_cases g1 : Nat.gcd (NumText.digitsVal w) (NumText.digitsVal v) = 1
                · refine if_neg' (by rw [g1]; rfl) ?_
                  refine ret_go (l := l) (n := NumText.digitsVal w) (c := (NumText.digitsVal v : Int)) rfl hl rfl (fun _ _ q => ⟨_, rfl, q⟩) fun q H' sq hq => ?_
                  refine ks _ _ ?_ q H' (s3.trans sq) hq
                  rw [hdue]
                  exact if_pos ⟨gw, gv, fun q => hz ⟨q.1, by omega⟩, v2, g1⟩
                · refine if_pos' (by rw [decide_eq_false (by omega)]; rfl) (kn ?_ _ s3)
                  rw [hdue]
                  exact if_neg fun q => g1 q.2.2.2.2
              · refine if_pos' (decide_eq_true (by omega)) (iteT (kn ?_ _ s3))
                rw [hdue]
                exact if_neg fun q => v2 q.2.2.2.1
    · refine if_pos' (decide_eq_true (by omega)) (iteT (kn ?_ _ s1))
      rw [hdue]
      match ws, h2 with
      | [], h2 => exact absurd (Nat.zero_le _) h2
      | [_], h2 => exact absurd (by simp) h2
      | [_, _], h2 => exact absurd (by simp) h2
      | _ :: _ :: _ :: _, _ => rfl
end
end R1
end

-- Q02p
section
set_option Elab.async false
set_option linter.all false
set_option maxRecDepth 100000
set_option exponentiation.threshold 6000
namespace R1
open PySem L2 OwnOps RatM OwnNe TryAs
open R2 (digB okn isNeg prs due stx itx tryR plainB good)
open SX (S)
abbrev sTold : Stmt := R1.top 21
abbrev sRight : Stmt := R1.top 22
/-- an exception wished for at every state of n slots -/
def EN (n : Nat) (W : WX) : XK := fun cls d H' => ∀ t : L2.St, t.length = n → W cls d t H'
theorem pass_n {X : Cx} {W : WX} {n : Nat} (hn : X.N.length = n) (tk : Takes X W) : Passes (L2.CX X.prog X.w) X (EN n W) := by
  subst hn
  exact pass_all tk
abbrev DA : Eqv := fun x y H => DFlat x y H ∨ DSame x y H
theorem mon_DA : Mon DA := mon_flat.or mon_same
theorem eqG_DA {X : Cx} : EqG X 0 DA := eqG_flat.or eqG_same
theorem set2 {t : L2.St} (h : t.length = 3) (v : Option V) : (t.set 2 v)[2]? = some v := by
  rw [List.getElem?_set_self (by omega)]
theorem flat_str {H : Hp} (z : Str) : DFlat (.str z) (.str z) H := ⟨rfl, rfl, by simp [eqV]⟩
theorem flat_int {H : Hp} (z : Int) : DFlat (.int z) (.int z) H := ⟨rfl, rfl, by simp [eqV]⟩
theorem prs_small {l : List Nat} {t b : Int} (h : prs l = some (t, b)) : t.natAbs < 2 ^ 200 ∧ b.natAbs < 2 ^ 200 := by
  rw [R2.prs_due] at h
  unfold R2.due at h
  split at h
  · unfold R2.due1 at h
    split at h
    · rename_i q
      injection h with h
      injection h with h1 h2
      subst h1; subst h2
      rw [top_abs]
      exact ⟨val_sm (R2.good_iff.mp q.1).1, by decide⟩
    · cases h
  · unfold R2.due2 at h
    split at h
    · rename_i q
      injection h with h
      injection h with h1 h2
      subst h1; subst h2
      rw [top_abs, Int.natAbs_natCast]
      exact ⟨val_sm (R2.good_iff.mp q.1).1, val_sm (R2.good_iff.mp q.2.1).1⟩
    · cases h
  · cases h
section
variable {P : Program} {w : World} {K : PySem.W.Frag} {mg : Str → Option Value} {base : Heap} {C CI fCI CZ fCZ : Addr}
structure Par (P : Program) (w : World) (K : PySem.W.Frag) (mg : Str → Option Value) (base : Heap) (C CI : Addr) : Prop where
  ex : ∃ (p f : Addr) (fd : FuncData), SMet K C "parse" p f ∧ FnOk P w K mg base (L2.CX P w) 5 f fd ["text"] (spParse K C CI) ∧ L2.Binds K fd ["text"] []
def NoStr (K : PySem.W.Frag) (H : Hp) (v : V) : Prop := ∃ t, TyX K H v t ∧ PySem.W.kitOne K t (.type "str") = some false
def Nos (H : Hp) (v : V) (Q : VK) : Prop := ∀ p H', Same H H' → H' p = some (.lst [.str "no", v]) → Q (.ref p) H'
def spTold (K : PySem.W.Frag) : Sp := fun vs H Q _ => ∃ v, vs = [v] ∧ ((∃ l, v = .str (S l) ∧ l.length ≤ 200 ∧ ((prs l = none ∧ Nos H v Q) ∨ (∃ t b, prs l = some (t, b) ∧ ∀ p H', Same H H' → H' p = some (.lst [.str "ratio", .int t, .int b]) → Q (.ref p) H'))) ∨ (NoStr K H v ∧ Nos H v Q))
theorem ok_told {f : Addr} {fd : FuncData} (F : Fun K "_law_told" "_law_told" sTold f fd) (T : Txt K mg C CI fCI CZ fCZ) (PA : Par P w K mg base C CI) : FnOk P w K mg base (L2.CX P w) 6 f fd ["_law_value"] (spTold K) := by
  obtain ⟨_, _, _, SM, GP, bP⟩ := PA.ex
  have sc : FnScope ["_law_value", "_law_found", "e"] ["_law_value"] (defScope sTold) := ⟨rfl, rfl, rfl, by decide +kernel, rfl, by decide +kernel, by decide +kernel⟩
  refine F.okX sc (fun vs H Q E h => ?_) (fun cdv A outer s H vs Q E hr h => ?_)
  · obtain ⟨v, rfl, _⟩ := h
    rfl
  · obtain ⟨v, rfl, k⟩ := h
    refine ⟨_, pss_cons (ps_try_all rfl rfl sc.nd (takes_of rfl rfl rfl rfl) (fun W pn xe tk _ =>
        pss_one (ps_set (i := 1) sc.nd rfl (Or.inl rfl) (pe_smeth (C := C) (E := EN 3 W) (pe_glob (v := .ref C) (by rfl) T.gC rfl) SM GP hr bP (pass_n rfl tk) (pa_cons (pv 0) pa_nil))))
        (Clauses.cons (i := 2) rfl rfl ⟨rfl, by decide, .inl T.eI.gC⟩ (fun a oe cls d pn hz hf => pss_one (ps_ret (pe_lst (pa_cons pe_str (pa_cons (pe_byGiv T.eI hz hf (pv 2)) pa_nil))))) Clauses.nil))
      (pss_one (ps_ret (pe_lst (pa_cons pe_str (pa_cons (pe_fld (pv 1) rfl) (pa_cons (pe_fld (pv 1) rfl) pa_nil)))))), ?_⟩
    have two : 2 ≤ sizeLine := by decide
    have three : 3 ≤ sizeLine := by decide
    rcases k with ⟨l, rfl, hl, ⟨hp, k⟩ | ⟨t, b, hp, k⟩⟩ | ⟨ns, k⟩
    · exact ⟨rfl, _, rfl, _, rfl, .inl ⟨l, rfl, hl, .inr ⟨hp, fun d H1 sm hd t0 ht => ⟨true, T.eI.te, (fun _ a ha => ⟨_, set2 ht _, rfl, rfl, d, _, rfl, hd, two, fun q nq => k q _ (sm.trans (same_upd nq)) upd_same⟩), fun z => nomatch z⟩⟩⟩⟩
    · refine ⟨rfl, _, rfl, _, rfl, .inl ⟨l, rfl, hl, .inl ⟨t, b, hp, fun r H1 sm ⟨dr, hr1⟩ => ?_⟩⟩⟩
      exact ⟨_, rfl, r, C, dr, _, _, rfl, hr1, T.cl, T.nT, flds_top _ _, _, rfl, r, C, dr, _, _, rfl, hr1, T.cl, T.nB, flds_bot _ _, three, fun q nq => k q _ (sm.trans (same_upd nq)) upd_same⟩
    · exact ⟨rfl, _, rfl, _, rfl, .inr ⟨ns, fun d H1 sm hd t0 ht => ⟨true, T.eI.te, (fun _ a ha => ⟨_, set2 ht _, rfl, rfl, d, _, rfl, hd, two, fun q nq => k q _ (sm.trans (same_upd nq)) upd_same⟩), fun z => nomatch z⟩⟩⟩
end
end R1
end

-- Q02r
section
set_option Elab.async false
set_option linter.all false
set_option maxRecDepth 100000
set_option exponentiation.threshold 6000
namespace R1
open PySem L2 OwnOps RatM OwnNe TryAs
open R2 (digB okn isNeg prs due stx itx tryR plainB good)
open SX (S)
section
variable {P : Program} {w : World} {K : PySem.W.Frag} {mg : Str → Option Value} {base : Heap} {C CI fCI CZ fCZ : Addr}
def spRight : Sp := fun vs H Q _ => ∃ l : List Nat, vs = [.str (S l)] ∧ l.length ≤ 200 ∧ ∀ H', Same H H' → Q (.bl true) H'
theorem ok_right {f : Addr} {fd : FuncData} (F : Fun K "_law_right" "_law_right" sRight f fd) (T : Txt K mg C CI fCI CZ fCZ) (PA : Par P w K mg base C CI) (GD : Glb P w K mg base "_law_due" 2 ["_law_text_here"] spDue) (GT : Glb P w K mg base "_law_told" 6 ["_law_value"] (spTold K))
    (DS : Dun P w K mg base C "__str__" 1 ["self"] (spStr C strT)) : FnOk P w K mg base (L2.CX P w) 7 f fd ["_law_text_here"] spRight := by
  obtain ⟨_, _, _, SM, GP, bP⟩ := PA.ex
  obtain ⟨_, _, mD, kD, GD, bD⟩ := GD.ex
  obtain ⟨_, _, mT, kT, GT, bT⟩ := GT.ex
  obtain ⟨_, _, sta, stf, _, stG, stb⟩ := DS.ex
  have sc : FnScope ["_law_text_here", "_law_due_here"] ["_law_text_here"] (defScope sRight) := ⟨rfl, rfl, rfl, by decide +kernel, rfl, by decide +kernel, by decide +kernel⟩
  refine F.okX sc (fun vs H Q E h => ?_) (fun cdv A outer s H vs Q E hr h => ?_)
  · obtain ⟨l, rfl, _⟩ := h
    rfl
  · obtain ⟨l, rfl, hl, fin⟩ := h
    refine ⟨_, pss_cons (ps_set (i := 1) sc.nd rfl (Or.inl rfl) (pe_call GD (hr.mono (by decide)) (by rfl) mD kD bD .nil passL (pa_cons (pv 0) pa_nil)))
      (pss_cons (ps_if (pt_cmpR op_isN (pv 1) pe_non (nomark _)) (pss_one (ps_ret (pe_cmpR (op_eqG (n := 1) (rcG_list mon_DA eqG_DA) (hr.mono (by decide))) (pe_call GT hr (by rfl) mT kT bT .nil passL (pa_cons (pv 0) pa_nil)) (pe_lst (pa_cons pe_str (pa_cons (pv 0) pa_nil))) (nomark _)))) pss_nil)
      (pss_one (ps_ret (pe_and (pe_cmpR (op_eqG (n := 1) (rcG_list mon_DA eqG_DA) (hr.mono (by decide))) (pe_call GT hr (by rfl) mT kT bT .nil passL (pa_cons (pv 0) pa_nil))
          (pe_lst (pa_cons pe_str (pa_cons (pe_ix ix_tup (pv 1) pe_int (fun _ _ => rfl)) (pa_cons (pe_ix ix_tup (pv 1) pe_int (fun _ _ => rfl)) pa_nil)))) (nomark _))
        (pe_one (pe_cmpR op_eq (pe_callTy (call_strO (E := E0) sta stf stG (hr.mono (by decide)) stb passL) (by rfl) T.str (by decide +kernel) (pa_cons (pe_smeth (C := C) (E := E0) (pe_glob (v := .ref C) (by rfl) T.gC rfl) SM GP (hr.mono (by decide)) bP passL (pa_cons (pv 0) pa_nil)) pa_nil)) (pv 0) (nomark _))))))), ?_⟩
    have two : 2 ≤ sizeLine := by decide
    have three : 3 ≤ sizeLine := by decide
    refine ⟨_, rfl, l, rfl, hl, fun hn H1 s1 => ?_, fun t b hs p H1 s1 hp => ?_⟩
    · refine ⟨_, rfl, rfl, _, rfl, if_pos' (by rfl) ?_⟩
      refine ⟨_, rfl, .str (S l), rfl, .inl ⟨l, rfl, hl, .inl ⟨by rw [R2.prs_due]; exact hn, fun q H2 s2 hq => ⟨_, rfl, two, fun q2 nq => ?_⟩⟩⟩⟩
      exact ⟨⟨q, q2, _, _, rfl, rfl, (same_upd nq) _ _ hq, upd_same, Prs.cons (.inl (flat_str _)) (Prs.cons (.inl (flat_str _)) Prs.nil)⟩, fun H3 e3 => fin _ (((s1.trans s2).trans (same_upd nq)).trans e3)⟩
    · have hs' : prs l = some (t, b) := by rw [R2.prs_due]; exact hs
      have sm := prs_small hs'
      refine ⟨_, rfl, rfl, _, rfl, if_neg' (by rfl) ?_⟩
      refine ⟨_, rfl, .str (S l), rfl, .inl ⟨l, rfl, hl, .inr ⟨t, b, hs', fun q H2 s2 hq => ?_⟩⟩⟩
      have hp2 := s2 _ _ hp
      have i0 : atI [V.int t, V.int b] (0 : Int) = some (.int t) := at_of (j := 0) rfl rfl
      have i1 : atI [V.int t, V.int b] (1 : Int) = some (.int b) := at_of (j := 1) rfl rfl
      refine ⟨_, rfl, p, _, _, _, rfl, rfl, SqT.of hp2, i0, _, rfl, p, _, _, _, rfl, rfl, SqT.of hp2, i1, three, fun q2 nq => ?_⟩
      refine ⟨⟨q, q2, _, _, rfl, rfl, (same_upd nq) _ _ hq, upd_same, Prs.cons (.inl (flat_str _)) (Prs.cons (.inl (flat_int _)) (Prs.cons (.inl (flat_int _)) Prs.nil))⟩, fun H3 e3 => ⟨_, rfl, iteT ?_⟩⟩
      refine ⟨rfl, _, rfl, _, rfl, .inl ⟨l, rfl, hl, .inl ⟨t, b, hs', fun r H4 s4 hr4 => ?_⟩⟩⟩
      obtain ⟨dz, hz⟩ := id hr4
      refine ⟨_, rfl, r, dz, _, rfl, hz, r, _, _, rfl, hr4, pr_lt sm.1, pr_lt sm.2, ⟨_, rfl⟩, _, rfl, rfl, ?_⟩
      have e : decide (V.str (strT t b) = V.str (S l)) = true := by
        rw [R2.strT_stx, R2.prs_text hs']
        exact decide_eq_true rfl
      have fin' := fin H4 ((((s1.trans s2).trans (same_upd nq)).trans e3).trans s4)
      rw [← e] at fin'
      exact fin'
end
end R1
end

-- Q02s
section
set_option Elab.async false
set_option linter.all false
set_option maxRecDepth 100000
set_option exponentiation.threshold 6000
namespace R1
open PySem L2 OwnOps RatM OwnNe TryAs
open R2 (digB okn isNeg prs due stx itx tryR plainB good)
open SX (S)
abbrev sText : Stmt := R1.top 23
theorem atI_lt {α : Type} {xs : List α} {d : Int} (h0 : 0 ≤ d) (h1 : d < xs.length) : ∃ c, atI xs d = some c ∧ c ∈ xs := by
  have hj : d.toNat < xs.length := by omega
  refine ⟨xs[d.toNat], ?_, List.getElem_mem hj⟩
  unfold atI ixN
  rw [if_pos h0, if_pos h1]
  exact List.getElem?_eq_getElem hj
theorem nl_len3 {n : Nat} (h : n < 1000) : (R2.nl n).length ≤ 3 := TL.numL_len (by decide) h
theorem itx_len {t : Int} (h : t.natAbs < 1000) : (itx t).length ≤ 4 := by
  unfold R2.itx
  have := nl_len3 h
  split
  · rw [List.length_cons]; omega
  · omega
theorem stx_len {t b : Int} (h : t.natAbs < 1000) (h2 : b.natAbs < 1000) : (stx t b).length ≤ 9 := by
  unfold R2.stx
  have := itx_len h
  have := itx_len h2
  split
  · omega
  · rw [List.length_append, List.length_cons]; omega
theorem joinL_one : ∀ cs : List Nat, TL.joinL [] (cs.map fun c => [c]) = cs
  | [] => rfl
  | [c] => rfl
  | c :: d :: r => by
    have ih := joinL_one (d :: r)
    show [c] ++ ([] ++ TL.joinL [] ((d :: r).map fun c => [c])) = _
    rw [ih]
    rfl
theorem len_a : ((("0123/- 9" : Str).cps.toList).length : Int) = 8 := by decide +kernel
theorem len_b : ((("012/- 5+" : Str).cps.toList).length : Int) = 8 := by decide +kernel
abbrev NT : List Str := ["_law_draws_here", "_law_text_here", "_law_at", "_law_sign", "_law_some", "_law_again"]
theorem gen_go {G R : Hp → Prop} {H : Hp} (r : R H) (h : ∀ H0, R H0 → G H0) : G H := h H r
/-- all but p stays -/
def Kp (p : Addr) (H H' : Hp) : Prop := ∀ c o, c ≠ p → H c = some o → H' c = some o
theorem Kp.same {p : Addr} {H H1 H2 : Hp} (a : Kp p H H1) (b : Same H1 H2) : Kp p H H2 := fun c o n e => b _ _ (a c o n e)
theorem Kp.upd {p : Addr} {H H1 : Hp} {o : HO} (a : Kp p H H1) : Kp p H (upd H1 p o) := fun c o' n e => by rw [upd_ne n]; exact a c o' n e
section
variable {P : Program} {w : World} {K : PySem.W.Frag} {mg : Str → Option Value} {base : Heap} {C CI fCI CZ fCZ : Addr}
def spText : Sp := fun vs H Q _ => ∃ (p : Addr) (x y : Int), vs = [.ref p] ∧ H p = some (.lst [.int x, .int y]) ∧ ∀ (l : List Nat) (H' : Hp) (x' y' : Int), l.length ≤ 200 → Kp p H H' → H' p = some (.lst [.int x', .int y']) → Q (.str (S l)) H'
theorem ok_text {f : Addr} {fd : FuncData} (F : Fun K "_law_text" "_law_text" sText f fd) (T : Txt K mg C CI fCI CZ fCZ) (N : Nms mg) (M : Mak P w K mg base C CI CZ) (GD : Glb P w K mg base "_law_draw" 1 ["_law_draws_here", "_law_upto"] spDraw)
    (DS : Dun P w K mg base C "__str__" 1 ["self"] (spStr C strT)) : FnOk P w K mg base (L2.CX P w) 5 f fd ["_law_draws_here"] spText := by
  obtain ⟨fN, fdN, ds, mk, GN, b3, d2, b2⟩ := M.ex
  obtain ⟨_, _, mD, kD, GD, bD⟩ := GD.ex
  obtain ⟨_, _, sta, stf, _, stG, stb⟩ := DS.ex
  have sc : FnScope NT ["_law_draws_here"] (defScope sText) := ⟨rfl, rfl, rfl, by decide +kernel, rfl, by decide +kernel, by decide +kernel⟩
  refine F.okX sc (fun vs H Q E h => ?_) (fun cdv A outer s H vs Q E hr h => ?_)
  · obtain ⟨p, x, y, rfl, _⟩ := h
    rfl
  · obtain ⟨p, x, y, rfl, hp, fin⟩ := h
    have hr1 : Room 1 _ := hr.mono (by decide)
    refine ⟨_, pss_cons (ps_if (pt_cmpR op_eq (pe_call GD hr1 (by rfl) mD kD bD .nil passL (pa_cons (pv 0) (pa_cons pe_int pa_nil))) pe_int (nomark _))
        (pss_one (ps_ret (pe_join pe_str (pe_lc (own := [("_law_again", 5)]) (g := gName 5) (tt := tYes) rfl sc.nd (pi_range1 rfl N.range (pa_cons (pe_call GD hr1 (by rfl) mD kD bD .nil passL (pa_cons (pv 0) (pa_cons pe_int pa_nil))) pa_nil)) (blkOk_by (N := NT) (sc := defScope sText) (by decide +kernel))
          (fun _ _ _ _ _ => pg_name (i := 5) sc.nd rfl (Or.inl rfl)) (fun _ _ _ _ _ => pts_nil) (fun _ _ _ _ _ => pe_ix ix_str pe_str (pe_call GD hr1 (by rfl) mD kD bD .nil passL (pa_cons (pv 0) (pa_cons pe_int pa_nil))) (fun _ _ => rfl)))))) pss_nil)
      (pss_cons (ps_set (i := 1) sc.nd rfl (Or.inl rfl) (pe_callTy (call_strO (E := E0) sta stf stG (hr.mono (by decide)) stb passL) (by rfl) T.str (by decide +kernel)
            (pa_cons (pe_make mk GN (hr.mono (by decide)) (by rfl) T.gC b3 .nil passL (pa_cons (pe_op op_sub (pe_call GD hr1 (by rfl) mD kD bD .nil passL (pa_cons (pv 0) (pa_cons pe_int pa_nil))) pe_int) (pa_cons (pe_op op_add pe_int (pe_call GD hr1 (by rfl) mD kD bD .nil passL (pa_cons (pv 0) (pa_cons pe_int pa_nil)))) pa_nil))) pa_nil)))
      (pss_cons (ps_set (i := 2) sc.nd rfl (Or.inl rfl) (pe_call GD hr1 (by rfl) mD kD bD .nil passL (pa_cons (pv 0) (pa_cons (pe_op op_add (pe_callB call_len (by rfl) N.len PySem.boot_len (pa_cons (pv 1) pa_nil)) pe_int) pa_nil))))
      (pss_cons (ps_set (i := 3) sc.nd rfl (Or.inl rfl) (pe_ix ix_str pe_str (pe_call GD hr1 (by rfl) mD kD bD .nil passL (pa_cons (pv 0) (pa_cons pe_int pa_nil))) (fun _ _ => rfl)))
      (pss_cons (ps_set (i := 4) sc.nd rfl (Or.inl rfl) (pe_lst (pa_cons (pv 1) (pa_cons (pe_op op_add_str (pe_op op_add_str (pe_slice C8.sl_txt (pv 1) po_none (po_some (pv 2))) (pv 3)) (pe_slice C8.sl_txt (pv 1) (po_some (pe_op op_add (pv 2) pe_int)) po_none)) pa_nil))))
      (pss_cons (ps_set (i := 4) sc.nd rfl (Or.inl rfl) (pe_op op_cat (pv 4) (pe_lst (pa_cons (pe_op op_add_str (pe_slice C8.sl_txt (pv 1) po_none (po_some (pv 2))) (pe_slice C8.sl_txt (pv 1) (po_some (pe_op op_add (pv 2) pe_int)) po_none))
          (pa_cons (pe_op op_add_str (pe_op op_add_str (pe_slice C8.sl_txt (pv 1) po_none (po_some (pv 2))) (pv 3)) (pe_slice C8.sl_txt (pv 1) (po_some (pv 2)) po_none)) pa_nil)))))
      (pss_one (ps_ret (pe_ix ix_list (pv 4) (pe_call GD hr1 (by rfl) mD kD bD .nil passL (pa_cons (pv 0) (pa_cons pe_int pa_nil))) (fun _ _ => rfl))))))))), ?_⟩
    have ez := sizeLine_eq
    have k0 : Kp p H H := fun _ _ _ e => e
    refine ⟨_, rfl, p, 3, x, y, rfl, by decide, by decide, hp, fun d x1 y1 d0 d3 => ?_⟩
    refine ⟨rfl, _, rfl, ?_⟩
    rw [dI]
    by_cases z : d = 0
    · refine if_pos' (decide_eq_true z) ?_
      refine ⟨⟨_, rfl⟩, _, rfl, p, 6, x1, y1, rfl, by decide, by decide, upd_same, fun n x2 y2 n0 n6 => ⟨n, rfl, by omega, by omega, fun D nD => ?_⟩⟩
      have nDp : D ≠ p := fun q => by
        subst q
        rw [upd_same] at nD
        cases nD
      have nDH : H D = none := by
        rw [upd_ne nDp, upd_ne nDp] at nD
        exact nD
      refine lc_range (lo := 0) (n := n.toNat) (fun i H' => ∃ (cs : List Nat) (x y : Int), cs.length = i ∧ H' D = some (.lst (cs.map fun c => V.str (S [c]))) ∧ H' p = some (.lst [.int x, .int y]) ∧ Kp p H H')
        ⟨[], x2, y2, rfl, upd_same, (upd_ne (Ne.symm nDp)).trans upd_same, fun c o nc e => ?_⟩ (fun i H' hi ⟨cs, x, y, hcs, hD, hp', kp⟩ => ⟨rfl, yes_go ?_⟩) (fun H' ⟨cs, x, y, hcs, hD, hp', kp⟩ => ?_)
      · rw [upd_ne (ne_of_none e nDH), upd_ne nc, upd_ne nc]
        exact e
      · refine iteT ⟨_, rfl, p, 8, x, y, rfl, by decide, by decide, hp', fun e x' y' e0 e8 => ?_⟩
        obtain ⟨c, hc, _⟩ := atI_lt (xs := ("0123/- 9" : Str).cps.toList) (d := e) e0 (by rw [len_a]; exact e8)
        refine ⟨_, e, c, rfl, rfl, (by decide +kernel), hc, _, (upd_ne nDp).trans hD, ?_, cs ++ [c], x', y', ?_, ?_, (upd_ne (Ne.symm nDp)).trans upd_same, fun b o nb e => ?_⟩
        · rw [List.length_map, hcs]; omega
        · rw [List.length_append, hcs]; rfl
        · rw [upd_same, List.map_append]; rfl
        · rw [upd_ne (ne_of_none e nDH), upd_ne nb]
          exact kp b o nb e
      · refine ⟨_, D, cs.map fun c => S [c], rfl, rfl, .inl (SqL.of (by rw [List.map_map]; exact hD)), ?_, ?_⟩
        · have e1 : ((cs.map fun c => S [c]).map (·.length)) = cs.map fun _ => 1 := by rw [List.map_map]; rfl
          have e2 : ∀ l : List Nat, (l.map fun _ => 1).sum = l.length := fun l => by
            induction l with
            | nil => rfl
            | cons a r ih => rw [List.map_cons, List.sum_cons, ih, List.length_cons]; omega
          have e3 : ("" : Str).length = 0 := by decide +kernel
          rw [e1, e2, e3, hcs]
          omega
        · have e1 : Txt.join ("" : Str) (cs.map fun c => S [c]) = S cs := by
            rw [nil_S]
            have q := SX.join_S [] (cs.map fun c => [c])
            rw [joinL_one, List.map_map] at q
            exact q
          rw [e1]
          exact fin cs H' x y (by omega) kp hp'
    · refine if_neg' (decide_eq_false z) ?_
      refine nx_go ?_
      dsimp only
      refine ⟨_, rfl, p, 400, x1, y1, rfl, by decide, by decide, upd_same, fun a x2 y2 a0 a4 => ⟨_, _, rfl, rfl, _, rfl, p, 40, x2, y2, rfl, by decide, by decide, upd_same, fun b x3 y3 b0 b4 => ⟨_, _, rfl, rfl, ?_⟩⟩⟩
      intro xx dx nx nd ne
      have bB : (1 + b).natAbs < 1000 := by omega
      have bA : (a - 200).natAbs < 1000 := by omega
      have hb0 : 1 + b ≠ 0 := by omega
      refine good_at nx nd hb0 (Nat.lt_of_lt_of_le bB (by decide)) fun G s1 r => ⟨rfl, ?_⟩
      obtain ⟨dz, hz⟩ := id r
      have kT := Nat.lt_of_le_of_lt (nt_le (t := a - 200) hb0) bA
      have kB := Nat.lt_of_le_of_lt (nb_le (t := a - 200) hb0) bB
      refine ⟨_, rfl, xx, dz, _, rfl, hz, xx, _, _, rfl, r, pr_lt (Nat.lt_of_lt_of_le kT (by decide)), pr_lt (Nat.lt_of_lt_of_le kB (by decide)), ⟨_, rfl⟩, ?_⟩
      rw [R2.strT_stx]
      have hL := stx_len kT kB
      generalize stx (nt (a - 200) (1 + b)) (nb (a - 200) (1 + b)) = L at hL ⊢
      have hpG : G p = some (.lst [.int x3, .int y3]) := s1 _ _ upd_same
      have kG : Kp p H G := (k0.upd.upd.upd).same s1
      have lL : (S L).length ≤ sizeLine := by rw [SX.S_len]; omega
      have sL : (S L).length = L.length := SX.S_len L
      refine ⟨_, rfl, _, rfl, _, _, rfl, ⟨lL, rfl⟩, _, _, rfl, rfl, p, _, x3, y3, rfl, by omega, by omega, hpG, fun at_ x4 y4 t0 t1 => ?_⟩
      refine ⟨_, rfl, p, 8, x4, y4, rfl, by decide, by decide, upd_same, fun e x5 y5 e0 e8 => ?_⟩
      obtain ⟨c, hc, _⟩ := atI_lt (xs := ("012/- 5+" : Str).cps.toList) (d := e) e0 (by rw [len_b]; exact e8)
      refine ⟨_, e, c, rfl, rfl, (by decide +kernel), hc, ?_⟩
      have hA : (Txt.slice (S L) none (some at_)).length ≤ 9 := by rw [SX.slice_to t0, SX.S_len, List.length_take]; omega
      have hB : (Txt.slice (S L) (some (at_ + 1)) none).length ≤ 9 := by rw [SX.slice_from (by omega), SX.S_len, List.length_drop]; omega
      have hC : (Txt.slice (S L) (some at_) none).length ≤ 9 := by rw [SX.slice_from t0, SX.S_len, List.length_drop]; omega
      have hc1 : (⟨#[c]⟩ : Str).length = 1 := rfl
      have k5 := (kG.upd (o := .lst [V.int x4, V.int y4])).upd (o := .lst [V.int x5, V.int y5])
      have p5 : (upd (upd G p (.lst [V.int x4, V.int y4])) p (.lst [V.int x5, V.int y5])) p = some (.lst [V.int x5, V.int y5]) := upd_same
      refine gen_go (R := fun G5 => Kp p H G5 ∧ G5 p = some (.lst [V.int x5, V.int y5])) ⟨k5, p5⟩ fun G5 ⟨k5, p5⟩ => ?_
      refine ⟨_, rfl, _, rfl, _, rfl, _, rfl, S L, rfl, lL, _, rfl, _, _, rfl, rfl, by omega, _, rfl, _, rfl, _, _, rfl, rfl, _, rfl, S L, rfl, lL, _, _, rfl, rfl, by rw [app_len]; omega, (by show 2 ≤ sizeLine; decide), fun q1 n1 => ?_⟩
      have a1 := same_upd (o := .lst [V.str (S L), V.str (Txt.slice (S L) none (some at_) ++ ⟨#[c]⟩ ++ Txt.slice (S L) (some (at_ + 1)) none)]) n1
      have u1 : (upd G5 q1 (.lst [V.str (S L), V.str (Txt.slice (S L) none (some at_) ++ ⟨#[c]⟩ ++ Txt.slice (S L) (some (at_ + 1)) none)])) q1 = some (.lst [V.str (S L), V.str (Txt.slice (S L) none (some at_) ++ ⟨#[c]⟩ ++ Txt.slice (S L) (some (at_ + 1)) none)]) := upd_same
      refine gen_go (R := fun G6 => Same G5 G6 ∧ G6 q1 = some (.lst [V.str (S L), V.str (Txt.slice (S L) none (some at_) ++ ⟨#[c]⟩ ++ Txt.slice (S L) (some (at_ + 1)) none)])) ⟨a1, u1⟩ fun G6 ⟨a1, u1⟩ => ?_
      refine ⟨_, rfl, _, rfl, _, rfl, _, rfl, S L, rfl, lL, _, rfl, _, rfl, _, _, rfl, rfl, _, rfl, S L, rfl, lL, _, _, rfl, rfl, by omega, ?_⟩
      refine ⟨_, rfl, _, rfl, _, rfl, S L, rfl, lL, _, rfl, _, _, rfl, rfl, by omega, _, rfl, _, rfl, _, rfl, S L, rfl, lL, _, _, rfl, rfl, by rw [app_len]; omega, (by show 2 ≤ sizeLine; decide), fun q2 n2 => ?_⟩
      have a2 := same_upd (o := .lst [V.str (Txt.slice (S L) none (some at_) ++ Txt.slice (S L) (some (at_ + 1)) none), V.str (Txt.slice (S L) none (some at_) ++ ⟨#[c]⟩ ++ Txt.slice (S L) (some at_) none)]) n2
      refine ⟨q1, q2, _, _, rfl, rfl, a2 _ _ u1, upd_same, (by show 2 + 2 ≤ sizeLine; decide), fun q3 n3 => ?_⟩
      have a3 := same_upd (o := .lst ([V.str (S L), V.str (Txt.slice (S L) none (some at_) ++ ⟨#[c]⟩ ++ Txt.slice (S L) (some (at_ + 1)) none)] ++ [V.str (Txt.slice (S L) none (some at_) ++ Txt.slice (S L) (some (at_ + 1)) none), V.str (Txt.slice (S L) none (some at_) ++ ⟨#[c]⟩ ++ Txt.slice (S L) (some at_) none)])) n3
      have sm := (a1.trans a2).trans a3
      refine ⟨_, rfl, _, rfl, p, 4, x5, y5, rfl, by decide, by decide, sm _ _ p5, fun i x6 y6 i0 i4 => ?_⟩
      have q3p : q3 ≠ p := fun q => by
        subst q
        rw [(a1.trans a2) _ _ p5] at n3
        cases n3
      obtain ⟨v, hv, mv⟩ := atI_lt (xs := [V.str (S L), V.str (Txt.slice (S L) none (some at_) ++ ⟨#[c]⟩ ++ Txt.slice (S L) (some (at_ + 1)) none)] ++ [V.str (Txt.slice (S L) none (some at_) ++ Txt.slice (S L) (some (at_ + 1)) none), V.str (Txt.slice (S L) none (some at_) ++ ⟨#[c]⟩ ++ Txt.slice (S L) (some at_) none)]) (d := i) i0 i4
      refine ⟨q3, _, i, v, rfl, rfl, SqL.of ((upd_ne q3p).trans upd_same), hv, ?_⟩
      have z : ∃ z : Str, v = V.str z ∧ z.length ≤ 200 := by
        simp only [List.mem_append, List.mem_cons, List.not_mem_nil, or_false] at mv
        rcases mv with (rfl | rfl) | (rfl | rfl)
        · exact ⟨_, rfl, by omega⟩
        · exact ⟨_, rfl, by rw [app_len, app_len]; omega⟩
        · exact ⟨_, rfl, by rw [app_len]; omega⟩
        · exact ⟨_, rfl, by rw [app_len, app_len]; omega⟩
      obtain ⟨z, rfl, hz⟩ := z
      have e := SX.S_tl z
      have q := fin z.cps.toList _ x6 y6 (by rw [← SX.S_len, e]; exact hz) ((k5.same sm).upd) upd_same
      rw [e] at q
      exact q
end
end R1
end

-- Q02t
section
set_option Elab.async false
set_option linter.all false
set_option maxRecDepth 100000
set_option exponentiation.threshold 6000
namespace R1
open PySem L2 OwnOps RatM OwnNe TryAs
open R2 (digB okn isNeg prs due stx itx tryR plainB good)
open SX (S)
abbrev sLaw : Stmt := R1.top 24
abbrev zeros : Str := S (List.replicate 59 48)
theorem op_mul59 {X : Cx} : OpR X (binaryOp .Mult) (fun x y H Q => x = .str "0" ∧ y = .int 59 ∧ Q (.str zeros) H) := by
  intro pins s σ H x y v u Q I rx ry h
  obtain ⟨rfl, rfl, q⟩ := h
  obtain ⟨t, rfl⟩ := (show ∃ t, v = Value.str "0" t from rx)
  obtain ⟨t', rfl⟩ := (show ∃ t', u = Value.int 59 t' from ry)
  refine PySem.P.mul_str (by decide) (fun _ _ => by decide +kernel) (fun _ _ => by decide +kernel) ?_
  rw [if_neg (by decide), if_neg (by decide +kernel)]
  have e : (⟨(List.replicate (59 : Int).toNat ("0" : Str).cps).foldl (· ++ ·) #[]⟩ : Str) = zeros := by decide +kernel
  rw [e]
  exact ⟨by decide +kernel, .str zeros, H, I.tok _, ⟨_, rfl⟩, q⟩
theorem right_at {H : Hp} {Q : VK} {E : XK} {z : Str} (hz : z.length ≤ 200) (k : ∀ H', Same H H' → Q (.bl true) H') : spRight [.str z] H Q E := ⟨z.cps.toList, rfl, hz, k⟩
abbrev T13 : List V := [V.str "", V.str "-", V.str "/", V.str "1/", V.str "/2", V.str "0", V.str "-0", V.str "00", V.str "1/1", V.str "2/4", V.str "3/2", V.str "-3/2", V.str "3/-2"]
abbrev T6 : List V := [V.str "+1", V.str " 1", V.str "1 ", V.str "0/3", V.str "1\n", V.str "1/0"]
abbrev long : Str := ("1" : Str) ++ zeros
abbrev T9 : List V := [V.str long, V.str (long ++ ("0" : Str)), V.str (("-" : Str) ++ long), V.str (("1/" : Str) ++ long), V.str (("1/" : Str) ++ long ++ ("0" : Str)), V.str (long ++ ("/7" : Str)), V.str "7/2/3", V.str "1/0", V.str "1\n"]
def isTxt : V → Bool
  | .str z => decide (z.length ≤ 200)
  | _ => false
theorem txt_all {xs : List V} (h : xs.all isTxt = true) : ∀ x ∈ xs, ∃ z : Str, x = .str z ∧ z.length ≤ 200 := fun x hx => by
  have q : isTxt x = true := List.all_eq_true.mp h x hx
  cases x with
  | str z => exact ⟨z, rfl, of_decide_eq_true q⟩
  | _ => cases q
/-- the names of the law -/
abbrev NL : List Str := ["_law_script", "_law_value", "_law_long", "_law_some", "_law_text_here", "_law_k", "_law_draws_here"]
section
variable {P : Program} {w : World} {K : PySem.W.Frag} {mg : Str → Option Value} {base : Heap} {C CI fCI CZ fCZ : Addr}
/-- a loop over texts, each of them read -/
theorem texts_go {a : Addr} {xs : List V} {σ : L2.St} {H : Hp} {D : Ends} {u : TS} (hx : H a = some (.lst xs)) (ht : ∀ x ∈ xs, ∃ z : Str, x = .str z ∧ z.length ≤ 200) {r : List (Option V)} {o1 o2 o3 o4 : Option V} (hσ : σ = o1 :: o2 :: o3 :: o4 :: (none : Option V) :: r ∨ ∃ v, σ = o1 :: o2 :: o3 :: o4 :: some v :: r)
    (k : ∀ (v : Option V) H', Same H H' → D.nx (o1 :: o2 :: o3 :: o4 :: v :: r) H') :
    ∃ W : Nat → Nat → L2.St → Hp → Prop, (∃ m, W 0 m σ H) ∧ ∀ i m σ H, W i m σ H →
      ((Itl K a).stop i H ∧ D.nx σ H) ∨ ((Itl K a).go i H ∧ ∃ N : L2.St → Hp → Prop, (∀ σ' H', N σ' H' → ∃ m', m' < m ∧ W (i + 1) m' σ' H') ∧ ∀ x H', (Itl K a).yld i H x H' → (gName 4) x σ H' fun σ2 H2 => (tIfS (tNot (tB (tCall spRight [] E0 (tCons (tVar 4) tNil)))) u tNext) { D with nx := N, ct := N, bk := D.nx } σ2 H2) := by
  refine for_list (K := K) (a := a) (xs := xs) (fun i σ H' => (∃ v, σ = o1 :: o2 :: o3 :: o4 :: v :: r) ∧ Same H H') ⟨?_, Same.refl _⟩ (fun i σ H' _ ⟨_, sm⟩ => SqL.of (sm _ _ hx)) ?_ ?_
  · rcases hσ with rfl | ⟨v, rfl⟩
    · exact ⟨_, rfl⟩
    · exact ⟨_, rfl⟩
  · rintro i y σ H' hi ⟨⟨v, rfl⟩, sm⟩
    obtain ⟨z, rfl, hz⟩ := ht y (List.mem_of_getElem? hi)
    exact ⟨_, rfl, z.cps.toList, rfl, hz, fun H3 s3 => ⟨_, rfl, iteF ⟨⟨_, rfl⟩, sm.trans s3⟩⟩⟩
  · rintro σ H' ⟨⟨v, rfl⟩, sm⟩
    exact k v H' sm
def spLaw (K : PySem.W.Frag) : Sp := fun vs H Q _ => ∃ (a : Addr) (ns : List Int), vs = [.ref a] ∧ SqL K H a (ns.map V.int) ∧ ns.length ≤ 63 ∧ ∀ H', Q (.bl true) H'
theorem ok_law {f : Addr} {fd : FuncData} (F : Fun K "law" "law" sLaw f fd) (T : Txt K mg C CI fCI CZ fCZ) (N : Nms mg) (kCs : PySem.W.kitOne K (.ref C) (.type "str") = some false) (M : Mak P w K mg base C CI CZ)
    (GD : Glb P w K mg base "_law_draws" 1 ["_law_script", "_law_k"] (spDraws K)) (GT : Glb P w K mg base "_law_told" 6 ["_law_value"] (spTold K)) (GR : Glb P w K mg base "_law_right" 7 ["_law_text_here"] spRight) (GX : Glb P w K mg base "_law_text" 5 ["_law_draws_here"] spText) :
    FnOk P w K mg base (L2.CX P w) 8 f fd ["_law_script"] (spLaw K) := by
  obtain ⟨fN, fdN, ds, mk, GN, b3, d2, b2⟩ := M.ex
  obtain ⟨_, _, mD, kD, GD, bD⟩ := GD.ex
  obtain ⟨_, _, mT, kT, GT, bT⟩ := GT.ex
  obtain ⟨_, _, mR, kR, GR, bR⟩ := GR.ex
  obtain ⟨_, _, mX, kX, GX, bX⟩ := GX.ex
  have sc : FnScope NL ["_law_script"] (defScope sLaw) := ⟨rfl, rfl, rfl, by decide +kernel, rfl, by decide +kernel, by decide +kernel⟩
  refine F.okX sc (fun vs H Q E h => ?_) (fun cdv A outer s H vs Q E hr h => ?_)
  · obtain ⟨a, ns, rfl, _⟩ := h
    rfl
  · obtain ⟨a, ns, rfl, hS, hlen, fin⟩ := h
    refine ⟨_, (pss_cons (ps_for passOwn rfl (pi_list (pe_lst (pa_cons pe_non (pa_cons pe_int (pa_cons pe_bl (pa_cons (pe_lst (pa_cons pe_str pa_nil)) (pa_cons (pe_tup (pa_cons pe_str pa_nil)) (pa_cons pe_dnewK (pa_cons (pe_make mk GN (hr.mono (by decide)) (by rfl) T.gC b3 .nil passL (pa_cons pe_int (pa_cons pe_int pa_nil))) pa_nil))))))))) (pg_name (i := 1) sc.nd rfl (Or.inl rfl)) (pss_one (ps_if (pt_cmpR (op_neG (n := 0) mon_DA eqG_DA (hr.mono (by decide))) (pe_call GT (hr.mono (by decide)) (by rfl) mT kT bT .nil passL (pa_cons (pv 1) pa_nil)) (pe_lst (pa_cons pe_str (pa_cons (pv 1) pa_nil))) (nomark _)) (pss_one (ps_ret pe_bl)) pss_nil)))
      (pss_cons (ps_set (i := 2) sc.nd rfl (Or.inl rfl) (pe_op op_add_str pe_str (pe_op op_mul59 pe_str pe_int)))
      (pss_cons (ps_set (i := 3) sc.nd rfl (Or.inl rfl) (pe_lst (pa_cons pe_str (pa_cons pe_str (pa_cons pe_str (pa_cons pe_str (pa_cons pe_str (pa_cons pe_str (pa_cons pe_str (pa_cons pe_str (pa_cons pe_str (pa_cons pe_str (pa_cons pe_str (pa_cons pe_str (pa_cons pe_str pa_nil)))))))))))))))
      (pss_cons (ps_for passOwn rfl (pi_list (pe_op op_cat (pv 3) (pe_lst (pa_cons pe_str (pa_cons pe_str (pa_cons pe_str (pa_cons pe_str (pa_cons pe_str (pa_cons pe_str pa_nil))))))))) (pg_name (i := 4) sc.nd rfl (Or.inl rfl)) (pss_one (ps_if (pt_not (pt_val (pe_call GR hr (by rfl) mR kR bR .nil passL (pa_cons (pv 4) pa_nil)))) (pss_one (ps_ret pe_bl)) pss_nil)))
      (pss_cons (ps_for passOwn rfl (pi_list (pe_lst (pa_cons (pv 2) (pa_cons (pe_op op_add_str (pv 2) pe_str) (pa_cons (pe_op op_add_str pe_str (pv 2)) (pa_cons (pe_op op_add_str pe_str (pv 2)) (pa_cons (pe_op op_add_str (pe_op op_add_str pe_str (pv 2)) pe_str) (pa_cons (pe_op op_add_str (pv 2) pe_str) (pa_cons pe_str (pa_cons pe_str (pa_cons pe_str pa_nil))))))))))) (pg_name (i := 4) sc.nd rfl (Or.inl rfl)) (pss_one (ps_if (pt_not (pt_val (pe_call GR hr (by rfl) mR kR bR .nil passL (pa_cons (pv 4) pa_nil)))) (pss_one (ps_ret pe_bl)) pss_nil)))
      (pss_cons (ps_for passOwn rfl (pi_range1 rfl N.range (pa_cons (pe_callB (call_max2 rfl) (by rfl) N.max (by decide +kernel) (pa_cons pe_int (pa_cons (pe_callB (call_min2 rfl) (by rfl) N.min (by decide +kernel) (pa_cons pe_int (pa_cons (pe_callB call_len_seq (by rfl) N.len PySem.boot_len (pa_cons (pv 0) pa_nil)) pa_nil))) pa_nil))) pa_nil)) (pg_name (i := 5) sc.nd rfl (Or.inl rfl)) (pss_cons (ps_set (i := 6) sc.nd rfl (Or.inl rfl) (pe_call GD (hr.mono (by decide)) (by rfl) mD kD bD .nil passL (pa_cons (pv 0) (pa_cons (pv 5) pa_nil))))
      (pss_one (ps_if (PW.pt (pw_or (pt_not (pt_val (pe_call GR hr (by rfl) mR kR bR .nil passL (pa_cons (pe_call GX (hr.mono (by decide)) (by rfl) mX kX bX .nil passL (pa_cons (pv 6) pa_nil)) pa_nil)))) (pw_or1 (pt_not (pt_val (pe_call GR hr (by rfl) mR kR bR .nil passL (pa_cons (pe_call GX (hr.mono (by decide)) (by rfl) mX kX bX .nil passL (pa_cons (pv 6) pa_nil)) pa_nil))))))) (pss_one (ps_ret pe_bl)) pss_nil))))
      (pss_one (ps_ret pe_bl)))))))), ?_⟩
    have one : 1 ≤ sizeLine := by decide
    have two : 2 ≤ sizeLine := by decide
    have seven : 7 ≤ sizeLine := by decide
    have sm5 : Sm 5000 2 := (show (2 : Int).natAbs < 2 ^ 5000 by decide +kernel)
    -- the values that are no texts
    refine ⟨one, fun l1 n1 => ⟨one, fun t1 nt1 => fun d1 nd1 => ?_⟩⟩
    intro p1 dx1 np1 ndx1 ne1
    refine good_at np1 ndx1 (by decide) sm5 fun H1 s1 r1 => ⟨rfl, ?_⟩
    have g1 := same_upd (o := .lst [V.str "1"]) n1
    have g2 := same_upd (o := .tup [V.str "1"]) nt1
    have g3 := same_upd (o := .dK []) nd1
    have el : H1 l1 = some (.lst [V.str "1"]) := s1 _ _ (g3 _ _ (g2 _ _ upd_same))
    have et : H1 t1 = some (.tup [V.str "1"]) := s1 _ _ (g3 _ _ upd_same)
    have ed : H1 d1 = some (.dK []) := s1 _ _ upd_same
    have sH1 := ((g1.trans g2).trans g3).trans s1
    refine ⟨seven, fun L nL => ⟨L, rfl, ⟨_, SqL.of upd_same⟩, ?_⟩⟩
    have s2 := same_upd (o := .lst [V.non, V.int 5, V.bl true, V.ref l1, V.ref t1, V.ref d1, V.ref p1]) nL
    have eL : (upd H1 L (.lst [V.non, V.int 5, V.bl true, V.ref l1, V.ref t1, V.ref d1, V.ref p1])) L = some (.lst [V.non, V.int 5, V.bl true, V.ref l1, V.ref t1, V.ref d1, V.ref p1]) := upd_same
    generalize (upd H1 L (.lst [V.non, V.int 5, V.bl true, V.ref l1, V.ref t1, V.ref d1, V.ref p1])) = H2 at s2 eL ⊢
    refine for_list (K := K) (a := L) (xs := [V.non, V.int 5, V.bl true, V.ref l1, V.ref t1, V.ref d1, V.ref p1]) (fun i σ H' => (∃ v, σ = [some (.ref a), v, none, none, none, none, none]) ∧ Same H2 H') ⟨⟨none, rfl⟩, Same.refl _⟩ (fun i σ H' _ ⟨_, sm⟩ => SqL.of (sm _ _ eL)) ?_ ?_
    · rintro i y σ H' hi ⟨⟨v, rfl⟩, sm⟩
      have sa := s2.trans sm
      have my : NoStr K H' y ∧ ∀ H'', DA y y H'' := by
        have mem := List.mem_of_getElem? hi
        simp only [List.mem_cons, List.not_mem_nil, or_false] at mem
        rcases mem with rfl | rfl | rfl | rfl | rfl | rfl | rfl
        · exact ⟨⟨_, .base .non, kit_ty (by decide +kernel)⟩, fun _ => .inl ⟨rfl, rfl, rfl⟩⟩
        · exact ⟨⟨_, .base (.int _), kit_ty (by decide +kernel)⟩, fun _ => .inl (flat_int _)⟩
        · exact ⟨⟨_, .base (.bl _), kit_ty (by decide +kernel)⟩, fun _ => .inl ⟨rfl, rfl, rfl⟩⟩
        · exact ⟨⟨_, .base (.lst (sa _ _ el)), kit_ty (by decide +kernel)⟩, fun _ => .inr ⟨rfl, _, rfl⟩⟩
        · exact ⟨⟨_, .base (.tup (sa _ _ et)), kit_ty (by decide +kernel)⟩, fun _ => .inr ⟨rfl, _, rfl⟩⟩
        · exact ⟨⟨_, .base (.dK (sa _ _ ed)), kit_ty (by decide +kernel)⟩, fun _ => .inr ⟨rfl, _, rfl⟩⟩
        · obtain ⟨dz, hz⟩ := id r1
          exact ⟨⟨_, .base (.ins (sa _ _ hz) T.cl T.ha T.hn T.htk T.hm), kCs⟩, fun _ => .inr ⟨rfl, _, rfl⟩⟩
      obtain ⟨ns', dy⟩ := my
      refine ⟨_, rfl, y, rfl, .inr ⟨ns', fun q H3 s3 hq => ⟨_, rfl, two, fun q2 n2 => ?_⟩⟩⟩
      exact ⟨⟨q, q2, _, _, rfl, rfl, (same_upd n2) _ _ hq, upd_same, Prs.cons (.inl (flat_str _)) (Prs.cons (dy _) Prs.nil)⟩, fun H4 e4 => ⟨_, rfl, iteF ⟨⟨_, rfl⟩, ((sm.trans s3).trans (same_upd n2)).trans e4⟩⟩⟩
    · rintro σ H3 ⟨⟨v, rfl⟩, s3⟩
      have s13 := (sH1.trans s2).trans s3
      clear s3 eL s2 nL el et ed r1 sH1 g1 g2 g3
      -- the long one, the list
      refine ⟨rfl, rfl, _, _, rfl, rfl, (by decide +kernel), ?_⟩
      refine ⟨(by show 13 ≤ sizeLine; decide), fun q1 nq1 => ?_⟩
      have u1 := upd_same (H := H3) (a := q1) (o := .lst T13)
      have a1 := same_upd (o := .lst T13) nq1
      refine ⟨_, rfl, (by show 6 ≤ sizeLine; decide), fun q2 nq2 => ⟨q1, q2, _, _, rfl, rfl, (same_upd nq2) _ _ u1, upd_same, (by show 13 + 6 ≤ sizeLine; decide), fun q3 nq3 => ⟨q3, rfl, ⟨_, SqL.of upd_same⟩, ?_⟩⟩⟩
      have a2 := same_upd (o := .lst T6) nq2
      have a3 := same_upd (o := .lst (T13 ++ T6)) nq3
      refine texts_go (xs := T13 ++ T6) upd_same (txt_all (by decide +kernel)) (.inl rfl) fun v4 H4 s4 => ?_
      have s14 := (((s13.trans a1).trans a2).trans a3).trans s4
      -- the texts about the long one
      refine ⟨_, rfl, _, rfl, _, _, rfl, rfl, (by decide +kernel), _, rfl, _, _, rfl, rfl, (by decide +kernel), _, rfl, _, _, rfl, rfl, (by decide +kernel), _, rfl, _, _, rfl, rfl, (by decide +kernel), _, _, rfl, rfl, (by decide +kernel), _, rfl, _, _, rfl, rfl, (by decide +kernel), ?_⟩
      refine ⟨(by show 9 ≤ sizeLine; decide), fun q4 nq4 => ⟨q4, rfl, ⟨_, SqL.of upd_same⟩, ?_⟩⟩
      have a4 := same_upd (o := .lst T9) nq4
      refine texts_go (xs := T9) upd_same (txt_all (by decide +kernel)) (by
        cases v4 with
        | none => exact .inl rfl
        | some v => exact .inr ⟨v, rfl⟩) fun v5 H5 s5 => ?_
      have s15 := (s14.trans a4).trans s5
      have hS5 := s15.seq hS
      clear s14 s13 a1 a2 a3 a4 s4 s5 u1 nq4 nq3 nq2
      -- the cells
      refine ⟨_, rfl, a, _, rfl, .inl hS5, _, _, rfl, _, _, rfl, _, rfl, ?_, ?_, for_range (fun k σ H' => (∃ o1 o2 o3 o4 o5 o6, σ = [some (.ref a), o1, o2, o3, o4, o5, o6]) ∧ Same H5 H') ⟨⟨_, _, _, _, _, _, rfl⟩, Same.refl _⟩ ?_ ?_⟩
      · rw [List.length_map]
        split <;> (try split) <;> omega
      · rw [List.length_map]
        split <;> (try split) <;> omega
      · rintro i σ H' hi ⟨⟨o1, o2, o3, o4, o5, o6, rfl⟩, sm⟩
        refine ⟨_, rfl, _, rfl, a, ns, _, rfl, sm.seq hS5, fun p x y H6 s6 hp np => ?_⟩
        have back : ∀ {G : Hp}, Kp p H6 G → Same H' G := fun {G} kp c o e => kp c o (ne_of_none e np) (s6 _ _ e)
        refine ⟨_, rfl, p, x, y, rfl, hp, fun l1 H7 x1 y1 hl1 k1 p7 => ⟨l1, rfl, hl1, fun H8 s8 => ⟨_, rfl, iteF ?_⟩⟩⟩
        refine ⟨_, rfl, p, x1, y1, rfl, s8 _ _ p7, fun l2 H9 x2 y2 hl2 k2 p9 => ⟨l2, rfl, hl2, fun HA sA => ⟨_, rfl, iteF ?_⟩⟩⟩
        have k3 : Kp p H6 HA := fun c o nc e => sA _ _ (k2 c o nc (s8 _ _ (k1 c o nc e)))
        exact ⟨⟨_, _, _, _, _, _, rfl⟩, sm.trans (back k3)⟩
      · rintro σ H' _
        exact fin H'
end
end R1
end

-- Q02u
section
set_option Elab.async false
set_option linter.all false
set_option maxRecDepth 100000
set_option exponentiation.threshold 6000
namespace R1
open PySem L2 OwnOps RatM OwnNe
/-- a def of the top -/
structure DefG (K : PySem.W.Frag) (x : Str) (st : Stmt) (f : Addr) : Prop where
  here : PySem.W.nsIn K mainGlobals x = some (some (.ref f))
  fn : ∃ fd, Fun K x x st f fd
theorem defG_mk {K : PySem.W.Frag} {x : Str} {st : Stmt} {f : Addr} {oc kV doc pm cdv ct : Value} {od an : Option Addr} {osl : Array (Option Value)} (a : PySem.W.nsIn K mainGlobals x = some (some (.ref f)))
    (l : K.lookup f = some ⟨oc, od, .func (PySem.W.fnOf x x (defArgs st) (defBody st) (defScope st) .none kV doc pm an cdv ct), osl⟩) (c : PySem.W.codeIn K cdv x = true) (k : PySem.W.keepIn K (.ref f) = true) : DefG K x st f := ⟨a, _, fun_mk l c k⟩
/-- a def of the class -/
structure DefM (K : PySem.W.Frag) (C : Addr) (x qual : Str) (st : Stmt) (f : Addr) : Prop where
  here : PySem.W.findIn K (.ref C) x = some (some (.ref f))
  is : PySem.W.isFn K (.ref f) = true
  kp : PySem.W.keepIn K (.ref f) = true
  fn : ∃ fd, Fun K x qual st f fd
theorem defM_mk {K : PySem.W.Frag} {C : Addr} {x qual : Str} {st : Stmt} {f : Addr} {oc kV doc pm cdv ct : Value} {od an : Option Addr} {osl : Array (Option Value)} (a : PySem.W.findIn K (.ref C) x = some (some (.ref f))) (i : PySem.W.isFn K (.ref f) = true)
    (l : K.lookup f = some ⟨oc, od, .func (PySem.W.fnOf x qual (defArgs st) (defBody st) (defScope st) .none kV doc pm an cdv ct), osl⟩) (c : PySem.W.codeIn K cdv qual = true) (k : PySem.W.keepIn K (.ref f) = true) : DefM K C x qual st f := ⟨a, i, k, _, fun_mk l c k⟩
/-- the class's __init__, with its default -/
structure DefI (K : PySem.W.Frag) (C : Addr) (f : Addr) : Prop where
  here : PySem.W.findIn K (.ref C) "__init__" = some (some (.ref f))
  is : PySem.W.isFn K (.ref f) = true
  fn : ∃ fd, InitD K f fd
theorem defI_mk {K : PySem.W.Frag} {C f Td : Addr} {oc kV doc pm cdv ct tc : Value} {od an td : Option Addr} {osl tsl : Array (Option Value)} {tk : Tok} {n : Nat} (a : PySem.W.findIn K (.ref C) "__init__" = some (some (.ref f))) (i : PySem.W.isFn K (.ref f) = true)
    (l : K.lookup f = some ⟨oc, od, .func (PySem.W.fnOf "__init__" "Ratio.__init__" (defArgs (sRat 0)) (defBody (sRat 0)) (defScope (sRat 0)) (.ref Td) kV doc pm an cdv ct), osl⟩) (t : K.lookup Td = some ⟨tc, td, .seq #[.int 1 tk] n, tsl⟩)
    (c : PySem.W.codeIn K cdv "Ratio.__init__" = true) (k : PySem.W.keepIn K (.ref f) = true) : DefI K C f :=
  ⟨a, i, _, ⟨oc, od, .ref Td, kV, doc, pm, an, cdv, ct, osl, rfl, l, c, .inr ⟨by simp, Td, _, [.int 1 tk], n, rfl, t, rfl, .cons ⟨tk, rfl⟩ .nil⟩, .inl rfl⟩, k⟩
section
variable {P : Program} {w : World} {K : PySem.W.Frag} {h base : Heap} {mg : Str → Option Value} {C : Addr}
theorem glb {x : Str} {st : Stmt} {f : Addr} {k : Nat} {ps : List Str} {sp : Sp} (X : K.In h) (G : h.Ns mainGlobals mg) (d : DefG K x st f) (ok : ∀ fd, Fun K x x st f fd → FnOk P w K mg base (L2.CX P w) k f fd ps sp)
    (b : ∀ fd, Fun K x x st f fd → L2.Binds K fd ps []) : Glb P w K mg base x k ps sp :=
  let ⟨fd, F⟩ := d.fn
  ⟨f, fd, PySem.W.mg_of X G d.here, F.kp, ok fd F, b fd F⟩
theorem dun {nm x qual : Str} {st : Stmt} {f : Addr} {k : Nat} {ps : List Str} {sp : Sp} (hn : nm = x) (d : DefM K C x qual st f) (ok : ∀ fd, Fun K x qual st f fd → FnOk P w K mg base (L2.CX P w) k f fd ps sp)
    (b : ∀ fd, Fun K x qual st f fd → L2.Binds K fd ps []) : Dun P w K mg base C nm k ps sp := by
  subst hn
  obtain ⟨fd, F⟩ := d.fn
  exact ⟨f, fd, d.here, d.is, d.kp, ok fd F, b fd F⟩
theorem kit_rt {T : String} {b : Bool} (m : PySem.W.kitMeta T = true) (e : PySem.W.subIn K (.ref C) (.type T) = some b) : PySem.W.kitOne K (.ref C) (.type T) = some b := by
  show (if (Value.ref C == Value.type T) = true then some true else if PySem.W.kitMeta T = true then PySem.W.subIn K (.ref C) (.type T) else none) = some b
  rw [if_neg (fun q => by cases beq_iff_eq.mp q), if_pos m, e]
theorem kit_tr {T : String} {b : Bool} (i : PySem.W.isClsIn K C = true) (t : PySem.W.typeIn K (.ref C) = some (.type "type")) (e : PySem.W.subIn K (.type T) (.ref C) = some b) : PySem.W.kitOne K (.type T) (.ref C) = some b := by
  have q : ((PySem.W.clsIn K C).isSome && PySem.W.typeIn K (.ref C) == some (.type "type")) = true := by
    rw [show (PySem.W.clsIn K C).isSome = true from i, t]
    rfl
  show (if (Value.type T == Value.ref C) = true then some true else if ((PySem.W.clsIn K C).isSome && PySem.W.typeIn K (.ref C) == some (.type "type")) = true then PySem.W.subIn K (.type T) (.ref C) else none) = some b
  rw [if_neg (fun q => by cases beq_iff_eq.mp q), if_pos q, e]
theorem kit_rr : PySem.W.kitOne K (.ref C) (.ref C) = some true := by
  show (if (Value.ref C == Value.ref C) = true then some true else _) = some true
  rw [if_pos (beq_self_eq_true _)]
/-- the error classes, as the top has made them -/
structure DefE (K : PySem.W.Frag) (cn qn : Str) (newId : String) (bt : List Value) (E fE : Addr) : Prop where
  here : PySem.W.nsIn K mainGlobals cn = some (some (.ref E))
  txt : ∀ mg : Str → Option Value, mg cn = some (.ref E) → PySem.Giv.ErrTxt K mg cn qn newId bt E fE
  ty : PySem.W.typeIn K (.ref E) = some (.type "type")
  ex : PySem.W.subIn K (.ref E) (.type "BaseException") = some true
  hd : PySem.W.hasDictIn K E = true
theorem defE_mk {cn qn : Str} {newId : String} {bt bm : List Value} {E fE N : Addr} {nm q : Str} {bs : List Value} {sn : List Str} {sub : List Value} {ab : Bool} {col : Option Bool} {dd an od : Option Addr} {k0 k1 k2 k3 k5 : Option Value} {oc doc pm cdv ct : Value} {osl : Array (Option Value)} {p1 p2 q1 q2 q3 q4 : Pos}
    (a : PySem.W.nsIn K mainGlobals cn = some (some (.ref E))) (xL : K.lookup E = some (PySem.excClassObj nm q E N bs bm true sn sub ab col dd k0 k1 k2 k3 k5 newId)) (tl : PySem.Giv.tailIs bt bm = true)
    (sa : PySem.W.findIn K (.ref E) "__setattr__" = some (some (.builtin "object.__setattr__"))) (ga : PySem.W.findIn K (.ref E) "__getattribute__" = some (some (.builtin "BaseException.__getattribute__"))) (gg : PySem.W.findIn K (.ref E) "__getattr__" = some none)
    (no : PySem.W.findIn K (.ref E) "given" = some none) (iC : PySem.W.findIn K (.ref E) "__init__" = some (some (.ref fE))) (tC : PySem.W.typeIn K (.ref fE) = some (.type "function"))
    (l : K.lookup fE = some ⟨oc, od, .func (PySem.W.fnOf "__init__" qn (PySem.Giv.gA p1 p2) (PySem.Giv.gB q1 q2 q3 q4) PySem.Giv.gS .none .none doc pm an cdv ct), osl⟩) (c : PySem.W.codeIn K cdv qn = true)
    (kC : PySem.W.keepIn K (.ref E) = true) (ex : PySem.W.subIn K (.ref E) (.type "BaseException") = some true) (ty : PySem.W.typeIn K (.ref E) = some (.type "type")) (hd : PySem.W.hasDictIn K E = true) (ss : PySem.W.subIn K (.ref E) (.ref E) = some true) : DefE K cn qn newId bt E fE :=
  ⟨a, fun mg hg => { gC := hg, cls := ⟨nm, q, N, bs, bm, sn, sub, ab, col, dd, k0, k1, k2, k3, k5, xL, tl⟩, sa := sa, ga := ga, gg := gg, noN := no, iC := iC, tC := tC, kC := kC, exC := ex, tyC := ty, hdC := hd, te := (PySem.W.exm_ref ex hd ty ss), fn := ⟨oc, od, doc, pm, an, cdv, ct, osl, p1, p2, q1, q2, q3, q4, l, c⟩ }, ty, ex, hd⟩
/-- the class itself -/
structure DefC (K : PySem.W.Frag) (C : Addr) : Prop where
  here : PySem.W.nsIn K mainGlobals "Ratio" = some (some (.ref C))
  cl : Cls K C
  nT : NoAttr K C "top"
  nB : NoAttr K C "bottom"
  ha : PySem.W.findIn K (.ref C) "__class__" = some (some (.builtin "object.__class__"))
  hn : PySem.W.specialIn K (.builtin "object.__class__") "__get__" = some (some (.builtin "getset_descriptor.__get__"))
  htk : PySem.W.takesIn K (.builtin "object.__class__") = some true
  hm : PySem.W.mroIn K C (.type "object") = some true
  mks : PySem.W.makesIn K C = true
  kp : PySem.W.keepIn K (.ref C) = true
  ic : PySem.W.isClsIn K C = true
  ty : PySem.W.typeIn K (.ref C) = some (.type "type")
  sf : PySem.W.selfFirst K C = true
  nCC : PySem.W.notFirst K C (.ref C) = true
/-- the class beside the built-in types -/
structure DefT (K : PySem.W.Frag) (C : Addr) (T : String) : Prop where
  nf : PySem.W.notFirst K C (.type T) = true
  tr : PySem.W.subIn K (.type T) (.ref C) = some false
  rt : PySem.W.subIn K (.ref C) (.type T) = some false
end


/-- the static method of the class -/
structure DefS (K : PySem.W.Frag) (C p f : Addr) : Prop where
  sm : SMet K C "parse" p f
  fn : ∃ fd, Fun K "parse" "Ratio.parse" sParse f fd
theorem defS_mk {K : PySem.W.Frag} {C p f : Addr} {mc : Value} {rest : List Value} {oc kV doc pm cdv ct : Value} {od an : Option Addr} {osl : Array (Option Value)} (t : PySem.W.typeIn K (.ref C) = some mc) (rd : PySem.W.readsIn K C mc = true)
    (a : PySem.W.findCls K (.ref C) mc "parse" = some (.get (.builtin "staticmethod.__get__") (.ref p) .none (.ref C))) (ga : PySem.W.specialIn K (.ref C) "__getattribute__" = some (some (.builtin "type.__getattribute__"))) (rc : PySem.W.recIn K p "staticmethod" = some (.ref f :: rest))
    (l : K.lookup f = some ⟨oc, od, .func (PySem.W.fnOf "parse" "Ratio.parse" (defArgs sParse) (defBody sParse) (defScope sParse) .none kV doc pm an cdv ct), osl⟩) (c : PySem.W.codeIn K cdv "Ratio.parse" = true) (k : PySem.W.keepIn K (.ref f) = true) : DefS K C p f :=
  ⟨⟨⟨mc, t, rd, a⟩, ga, ⟨rest, rc⟩, k⟩, _, fun_mk l c k⟩

theorem all_mk {l : PySem.W.OpenLaw} {w : World} {K : PySem.W.Frag} {h : Heap} {mg : Str → Option Value} {fa C fI CI fCI CZ fCZ pS fS fStr a0 a1 a2 a3 a4 a5 a6 a7 a8 a9 a10 a11 : Addr} {uD uP : Value} (X : K.In h) (G : h.Ns mainGlobals mg) (hfa : mg "law" = some (.ref fa))
    (dC : DefC K C)
    (dI : DefI K C fI)
    (eI : DefE K "InvalidNumber" "InvalidNumber.__init__" "ValueError.__new__" veT CI fCI)
    (eZ : DefE K "NoDivision" "NoDivision.__init__" "ZeroDivisionError.__new__" zdT CZ fCZ)
    (gc : PySem.W.nsIn K mainGlobals "gcd" = some (some (.builtin "math.gcd")))
    (dS : DefS K C pS fS)
    (mStr : DefM K C "__str__" "Ratio.__str__" (sRat 18) fStr)
    (dg : PySem.W.nsIn K mainGlobals "DIGITS" = some (some uD))
    (du : RelV (.str "0123456789") uD)
    (pd : PySem.W.nsIn K mainGlobals "PARSED_DIGITS" = some (some uP))
    (pu : RelV (.int 60) uP)
    (fg0 : DefG K "is_whole" sWhole a0)
    (fg1 : DefG K "is_digits" sDig a1)
    (fg2 : DefG K "_is_number" sNum a2)
    (fg3 : DefG K "_law_draws" sDraws a3)
    (fg4 : DefG K "_law_draw" sDraw a4)
    (fg5 : DefG K "_law_plain" sPlain a5)
    (fg6 : DefG K "_law_divisor" sDivisor a6)
    (fg7 : DefG K "_law_due" sDue a7)
    (fg8 : DefG K "_law_told" sTold a8)
    (fg9 : DefG K "_law_right" sRight a9)
    (fg10 : DefG K "_law_text" sText a10)
    (fg11 : DefG K "law" sLaw a11)
    (tint : DefT K C "int")
    (tbool : DefT K C "bool")
    (tNoneType : DefT K C "NoneType")
    (tstr : DefT K C "str")
    (tlist : DefT K C "list")
    (ttuple : DefT K C "tuple")
    (nisinstance : PySem.W.nsIn K mainGlobals "isinstance" = some none)
    (nint : PySem.W.nsIn K mainGlobals "int" = some none)
    (nbool : PySem.W.nsIn K mainGlobals "bool" = some none)
    (nabs : PySem.W.nsIn K mainGlobals "abs" = some none)
    (nstr : PySem.W.nsIn K mainGlobals "str" = some none)
    (nrepr : PySem.W.nsIn K mainGlobals "repr" = some none)
    (nlen : PySem.W.nsIn K mainGlobals "len" = some none)
    (nmax : PySem.W.nsIn K mainGlobals "max" = some none)
    (nmin : PySem.W.nsIn K mainGlobals "min" = some none)
    (nrange : PySem.W.nsIn K mainGlobals "range" = some none)
    (nall : PySem.W.nsIn K mainGlobals "all" = some none) :
    ∃ fd : FuncData, (∀ (s : Shared) (v : Value), BindsTo s fd ⟨[v], []⟩ [("_law_script", v)]) ∧ ∀ base : Heap, K.In base → base.Ns mainGlobals mg → FnOk l.prog w K mg base (L2.CX l.prog w) 8 fa fd ["_law_script"] (spLaw K) := by
  have e := hfa.symm.trans (PySem.W.mg_of X G fg11.here)
  cases e
  obtain ⟨fdL, FL⟩ := fg11.fn
  refine ⟨fdL, fun s v => ?_, fun base KX KG => ?_⟩
  · obtain ⟨oc, od, kV, doc, pm, an, cdv, ct, osl, rfl, _, _⟩ := FL.ex
    exact .of_eq rfl
  have T : Txt K mg C CI fCI CZ fCZ :=
    { cl := dC.cl, nT := dC.nT, nB := dC.nB, gC := PySem.W.mg_of KX KG dC.here, eI := eI.txt mg (PySem.W.mg_of KX KG eI.here), eZ := eZ.txt mg (PySem.W.mg_of KX KG eZ.here), ha := dC.ha, hn := dC.hn, htk := dC.htk, hm := dC.hm,
      kCC := kit_rr, kCi := kit_rt (by decide +kernel) tint.rt, kiC := kit_tr dC.ic dC.ty tint.tr, kbC := kit_tr dC.ic dC.ty tbool.tr, knC := kit_tr dC.ic dC.ty tNoneType.tr, ksC := kit_tr dC.ic dC.ty tstr.tr, klC := kit_tr dC.ic dC.ty tlist.tr, ktC := kit_tr dC.ic dC.ty ttuple.tr,
      isi := PySem.W.mg_none_of KX KG nisinstance, int := PySem.W.mg_none_of KX KG nint, bool := PySem.W.mg_none_of KX KG nbool, abs := PySem.W.mg_none_of KX KG nabs, str := PySem.W.mg_none_of KX KG nstr, repr := PySem.W.mg_none_of KX KG nrepr, gcd := PySem.W.mg_of KX KG gc }
  have N : Nms mg := ⟨PySem.W.mg_none_of KX KG nlen, PySem.W.mg_none_of KX KG nmax, PySem.W.mg_none_of KX KG nmin, PySem.W.mg_none_of KX KG nrange⟩
  have TN : Tnm mg := ⟨PySem.W.mg_none_of KX KG nall, ⟨_, PySem.W.mg_of KX KG dg, du⟩, ⟨_, PySem.W.mg_of KX KG pd, pu⟩⟩
  have GW : Glb l.prog w K mg base "is_whole" 1 ["value"] (spWhole C) := glb KX KG fg0 (fun fd F => ok_whole F T) (fun fd F => F.binds (ps := ["value"]) fun _ _ _ _ _ _ us hl => match us, hl with | [_], _ => rfl)
  obtain ⟨fdI, FI⟩ := dI.fn
  have M : Mak l.prog w K mg base C CI CZ := by
    obtain ⟨fW, fdW, mW, kW, okW, bW⟩ := GW.ex
    obtain ⟨ds3, v3, b3⟩ := FI.binds1 (ps := ["self", "top", "bottom"]) 3 1 (by simp) rfl fun _ _ _ _ _ _ _ us its hu hi => match us, its, hu, hi with | [_, _, _], [_], _, _ => ⟨_, rfl, rfl⟩
    obtain ⟨ds2, v2, b2⟩ := FI.binds1 (ps := ["self", "top", "bottom"]) 2 0 (by simp) rfl fun _ _ _ _ _ _ _ us its hu hi => match us, its, hu, hi with | [_, _], [_], _, _ => ⟨_, rfl, rfl⟩
    cases v3
    exact ⟨fI, fdI, ds2, ⟨dC.mks, dI.here, dI.is, dC.kp⟩, ok_init FI T okW mW kW bW, b3, v2, b2⟩
  have DS : Dun l.prog w K mg base C "__str__" 1 ["self"] (spStr C strT) := dun rfl mStr (fun fd F => ok_str F T) (fun fd F => F.binds (ps := ["self"]) fun _ _ _ _ _ _ us hl => match us, hl with | [_], _ => rfl)
  have GDg : Glb l.prog w K mg base "is_digits" 1 ["text"] spDig := glb KX KG fg1 (fun fd F => ok_dig F N TN) (fun fd F => F.binds (ps := ["text"]) fun _ _ _ _ _ _ us hl => match us, hl with | [_], _ => rfl)
  have GNm : Glb l.prog w K mg base "_is_number" 2 ["text"] spNum := glb KX KG fg2 (fun fd F => ok_num F N TN GDg) (fun fd F => F.binds (ps := ["text"]) fun _ _ _ _ _ _ us hl => match us, hl with | [_], _ => rfl)
  have PA : Par l.prog w K mg base C CI := by
    obtain ⟨fdS, FS⟩ := dS.fn
    exact ⟨pS, fS, fdS, dS.sm, ok_parse FS T M GNm DS, FS.binds (ps := ["text"]) fun _ _ _ _ _ _ us hl => match us, hl with | [_], _ => rfl⟩
  have GDs : Glb l.prog w K mg base "_law_draws" 1 ["_law_script", "_law_k"] (spDraws K) := glb KX KG fg3 (fun fd F => ok_draws F T N) (fun fd F => F.binds (ps := ["_law_script", "_law_k"]) fun _ _ _ _ _ _ us hl => match us, hl with | [_, _], _ => rfl)
  have GDr : Glb l.prog w K mg base "_law_draw" 1 ["_law_draws_here", "_law_upto"] spDraw := glb KX KG fg4 (fun fd F => ok_draw F T) (fun fd F => F.binds (ps := ["_law_draws_here", "_law_upto"]) fun _ _ _ _ _ _ us hl => match us, hl with | [_, _], _ => rfl)
  have GPl : Glb l.prog w K mg base "_law_plain" 1 ["_law_text_here"] spPlain := glb KX KG fg5 (fun fd F => ok_plain F) (fun fd F => F.binds (ps := ["_law_text_here"]) fun _ _ _ _ _ _ us hl => match us, hl with | [_], _ => rfl)
  have GDi : Glb l.prog w K mg base "_law_divisor" 1 ["_law_one", "_law_other"] spDivisor := glb KX KG fg6 (fun fd F => ok_divisor F T) (fun fd F => F.binds (ps := ["_law_one", "_law_other"]) fun _ _ _ _ _ _ us hl => match us, hl with | [_, _], _ => rfl)
  have GDu : Glb l.prog w K mg base "_law_due" 2 ["_law_text_here"] spDue := glb KX KG fg7 (fun fd F => ok_due F T N GPl GDi) (fun fd F => F.binds (ps := ["_law_text_here"]) fun _ _ _ _ _ _ us hl => match us, hl with | [_], _ => rfl)
  have GTo : Glb l.prog w K mg base "_law_told" 6 ["_law_value"] (spTold K) := glb KX KG fg8 (fun fd F => ok_told F T PA) (fun fd F => F.binds (ps := ["_law_value"]) fun _ _ _ _ _ _ us hl => match us, hl with | [_], _ => rfl)
  have GRi : Glb l.prog w K mg base "_law_right" 7 ["_law_text_here"] spRight := glb KX KG fg9 (fun fd F => ok_right F T PA GDu GTo DS) (fun fd F => F.binds (ps := ["_law_text_here"]) fun _ _ _ _ _ _ us hl => match us, hl with | [_], _ => rfl)
  have GTx : Glb l.prog w K mg base "_law_text" 5 ["_law_draws_here"] spText := glb KX KG fg10 (fun fd F => ok_text F T N M GDr DS) (fun fd F => F.binds (ps := ["_law_draws_here"]) fun _ _ _ _ _ _ us hl => match us, hl with | [_], _ => rfl)
  exact ok_law FL T N (kit_rt (by decide +kernel) tstr.rt) M GDs GTo GRi GTx

theorem walk {l : PySem.W.OpenLaw} {q : Program} {loose : List Str} {XP : (Str → Option Value) → Heap → Prop} {YP : World → Heap → Prop} {d : DefRec} {K : Params → PySem.W.Frag} (hn : l.most = some 63) (hdf : d.params.defaults = [])
    (hY : ∀ (w : World) (h : Heap), YP w h → (K w.params).In h)
    (F : ∀ (w : World) (mg : Str → Option Value) (fa : Addr) (h : Heap), (K w.params).In h → h.Ns mainGlobals mg → mg d.name = some (.ref fa) →
      ∃ fd : FuncData, (∀ (s : Shared) (u : Value), BindsTo s fd ⟨[u], []⟩ [("_law_script", u)]) ∧ ∀ base : Heap, (K w.params).In base → base.Ns mainGlobals mg → FnOk l.prog w (K w.params) mg base (L2.CX l.prog w) 8 fa fd ["_law_script"] (spLaw (K w.params))) :
    PySem.W.WalkO q loose XP YP l.row.toRowW d [] (fun f vs => PySem.call f vs) :=
  L2.walk_of (n := 63) (k := 8) (x := "_law_script") (CX := fun w => L2.CX l.prog w) (sp := fun w => spLaw (K w.params)) hn (by decide) hdf ⟨rfl, by decide, by decide⟩ hY F (fun _ _ a ns hl _ hS => ⟨a, ns, rfl, hS, hl, fun _ => rfl⟩) fun w H s e s' z => by
    obtain ⟨_, _, _, _, _, _, _, _, _, _, _, _, z⟩ := z
    exact z
end R1
end

-- Q02v
section
set_option Elab.async false
set_option linter.all false
open PySem PySem.W PyProof.Rows
set_option maxRecDepth 100000 in
set_option maxHeartbeats 0 in
theorem PySem.Challenge.cw_wishedwires_k02_ratios_as_texts_holds : PySem.Challenge.rw_wishedwires_k02_ratios_as_texts.Holds := by
  w_on; o_law; k_head; (case hw => w_witness2)
  k_fill
  refine R1.walk (l := PySem.Challenge.rw_wishedwires_k02_ratios_as_texts) rfl rfl (fun w h Y => PySem.W.kIn_of Y) ?F
  case F =>
    intro w mg fa h KX G hmg
    refine' R1.all_mk KX G hmg ?dC ?dI ?eI ?eZ ?gc ?dS ?mStr ?dg ?du ?pd ?pu ?fg0 ?fg1 ?fg2 ?fg3 ?fg4 ?fg5 ?fg6 ?fg7 ?fg8 ?fg9 ?fg10 ?fg11 ?tint ?tbool ?tNoneType ?tstr ?tlist ?ttuple ?nisinstance ?nint ?nbool ?nabs ?nstr ?nrepr ?nlen ?nmax ?nmin ?nrange ?nall
    case dC => (refine' ⟨?here, ⟨?pg, ?hd, ?po, ?sa⟩, ?nT, ?nB, ?ha, ?hn, ?htk, ?hm, ?mks, ?kp, ?ic, ?ty, ?sf, ?nCC⟩); (case here => k_is); (case pg => k_is); (case hd => k_is); (case po => k_is); (case sa => k_is); (case nT => unfold L2.NoAttr; k_is); (case nB => unfold L2.NoAttr; k_is); (case ha => k_is); (case hn => k_is); (case htk => k_is); (case hm => k_is); (case mks => k_is); (case kp => k_is); (case ic => k_is); (case ty => k_is); (case sf => k_is); (case nCC => k_is)
    case dI => (refine' R1.defI_mk ?a ?i ?l ?t ?c ?k); (case a => k_is); (case i => k_is); (case l => k_is); (case t => k_is); (case c => k_is); (case k => k_is)
    case eI => (refine' R1.defE_mk ?a ?xL ?tl ?sa ?ga ?gg ?no ?iC ?tC ?l ?c ?kC ?ex ?ty ?hd ?ss); (case a => k_is); (case xL => k_is); (case tl => decide +kernel); (case sa => k_is); (case ga => k_is); (case gg => k_is); (case no => k_is); (case iC => k_is); (case tC => k_is); (case l => k_is); (case c => k_is); (case kC => k_is); (case ex => k_is); (case ty => k_is); (case hd => k_is); (case ss => first | rfl | k_is)
    case eZ => (refine' R1.defE_mk ?a ?xL ?tl ?sa ?ga ?gg ?no ?iC ?tC ?l ?c ?kC ?ex ?ty ?hd ?ss); (case a => k_is); (case xL => k_is); (case tl => decide +kernel); (case sa => k_is); (case ga => k_is); (case gg => k_is); (case no => k_is); (case iC => k_is); (case tC => k_is); (case l => k_is); (case c => k_is); (case kC => k_is); (case ex => k_is); (case ty => k_is); (case hd => k_is); (case ss => first | rfl | k_is)
    case gc => k_is
    case dS => (refine' R1.defS_mk ?t ?rd ?a ?ga ?rc ?l ?c ?k); (case t => k_is); (case rd => k_is); (case a => k_is); (case ga => k_is); (case rc => k_is); (case l => k_is); (case c => k_is); (case k => k_is)
    case mStr => (refine' R1.defM_mk ?a ?i ?l ?c ?k); (case a => k_is); (case i => k_is); (case l => k_is); (case c => k_is); (case k => k_is)
    case dg => k_is
    case du => exact ⟨_, rfl⟩
    case pd => k_is
    case pu => exact ⟨_, rfl⟩
    case fg0 => (refine' R1.defG_mk ?a ?l ?c ?k); (case a => k_is); (case l => k_is); (case c => k_is); (case k => k_is)
    case fg1 => (refine' R1.defG_mk ?a ?l ?c ?k); (case a => k_is); (case l => k_is); (case c => k_is); (case k => k_is)
    case fg2 => (refine' R1.defG_mk ?a ?l ?c ?k); (case a => k_is); (case l => k_is); (case c => k_is); (case k => k_is)
    case fg3 => (refine' R1.defG_mk ?a ?l ?c ?k); (case a => k_is); (case l => k_is); (case c => k_is); (case k => k_is)
    case fg4 => (refine' R1.defG_mk ?a ?l ?c ?k); (case a => k_is); (case l => k_is); (case c => k_is); (case k => k_is)
    case fg5 => (refine' R1.defG_mk ?a ?l ?c ?k); (case a => k_is); (case l => k_is); (case c => k_is); (case k => k_is)
    case fg6 => (refine' R1.defG_mk ?a ?l ?c ?k); (case a => k_is); (case l => k_is); (case c => k_is); (case k => k_is)
    case fg7 => (refine' R1.defG_mk ?a ?l ?c ?k); (case a => k_is); (case l => k_is); (case c => k_is); (case k => k_is)
    case fg8 => (refine' R1.defG_mk ?a ?l ?c ?k); (case a => k_is); (case l => k_is); (case c => k_is); (case k => k_is)
    case fg9 => (refine' R1.defG_mk ?a ?l ?c ?k); (case a => k_is); (case l => k_is); (case c => k_is); (case k => k_is)
    case fg10 => (refine' R1.defG_mk ?a ?l ?c ?k); (case a => k_is); (case l => k_is); (case c => k_is); (case k => k_is)
    case fg11 => (refine' R1.defG_mk ?a ?l ?c ?k); (case a => k_is); (case l => k_is); (case c => k_is); (case k => k_is)
    case tint => (refine' ⟨?nf, ?tr, ?rt⟩); (case nf => k_is); (case tr => k_is); (case rt => k_is)
    case tbool => (refine' ⟨?nf, ?tr, ?rt⟩); (case nf => k_is); (case tr => k_is); (case rt => k_is)
    case tNoneType => (refine' ⟨?nf, ?tr, ?rt⟩); (case nf => k_is); (case tr => k_is); (case rt => k_is)
    case tstr => (refine' ⟨?nf, ?tr, ?rt⟩); (case nf => k_is); (case tr => k_is); (case rt => k_is)
    case tlist => (refine' ⟨?nf, ?tr, ?rt⟩); (case nf => k_is); (case tr => k_is); (case rt => k_is)
    case ttuple => (refine' ⟨?nf, ?tr, ?rt⟩); (case nf => k_is); (case tr => k_is); (case rt => k_is)
    case nisinstance => k_is
    case nint => k_is
    case nbool => k_is
    case nabs => k_is
    case nstr => k_is
    case nrepr => k_is
    case nlen => k_is
    case nmax => k_is
    case nmin => k_is
    case nrange => k_is
    case nall => k_is
#print axioms PySem.Challenge.cw_wishedwires_k02_ratios_as_texts_holds
end
