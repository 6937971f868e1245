import PyProof.Rows.All
import Wide.All
import OpenK.AllK
import Wide.FinOn
import HandS.ForExc
import KE.KOpsOwn
import KE.KCallOwn
import HandS.OwnEq
import PyProof.NeKinds
import KE.KExcInit
import HandS.ExcOwn
import HandS.ExcValue
import HandS.IsInst
import KE.KExcIs
import HandS.TryMany
import HandS.Wide
import HandS.Gcd
import HandS.Defaults
import HandS.FStr
import HandS.Flow
import HandS.Property
import HandS.MakeKwOnly
import HandS.ForMost
import HandS.RevRange
import HandS.ExcIs
import PySem.Challenge.RW_wishedwires_k53_prices_set
-- RatMath
section
namespace RatM
/-- the divisor that Ratio's __init__ takes: the gcd with the bottom's sign -/
def cmn (t b : Int) : Int := if b > 0 then (Nat.gcd t.natAbs b.natAbs : Int) else -(Nat.gcd t.natAbs b.natAbs : Int)
def nt (t b : Int) : Int := t.fdiv (cmn t b)
def nb (t b : Int) : Int := b.fdiv (cmn t b)

theorem gpos {t b : Int} (h : b ≠ 0) : 0 < Nat.gcd t.natAbs b.natAbs := Nat.gcd_pos_of_pos_right _ (by omega)
theorem cmn_ne {t b : Int} (h : b ≠ 0) : cmn t b ≠ 0 := by
  have := gpos (t := t) h
  unfold cmn
  split <;> omega
theorem cmn_scale {t b k : Int} (hb : b ≠ 0) (hk : k ≠ 0) : cmn (t * k) (b * k) = cmn t b * k := by
  unfold cmn
  rw [Int.natAbs_mul, Int.natAbs_mul, Nat.gcd_mul_right, Int.natCast_mul]
  rcases Int.lt_or_gt_of_ne hk with h | h
  · have e : ((k.natAbs : Nat) : Int) = -k := by omega
    rw [e]
    rcases Int.lt_or_gt_of_ne hb with h2 | h2
    · rw [if_pos (show b * k > 0 from Int.mul_pos_of_neg_of_neg h2 h), if_neg (show ¬ b > 0 by omega), Int.mul_neg, Int.neg_mul]
    · rw [if_neg (show ¬ b * k > 0 from by have := Int.mul_neg_of_pos_of_neg h2 h; omega), if_pos (show b > 0 by omega), Int.mul_neg, Int.neg_neg]
  · have e : ((k.natAbs : Nat) : Int) = k := by omega
    rw [e]
    rcases Int.lt_or_gt_of_ne hb with h2 | h2
    · rw [if_neg (show ¬ b * k > 0 from by have := Int.mul_neg_of_neg_of_pos h2 h; omega), if_neg (show ¬ b > 0 by omega), Int.neg_mul]
    · rw [if_pos (show b * k > 0 from Int.mul_pos h2 h), if_pos (show b > 0 by omega)]
theorem cmn_dvd_t (t b : Int) : cmn t b ∣ t := by
  have h : ((Nat.gcd t.natAbs b.natAbs : Nat) : Int) ∣ t := Int.dvd_natAbs.mp (Int.natCast_dvd_natCast.mpr (Nat.gcd_dvd_left _ _))
  unfold cmn
  split
  · exact h
  · exact Int.neg_dvd.mpr h
theorem cmn_dvd_b (t b : Int) : cmn t b ∣ b := by
  have h : ((Nat.gcd t.natAbs b.natAbs : Nat) : Int) ∣ b := Int.dvd_natAbs.mp (Int.natCast_dvd_natCast.mpr (Nat.gcd_dvd_right _ _))
  unfold cmn
  split
  · exact h
  · exact Int.neg_dvd.mpr h
theorem nt_mul {t b : Int} : nt t b * cmn t b = t := Int.fdiv_mul_cancel (cmn_dvd_t t b)
theorem nb_mul {t b : Int} : nb t b * cmn t b = b := Int.fdiv_mul_cancel (cmn_dvd_b t b)
theorem nb_pos {t b : Int} (h : b ≠ 0) : 0 < nb t b := by
  have e := nb_mul (t := t) (b := b)
  have g := gpos (t := t) h
  have hc : cmn t b = if b > 0 then (Nat.gcd t.natAbs b.natAbs : Int) else -(Nat.gcd t.natAbs b.natAbs : Int) := rfl
  rcases Int.lt_trichotomy (nb t b) 0 with h1 | h1 | h1
  · exfalso
    split at hc
    · have := Int.mul_neg_of_neg_of_pos h1 (show 0 < cmn t b by omega); omega
    · have := Int.mul_pos_of_neg_of_neg h1 (show cmn t b < 0 by omega); omega
  · rw [h1, Int.zero_mul] at e; omega
  · exact h1
theorem nt_scale {t b k : Int} (hb : b ≠ 0) (hk : k ≠ 0) : nt (t * k) (b * k) = nt t b := by
  have e : t * k = nt t b * (cmn t b * k) := by rw [← Int.mul_assoc, nt_mul]
  show (t * k).fdiv (cmn (t * k) (b * k)) = nt t b
  rw [cmn_scale hb hk, e]
  exact Int.mul_fdiv_cancel _ (Int.mul_ne_zero (cmn_ne hb) hk)
theorem nb_scale {t b k : Int} (hb : b ≠ 0) (hk : k ≠ 0) : nb (t * k) (b * k) = nb t b := by
  have e : b * k = nb t b * (cmn t b * k) := by rw [← Int.mul_assoc, nb_mul]
  show (b * k).fdiv (cmn (t * k) (b * k)) = nb t b
  rw [cmn_scale hb hk, e]
  exact Int.mul_fdiv_cancel _ (Int.mul_ne_zero (cmn_ne hb) hk)
/-- pairs that are in proportion have one normal form -/
theorem nrm_of {t b t' b' k k' : Int} (hb : b ≠ 0) (hb' : b' ≠ 0) (hk : k ≠ 0) (hk' : k' ≠ 0) (e1 : t * k = t' * k') (e2 : b * k = b' * k') : nt t b = nt t' b' ∧ nb t b = nb t' b' := by
  refine ⟨?_, ?_⟩
  · rw [← nt_scale hb hk, e1, e2, nt_scale hb' hk']
  · rw [← nb_scale hb hk, e1, e2, nb_scale hb' hk']
theorem nrm_cross {t b t' b' : Int} (hb : b ≠ 0) (hb' : b' ≠ 0) (e : t * b' = t' * b) : nt t b = nt t' b' ∧ nb t b = nb t' b' :=
  nrm_of hb hb' hb' hb e (Int.mul_comm b b')
theorem nrm_id {t b : Int} (hb : b ≠ 0) : nt (nt t b) (nb t b) = nt t b ∧ nb (nt t b) (nb t b) = nb t b := by
  have p := nb_pos (t := t) hb
  have h := nrm_of (t := nt t b) (b := nb t b) (t' := t) (b' := b) (k := cmn t b) (k' := 1) (by omega) hb (cmn_ne hb) (by decide) (by rw [nt_mul, Int.mul_one]) (by rw [nb_mul, Int.mul_one])
  exact h
/-- equal normal forms are pairs in proportion -/
theorem cross_of {t b t' b' : Int} (e1 : nt t b = nt t' b') (e2 : nb t b = nb t' b') : t * b' = t' * b := by
  have a := nt_mul (t := t) (b := b); have c := nb_mul (t := t) (b := b)
  have a' := nt_mul (t := t') (b := b'); have c' := nb_mul (t := t') (b := b')
  rw [e1] at a
  rw [e2] at c
  generalize nt t' b' = x at a a'
  generalize nb t' b' = y at c c'
  generalize cmn t b = g at a c
  generalize cmn t' b' = g' at a' c'
  rw [← a, ← c', ← a', ← c]
  simp only [Int.mul_assoc, Int.mul_left_comm, Int.mul_comm]
theorem natAbs_le_mul {x y : Int} (hy : y ≠ 0) : x.natAbs ≤ (x * y).natAbs := by
  rw [Int.natAbs_mul]
  exact Nat.le_mul_of_pos_right _ (by omega)
theorem nt_le {t b : Int} (hb : b ≠ 0) : (nt t b).natAbs ≤ t.natAbs := by
  have h := natAbs_le_mul (x := nt t b) (cmn_ne (t := t) hb)
  rwa [nt_mul] at h
theorem nb_le {t b : Int} (hb : b ≠ 0) : (nb t b).natAbs ≤ b.natAbs := by
  have h := natAbs_le_mul (x := nb t b) (cmn_ne (t := t) hb)
  rwa [nb_mul] at h
theorem cmn_le {t b : Int} (hb : b ≠ 0) : (cmn t b).natAbs ≤ b.natAbs := by
  have p := nb_pos (t := t) hb
  have h := natAbs_le_mul (x := cmn t b) (y := nb t b) (by omega)
  rwa [Int.mul_comm, nb_mul] at h
theorem nt_one (t : Int) : nt t 1 = t ∧ nb t 1 = 1 := by
  have c : cmn t 1 = 1 := by
    unfold cmn
    rw [if_pos (by decide), show (1 : Int).natAbs = 1 from rfl, Nat.gcd_one_right]
    rfl
  exact ⟨by show t.fdiv (cmn t 1) = t; rw [c, Int.fdiv_one], by show (1 : Int).fdiv (cmn t 1) = 1; rw [c, Int.fdiv_one]⟩
end RatM
end

-- RatMath2
section
namespace RatM
theorem add_nrm {a b c d : Int} (hb : b ≠ 0) (hd : d ≠ 0) : nt (nt a b * nb c d + nt c d * nb a b) (nb a b * nb c d) = nt (a * d + c * b) (b * d) ∧ nb (nt a b * nb c d + nt c d * nb a b) (nb a b * nb c d) = nb (a * d + c * b) (b * d) := by
  have p1 := nb_pos (t := a) hb
  have p2 := nb_pos (t := c) hd
  have h1 := nt_mul (t := a) (b := b); have h2 := nb_mul (t := a) (b := b)
  have h3 := nt_mul (t := c) (b := d); have h4 := nb_mul (t := c) (b := d)
  have g1 := cmn_ne (t := a) hb; have g2 := cmn_ne (t := c) hd
  refine nrm_of (k := cmn a b * cmn c d) (k' := 1) (Int.mul_ne_zero (by omega) (by omega)) (Int.mul_ne_zero hb hd) (Int.mul_ne_zero g1 g2) (by decide) ?_ ?_
  · generalize nt a b = x at *; generalize nb a b = y at *; generalize cmn a b = g at *
    generalize nt c d = x' at *; generalize nb c d = y' at *; generalize cmn c d = h at *
    rw [← h1, ← h2, ← h3, ← h4, Int.mul_one, Int.add_mul]
    congr 1 <;> ac_rfl
  · generalize nt a b = x at *; generalize nb a b = y at *; generalize cmn a b = g at *
    generalize nt c d = x' at *; generalize nb c d = y' at *; generalize cmn c d = h at *
    rw [← h2, ← h4, Int.mul_one]
    ac_rfl
theorem sub_nrm {a b c d : Int} (hb : b ≠ 0) (hd : d ≠ 0) : nt (nt a b * nb c d - nt c d * nb a b) (nb a b * nb c d) = nt (a * d - c * b) (b * d) ∧ nb (nt a b * nb c d - nt c d * nb a b) (nb a b * nb c d) = nb (a * d - c * b) (b * d) := by
  have p1 := nb_pos (t := a) hb
  have p2 := nb_pos (t := c) hd
  have h1 := nt_mul (t := a) (b := b); have h2 := nb_mul (t := a) (b := b)
  have h3 := nt_mul (t := c) (b := d); have h4 := nb_mul (t := c) (b := d)
  have g1 := cmn_ne (t := a) hb; have g2 := cmn_ne (t := c) hd
  refine nrm_of (k := cmn a b * cmn c d) (k' := 1) (Int.mul_ne_zero (by omega) (by omega)) (Int.mul_ne_zero hb hd) (Int.mul_ne_zero g1 g2) (by decide) ?_ ?_
  · generalize nt a b = x at *; generalize nb a b = y at *; generalize cmn a b = g at *
    generalize nt c d = x' at *; generalize nb c d = y' at *; generalize cmn c d = h at *
    rw [← h1, ← h2, ← h3, ← h4, Int.mul_one, Int.sub_mul]
    congr 1 <;> ac_rfl
  · generalize nt a b = x at *; generalize nb a b = y at *; generalize cmn a b = g at *
    generalize nt c d = x' at *; generalize nb c d = y' at *; generalize cmn c d = h at *
    rw [← h2, ← h4, Int.mul_one]
    ac_rfl
theorem mul_nrm {a b c d : Int} (hb : b ≠ 0) (hd : d ≠ 0) : nt (nt a b * nt c d) (nb a b * nb c d) = nt (a * c) (b * d) ∧ nb (nt a b * nt c d) (nb a b * nb c d) = nb (a * c) (b * d) := by
  have p1 := nb_pos (t := a) hb
  have p2 := nb_pos (t := c) hd
  have h1 := nt_mul (t := a) (b := b); have h2 := nb_mul (t := a) (b := b)
  have h3 := nt_mul (t := c) (b := d); have h4 := nb_mul (t := c) (b := d)
  have g1 := cmn_ne (t := a) hb; have g2 := cmn_ne (t := c) hd
  refine nrm_of (k := cmn a b * cmn c d) (k' := 1) (Int.mul_ne_zero (by omega) (by omega)) (Int.mul_ne_zero hb hd) (Int.mul_ne_zero g1 g2) (by decide) ?_ ?_
  · generalize nt a b = x at *; generalize nb a b = y at *; generalize cmn a b = g at *
    generalize nt c d = x' at *; generalize nb c d = y' at *; generalize cmn c d = h at *
    rw [← h1, ← h3, Int.mul_one]
    ac_rfl
  · generalize nt a b = x at *; generalize nb a b = y at *; generalize cmn a b = g at *
    generalize nt c d = x' at *; generalize nb c d = y' at *; generalize cmn c d = h at *
    rw [← h2, ← h4, Int.mul_one]
    ac_rfl
theorem nt_ne {c d : Int} (hd : d ≠ 0) (hc : c ≠ 0) : nt c d ≠ 0 := fun z => by
  have h3 := nt_mul (t := c) (b := d)
  rw [z, Int.zero_mul] at h3
  exact hc h3.symm
theorem over_nrm {a b c d : Int} (hb : b ≠ 0) (hd : d ≠ 0) (hc : c ≠ 0) : nt (nt a b * nb c d) (nb a b * nt c d) = nt (a * d) (b * c) ∧ nb (nt a b * nb c d) (nb a b * nt c d) = nb (a * d) (b * c) := by
  have p1 := nb_pos (t := a) hb
  have p2 := nt_ne hd hc
  have h1 := nt_mul (t := a) (b := b); have h2 := nb_mul (t := a) (b := b)
  have h3 := nt_mul (t := c) (b := d); have h4 := nb_mul (t := c) (b := d)
  have g1 := cmn_ne (t := a) hb; have g2 := cmn_ne (t := c) hd
  refine nrm_of (k := cmn a b * cmn c d) (k' := 1) (Int.mul_ne_zero (by omega) p2) (Int.mul_ne_zero hb hc) (Int.mul_ne_zero g1 g2) (by decide) ?_ ?_
  · generalize nt a b = x at *; generalize nb a b = y at *; generalize cmn a b = g at *
    generalize nt c d = x' at *; generalize nb c d = y' at *; generalize cmn c d = h at *
    rw [← h1, ← h4, Int.mul_one]
    ac_rfl
  · generalize nt a b = x at *; generalize nb a b = y at *; generalize cmn a b = g at *
    generalize nt c d = x' at *; generalize nb c d = y' at *; generalize cmn c d = h at *
    rw [← h2, ← h3, Int.mul_one]
    ac_rfl
theorem eq_iff {a b c d : Int} (hb : b ≠ 0) (hd : d ≠ 0) : (nt a b = nt c d ∧ nb a b = nb c d) ↔ nt a b * nb c d = nt c d * nb a b := by
  constructor
  · rintro ⟨h1, h2⟩
    rw [h1, h2]
  · intro h
    have p1 := nb_pos (t := a) hb
    have p2 := nb_pos (t := c) hd
    have q := nrm_cross (by omega) (by omega) h
    rw [(nrm_id hb).1, (nrm_id hb).2, (nrm_id hd).1, (nrm_id hd).2] at q
    exact q
/-- the sign that makes cross products comparable -/
def sg (v : Int) : Int := 1 - 2 * (if decide (v < 0) = true then (1 : Int) else 0)
theorem sg_cases (v : Int) : (v < 0 ∧ sg v = -1) ∨ (0 ≤ v ∧ sg v = 1) := by
  unfold sg
  by_cases h : v < 0
  · exact .inl ⟨h, by rw [decide_eq_true h, if_pos rfl]; rfl⟩
  · exact .inr ⟨by omega, by rw [decide_eq_false h, if_neg Bool.false_ne_true]; rfl⟩
theorem sg_pos {v : Int} (h : v ≠ 0) : 0 < v * sg v := by
  rcases sg_cases v with ⟨h1, h2⟩ | ⟨h1, h2⟩ <;> rw [h2] <;> omega
theorem cmp_facts {a b c d : Int} (hb : b ≠ 0) (hd : d ≠ 0) : ∃ m : Int, 0 < m ∧ a * d * sg (b * d) = nt a b * nb c d * m ∧ c * b * sg (b * d) = nt c d * nb a b * m := by
  have p1 := nb_pos (t := a) hb
  have p2 := nb_pos (t := c) hd
  have h1 := nt_mul (t := a) (b := b); have h2 := nb_mul (t := a) (b := b)
  have h3 := nt_mul (t := c) (b := d); have h4 := nb_mul (t := c) (b := d)
  have hp := sg_pos (Int.mul_ne_zero hb hd)
  refine ⟨cmn a b * cmn c d * sg (b * d), ?_, ?_, ?_⟩
  · have e : b * d * sg (b * d) = (nb a b * nb c d) * (cmn a b * cmn c d * sg (b * d)) := by
      generalize sg (b * d) = s
      generalize nb a b = y at *; generalize cmn a b = g at *; generalize nb c d = y' at *; generalize cmn c d = h at *
      rw [← h2, ← h4]
      ac_rfl
    rw [e] at hp
    rcases Int.lt_trichotomy (cmn a b * cmn c d * sg (b * d)) 0 with z | z | z
    · have := Int.mul_neg_of_pos_of_neg (Int.mul_pos p1 p2) z; omega
    · rw [z, Int.mul_zero] at hp; omega
    · exact z
  · generalize sg (b * d) = s
    generalize nt a b = x at *; generalize cmn a b = g at *; generalize nb c d = y' at *; generalize cmn c d = h at *
    rw [← h1, ← h4]
    ac_rfl
  · generalize sg (b * d) = s
    generalize nb a b = y at *; generalize cmn a b = g at *; generalize nt c d = x' at *; generalize cmn c d = h at *
    rw [← h2, ← h3]
    ac_rfl
theorem cmp_all {a b c d : Int} (hb : b ≠ 0) (hd : d ≠ 0) :
    ((nt a b = nt c d ∧ nb a b = nb c d) ↔ a * d * sg (b * d) = c * b * sg (b * d)) ∧ (nt a b * nb c d < nt c d * nb a b ↔ a * d * sg (b * d) < c * b * sg (b * d)) ∧ (nt c d * nb a b < nt a b * nb c d ↔ c * b * sg (b * d) < a * d * sg (b * d)) := by
  obtain ⟨m, m0, e1, e2⟩ := cmp_facts (a := a) (c := c) hb hd
  rw [e1, e2, eq_iff hb hd]
  refine ⟨⟨fun h => by rw [h], fun h => Int.eq_of_mul_eq_mul_right (by omega) h⟩, ⟨fun h => Int.mul_lt_mul_of_pos_right h m0, fun h => Int.lt_of_mul_lt_mul_right h (by omega)⟩, ⟨fun h => Int.mul_lt_mul_of_pos_right h m0, fun h => Int.lt_of_mul_lt_mul_right h (by omega)⟩⟩
end RatM
end

-- OwnOps
section
set_option Elab.async false
set_option linter.all false
set_option maxRecDepth 100000
/-! Operators of own classes, as rules over values: by this text's own hand. -/
namespace OwnOps
open PySem L2

section
variable {X : Cx} {pins : List (Addr × Obj)} {σ : St} {H : Hp} {s : Shared} {a b C dx dy g : Addr} {fs fs' : List (Str × V)}

theorem inst_at (I : Inv X pins σ H s) (e : H a = some (.ins C dx fs)) : ∃ od, PySem.W.InstAt s.heap a (PySem.W.instObj C dx) C (some od) := by
  obtain ⟨mA, O, _⟩ := ins_get I.hok e
  obtain ⟨od, J, _⟩ := O.look
  exact ⟨od, J⟩

theorem back_of {Q : Value → Shared → Prop} {s' : Shared} {v : V} {u : Value} (r : RelV v u) (q : Q u s') : PySem.W.CmpBack Q u s' := by
  cases v with
  | non => cases (show u = Value.none from r); exact q
  | bl b => cases (show u = Value.bool b from r); exact q
  | int i => obtain ⟨t, rfl⟩ := (show ∃ t, u = Value.int i t from r); exact q
  | str y => obtain ⟨t, rfl⟩ := (show ∃ t, u = Value.str y t from r); exact q
  | byt y => obtain ⟨t, rfl⟩ := (show ∃ t, u = Value.bytes y t from r); exact q
  | flt y => obtain ⟨t, rfl⟩ := (show ∃ t, u = Value.float y t from r); exact q
  | ref c => cases (show u = Value.ref c from r); exact q
  | ty n => cases (show u = Value.type n from r); exact q

variable {CX : CXT} {k : Nat} {fd : FuncData} {ps : List Str} {sp : Sp} {E : XK} {A : Around}

/-- a def's call wherever the builtins around it stand -/
theorem run_any {Q : VK} {us : List Value} {vs : List V} (F : FnOk X.prog X.w X.K X.mg X.base CX k g fd ps sp) (hr : Room k A) (e0 : Env0 X.prog X.w X.K X.mg X.base A X.stack s H)
    (hb : Binds X.K fd ps []) (hx : Passes CX X E) (I : Inv X pins σ H s) (r : Vals vs us) (h : sp vs H Q E) :
    wpAny (model X.prog X.w) A (call (.ref g) us) (EP X pins σ Q) X.xe s := by
  have hl : (us ++ []).length = ps.length := by rw [List.append_nil, ← r.length]; exact F.len _ _ _ _ h
  have hb' := hb s us I.kIn hl
  rw [List.append_nil] at hb'
  refine wpAny_call (codeAny_mono (F.run A X.stack s H ⟨us, []⟩ us vs Q E hr e0 hb' r h) fun res s' hq => ?_)
  cases res with
  | error e => exact hx pins σ H s e s' I hq
  | ok fl =>
    cases fl with
    | ret u => exact I.after hq
    | next => exact False.elim hq
    | brk => exact False.elim hq
    | cont => exact False.elim hq
end

/-- what an own class says of a two-place operator: its def, of this class -/
structure Op2 (K : PySem.W.Frag) (C g : Addr) (nm : String) : Prop where
  at_ : PySem.W.findIn K (.ref C) (PySem.dunder nm) = some (some (.ref g))
  rf : ∃ rc, PySem.W.findIn K (.ref C) (PySem.dunderR nm) = some rc ∧ (rc = none ∨ ∃ q : Addr, rc = some (.ref q))
  fn : PySem.W.isFn K (.ref g) = true
  first : PySem.W.selfFirst K C = true
/-- what is known of a built-in type beside the class at C, for the operator -/
structure Ty2 (K : PySem.W.Frag) (C : Addr) (nm T : String) : Prop where
  lf : ∃ fo, PySem.W.findIn K (.type T) (PySem.dunder nm) = some fo
  rt : ∃ ro, PySem.W.findIn K (.type T) (PySem.dunderR nm) = some ro
  sub : PySem.W.subIn K (.type T) (.ref C) = some false

/-- the reading of x op y by x's own def -/
def rOwn2 (C : Addr) (R : V → Hp → Prop) (sp : Sp) (E : XK) : R2 := fun x y H Q => ∃ a dx fs, x = .ref a ∧ H a = some (.ins C dx fs) ∧ R y H ∧ sp [x, y] H Q E
def RIns (C : Addr) : V → Hp → Prop := fun y H => ∃ b dy fs, y = .ref b ∧ H b = some (.ins C dy fs)
def RInt : V → Hp → Prop := fun y _ => ∃ i, y = .int i

section
variable {X : Cx} {CX : CXT} {C g : Addr} {k : Nat} {fd : FuncData} {ps : List Str} {sp : Sp} {E : XK} {op : Operator} {T : String}

/-- x op y, both of the class at C -/
theorem op_ins (O : Op2 X.K C g op.info.2) (F : FnOk X.prog X.w X.K X.mg X.base CX k g fd ps sp) (hr : Room k X.A) (hb : Binds X.K fd ps []) (hx : Passes CX X E) :
    OpR X (binaryOp op) (rOwn2 C (RIns C) sp E) := by
  intro pins s σ H x y v u Q I rx ry h
  obtain ⟨a, dx, fs, rfl, ha, ⟨b, dy, fs', rfl, hb'⟩, q⟩ := h
  cases (show v = Value.ref a from rx)
  cases (show u = Value.ref b from ry)
  obtain ⟨od, J⟩ := inst_at I ha
  obtain ⟨od', J'⟩ := inst_at I hb'
  obtain ⟨m, hF⟩ := I.fr
  refine PySem.W.binop_K hF I.ok.mod.kin J J'.type O.first O.at_ O.fn ?_
  refine wpAny_mono (run_any (us := [.ref a, .ref b]) (vs := [.ref a, .ref b]) F hr I.env0 hb hx I (.cons rfl (.cons rfl .nil)) q) (fun w s' z => ?_) fun _ _ e => e
  obtain ⟨z', H', I', rz, qz⟩ := id z
  exact back_of rz z

/-- x op y, y of a built-in type that tells its type at once -/
theorem op_val (O : Op2 X.K C g op.info.2) (Y : Ty2 X.K C op.info.2 T) (F : FnOk X.prog X.w X.K X.mg X.base CX k g fd ps sp) (hr : Room k X.A) (hb : Binds X.K fd ps []) (hx : Passes CX X E)
    {R : V → Hp → Prop} (hR : ∀ {y : V} {H : Hp} {u : Value}, R y H → RelV y u → typeOf u = pure (.type T)) :
    OpR X (binaryOp op) (rOwn2 C R sp E) := by
  intro pins s σ H x y v u Q I rx ry h
  obtain ⟨a, dx, fs, rfl, ha, hy, q⟩ := h
  cases (show v = Value.ref a from rx)
  obtain ⟨od, J⟩ := inst_at I ha
  obtain ⟨m, hF⟩ := I.fr
  obtain ⟨fo, hfo⟩ := Y.lf
  obtain ⟨ro, hro⟩ := Y.rt
  obtain ⟨rc, hrc, hp⟩ := O.rf
  refine PySem.W.ksp_binT hF I.ok.mod.kin J (hR hy ry) O.first O.at_ O.fn hrc hp hfo hro Y.sub ?_
  refine wpAny_mono (run_any (us := [.ref a, u]) (vs := [.ref a, y]) F hr I.env0 hb hx I (.cons rfl (.cons ry .nil)) q) (fun w s' z => ?_) fun _ _ e => e
  obtain ⟨z', H', I', rz, qz⟩ := id z
  exact back_of rz z
end
end OwnOps
end

-- OwnOps2
section
set_option Elab.async false
set_option linter.all false
set_option maxRecDepth 100000
namespace OwnOps
open PySem L2

section
variable {prog : Program} {w : World} {A : Around} {E : Value → Shared → Prop} {s : Shared} {K : PySem.W.Frag} {y C f g : Addr} {oy : Obj} {od : Option Obj} {u : Value} {T : String}

/-- u op y by y's reflected def: u's own type has no slot for it, or declines -/
theorem refl_K {op : Operator} {left : Bool} {Q : Value → Shared → Prop} (Y : K.In s.heap) (I : PySem.W.InstAt s.heap y oy C od)
    (ht : PySem.W.Looks (model prog w) s.heap (typeOf u) (.type T)) (hc : PySem.W.selfFirst K C = true)
    (hs : PySem.W.findIn K (.ref C) (PySem.dunder op.info.2) = some (some (.ref f))) (hr : PySem.W.findIn K (.ref C) (PySem.dunderR op.info.2) = some (some (.ref g)))
    (hg : PySem.W.isFn K (.ref g) = true) (hl : PySem.W.Looks (model prog w) s.heap (fillsNumberSlot (.type T) op.info.2) left)
    (hsub : PySem.W.subIn K (.ref C) (.type T) = some false)
    (hd : left = true → ∀ {Q : Option Value → Shared → Prop}, Q none s → wpAny (model prog w) A (tryMethod u (PySem.dunder op.info.2) (.ref y)) Q E s)
    (h : wpAny (model prog w) A (call (.ref g) [.ref y, u]) (PySem.W.CmpBack Q) E s) : wpAny (model prog w) A (binaryOp op u (.ref y)) Q E s := by
  obtain ⟨cd, rest, hcd, hm⟩ := PySem.W.ksp_first hc
  rcases hi : op.info with ⟨sym, nm⟩
  rw [hi] at hs hr hl hd
  dsimp only at hs hr hl hd
  have one := PySem.W.ksp_try Y I hr hg h
  obtain ⟨hh, gg, d, tt, os⟩ := s
  have L1 : PySem.W.Looks (model prog w) hh (typeOf (.ref y)) (.ref C) := I.type
  have L3 : PySem.W.Looks (model prog w) hh (fillsNumberSlot (.ref C) nm) true := PySem.W.fills_K Y hcd hm hs
  have L5 : PySem.W.Looks (model prog w) hh (isSubtype (.ref C) (.type T)) false := PySem.W.looks_subIn Y hsub
  have L7 : PySem.W.Looks (model prog w) hh (numberSlotInPython (.type T) nm) false := PySem.W.Looks.of_pure rfl
  have hne : (Value.type T == Value.ref C) = false := Bool.eq_false_iff.mpr fun q => by cases beq_iff_eq.mp q
  simp only [binaryOp, hi]
  refine wpAny_holding (wpAny_bind ?_)
  unfold binaryOp1
  refine wpAny_bind (ht.at (wpAny_bind (L1.at (wpAny_bind (hl.at ?_)))))
  simp only [hne, Bool.false_eq_true, if_false]
  cases left with
  | false =>
    ksp_lk
    refine wpAny_mono one (fun r s' hr' => ?_) fun _ _ e => e
    obtain ⟨v, rfl, hq⟩ := hr'
    ksp_lk
    exact hq
  | true =>
    ksp_lk
    refine hd rfl ?_
    ksp_lk
    refine wpAny_mono one (fun r s' hr' => ?_) fun _ _ e => e
    obtain ⟨v, rfl, hq⟩ := hr'
    ksp_lk
    exact hq
end
end OwnOps
end

-- OwnOps3
section
set_option Elab.async false
set_option linter.all false
set_option maxRecDepth 100000
namespace OwnOps
open PySem L2

section
variable {prog : Program} {w : World} {A : Around} {E : Value → Shared → Prop} {s : Shared} {K : PySem.W.Frag} {y C f g : Addr} {oy : Obj} {od : Option Obj} {n : Int} {t : Tok}
open MeetsSeq MeetsSeq2 MeetsSeq3 SeqRoads2 AutoSeq1
theorem int_call_add {Q : Value → Shared → Prop} (hy : s.heap.get? y = some oy) (hp : oy.data = .plain) (h : Q .notImplemented s) :
    wpAny (model prog w) A (call (.builtin "int.__add__") [.int n t, .ref y]) Q E s := by
  refine GQ.call_here F.slot_int_add (typeIs_int s n t) F.entry_int_add (F.args_int_add_2 _ _) ?_
  obtain ⟨c, dd, dt, sl⟩ := oy
  cases hp
  obtain ⟨hh, gg, d, tt, os⟩ := s
  wp_walk using wpAny_loadPart' hy
  exact h
theorem int_call_sub {Q : Value → Shared → Prop} (hy : s.heap.get? y = some oy) (hp : oy.data = .plain) (h : Q .notImplemented s) :
    wpAny (model prog w) A (call (.builtin "int.__sub__") [.int n t, .ref y]) Q E s := by
  refine GQ.call_here F.slot_int_sub (typeIs_int s n t) F.entry_int_sub (F.args_int_sub_2 _ _) ?_
  obtain ⟨c, dd, dt, sl⟩ := oy
  cases hp
  obtain ⟨hh, gg, d, tt, os⟩ := s
  wp_walk using wpAny_loadPart' hy
  exact h
theorem int_call_mul {Q : Value → Shared → Prop} (hy : s.heap.get? y = some oy) (hp : oy.data = .plain) (h : Q .notImplemented s) :
    wpAny (model prog w) A (call (.builtin "int.__mul__") [.int n t, .ref y]) Q E s := by
  refine GQ.call_here F.slot_int_mul (typeIs_int s n t) F.entry_int_mul (F.args_int_mul_2 _ _) ?_
  obtain ⟨c, dd, dt, sl⟩ := oy
  cases hp
  obtain ⟨hh, gg, d, tt, os⟩ := s
  wp_walk using wpAny_loadPart' hy
  exact h
theorem bool_call_mul {k : Bool} {Q : Value → Shared → Prop} (hy : s.heap.get? y = some oy) (hp : oy.data = .plain) (h : Q .notImplemented s) :
    wpAny (model prog w) A (call (.builtin "int.__mul__") [.bool k, .ref y]) Q E s := by
  refine GQ.call_here F.slot_bool_mul (typeIs_bool s k) F.entry_int_mul (F.args_int_mul_2 _ _) ?_
  obtain ⟨c, dd, dt, sl⟩ := oy
  cases hp
  obtain ⟨hh, gg, d, tt, os⟩ := s
  wp_walk using wpAny_loadPart' hy
  exact h
/-- how an int meets an instance of no built-in kind -/
theorem int_cmp_eq {Q : Value → Shared → Prop} (hy : s.heap.get? y = some oy) (hp : oy.data = .plain) (h : Q .notImplemented s) :
    wpAny (model prog w) A (call (.builtin "int.__eq__") [.int n t, .ref y]) Q E s := by
  refine GQ.call_here F.slot_int_eq (typeIs_int s n t) F.entry_int_eq (F.args_int_eq_2 _ _) ?_
  obtain ⟨c, dd, dt, sl⟩ := oy
  cases hp
  obtain ⟨hh, gg, d, tt, os⟩ := s
  wp_walk using wpAny_loadPart' hy
  exact h
theorem int_cmp_ne {Q : Value → Shared → Prop} (hy : s.heap.get? y = some oy) (hp : oy.data = .plain) (h : Q .notImplemented s) :
    wpAny (model prog w) A (call (.builtin "int.__ne__") [.int n t, .ref y]) Q E s := by
  refine GQ.call_here F.slot_int_ne (typeIs_int s n t) F.entry_int_ne (F.args_int_ne_2 _ _) ?_
  obtain ⟨c, dd, dt, sl⟩ := oy
  cases hp
  obtain ⟨hh, gg, d, tt, os⟩ := s
  wp_walk using wpAny_loadPart' hy
  exact h
theorem int_cmp_lt {Q : Value → Shared → Prop} (hy : s.heap.get? y = some oy) (hp : oy.data = .plain) (h : Q .notImplemented s) :
    wpAny (model prog w) A (call (.builtin "int.__lt__") [.int n t, .ref y]) Q E s := by
  refine GQ.call_here F.slot_int_lt (typeIs_int s n t) F.entry_int_lt (F.args_int_lt_2 _ _) ?_
  obtain ⟨c, dd, dt, sl⟩ := oy
  cases hp
  obtain ⟨hh, gg, d, tt, os⟩ := s
  wp_walk using wpAny_loadPart' hy
  exact h
theorem int_cmp_le {Q : Value → Shared → Prop} (hy : s.heap.get? y = some oy) (hp : oy.data = .plain) (h : Q .notImplemented s) :
    wpAny (model prog w) A (call (.builtin "int.__le__") [.int n t, .ref y]) Q E s := by
  refine GQ.call_here F.slot_int_le (typeIs_int s n t) F.entry_int_le (F.args_int_le_2 _ _) ?_
  obtain ⟨c, dd, dt, sl⟩ := oy
  cases hp
  obtain ⟨hh, gg, d, tt, os⟩ := s
  wp_walk using wpAny_loadPart' hy
  exact h
theorem int_cmp_gt {Q : Value → Shared → Prop} (hy : s.heap.get? y = some oy) (hp : oy.data = .plain) (h : Q .notImplemented s) :
    wpAny (model prog w) A (call (.builtin "int.__gt__") [.int n t, .ref y]) Q E s := by
  refine GQ.call_here F.slot_int_gt (typeIs_int s n t) F.entry_int_gt (F.args_int_gt_2 _ _) ?_
  obtain ⟨c, dd, dt, sl⟩ := oy
  cases hp
  obtain ⟨hh, gg, d, tt, os⟩ := s
  wp_walk using wpAny_loadPart' hy
  exact h
theorem int_cmp_ge {Q : Value → Shared → Prop} (hy : s.heap.get? y = some oy) (hp : oy.data = .plain) (h : Q .notImplemented s) :
    wpAny (model prog w) A (call (.builtin "int.__ge__") [.int n t, .ref y]) Q E s := by
  refine GQ.call_here F.slot_int_ge (typeIs_int s n t) F.entry_int_ge (F.args_int_ge_2 _ _) ?_
  obtain ⟨c, dd, dt, sl⟩ := oy
  cases hp
  obtain ⟨hh, gg, d, tt, os⟩ := s
  wp_walk using wpAny_loadPart' hy
  exact h
end
/-- int op instance, declined -/
def IntDec (op : CmpOp) : Prop := ∀ {prog : Program} {w : World} {A : Around} {E : Value → Shared → Prop} {s : Shared} {y : Addr} {oy : Obj} {n : Int} {t : Tok} {Q : Option Value → Shared → Prop}, s.heap.get? y = some oy → oy.data = .plain → Q none s →
  wpAny (model prog w) A (tryCompare (.int n t) (cmpInfo op).2.1 (.ref y)) Q E s
theorem dec_eq : IntDec .Eq := fun hy hp h => wpAny_tryCompare_declines (typeIs_int _ _ _) F.slot_int_eq (int_cmp_eq hy hp ⟨rfl, h⟩)
theorem dec_ne : IntDec .NotEq := fun hy hp h => wpAny_tryCompare_declines (typeIs_int _ _ _) F.slot_int_ne (int_cmp_ne hy hp ⟨rfl, h⟩)
theorem dec_lt : IntDec .Lt := fun hy hp h => wpAny_tryCompare_declines (typeIs_int _ _ _) F.slot_int_lt (int_cmp_lt hy hp ⟨rfl, h⟩)
theorem dec_le : IntDec .LtE := fun hy hp h => wpAny_tryCompare_declines (typeIs_int _ _ _) F.slot_int_le (int_cmp_le hy hp ⟨rfl, h⟩)
theorem dec_gt : IntDec .Gt := fun hy hp h => wpAny_tryCompare_declines (typeIs_int _ _ _) F.slot_int_gt (int_cmp_gt hy hp ⟨rfl, h⟩)
theorem dec_ge : IntDec .GtE := fun hy hp h => wpAny_tryCompare_declines (typeIs_int _ _ _) F.slot_int_ge (int_cmp_ge hy hp ⟨rfl, h⟩)
def IntDecB (op : Operator) : Prop := ∀ {prog : Program} {w : World} {A : Around} {E : Value → Shared → Prop} {s : Shared} {y : Addr} {oy : Obj} {n : Int} {t : Tok} {Q : Option Value → Shared → Prop}, s.heap.get? y = some oy → oy.data = .plain → Q none s →
  wpAny (model prog w) A (tryMethod (.int n t) (PySem.dunder op.info.2) (.ref y)) Q E s
theorem dec_add : IntDecB .Add := by
  intro prog w A E s y oy n t Q hy hp h
  show wpAny (model prog w) A (tryMethod (.int n t) (PySem.dunder "add") (.ref y)) Q E s
  have hc : wpAny (model prog w) A (call (.builtin "int.__add__") [.int n t, .ref y]) (fun v s' => v = .notImplemented ∧ Q none s') E s := int_call_add hy hp ⟨rfl, h⟩
  exact wpAny_tryMethod_declines (name := PySem.dunder "add") (id := "int.__add__") (typeIs_int s n t) F.slot_int_add hc
theorem dec_sub : IntDecB .Sub := by
  intro prog w A E s y oy n t Q hy hp h
  show wpAny (model prog w) A (tryMethod (.int n t) (PySem.dunder "sub") (.ref y)) Q E s
  have hc : wpAny (model prog w) A (call (.builtin "int.__sub__") [.int n t, .ref y]) (fun v s' => v = .notImplemented ∧ Q none s') E s := int_call_sub hy hp ⟨rfl, h⟩
  exact wpAny_tryMethod_declines (name := PySem.dunder "sub") (id := "int.__sub__") (typeIs_int s n t) F.slot_int_sub hc
theorem dec_mul : IntDecB .Mult := by
  intro prog w A E s y oy n t Q hy hp h
  show wpAny (model prog w) A (tryMethod (.int n t) (PySem.dunder "mul") (.ref y)) Q E s
  have hc : wpAny (model prog w) A (call (.builtin "int.__mul__") [.int n t, .ref y]) (fun v s' => v = .notImplemented ∧ Q none s') E s := int_call_mul hy hp ⟨rfl, h⟩
  exact wpAny_tryMethod_declines (name := PySem.dunder "mul") (id := "int.__mul__") (typeIs_int s n t) F.slot_int_mul hc

section
variable {prog : Program} {w : World} {A : Around} {E : Value → Shared → Prop} {s : Shared} {K : PySem.W.Frag} {y C f g : Addr} {oy : Obj} {od : Option Obj} {n : Int} {t : Tok}
/-- n op y by y's def for the comparison turned round -/
theorem cmp_refl {op : CmpOp} {Q : Value → Shared → Prop} (hu : A.units < cLine) (Y : K.In s.heap) (I : PySem.W.InstAt s.heap y oy C od) (hp : oy.data = .plain) (dec : IntDec op)
    (hsub : PySem.W.subIn K (.ref C) (.type "int") = some false) (hr : PySem.W.findIn K (.ref C) (cmpInfo op).2.2 = some (some (.ref g))) (hg : PySem.W.isFn K (.ref g) = true)
    (h : wpAny (model prog w) A (call (.ref g) [.ref y, .int n t]) (PySem.W.CmpBack Q) E s) : wpAny (model prog w) A (richCompare op (.int n t) (.ref y)) Q E s := by
  have one : wpAny (model prog w) A (tryCompare (.ref y) (cmpInfo op).2.2 (.int n t)) (fun r s' => ∃ v, r = some v ∧ Q v s') E s := by
    unfold tryCompare
    refine wpAny_bind (PySem.W.ifBound_K Y I hr hg (wpAny_mono h (fun v s' hv => ?_) fun _ _ e => e))
    cases v <;> first | exact hv.elim | exact wpAny_pure ⟨_, rfl, hv⟩
  have h1 : oneThing? op (.int n t) (.ref y) = none := rfl
  have hne : (Value.type "int" != Value.ref C) = true := rfl
  unfold richCompare
  simp only [h1]
  refine wpAny_holding (wpAny_bind (wpAny_cRoomFor hu ?_))
  refine wpAny_bind ((PySem.W.Looks.of_pure rfl : PySem.W.Looks (model prog w) s.heap (typeOf (.int n t)) (.type "int")).here (wpAny_bind (I.type.here ?_)))
  rw [hne]
  simp only [if_true]
  refine wpAny_bind ((PySem.W.looks_subIn Y hsub).here ?_)
  simp only [Bool.false_eq_true, if_false]
  refine wpAny_bind (dec I.at_ hp ?_)
  simp only [Bool.not_false, if_true]
  refine wpAny_bind (wpAny_mono one (fun r s' z => ?_) fun _ _ e => e)
  obtain ⟨v, rfl, hq⟩ := z
  exact wpAny_pure hq
end
end OwnOps
end

-- OwnOps4
section
set_option Elab.async false
set_option linter.all false
set_option maxRecDepth 100000
namespace OwnOps
open PySem L2

section
variable {X : Cx} {CX : CXT} {C g f : Addr} {k : Nat} {fd : FuncData} {ps : List Str} {sp : Sp} {E : XK} {op : Operator} {T : String}

/-- the reading of n op y by y's def -/
def rRef2 (C : Addr) (sp : Sp) (E : XK) : R2 := fun x y H Q => ∃ (i : Int) (b dy : Addr) (fs : List (Str × V)), x = .int i ∧ y = .ref b ∧ H b = some (.ins C dy fs) ∧ sp [y, x] H Q E

theorem op_refl {nm : String} (hnm : op.info.2 = nm) (O : Op2 X.K C f nm) (hrf : PySem.W.findIn X.K (.ref C) (PySem.dunderR nm) = some (some (.ref g))) (hg : PySem.W.isFn X.K (.ref g) = true) (hl : fillsNumberSlot (.type "int") nm = pure true)
    (hsub : PySem.W.subIn X.K (.ref C) (.type "int") = some false) (dec : IntDecB op)
    (F : FnOk X.prog X.w X.K X.mg X.base CX k g fd ps sp) (hr : Room k X.A) (hb : Binds X.K fd ps []) (hx : Passes CX X E) : OpR X (binaryOp op) (rRef2 C sp E) := by
  subst hnm
  intro pins s σ H x y v u Q I rx ry h
  obtain ⟨i, b, dy, fs, rfl, rfl, hb', q⟩ := h
  obtain ⟨t, rfl⟩ := (show ∃ t, v = Value.int i t from rx)
  cases (show u = Value.ref b from ry)
  obtain ⟨od, J⟩ := inst_at I hb'
  refine refl_K I.kIn J (PySem.W.Looks.of_pure rfl) O.first O.at_ hrf hg (PySem.W.Looks.of_pure hl) hsub (fun _ Q' q' => dec J.at_ rfl q') ?_
  refine wpAny_mono (run_any (us := [.ref b, .int i t]) (vs := [.ref b, .int i]) F hr I.env0 hb hx I (.cons rfl (.cons ⟨t, rfl⟩ .nil)) q) (fun w s' z => ?_) fun _ _ e => e
  obtain ⟨z', H', I', rz, qz⟩ := id z
  exact back_of rz z

/-- x op y (a comparison), x of the class at C -/
theorem cmp_own {op : CmpOp} (hop : ∀ a b, compareOp op a b = richCompare op a b) (hs : PySem.W.findIn X.K (.ref C) (cmpInfo op).2.1 = some (some (.ref g))) (hf : PySem.W.isFn X.K (.ref g) = true)
    (F : FnOk X.prog X.w X.K X.mg X.base CX k g fd ps sp) (hr : Room k X.A) (hb : Binds X.K fd ps []) (hx : Passes CX X E)
    {R : V → Hp → Prop} (hR : ∀ {y : V} {H : Hp} {u : Value} {pins : List (Addr × Obj)} {σ : St} {s : Shared}, L2.Inv X pins σ H s → R y H → RelV y u → ∃ tb, PySem.W.Looks (model X.prog X.w) s.heap (typeOf u) tb ∧ PySem.W.notFirst X.K C tb = true) :
    OpR X (compareOp op) (rOwn2 C R sp E) := by
  intro pins s σ H x y v u Q I rx ry h
  obtain ⟨a, dx, fs, rfl, ha, hy, q⟩ := h
  cases (show v = Value.ref a from rx)
  obtain ⟨od, J⟩ := inst_at I ha
  obtain ⟨m, hF⟩ := I.fr
  obtain ⟨tb, ht, hn⟩ := hR I hy ry
  rw [hop]
  refine PySem.W.cmp_K (op := op) hr.units0 hF I.ok.mod.kin J ht hn hs hf ?_
  refine wpAny_mono (run_any (us := [.ref a, u]) (vs := [.ref a, y]) F hr I.env0 hb hx I (.cons rfl (.cons ry .nil)) q) (fun w s' z => ?_) fun _ _ e => e
  obtain ⟨z', H', I', rz, qz⟩ := id z
  exact back_of rz z
theorem looks_ins (hsame : PySem.W.notFirst X.K C (.ref C) = true) {y : V} {H : Hp} {u : Value} {pins : List (Addr × Obj)} {σ : St} {s : Shared} (I : L2.Inv X pins σ H s) (h : RIns C y H) (ry : RelV y u) :
    ∃ tb, PySem.W.Looks (model X.prog X.w) s.heap (typeOf u) tb ∧ PySem.W.notFirst X.K C tb = true := by
  obtain ⟨b, dy, fs, rfl, hb⟩ := h
  cases (show u = Value.ref b from ry)
  obtain ⟨od, J⟩ := inst_at I hb
  exact ⟨_, J.type, hsame⟩
theorem looks_int (hi : PySem.W.notFirst X.K C (.type "int") = true) {y : V} {H : Hp} {u : Value} {pins : List (Addr × Obj)} {σ : St} {s : Shared} (I : L2.Inv X pins σ H s) (h : RInt y H) (ry : RelV y u) :
    ∃ tb, PySem.W.Looks (model X.prog X.w) s.heap (typeOf u) tb ∧ PySem.W.notFirst X.K C tb = true := by
  obtain ⟨i, rfl⟩ := h
  obtain ⟨t, rfl⟩ := (show ∃ t, u = Value.int i t from ry)
  exact ⟨_, PySem.W.Looks.of_pure rfl, hi⟩

theorem cmp_refl2 {op : CmpOp} (hop : ∀ a b, compareOp op a b = richCompare op a b) (dec : IntDec op) (hs : PySem.W.findIn X.K (.ref C) (cmpInfo op).2.2 = some (some (.ref g))) (hf : PySem.W.isFn X.K (.ref g) = true)
    (hsub : PySem.W.subIn X.K (.ref C) (.type "int") = some false)
    (F : FnOk X.prog X.w X.K X.mg X.base CX k g fd ps sp) (hr : Room k X.A) (hb : Binds X.K fd ps []) (hx : Passes CX X E) : OpR X (compareOp op) (rRef2 C sp E) := by
  intro pins s σ H x y v u Q I rx ry h
  obtain ⟨i, b, dy, fs, rfl, rfl, hb', q⟩ := h
  obtain ⟨t, rfl⟩ := (show ∃ t, v = Value.int i t from rx)
  cases (show u = Value.ref b from ry)
  obtain ⟨od, J⟩ := inst_at I hb'
  rw [hop]
  refine cmp_refl hr.units0 I.kIn J rfl dec hsub hs hf ?_
  refine wpAny_mono (run_any (us := [.ref b, .int i t]) (vs := [.ref b, .int i]) F hr I.env0 hb hx I (.cons rfl (.cons ⟨t, rfl⟩ .nil)) q) (fun w s' z => ?_) fun _ _ e => e
  obtain ⟨z', H', I', rz, qz⟩ := id z
  exact back_of rz z

/-- one-place: what x's own def hands back -/
def rOwn1 (C : Addr) (sp : Sp) (E : XK) (R : V → Prop) : V → Hp → VK → Prop := fun x H Q => ∃ a dx fs, x = .ref a ∧ H a = some (.ins C dx fs) ∧ sp [x] H (fun z H' => R z ∧ Q z H') E
theorem neg_own (hs : PySem.W.findIn X.K (.ref C) "__neg__" = some (some (.ref g))) (hf : PySem.W.isFn X.K (.ref g) = true)
    (F : FnOk X.prog X.w X.K X.mg X.base CX k g fd ps sp) (hr : Room k X.A) (hb : Binds X.K fd ps []) (hx : Passes CX X E) : UnR X (unaryOp .USub) (rOwn1 C sp E fun _ => True) := by
  intro pins s σ H x v Q I rx h
  obtain ⟨a, dx, fs, rfl, ha, q⟩ := h
  cases (show v = Value.ref a from rx)
  obtain ⟨od, J⟩ := inst_at I ha
  obtain ⟨m, hF⟩ := I.fr
  refine PySem.W.ksp_neg hF I.ok.mod.kin J hs hf ?_
  refine wpAny_mono (run_any (us := [.ref a]) (vs := [.ref a]) F hr I.env0 hb hx I (.cons rfl .nil) q) (fun w s' z => ?_) fun _ _ e => e
  obtain ⟨z', H', I', rz, _, qz⟩ := z
  exact ⟨z', H', I', rz, qz⟩

open Builtin in
theorem abs_K {prog : Program} {w : World} {A : Around} {E : Value → Shared → Prop} {s : Shared} {K : PySem.W.Frag} {x C f : Addr} {ox : Obj} {od : Option Obj} {Q : Value → Shared → Prop} (Y : K.In s.heap) (I : PySem.W.InstAt s.heap x ox C od)
    (hs : PySem.W.findIn K (.ref C) "__abs__" = some (some (.ref f))) (hf : PySem.W.isFn K (.ref f) = true)
    (h : wpAny (model prog w) A.in1 (call (.ref f) [.ref x]) Q E s) : wpAny (model prog w) A (call (.builtin "abs") [.ref x]) Q E s := by
  refine Calls.call_function_entry PyProof.Rows.kind_abs PyProof.Rows.plain_abs PyProof.Rows.entry_abs (PyProof.Rows.args_abs _) ?_
  unfold Builtin.«abs»
  refine wpAny_bind (m := oneArg "abs" _) (wpAny_pure ?_)
  refine wpAny_bind (m := callSpecial? (.ref x) (Str.ofString "__abs__")) (PySem.W.special_fn Y I hs (beq_iff_eq.mp hf) (wpAny_mono h (fun r s' z => ?_) fun _ _ e => e))
  exact wpAny_pure ⟨_, rfl, z⟩

theorem room2 {k : Nat} {A : Around} (r : Room (k + 2) A) : Room k A.in1.in1 := (Room.in1 (r.in1))

theorem call_absO (hs : PySem.W.findIn X.K (.ref C) "__abs__" = some (some (.ref g))) (hf : PySem.W.isFn X.K (.ref g) = true)
    (F : FnOk X.prog X.w X.K X.mg X.base CX k g fd ps sp) (hr : Room (k + 1) X.A) (hb : Binds X.K fd ps []) (hx : Passes CX X E) : CallR X (.builtin "abs") (fun xs H Q => ∃ x, xs = [x] ∧ rOwn1 C sp E (fun _ => True) x H Q) := by
  intro pins s σ H xs us Q I rx h
  obtain ⟨x, rfl, a, dx, fs, rfl, ha, q⟩ := h
  obtain ⟨u, rfl, ru⟩ := vals1 rx
  cases (show u = Value.ref a from ru)
  obtain ⟨od, J⟩ := inst_at I ha
  refine abs_K I.kIn J hs hf ?_
  refine wpAny_mono (run_any (us := [.ref a]) (vs := [.ref a]) F hr.in1 I.env0.in1 hb hx I (.cons rfl .nil) q) (fun w s' z => ?_) fun _ _ e => e
  obtain ⟨z', H', I', rz, _, qz⟩ := z
  exact ⟨z', H', I', rz, qz⟩

def IsStr : V → Prop := fun z => ∃ y, z = .str y
theorem strback {Q : Value → Shared → Prop} {z : V} {u : Value} {s' : Shared} (hz : IsStr z) (r : RelV z u) (q : Q u s') : PySem.W.StrBack Q u s' := by
  obtain ⟨y, rfl⟩ := hz
  obtain ⟨t, rfl⟩ := (show ∃ t, u = Value.str y t from r)
  exact q
theorem call_reprO (hs : PySem.W.findIn X.K (.ref C) "__repr__" = some (some (.ref g))) (hf : PySem.W.isFn X.K (.ref g) = true)
    (F : FnOk X.prog X.w X.K X.mg X.base CX k g fd ps sp) (hr : Room (k + 1) X.A) (hb : Binds X.K fd ps []) (hx : Passes CX X E) : CallR X (.builtin "repr") (fun xs H Q => ∃ x, xs = [x] ∧ rOwn1 C sp E IsStr x H Q) := by
  intro pins s σ H xs us Q I rx h
  obtain ⟨x, rfl, a, dx, fs, rfl, ha, q⟩ := h
  obtain ⟨u, rfl, ru⟩ := vals1 rx
  cases (show u = Value.ref a from ru)
  obtain ⟨od, J⟩ := inst_at I ha
  obtain ⟨m, hF⟩ := I.fr
  refine PySem.W.repr_K hr.in1.units0 hF I.ok.mod.kin J hs hf ?_
  refine wpAny_mono (run_any (us := [.ref a]) (vs := [.ref a]) F hr.in1 I.env0.in1 hb hx I (.cons rfl .nil) q) (fun w s' z => ?_) fun _ _ e => e
  obtain ⟨z', H', I', rz, hz, qz⟩ := z
  exact strback hz rz ⟨z', H', I', rz, qz⟩
theorem call_strO (hs : PySem.W.findIn X.K (.ref C) "__str__" = some (some (.ref g))) (hf : PySem.W.isFn X.K (.ref g) = true)
    (F : FnOk X.prog X.w X.K X.mg X.base CX k g fd ps sp) (hr : Room (k + 2) X.A) (hb : Binds X.K fd ps []) (hx : Passes CX X E) : CallR X (.type "str") (fun xs H Q => ∃ x, xs = [x] ∧ rOwn1 C sp E IsStr x H Q) := by
  intro pins s σ H xs us Q I rx h
  obtain ⟨x, rfl, a, dx, fs, rfl, ha, q⟩ := h
  obtain ⟨u, rfl, ru⟩ := vals1 rx
  cases (show u = Value.ref a from ru)
  obtain ⟨od, J⟩ := inst_at I ha
  refine PySem.W.kso_call (room2 hr).units0 I.kIn J hs hf ?_
  refine wpAny_mono (run_any (us := [.ref a]) (vs := [.ref a]) F (room2 hr) I.env0.in1.in1 hb hx I (.cons rfl .nil) q) (fun w s' z => ?_) fun _ _ e => e
  obtain ⟨z', H', I', rz, hz, qz⟩ := z
  exact strback hz rz ⟨z', H', I', rz, qz⟩

open Builtin in
theorem bool_K {prog : Program} {w : World} {A : Around} {E : Value → Shared → Prop} {s : Shared} {K : PySem.W.Frag} {x C f : Addr} {ox : Obj} {od : Option Obj} {Q : Value → Shared → Prop} {m : Str → Option Value} {h₀ : Heap} {L : Addr} (F : PyProof.Rows.Fr h₀ L s.heap m) (Y : K.In h₀) (I : PySem.W.InstAt s.heap x ox C od)
    (hs : PySem.W.findIn K (.ref C) "__bool__" = some (some (.ref f))) (hf : PySem.W.isFn K (.ref f) = true)
    (h : wpAny (model prog w) A.in1.in1 (call (.ref f) [.ref x]) (PySem.W.BoolBack fun b s' => Q (.bool b) s') E s) : wpAny (model prog w) A (call (.type "bool") [.ref x]) Q E s := by
  refine callType_codes (T := "bool") (Bi := Builtin.«object.__init__») (Q₁ := fun r s₁ => ∃ y, r = .bool y ∧ Q r s₁) PySem.F.called_bool (PySem.F.typeCall_bool_1 _) PySem.F.entry_object_init ?_ ?_
  · refine codeAny_of_tree ?_
    show wpAny _ A.in1.in1 (do checkBuiltinCall "bool.__new__" ⟨[.type "bool", .ref x], []⟩; again (.builtin "bool.__new__" ⟨[.type "bool", .ref x], []⟩)) _ _ s
    refine wpAny_bind (wpAny_of_eq (PySem.F.newCall_bool_1 _) (wpAny_pure ⟨plainId_quiet (by decide +kernel) _, codeAny_builtin PySem.F.entry_bool_new ?_⟩))
    rw [Around.under_plainId (by decide +kernel) _]
    have key : wpAny (model prog w) A.in1.in1 (truthy (.ref x)) (fun b s₁ => Q (.bool b) s₁) E s := PySem.W.truthy_K F Y I hs hf h
    have f1 := PySem.F.conv_sub_bool
    obtain ⟨hp, gg, d, tk, os⟩ := s
    repeat (any_goals (first | assumption | (with_reducible refine wpAny_bind (wpAny_mono key (fun b s1 z => ?_) fun _ _ e => e)) | wp_step))
    all_goals first | exact ⟨_, rfl, z⟩ | exact ⟨_, rfl, _, rfl, z⟩ | skip
  · rintro obj s₁ ⟨y, rfl, hq⟩
    exact ⟨typeIs_bool _ _, PySem.F.args_object_init_2 _ _, object_init_meets PySem.F.called_bool.init.lookup PySem.F.called_bool.made (by decide) prog w A.in1 _ s₁ ⟨typeIs_bool _ _, rfl, hq⟩⟩
end
end OwnOps
end

-- OwnOps5
section
set_option Elab.async false
set_option linter.all false
set_option maxRecDepth 100000
namespace OwnOps
open PySem L2

section
variable {prog : Program} {w : World} {A : Around} {E : Value → Shared → Prop} {s : Shared} {K : PySem.W.Frag} {x C g : Addr} {ox : Obj} {od : Option Obj} {u : Value} {T : String}
/-- x op u by x's own def, u of a built-in type that is told by a look -/
theorem left_K {op : Operator} {fo ro rc : Option Value} {Q : Value → Shared → Prop} (Y : K.In s.heap) (I : PySem.W.InstAt s.heap x ox C od)
    (ht : PySem.W.Looks (model prog w) s.heap (typeOf u) (.type T)) (hc : PySem.W.selfFirst K C = true)
    (hs : PySem.W.findIn K (.ref C) (PySem.dunder op.info.2) = some (some (.ref g))) (hg : PySem.W.isFn K (.ref g) = true)
    (hrc : PySem.W.findIn K (.ref C) (PySem.dunderR op.info.2) = some rc) (hp : rc = none ∨ ∃ q : Addr, rc = some (.ref q))
    (hfo : PySem.W.findIn K (.type T) (PySem.dunder op.info.2) = some fo) (hro : PySem.W.findIn K (.type T) (PySem.dunderR op.info.2) = some ro) (hsub : PySem.W.subIn K (.type T) (.ref C) = some false)
    (h : wpAny (model prog w) A (call (.ref g) [.ref x, u]) (PySem.W.CmpBack Q) E s) : wpAny (model prog w) A (binaryOp op (.ref x) u) Q E s := by
  obtain ⟨dat, tl, hcd, hmro⟩ := PySem.W.ksp_first hc
  rcases hi : op.info with ⟨sy, nam⟩
  rw [hi] at hs hrc hfo hro
  dsimp only at hs hrc hfo hro
  have one := PySem.W.ksp_try Y I hs hg h
  obtain ⟨hh, gg, d, tt, os⟩ := s
  have M1 : PySem.W.Looks (model prog w) hh (typeOf (.ref x)) (.ref C) := I.type
  have M3 : PySem.W.Looks (model prog w) hh (fillsNumberSlot (.ref C) nam) true := PySem.W.fills_K Y hcd hmro hs
  have M4 : PySem.W.Looks (model prog w) hh (fillsNumberSlot (.type T) nam) ((fo.isSome && !isSeqSlot fo) || (ro.isSome && !isSeqSlot ro)) := PySem.W.ksp_fillsT Y hfo hro
  have M5 : PySem.W.Looks (model prog w) hh (isSubtype (.type T) (.ref C)) false := PySem.W.looks_subIn Y hsub
  have M6 : PySem.W.Looks (model prog w) hh (numberSlotInPython (.ref C) nam) true := PySem.W.ksp_inPy Y hs hrc hp
  have M7 : PySem.W.Looks (model prog w) hh (numberSlotInPython (.type T) nam) false := PySem.W.Looks.of_pure rfl
  have M8 : PySem.W.Looks (model prog w) hh (typeLookup (.type T) (PySem.dunderR nam)) ro := PySem.W.looks_findIn Y hro
  generalize ((fo.isSome && !isSeqSlot fo) || (ro.isSome && !isSeqSlot ro)) = fills at M4
  have differ : (Value.ref C == Value.type T) = false := Bool.eq_false_iff.mpr fun q => by cases beq_iff_eq.mp q
  simp only [binaryOp, hi]
  refine wpAny_holding (wpAny_bind ?_)
  unfold binaryOp1
  refine wpAny_bind (M1.at (wpAny_bind (ht.at (wpAny_bind (M3.at ?_)))))
  simp only [differ, Bool.false_eq_true, if_false]
  cases fills
  all_goals
    ksp_lk
    refine wpAny_mono one (fun r s' back => ?_) fun _ _ e => e
    obtain ⟨v, rfl, hq⟩ := back
    ksp_lk
    exact hq
end
end OwnOps
end

-- OwnNe
section
set_option Elab.async false
set_option linter.all false
set_option maxRecDepth 100000
/-! != of two lists that are equal item by item, by an own == too. -/
namespace OwnNe
open PySem PySem.SeqAt GQ
open AutoSeq1 (wpAny_loadPart')
open MeetsSeq MeetsSeq2 MeetsSeq3 SeqRoads2
section
variable {prog : Program} {w : World} {A : Around} {R : Result → Shared → Prop} {E : Value → Shared → Prop}
/-- the loop over the items, from i on: all are equal, so the answer is no -/
theorem loopN (l b : Addr) (N : Nat) (I : Nat → Shared → Prop) (hl : ListI prog w A (fun e s' => R (.error e) s') l b N I) (fin : ∀ s, I N s → R (.ok (.ret (.bool false))) s) :
    ∀ (k i : Nat), N - i = k → i ≤ N → ∀ s, I i s → wpAny (model prog w) A.in1 (Builtin.«list.__eq__.loop» ⟨[.ref l, .ref b, rawInt i, rawInt 3], []⟩) (FinOf prog w A R) (fun e s' => R (.error e) s') s
  | 0, i, hk, hi, s, h => by
    obtain ⟨xs, ys, n, n2, hl1, hb1, z1, z2, _⟩ := hl _ _ h
    have last : i = N := by omega
    have done : R (.ok (.ret (.bool false))) s := fin s (last ▸ h)
    obtain ⟨hp, g, d, tk, os⟩ := s
    wp_walk using wpAny_loadPart' hl1, wpAny_loadPart' hb1
    have no1 : xs[((i : Nat) : Int).toNat]? = none := by simp; omega
    have no2 : ys[((i : Nat) : Int).toNat]? = none := by simp; omega
    rw [no1, no2]
    wp_walk using wpAny_loadPart' hl1, wpAny_loadPart' hb1
    show R (.ok (.ret (.bool (xs.size != ys.size)))) _
    rw [z1, z2]
    simpa using done
  | k + 1, i, hk, hi, s, h => by
    obtain ⟨xs, ys, n, n2, hl1, hb1, z1, z2, one⟩ := hl _ _ h
    have lt1 : i < xs.size := by omega
    have lt2 : i < ys.size := by omega
    have here := one lt1 lt2
    obtain ⟨hp, g, d, tk, os⟩ := s
    wp_walk using wpAny_loadPart' hl1, wpAny_loadPart' hb1
    have is1 : xs[((i : Nat) : Int).toNat]? = some xs[i] := by simp [lt1]
    have is2 : ys[((i : Nat) : Int).toNat]? = some ys[i] := by simp [lt2]
    have up : ((i : Int) + 1) = ((i + 1 : Nat) : Int) := by omega
    rw [is1, is2]
    refine wpAny_bind (wpAny_mono here (fun r s2 q => ?_) fun _ _ x => x)
    obtain ⟨hr, q⟩ := q
    subst hr
    have rest := loopN l b N I hl fin k (i + 1) (by omega) (by omega) s2 q
    obtain ⟨hp2, g2, d2, tk2, os2⟩ := s2
    wp_walk
    rw [up]
    exact ⟨plainId_quiet plain_eq_loop _, codeAny_builtin entry_eq_loop (by rw [Around.under_plainId plain_eq_loop _] <;> exact rest)⟩
theorem listN (l b : Addr) (N : Nat) (I : Nat → Shared → Prop) (hl : ListI prog w A (fun e s' => R (.error e) s') l b N I) (fin : ∀ s, I N s → R (.ok (.ret (.bool false))) s) {s : Shared} (h : I 0 s) :
    wpAny (model prog w) A.in1 (Builtin.«list.__ne__» ⟨[.ref l, .ref b], []⟩) (FinOf prog w A R) (fun e s' => R (.error e) s') s := by
  obtain ⟨xs, ys, n, n2, hl1, hb1, z1, z2, _⟩ := hl _ _ h
  have rest := loopN (A := A) (R := R) l b N I hl fin _ 0 rfl (Nat.zero_le _) s h
  obtain ⟨hp, g, d, tk, os⟩ := s
  have sub := AutoSeq1.sub_list_list
  have same : ¬ (xs.size != ys.size) = true := by simp [z1, z2]
  wp_walk using wpAny_loadPart' hl1, wpAny_loadPart' hb1
  exact ⟨plainId_quiet plain_eq_loop _, codeAny_builtin entry_eq_loop (by rw [Around.under_plainId plain_eq_loop _] <;> exact rest)⟩
theorem rcN {l b : Addr} {N : Nat} {Q : Value → Shared → Prop} {s : Shared} (hu : A.units < cLine) (I : Nat → Shared → Prop) (hl : ListI prog w A E l b N I)
    (fin : ∀ s, I N s → Q (.bool false) s) (h : I 0 s) : wpAny (model prog w) A (richCompare .NotEq (.ref l) (.ref b)) Q E s := by
  obtain ⟨xs, ys, n, n2, hl1, hb1, _, _, _⟩ := hl _ _ h
  refine wpAny_richCompare_same_room (op := .NotEq) ⟨_, hl1, rfl⟩ ⟨_, hb1, rfl⟩ F.slot_list_ne (call_here F.slot_list_ne ⟨_, hl1, rfl⟩ F.entry_list_ne (F.args_list_ne_2 _ _) ?_) hu
  exact listN (R := wants (fun v s' => v ≠ .notImplemented ∧ Q v s') E) l b N I hl (fun s' q => ⟨(fun x => nomatch x), fin s' q⟩) h
end
open L2
/-- x != y of two lists, item by item equal -/
def rNeG (D : Eqv) : R2 := fun x y H Q => DList D x y H ∧ ∀ H', Ext H H' → Q (.bl false) H'
theorem op_neG {X : Cx} {n : Nat} {D : Eqv} (hD : Mon D) (h : EqG X n D) (hr : Room (n + 1) X.A) : OpR X (compareOp .NotEq) (rNeG D) := by
  intro pins s σ H x y v u Q I rx ry hq
  obtain ⟨⟨a, b, xs, ys, rfl, rfl, ha, hb, p⟩, q⟩ := hq
  cases rx
  cases ry
  have sb : Sub X (n + 1) X.A := ⟨hr, rfl⟩
  show wpAny (model X.prog X.w) X.A (richCompare .NotEq (.ref a) (.ref b)) (EP X pins σ Q) X.xe s
  refine rcN (N := xs.length) hr.units0 (fun _ s' => LoopI X pins σ H s') (fun i s' z => ?_) (fun s' ⟨H', I', e⟩ => ⟨.bl false, H', I', rfl, q H' e⟩) ⟨H, I, Ext.rfl'⟩
  obtain ⟨H1, I1, e1⟩ := id z
  obtain ⟨zz, its, k, r, e⟩ := I1.hok a _ (e1 _ _ ha)
  obtain ⟨zz2, its2, k2, r2, e2⟩ := I1.hok b _ (e1 _ _ hb)
  refine ⟨its.toArray, its2.toArray, k, k2, e, e2, by rw [List.size_toArray, ← r.length], by rw [List.size_toArray, ← r2.length, ← p.1], fun h1 h2 => ?_⟩
  exact turnG hD h sb p r r2 i h1 h2 s' z
/-- the same thing -/
def DSame : Eqv := fun x y _ => x = y ∧ ∃ a, x = .ref a
theorem mon_same : Mon DSame := fun _ _ _ _ _ d => d
theorem eqG_same {X : Cx} {n : Nat} : EqG X n DSame := by
  intro A pins s σ H x y u v sb I rx ry d
  obtain ⟨rfl, a, rfl⟩ := d
  cases rx
  cases ry
  exact SeqAt.EqAt.same (A := A) (s := s) (.ref a) X.prog X.w X.xe _ ⟨rfl, H, I, Ext.rfl'⟩
end OwnNe
end

-- OwnNe2
section
set_option Elab.async false
set_option linter.all false
set_option maxRecDepth 100000
namespace OwnNe
open PySem L2
def rNeEmp : R2 := fun x y H Q => ∃ l b xs, x = .ref l ∧ y = .ref b ∧ H l = some (.lst xs) ∧ H b = some (.lst []) ∧ Q (.bl (!xs.isEmpty)) H
/-- a list != [] -/
theorem op_neEmp {X : Cx} (hu : X.A.units < cLine) : OpR X (compareOp .NotEq) rNeEmp := by
  intro pins s σ H x y v u Q I rx ry h
  obtain ⟨l, b, xs, rfl, rfl, hl, hb, q⟩ := h
  cases rx
  cases ry
  obtain ⟨_, its, n, r, _, e⟩ := I.lstM hl
  obtain ⟨_, its2, n2, r2, _, e2⟩ := I.lstM hb
  cases r2
  have L1 : s.heap.IsList l its.toArray := ⟨_, e, rfl, n, rfl⟩
  have L2' : s.heap.IsList b ([] : List Value).toArray := ⟨_, e2, rfl, n2, rfl⟩
  show wpAny (model X.prog X.w) X.A (richCompare .NotEq (.ref l) (.ref b)) (EP X pins σ Q) X.xe s
  cases r with
  | nil => exact PySem.SeqAt.RcNeAt.lists (e := fun _ => true) L1 L2' rfl hu (fun j h1 _ => absurd h1 (by simp)) X.prog X.w X.xe _ ⟨.bl false, H, I, rfl, q⟩
  | cons a r => exact PySem.SeqAt.RcNeAt.lists_lengths L1 L2' (by simp) hu X.prog X.w X.xe _ ⟨.bl true, H, I, rfl, q⟩
end OwnNe
end

-- OwnNe3
section
set_option Elab.async false
set_option linter.all false
set_option maxRecDepth 100000
/-! Either of two rules; != by an own == alone; == of two lists, told as a truth. -/
namespace OwnNe
open PySem PySem.SeqAt GQ L2 OwnOps
open AutoSeq1 (wpAny_loadPart')
open MeetsSeq MeetsSeq2 MeetsSeq3 SeqRoads2
theorem op_or {X : Cx} {f : Value → Value → Sem Value} {r1 r2 : R2} (h1 : OpR X f r1) (h2 : OpR X f r2) : OpR X f (fun x y H Q => r1 x y H Q ∨ r2 x y H Q) := by
  intro pins s σ H x y v u Q I rx ry h
  rcases h with h | h
  · exact h1 pins s σ H x y v u Q I rx ry h
  · exact h2 pins s σ H x y v u Q I rx ry h
section
variable {prog : Program} {w : World} {A : Around} {E : Value → Shared → Prop} {s : Shared} {K : PySem.W.Frag} {x C L f : Addr} {h₀ : Heap} {m : Str → Option Value} {ox : Obj} {od : Option Obj} {b tb : Value}
theorem entry_ne {Q : Fin → Shared → Prop} (hu : A.units < cLine) (X : K.In s.heap) (I : PySem.W.InstAt s.heap x ox C od) (he : PySem.W.findIn K (.ref C) "__eq__" = some (some (.ref f))) (hf : PySem.W.isFn K (.ref f) = true)
    (h : wpAny (model prog w) A (call (.ref f) [.ref x, b]) (fun v s' => ∃ r, v = .bool r ∧ Q (.done (.ret (.bool (!r)))) s') E s) :
    wpAny (model prog w) A (Builtin.«object.__ne__» ⟨[.ref x, b], []⟩) Q E s := by
  unfold Builtin.«object.__ne__»
  repeat (first
    | with_reducible refine wpAny_cRoomFor hu ?_
    | (refine wpAny_bind (m := callSpecialIfBound? (.ref x) (Str.ofString "__eq__") [b])
        (PySem.W.ifBound_K X I he hf (wpAny_mono h (fun r s' hr => by
          obtain ⟨b, rfl, hq⟩ := hr
          repeat (first | exact hq | exact wpAny_pure hq | exact wpAny_truthy_bool hq | (refine wpAny_bind (m := truthy (.bool _)) (wpAny_truthy_bool ?_)) | wp_step)) fun _ _ e => e)))
    | wp_step)
theorem ifBound_ne {M : Model} {args : List Value} {Q : Option Value → Shared → Prop} (X : K.In s.heap) (I : PySem.W.InstAt s.heap x ox C od) (hs : PySem.W.findIn K (.ref C) "__ne__" = some (some (.builtin "object.__ne__")))
    (h : wpAny M A (call (.builtin "object.__ne__") (.ref x :: args)) (fun v => Q (some v)) E s) : wpAny M A (callSpecialIfBound? (.ref x) "__ne__" args) Q E s := by
  simp only [callSpecialIfBound?, bindSpecialIfBound?]
  refine wpAny_holding (wpAny_bind (wpAny_bind (wpAny_bind (I.type.here ((PySem.W.looks_findIn X hs).here ?_)))))
  refine wpAny_bind (wpAny_askSetting (wpAny_ite ?_))
  have fin : wpAny M A (call (.builtin "object.__ne__") ([.ref x] ++ args) >>= fun v => pure (some v)) Q E s := wpAny_bind (wpAny_mono h (fun v s' h' => wpAny_pure h') fun _ _ h' => h')
  split
  · exact wpAny_bind (wpAny_of_eq (F.cmp_object.ne.bind _) (wpAny_pure (by exact fin)))
  · exact wpAny_tryCatch (wpAny_bind (wpAny_of_eq (F.cmp_object.ne.bind _) (wpAny_pure (by exact fin))))
/-- x != b by x's own ==: the class has no != of its own -/
theorem rc_neK {Q : Value → Shared → Prop} (hu : A.units + 1 < cLine) (X : K.In s.heap) (I : PySem.W.InstAt s.heap x ox C od) (hb : PySem.W.Looks (model prog w) s.heap (typeOf b) tb) (hn : PySem.W.notFirst K C tb = true)
    (hm : PySem.W.mroIn K C (.type "object") = some true) (hs : PySem.W.findIn K (.ref C) "__ne__" = some (some (.builtin "object.__ne__"))) (he : PySem.W.findIn K (.ref C) "__eq__" = some (some (.ref f))) (hf : PySem.W.isFn K (.ref f) = true)
    (h : wpAny (model prog w) A.in1 (call (.ref f) [.ref x, b]) (fun v s' => ∃ r, v = .bool r ∧ Q (.bool (!r)) s') E s) : wpAny (model prog w) A (richCompare .NotEq (.ref x) b) Q E s := by
  have one : wpAny (model prog w) A (tryCompare (.ref x) (cmpInfo .NotEq).2.1 b) (fun r s' => ∃ v, r = some v ∧ Q v s') E s := by
    show wpAny (model prog w) A (tryCompare (.ref x) "__ne__" b) _ E s
    unfold tryCompare
    refine wpAny_bind (ifBound_ne X I hs (wpAny_call (codeAny_call_builtin F.cmp_object.ne.plain F.cmpEntry_ne
      (PySem.W.check_slot F.cmpKind_ne F.cmpSplit_ne (I.type.andThen (PySem.W.looks_mroIn X hm)) (F.cmpArgs_ne _ _) (entry_ne (A := A.in1) hu X I he hf (wpAny_mono h (fun v s' hv => ?_) fun _ _ e => e))))))
    obtain ⟨r, rfl, q⟩ := hv
    first
      | exact ⟨r, rfl, wpAny_pure ⟨_, rfl, q⟩⟩
      | exact ⟨r, rfl, wpAny_pure (wpAny_pure ⟨_, rfl, q⟩)⟩
      | exact ⟨r, rfl, ⟨_, rfl, q⟩⟩
  unfold richCompare
  simp only [oneThing_ref]
  refine wpAny_holding (wpAny_bind (wpAny_cRoomFor (by omega) ?_))
  refine wpAny_bind (I.type.here (wpAny_bind (hb.here ?_)))
  split
  · rename_i q
    have e : PySem.W.subIn K tb (.ref C) = some false := by
      rcases Bool.or_eq_true_iff.mp hn with e | e
      · rw [beq_iff_eq.mp e] at q; simp at q
      · exact beq_iff_eq.mp e
    refine wpAny_bind ((PySem.W.looks_subIn X e).here ?_)
    simp only [Bool.false_eq_true, if_false]
    refine wpAny_bind (wpAny_mono one (fun r s' z => ?_) fun _ _ e => e)
    obtain ⟨v, rfl, hq⟩ := z
    exact wpAny_pure hq
  · refine wpAny_bind (wpAny_pure ?_)
    simp only [Bool.false_eq_true, if_false]
    refine wpAny_bind (wpAny_mono one (fun r s' z => ?_) fun _ _ e => e)
    obtain ⟨v, rfl, hq⟩ := z
    exact wpAny_pure hq
end
/-- x != y by x's own == -/
def rNeOwn (C : Addr) (R : V → Hp → Prop) (sp : Sp) (E : XK) : R2 := fun x y H Q => ∃ a dx fs, x = .ref a ∧ H a = some (.ins C dx fs) ∧ R y H ∧ sp [x, y] H (fun v H' => ∃ r, v = .bl r ∧ Q (.bl (!r)) H') E
theorem op_neOwn {X : Cx} {CX : CXT} {C g : Addr} {k : Nat} {fd : FuncData} {ps : List Str} {sp : Sp} {E : XK} (hm : PySem.W.mroIn X.K C (.type "object") = some true) (hn : PySem.W.findIn X.K (.ref C) "__ne__" = some (some (.builtin "object.__ne__")))
    (hs : PySem.W.findIn X.K (.ref C) "__eq__" = some (some (.ref g))) (hf : PySem.W.isFn X.K (.ref g) = true)
    (F : FnOk X.prog X.w X.K X.mg X.base CX k g fd ps sp) (hr : Room (k + 1) X.A) (hb : Binds X.K fd ps []) (hx : Passes CX X E)
    {R : V → Hp → Prop} (hR : ∀ {y : V} {H : Hp} {u : Value} {pins : List (Addr × Obj)} {σ : L2.St} {s : Shared}, L2.Inv X pins σ H s → R y H → RelV y u → ∃ tb, PySem.W.Looks (model X.prog X.w) s.heap (typeOf u) tb ∧ PySem.W.notFirst X.K C tb = true) :
    OpR X (compareOp .NotEq) (rNeOwn C R sp E) := by
  intro pins s σ H x y v u Q I rx ry h
  obtain ⟨a, dx, fs, rfl, ha, hy, q⟩ := h
  cases (show v = Value.ref a from rx)
  obtain ⟨od, J⟩ := inst_at I ha
  obtain ⟨tb, ht, hn2⟩ := hR I hy ry
  show wpAny (model X.prog X.w) X.A (richCompare .NotEq (.ref a) u) (EP X pins σ Q) X.xe s
  refine rc_neK (show X.A.units + 1 < cLine from hr.in1.units0) I.kIn J ht hn2 hm hn hs hf ?_
  refine wpAny_mono (run_any (us := [.ref a, u]) (vs := [.ref a, y]) F hr.in1 I.env0.in1 hb hx I (.cons rfl (.cons ry .nil)) q) (fun w s' z => ?_) fun _ _ e => e
  obtain ⟨z', H', I', rz, r, rfl, qz⟩ := id z
  cases (show w = Value.bool r from rz)
  exact ⟨r, rfl, .bl (!r), H', I', rfl, qz⟩
section
variable {prog : Program} {w : World} {A : Around} {R : Result → Shared → Prop} {E : Value → Shared → Prop}
/-- at each turn the two lists are read anew: N items each, the i-th two equal as r i says -/
def ListB (prog : Program) (w : World) (A : Around) (E : Value → Shared → Prop) (l b : Addr) (N : Nat) (r : Nat → Bool) (I : Nat → Shared → Prop) : Prop :=
  ∀ i s, I i s → ∃ (xs ys : Array Value) (n n2 : Nat), s.heap.get? l = some { cls := .type "list", data := .seq xs n } ∧ s.heap.get? b = some { cls := .type "list", data := .seq ys n2 } ∧ xs.size = N ∧ ys.size = N ∧
    ∀ (h1 : i < xs.size) (h2 : i < ys.size), wpAny (model prog w) A.in1 (eqBool xs[i] ys[i]) (fun q s' => q = r i ∧ I (i + 1) s') E s
theorem loopB (l b : Addr) (N : Nat) (r : Nat → Bool) (I : Nat → Shared → Prop) (hl : ListB prog w A (fun e s' => R (.error e) s') l b N r I)
    (fin : (∀ j, j < N → r j = true) → ∀ s, I N s → R (.ok (.ret (.bool true))) s) (bad : ∀ j, j < N → r j = false → ∀ s, I (j + 1) s → R (.ok (.ret (.bool false))) s) :
    ∀ (k i : Nat), N - i = k → i ≤ N → (∀ j, j < i → r j = true) → ∀ s, I i s → wpAny (model prog w) A.in1 (Builtin.«list.__eq__.loop» ⟨[.ref l, .ref b, rawInt i, rawInt 2], []⟩) (FinOf prog w A R) (fun e s' => R (.error e) s') s
  | 0, i, hk, hi, all, s, h => by
    obtain ⟨xs, ys, n, n2, hl1, hb1, z1, z2, _⟩ := hl _ _ h
    have last : i = N := by omega
    have done : R (.ok (.ret (.bool true))) s := fin (fun j hj => all j (by omega)) s (last ▸ h)
    obtain ⟨hp, g, d, tk, os⟩ := s
    wp_walk using wpAny_loadPart' hl1, wpAny_loadPart' hb1
    have no1 : xs[((i : Nat) : Int).toNat]? = none := by simp; omega
    have no2 : ys[((i : Nat) : Int).toNat]? = none := by simp; omega
    rw [no1, no2]
    wp_walk using wpAny_loadPart' hl1, wpAny_loadPart' hb1
    show R (.ok (.ret (.bool (xs.size == ys.size)))) _
    rw [z1, z2]
    simpa using done
  | k + 1, i, hk, hi, all, s, h => by
    obtain ⟨xs, ys, n, n2, hl1, hb1, z1, z2, one⟩ := hl _ _ h
    have lt1 : i < xs.size := by omega
    have lt2 : i < ys.size := by omega
    have here := one lt1 lt2
    obtain ⟨hp, g, d, tk, os⟩ := s
    wp_walk using wpAny_loadPart' hl1, wpAny_loadPart' hb1
    have is1 : xs[((i : Nat) : Int).toNat]? = some xs[i] := by simp [lt1]
    have is2 : ys[((i : Nat) : Int).toNat]? = some ys[i] := by simp [lt2]
    have up : ((i : Int) + 1) = ((i + 1 : Nat) : Int) := by omega
    rw [is1, is2]
    refine wpAny_bind (wpAny_mono here (fun q s2 hq => ?_) fun _ _ x => x)
    obtain ⟨hr, hq⟩ := hq
    subst hr
    cases hb : r i with
    | true =>
      have rest := loopB l b N r I hl fin bad k (i + 1) (by omega) (by omega) (fun j hj => if e : j = i then by rw [e]; exact hb else all j (by omega)) s2 hq
      obtain ⟨hp2, g2, d2, tk2, os2⟩ := s2
      wp_walk
      rw [up]
      exact ⟨plainId_quiet plain_eq_loop _, codeAny_builtin entry_eq_loop (by rw [Around.under_plainId plain_eq_loop _] <;> exact rest)⟩
    | false =>
      have done := bad i (by omega) hb s2 hq
      obtain ⟨xs2, ys2, m, m2, hl2, hb2, z3, z4, _⟩ := hl _ _ hq
      have is3 : xs2[((i : Nat) : Int).toNat]? = some (xs2[i]'(by omega)) := by
        have : i < xs2.size := by omega
        simp [this]
      have is4 : ys2[((i : Nat) : Int).toNat]? = some (ys2[i]'(by omega)) := by
        have : i < ys2.size := by omega
        simp [this]
      obtain ⟨hp2, g2, d2, tk2, os2⟩ := s2
      wp_walk using wpAny_loadPart' hl2, wpAny_loadPart' hb2
      rw [is3, is4]
      wp_walk
      exact done
theorem listB (l b : Addr) (N : Nat) (r : Nat → Bool) (I : Nat → Shared → Prop) (hl : ListB prog w A (fun e s' => R (.error e) s') l b N r I)
    (fin : (∀ j, j < N → r j = true) → ∀ s, I N s → R (.ok (.ret (.bool true))) s) (bad : ∀ j, j < N → r j = false → ∀ s, I (j + 1) s → R (.ok (.ret (.bool false))) s) {s : Shared} (h : I 0 s) :
    wpAny (model prog w) A.in1 (Builtin.«list.__eq__» ⟨[.ref l, .ref b], []⟩) (FinOf prog w A R) (fun e s' => R (.error e) s') s := by
  obtain ⟨xs, ys, n, n2, hl1, hb1, z1, z2, _⟩ := hl _ _ h
  have rest := loopB (A := A) (R := R) l b N r I hl fin bad _ 0 rfl (Nat.zero_le _) (fun j hj => absurd hj (by omega)) s h
  obtain ⟨hp, g, d, tk, os⟩ := s
  have sub := AutoSeq1.sub_list_list
  have same : ¬ (xs.size != ys.size) = true := by simp [z1, z2]
  wp_walk using wpAny_loadPart' hl1, wpAny_loadPart' hb1
  exact ⟨plainId_quiet plain_eq_loop _, codeAny_builtin entry_eq_loop (by rw [Around.under_plainId plain_eq_loop _] <;> exact rest)⟩
theorem rcB {l b : Addr} {N : Nat} {Q : Value → Shared → Prop} {s : Shared} (hu : A.units < cLine) (r : Nat → Bool) (I : Nat → Shared → Prop) (hl : ListB prog w A E l b N r I)
    (fin : (∀ j, j < N → r j = true) → ∀ s, I N s → Q (.bool true) s) (bad : ∀ j, j < N → r j = false → ∀ s, I (j + 1) s → Q (.bool false) s) (h : I 0 s) : wpAny (model prog w) A (richCompare .Eq (.ref l) (.ref b)) Q E s := by
  obtain ⟨xs, ys, n, n2, hl1, hb1, _, _, _⟩ := hl _ _ h
  refine wpAny_richCompare_same_room (op := .Eq) ⟨_, hl1, rfl⟩ ⟨_, hb1, rfl⟩ F.slot_list_eq (call_here F.slot_list_eq ⟨_, hl1, rfl⟩ F.entry_list_eq (F.args_list_eq_2 _ _) ?_) hu
  exact listB (R := wants (fun v s' => v ≠ .notImplemented ∧ Q v s') E) l b N r I hl (fun a s' q => ⟨(fun x => nomatch x), fin a s' q⟩) (fun j a b s' q => ⟨(fun x => nomatch x), bad j a b s' q⟩) h
end
/-- == gives what D says, and only makes objects -/
def EqB (X : Cx) (n : Nat) (D : V → V → Hp → Bool → Prop) : Prop :=
  ∀ (A : Around) (pins : List (Addr × Obj)) (s : Shared) (σ : L2.St) (H : Hp) (x y : V) (u v : Value) (b : Bool), Sub X n A → Inv X pins σ H s → RelV x u → RelV y v → D x y H b →
    wpAny (model X.prog X.w) A (eqBool u v) (fun r s' => r = b ∧ ∃ H', Inv X pins σ H' s' ∧ Ext H H') X.xe s
theorem EqB.eqG {X : Cx} {n : Nat} {D : V → V → Hp → Bool → Prop} (h : EqB X n D) : EqG X n (fun x y H => D x y H true) := fun A pins s σ H x y u v sb I rx ry d => h A pins s σ H x y u v true sb I rx ry d
/-- x == y of two lists of the same length -/
def rEqB (D : V → V → Hp → Bool → Prop) : R2 := fun x y H Q => ∃ a b xs ys, x = .ref a ∧ y = .ref b ∧ H a = some (.lst xs) ∧ H b = some (.lst ys) ∧ xs.length = ys.length ∧ ∃ r : Nat → Bool,
  (∀ (i : Nat) x y, xs[i]? = some x → ys[i]? = some y → D x y H (r i)) ∧ ∀ H' c, Ext H H' → (c = true ↔ ∀ j, j < xs.length → r j = true) → Q (.bl c) H'
theorem op_eqB {X : Cx} {n : Nat} {D : V → V → Hp → Bool → Prop} (hD : ∀ x y H H' b, Ext H H' → D x y H b → D x y H' b) (h : EqB X n D) (hr : Room (n + 1) X.A) : OpR X (compareOp .Eq) (rEqB D) := by
  intro pins s σ H x y v u Q I rx ry hq
  obtain ⟨a, b, xs, ys, rfl, rfl, ha, hb, len, r, p, q⟩ := hq
  cases rx
  cases ry
  have sb : Sub X (n + 1) X.A := ⟨hr, rfl⟩
  show wpAny (model X.prog X.w) X.A (richCompare .Eq (.ref a) (.ref b)) (EP X pins σ Q) X.xe s
  refine rcB (N := xs.length) hr.units0 r (fun _ s' => LoopI X pins σ H s') (fun i s' z => ?_) (fun al s' ⟨H', I', e⟩ => ⟨.bl true, H', I', rfl, q H' true e ⟨fun _ => al, fun _ => rfl⟩⟩)
    (fun j hj rj s' ⟨H', I', e⟩ => ⟨.bl false, H', I', rfl, q H' false e ⟨fun z => (nomatch z), fun al => by rw [al j hj] at rj; cases rj⟩⟩) ⟨H, I, Ext.rfl'⟩
  obtain ⟨H1, I1, e1⟩ := id z
  obtain ⟨zz, its, k, rr, e⟩ := I1.hok a _ (e1 _ _ ha)
  obtain ⟨zz2, its2, k2, rr2, e2⟩ := I1.hok b _ (e1 _ _ hb)
  refine ⟨its.toArray, its2.toArray, k, k2, e, e2, by rw [List.size_toArray, ← rr.length], by rw [List.size_toArray, ← rr2.length, ← len], fun h1 h2 => ?_⟩
  have g1 : its[i]? = some its.toArray[i] := by
    have h1' : i < its.length := by simpa using h1
    rw [List.getElem?_eq_getElem h1'] <;> simp
  have g2 : its2[i]? = some its2.toArray[i] := by
    have h2' : i < its2.length := by simpa using h2
    rw [List.getElem?_eq_getElem h2'] <;> simp
  have k1 : i < xs.length := by rw [rr.length]; simpa using h1
  have k3 : i < ys.length := by rw [rr2.length]; simpa using h2
  obtain ⟨u, hu, ru⟩ := rr.get (List.getElem?_eq_getElem k1)
  obtain ⟨v, hv, rv⟩ := rr2.get (List.getElem?_eq_getElem k3)
  rw [g1] at hu
  rw [g2] at hv
  rw [Option.some.inj hu, Option.some.inj hv]
  refine wpAny_mono (h X.A.in1 pins s' σ H1 _ _ u v _ sb.in1 I1 ru rv (hD _ _ _ _ _ e1 (p i _ _ (List.getElem?_eq_getElem k1) (List.getElem?_eq_getElem k3)))) (fun r' s2 q' => ?_) fun _ _ x => x
  obtain ⟨hr', H2, I2, e2'⟩ := q'
  exact ⟨hr', H2, I2, e1.trans e2'⟩
end OwnNe
end

-- GivErr
section
set_option Elab.async false
set_option linter.all false
set_option maxRecDepth 100000
set_option maxHeartbeats 2000000
/-! An own error class, over any of three built-in ones, that keeps its one argument in the field `given`. -/
namespace PySem
namespace Giv
open PySem.W PySem.Calls PyProof.Rows PySem.HandSPX Builtin Builtin.ObjectAttr
/-- own classes, then the given tail -/
def tailIs (bt : List Value) : List Value → Bool
  | .ref _ :: r => tailIs bt r
  | l => l == bt
theorem tail_cases (bt : List Value) : ∀ l : List Value, tailIs bt l = true → (∃ c r, l = .ref c :: r ∧ tailIs bt r = true) ∨ l = bt := fun l e => by
  cases l with
  | nil => exact .inr (beq_iff_eq.mp e)
  | cons a r => cases a <;> first | exact .inl ⟨_, _, rfl, e⟩ | exact .inr (beq_iff_eq.mp e)
theorem tail_pass {bt : List Value} (hb : ∀ self, refuseLoop self "__setattr__" bt = pure ()) (self : Value) : ∀ l : List Value, tailIs bt l = true → refuseLoop self "__setattr__" l = pure () := fun l => by
  induction l with
  | nil => intro e; rcases tail_cases bt _ e with ⟨_, _, q, _⟩ | q; cases q; rw [q]; exact hb self
  | cons a r ih =>
    intro e
    rcases tail_cases bt (a :: r) e with ⟨c, r', q, h⟩ | q
    · cases q; rw [refuseLoop_ref]; exact ih h
    · rw [q]; exact hb self
theorem tail_has {bt : List Value} (Y : String) : ∀ l : List Value, tailIs bt l = true → l.contains (.type Y) = bt.contains (.type Y) := fun l => by
  induction l with
  | nil => intro e; rcases tail_cases bt _ e with ⟨_, _, q, _⟩ | q; cases q; rw [q]
  | cons a r ih =>
    intro e
    rcases tail_cases bt (a :: r) e with ⟨c, r', q, h⟩ | q
    · cases q; rw [List.contains_cons, ih h]; rfl
    · rw [q]
/-- what is used of the built-in base -/
structure BaseOk (B newId initId : String) (bt : List Value) : Prop where
  facts : ExcBaseFacts B newId initId bt
  pass : ∀ self, refuseLoop self "__setattr__" bt = pure ()
  obj : bt.contains (.type "object") = true
theorem ok_VE : BaseOk "ValueError" "ValueError.__new__" "ValueError.__init__" [.type "ValueError", .type "Exception", .type "BaseException", .type "object"] :=
  ⟨F.excBase_ValueError, fun self => F.store_ValueError.passes self, by decide +kernel⟩
theorem ok_ZD : BaseOk "ZeroDivisionError" "ZeroDivisionError.__new__" "ZeroDivisionError.__init__" [.type "ZeroDivisionError", .type "ArithmeticError", .type "Exception", .type "BaseException", .type "object"] :=
  ⟨F.excBase_ZeroDivisionError, fun self => F.store_ZeroDivisionError.passes self, by decide +kernel⟩

section
variable {prog : Program} {w : World} {A : Around} {E : Value → Shared → Prop} {R : Result → Shared → Prop} {hp : Heap} {g : Array GenState} {d : Drawn} {t : Nat} {os : OsState}
/-- self.name = v on a new exception -/
theorem osa_giv {K : W.Frag} {name : Str} {tk : Tok} {v : Value} {x C : Addr} {fv : Array Value} {cd : ClassData} {bt bm : List Value} (hb : ∀ self, refuseLoop self "__setattr__" bt = pure ()) (hbo : bt.contains (.type "object") = true)
    (Y : K.In hp) (hx : hp.get? x = some { cls := .ref C, data := .fields fv }) (hcd : W.clsIn K C = some cd) (hm : cd.mro = .ref C :: bm) (htl : tailIs bt bm = true) (hh : cd.hasDict = true) (hno : W.findIn K (.ref C) name = some none)
    (fin : ∀ h' tk' dx, (∀ b o, b ≠ x → hp.get? b = some o → h'.get? b = some o) → hp.objs.size ≤ dx → dx ≠ x → h'.get? x = some { cls := .ref C, dict := some dx, data := .fields fv } →
      h'.Ns1 dx (fun y => if y = name then some v else none) → R (.ok (.ret .none)) ⟨h', g, d, tk', os⟩) :
    codeAny (model prog w) A (.call (.builtin "object.__setattr__") ⟨[.ref x, .str name tk, v], []⟩) R ⟨hp, g, d, t, os⟩ := by
  have J : W.InstAt hp x { cls := .ref C, data := .fields fv } C none := ⟨hx, rfl, rfl, trivial⟩
  have SO := F.store_object
  have htail : tailIs bt cd.mro = true := by rw [hm]; exact htl
  have hob2 : cd.mro.contains (.type "object") = true := by rw [tail_has "object" _ htail]; exact hbo
  have hemp : cd.mro.isEmpty = false := by rw [hm]; rfl
  have apart : x ≠ hp.objs.size := Nat.ne_of_lt (Heap.lt_size hx)
  have Lsub : W.Looks (model prog w) hp (isInstance (.ref x) (.type "object")) true :=
    J.type.andThen (W.looks_mroIn Y (by unfold W.mroIn; rw [hcd, Option.bind_some, if_neg (by rw [hemp]; decide), hob2]))
  refine codeAny_call_builtin SO.slot.plain SO.entry (@W.check_slot (model prog w) _ _ ⟨hp, g, d, t, os⟩ "object.__setattr__" "object" "__setattr__" (.ref x)
    [.str name tk, v] [] _ SO.kind SO.split Lsub (SO.args (.ref x) (.str name tk) v) ?_)
  have Lmro : W.Looks (model prog w) hp (mroOf (.ref C)) cd.mro := (W.looks_clsIn Y hcd).andThen .now
  have Lno : W.Looks (model prog w) hp (storeTaker? none) none := .now
  have Lcd : W.Looks (model prog w) hp (classData C) cd := W.looks_clsIn Y hcd
  rw [W.osa_eq, refuse_eq]
  refine wpAny_bind (wpAny_bind (J.type.at (wpAny_bind (Lmro.at ?_))))
  rw [tail_pass hb _ _ htail]
  refine wpAny_pure (wpAny_bind (J.type.at (wpAny_bind ((W.looks_findIn Y hno).at (wpAny_bind (Lno.at ?_))))))
  show wpAny _ _ (storeInOwnDict (.ref x) (.ref C) (.str name tk) name v false) _ _ _
  obtain ⟨c1, c2, c3, c4, c5, c6, c7, c8, c9, c10, c11⟩ := cd
  dsimp only at hh
  subst hh
  unfold storeInOwnDict ownDictForStores
  repeat (first | (with_reducible refine store_in_new ?_ ?_) | (with_reducible refine wpAny_loadPart_at hx ?_) | (with_reducible refine Lcd.at ?_) | wp_step)
  · exact ⟨_, #[], _, (Heap.get?_update_ne _ _ _ _ apart.symm).trans (Heap.get?_push_at rfl rfl), rfl, fun e he => absurd he (by simp), fun _ => rfl⟩
  · intro h' tk' hn' hs
    have hx1 : (hp.push { cls := .type "dict", data := .dict #[] }).get? x = some { cls := .ref C, data := .fields fv } := Heap.get?_push_of_some _ hx
    refine fin h' tk' hp.objs.size (fun b o hb ho => ?_) (Nat.le_refl _) apart.symm ?_ hn'
    · exact (hs.2 b (Nat.ne_of_lt (Heap.lt_size ho))).trans ((Heap.get?_update_ne _ _ _ _ hb).trans (Heap.get?_push_of_some _ ho))
    · exact (hs.2 x apart).trans (Heap.get?_update_self _ hx1 rfl)
end

/-! ### the text of __init__ -/
def gA (p1 p2 : Pos) : Arguments := { posonlyargs := [], args := [{ arg := "self", annotation := none, pos := p1 }, { arg := "given", annotation := none, pos := p2 }], vararg := none, kwonlyargs := [], kw_defaults := [], kwarg := none, defaults := [] }
def gB (q1 q2 q3 q4 : Pos) : List Stmt := [.Assign [.Attribute (.Name "self" q1) "given" q2] (.Name "given" q3) q4]
def gS : Scope := { kind := .function, names := [(PySem.Str.ofString "self", .local), (PySem.Str.ofString "given", .local)], isGenerator := false, isCoroutine := false, more := [] }
/-- what the written part says of the class called cn, at C, and of its __init__, at fI -/
structure ErrTxt (K : Frag) (mg : Str → Option Value) (cn qn : Str) (newId : String) (bt : List Value) (C fI : Addr) : Prop where
  gC : mg cn = some (.ref C)
  cls : ∃ nm q N bs bm sn sub ab col dd k0 k1 k2 k3 k5, K.lookup C = some (excClassObj nm q C N bs bm true sn sub ab col dd k0 k1 k2 k3 k5 newId) ∧ tailIs bt bm = true
  sa : findIn K (.ref C) "__setattr__" = some (some (.builtin "object.__setattr__"))
  ga : findIn K (.ref C) "__getattribute__" = some (some (.builtin "BaseException.__getattribute__"))
  gg : findIn K (.ref C) "__getattr__" = some none
  noN : findIn K (.ref C) "given" = some none
  iC : findIn K (.ref C) "__init__" = some (some (.ref fI))
  tC : typeIn K (.ref fI) = some (.type "function")
  kC : keepIn K (.ref C) = true
  exC : subIn K (.ref C) (.type "BaseException") = some true
  tyC : typeIn K (.ref C) = some (.type "type")
  hdC : hasDictIn K C = true
  te : exmOne K (.ref C) (.ref C) = some true
  fn : ∃ (oc : Value) (od : Option Addr) (doc pm : Value) (an : Option Addr) (cdv ct : Value) (osl : Array (Option Value)) (p1 p2 q1 q2 q3 q4 : Pos),
    K.lookup fI = some ⟨oc, od, .func (fnOf "__init__" qn (gA p1 p2) (gB q1 q2 q3 q4) gS .none .none doc pm an cdv ct), osl⟩ ∧ codeIn K cdv qn = true
theorem one_fits (v : Value) : [v].length ≤ sizeLine := by
  rw [sizeLine_eq]
  exact (by decide : 1 ≤ 16777216)
theorem ldG {M : Model} {s : Shared} {name : Str} {scope : Scope} {L a : Addr} {cd : Value} {m : Str → Option Value} {x : Str} {pos : Pos} {v : Value} {Q : Value → Shared → Prop} {A : Around} {E : Value → Shared → Prop} (hn : s.heap.Ns L m) (hv : m x = some v) (h : Q v s)
    (hk : scope.kind = .function := by rfl) (hl : (envOfC name scope L a cd).kindOf x = some .local := by rfl) (hd : (x == ("__debug__" : Str)) = false := by decide) :
    wpAny M A (eval (.Name x pos) (envOfC name scope L a cd)) Q E s := wpAny_Name (wpAny_loadName_local hk hl hn hv h) hd
/-- what __init__ leaves -/
structure GivEnd (h h' : Heap) (x C dx t1 : Addr) (v : Value) : Prop where
  keep : ∀ b o, b ≠ x → h.get? b = some o → h'.get? b = some o
  obj : h'.get? x = some { cls := .ref C, dict := some dx, data := .fields #[.ref t1, .none, .none, .none, .bool false, .none] }
  dbig : h.objs.size ≤ dx
  dne : dx ≠ x
  ns : h'.Ns1 dx (fun y => if y = "given" then some v else none)
/-- a made one -/
structure GivMade (h h' : Heap) (e C d : Addr) (v : Value) : Prop where
  keep : ∀ b o, h.get? b = some o → h'.get? b = some o
  new : h.objs.size ≤ e
  obj : ∃ oe vs, h'.get? e = some oe ∧ oe.cls = .ref C ∧ oe.dict = some d ∧ oe.data = .fields vs ∧ vs[1]? = some .none
  dbig : h.objs.size ≤ d
  dne : d ≠ e
  ns : h'.Ns1 d (fun y => if y = "given" then some v else none)
section
variable {prog : Program} {w : World} {A : Around} {E : Value → Shared → Prop} {R : Result → Shared → Prop} {s : Shared} {K : Frag} {mg : Str → Option Value} {C fI : Addr} {cn qn : Str} {B newId initId : String} {bt : List Value}
theorem giv_init (Z : BaseOk B newId initId bt) (T : ErrTxt K mg cn qn newId bt C fI) {x t0 : Addr} {v : Value} (X : K.In s.heap) (hlim : s.heap.NoLimit) (hx : s.heap.get? x = some (excO C t0)) (hroom : A.depth < recursionLimit)
    (hq : ∀ h' tk dx, GivEnd s.heap h' x C dx t0 v → R (.ok (.ret .none)) { s with heap := h', toks := tk }) :
    codeAny (model prog w) A (.call (.ref fI) ⟨[.ref x, v], []⟩) R s := by
  obtain ⟨oc, od, doc, pm, an, cdv, ct, osl, p1, p2, q1, q2, q3, q4, ho, hcd⟩ := T.fn
  obtain ⟨nm, q, N, bs, bm, sn, sub, ab, col, dd, k0, k1, k2, k3, k5, hC, hbm⟩ := T.cls
  have hcl : clsIn K C = some { name := nm, bases := bs, mro := .ref C :: bm, ns := N, qualname := q, hasDict := true, slotNames := sn, subclasses := sub, abstract := ab, collection := col, hasDel := false } := by unfold clsIn; rw [hC] <;> rfl
  refine Att.call_fn (binds := [("self", .ref x), ("given", v)]) X hlim ho hcd hroom (BindsTo.of_eq (by first | rfl | with_unfolding_all rfl)) (by first | rfl | decide | with_unfolding_all rfl) (fun s₁ IC => ?_) rfl rfl rfl
  obtain ⟨h₁, tk₁, rfl⟩ := IC.toInCall.same
  have k : ∀ b o, s.heap.get? b = some o → h₁.get? b = some o := IC.toInCall.keep
  have hn := IC.toInCall.ns
  have X₁ : K.In h₁ := X.keeps k
  have hx₁ := k _ _ hx
  show wpAny _ _ (execs _ _) _ _ _
  refine wpAny_execs_cons (plainObj_wpAny_Assign_Attribute ?_)
  refine ldG (v := v) hn (by first | rfl | with_unfolding_all rfl | kernel_rfl) (ldG (v := .ref x) hn (by first | rfl | with_unfolding_all rfl | kernel_rfl) ?_)
  refine set_plain X₁ (ox := excO C t0) (od := none) ⟨hx₁, rfl, rfl, trivial⟩ T.sa ?_
  refine osa_giv Z.pass Z.obj X₁ hx₁ hcl rfl hbm rfl T.noN (fun h₃ tk₃ dx k₃ dn dne hx₃ hn₃ => ?_)
  show wpAny _ _ (execs _ _) _ _ _
  have z : s.heap.objs.size < h₁.objs.size := hn.lt
  exact wpAny_execs_nil (hq h₃ tk₃ dx ⟨fun b o hb e => k₃ b o hb (k b o e), hx₃, Nat.le_of_lt (Nat.lt_of_lt_of_le z dn), dne, hn₃⟩)
theorem giv_made (Z : BaseOk B newId initId bt) (T : ErrTxt K mg cn qn newId bt C fI) {v : Value} (X : K.In s.heap) (hlim : s.heap.NoLimit) (hroom : A.depth + 1 < recursionLimit)
    (hq : ∀ h' tk e d, GivMade s.heap h' e C d v → R (.ok (.ret (.ref e))) { s with heap := h', toks := tk }) :
    codeAny (model prog w) A (.call (.ref C) ⟨[v], []⟩) R s := by
  obtain ⟨nm, q, N, bs, bm, sn, sub, ab, col, dd, k0, k1, k2, k3, k5, hC, hbm⟩ := T.cls
  obtain ⟨hp, g, dr, tk, os⟩ := s
  have k : ∀ b o, hp.get? b = some o → ((hp.push (kdv_tup [v])).push (excO C hp.objs.size)).get? b = some o := fun b o e => Heap.get?_push_of_some _ (Heap.get?_push_of_some _ e)
  have hget : ((hp.push (kdv_tup [v])).push (excO C hp.objs.size)).get? (hp.objs.size + 1) = some (excO C hp.objs.size) := by heap_get
  refine call_own Z.facts (fun X => tail_has X bm hbm) (X _ _ hC) (looks_findIn X T.iC) (fun self => bind_fn X self T.tC) (one_fits v) ?_
  refine giv_init (s := ⟨(hp.push (kdv_tup [v])).push (excO C hp.objs.size), g, dr, tk, os⟩) Z T (X.keeps k) (hlim.keeps k) hget ?_ fun h' tk' dx ⟨k', hx, dn, dne, hns⟩ => ?_
  · show A.depth + 1 < recursionLimit
    exact hroom
  · have old : ∀ b o, hp.get? b = some o → h'.get? b = some o := fun b o e => k' b o (Nat.ne_of_lt (Nat.lt_succ_of_lt (Heap.lt_size e))) (k b o e)
    have z : hp.objs.size + 1 + 1 ≤ dx := by
      first
        | (simpa only [Heap.size_push] using dn)
        | exact dn
        | (have q := dn; rw [Heap.size_push, Heap.size_push] at q; exact q)
    exact ⟨rfl, hq h' tk' (hp.objs.size + 1) dx ⟨old, Nat.le_succ _, ⟨_, _, hx, rfl, rfl, rfl, rfl⟩, Nat.le_trans (Nat.le_trans (Nat.le_succ _) (Nat.le_succ _)) z, dne, hns⟩⟩
end
end Giv
end PySem
end

-- GivErr2
section
set_option Elab.async false
set_option linter.all false
set_option maxRecDepth 100000
set_option maxHeartbeats 2000000
namespace L2
open PySem PySem.Spec PyProof.Rows
theorem relO_giv {v : V} {v' : Value} (r : RelV v v') (f : Str) : RelO (List.lookup f [(("given" : Str), v)]) (if f = "given" then some v' else none) := by
  by_cases hw : f = "given"
  · subst hw
    rw [if_pos rfl]
    have q : List.lookup ("given" : Str) [(("given" : Str), v)] = some v := by simp [List.lookup]
    rw [q]
    exact r
  · rw [if_neg hw]
    have qw : (f == ("given" : Str)) = false := by simpa using hw
    have q2 : List.lookup f [(("given" : Str), v)] = none := by simp [List.lookup, qw]
    rw [q2]
    trivial
section
variable {X : Cx} {C fI : Addr} {cn qn : Str} {B newId initId : String} {bt : List Value}
/-- Err(e) -/
def tMkGiv (C : Addr) (ta : TA) : L2.St → Hp → XK → Prop := fun σ H Q => ta σ H fun vs H1 => ∃ v, vs = [v] ∧ ∀ d, H1 d = none → Q (.ref C) (some d) (upd H1 d (.xd [(("given" : Str), v)]))
theorem pmk_giv {a : Expr} {ta : TA} {p pos : Pos} {k : Nat} (Z : PySem.Giv.BaseOk B newId initId bt) (T : PySem.Giv.ErrTxt X.K X.mg cn qn newId bt C fI) (hr : Room k X.A) (ha : PA X [a] ta) (hg : Gl X cn) (hdb : (cn == ("__debug__" : Str)) = false)
    (he : starEach (a :: []) X.env = (false, eval a X.env) :: starEach [] X.env := by rfl) (hpl : (backTo pos (starEach [] X.env)).any (·.1) = false := by rfl) :
    PMk X (.Call (.Name cn p) [a] [] pos) (tMkGiv C ta) := by
  intro pins s σ H Q I h
  refine wpAny_Call_Name_kw (ld_glob I hg T.gC ?_ hdb)
  refine PySem.W.callWith_K (h₀ := X.base) I.ok.mod.kin T.kC (thn (ha.run pos pins s σ H _ I h) fun us s1 hh => ?_) he hpl
  obtain ⟨vs, H1, I1, r1, v, ev, q1⟩ := hh
  subst ev
  refine ⟨I1.kIn, ?_⟩
  cases r1 with
  | cons rv rn =>
    rename_i v' us'
    cases rn
    show wpAny _ _ (call (.ref C) [v']) _ _ _
    have hlim := I1.nolimit
    obtain ⟨hp, g, dr, tk, os⟩ := s1
    refine wpAny_call (PySem.Giv.giv_made Z T I1.kIn hlim (by have := hr.dp; omega) fun h' tk' e d M => ?_)
    show MkP X pins σ Q (.ref e) ⟨h', g, dr, tk', os⟩
    obtain ⟨oe, fv, hoe, hc, hd, hdat, h1⟩ := M.obj
    have hns := M.ns
    obtain ⟨G', g1, g2⟩ := restrict h' fun b => decide (b ≠ e)
    have gk : ∀ b, b ≠ e → G'.get? b = h'.get? b := fun b hb => g1 b (decide_eq_true hb)
    have ge : G'.get? e = none := g2 e (by simp)
    have old : ∀ b o, hp.get? b = some o → G'.get? b = some o := fun b o q => (gk b (Nat.ne_of_lt (Nat.lt_of_lt_of_le (Heap.lt_size q) M.new))).trans (M.keep b o q)
    have ob : ObjOk X.prog X.w (upd H1 d (.xd [(("given" : Str), v)])) G' d (.xd [(("given" : Str), v)]) :=
      ⟨_, hns.at (fun o q => (gk d M.dne).trans q), fun f => relO_giv rv f⟩
    have J : L2.Inv X pins σ (upd H1 d (.xd [(("given" : Str), v)])) ⟨G', g, dr, tk', os⟩ := I1.laid (t' := tk') old M.dbig ob
    refine ⟨e, oe, fv, ⟨G', g, dr, tk', os⟩, _, .ref C, some d, rfl, J, fun b o q => ?_, ge, hoe, ⟨hc, hd⟩, hdat, h1, ?_, rfl, I1.bare, raises_own T.exC T.tyC, q1 d (I1.hok.fresh M.dbig)⟩
    · by_cases hb : b = e
      · have q' : G'.get? b = some o := q
        rw [hb, ge] at q'; cases q'
      · exact (gk b hb).symm.trans q
    · rw [upd_ne (Ne.symm M.dne)]
      exact I1.hok.fresh M.new
/-- raise Err(e) -/
def tRaiseGiv (C : Addr) (W : WX) (ta : TA) : TS := fun _ σ H => tMkGiv C ta σ H fun cls d H' => W cls d σ H'
theorem ps_raiseGiv {a : Expr} {ta : TA} {W : WX} {p pos pos2 : Pos} {k : Nat} (hc : X.calm = true) (Z : PySem.Giv.BaseOk B newId initId bt) (T : PySem.Giv.ErrTxt X.K X.mg cn qn newId bt C fI) (hr : Room k X.A) (tk : Takes X W) (ha : PA X [a] ta) (hg : Gl X cn) (hdb : (cn == ("__debug__" : Str)) = false := by decide)
    (he : starEach (a :: []) X.env = (false, eval a X.env) :: starEach [] X.env := by rfl) (hpl : (backTo pos (starEach [] X.env)).any (·.1) = false := by rfl) :
    PS X (.Raise (some (.Call (.Name cn p) [a] [] pos)) none pos2) (tRaiseGiv C W ta) := ps_raise hc tk (pmk_giv Z T hr ha hg hdb he hpl)
/-- err.given, err the exception that the suite holds (at a; its class cls, its dict d) -/
def tByGiv (C : Addr) (a : Addr) (cls : Value) (d : Option Addr) (te : TE) : TE := fun σ H Q => te σ H fun x H1 => x = .ref a ∧ cls = .ref C ∧ ∃ (dd : Addr) (v : V), d = some dd ∧ H1 dd = some (.xd [(("given" : Str), v)]) ∧ Q v H1
theorem pe_byGiv {a : Addr} {oe : Obj} {cls : Value} {d : Option Addr} {pn : List (Addr × Obj)} {e : Expr} {te : TE} {pos : Pos} (T : PySem.Giv.ErrTxt X.K X.mg cn qn newId bt C fI) (hz : Zc cls d oe) (hf : ∃ vs, oe.data = .fields vs) (he : PE (X.suite a ((a, oe) :: pn)) e te)
    (hb : attributeBase e "given" X.env (eval e X.env) = eval e X.env := by rfl) :
    PE (X.suite a ((a, oe) :: pn)) (.Attribute e "given" pos) (tByGiv C a cls d te) := by
  refine ⟨fun pins s σ H Q I h => ?_⟩
  refine attr_of hb (thn (he.run pins s σ H _ I h) fun u s1 hh => ?_)
  obtain ⟨x, H1, I1, rx, ex, ec, dd, v, ed, ea, q⟩ := hh
  subst ex
  obtain rfl : u = Value.ref a := rx
  subst ec
  subst ed
  obtain ⟨ha, _⟩ := I1.pin (a, oe) (List.mem_append_left _ List.mem_cons_self)
  obtain ⟨vs, hd⟩ := hf
  have hx : ObjOk X.prog X.w H1 s1.heap dd (.xd [(("given" : Str), v)]) := I1.hok dd _ ea
  obtain ⟨mA, hns, hr⟩ := hx
  obtain ⟨od, ho, hl⟩ := lookIn_ns hns
  have l : List.lookup ("given" : Str) [(("given" : Str), v)] = some v := by simp [List.lookup]
  obtain ⟨u, hu, ru⟩ := RelO.some_of (v := v) (o := mA "given") (by rw [← l]; exact hr "given")
  have J : PySem.W.InstAt s1.heap a oe C (some od) := ⟨ha, hz.1, by unfold PySem.W.notCls; rw [hd] <;> rfl, by rw [hz.2]; exact ho⟩
  exact HandSPX.exc_get I1.kIn J T.ga T.gg T.exC (PySem.W.findObj_own T.hdC T.noN rfl (by rw [hl, hu])) (handed_of ru) ⟨v, H1, I1.tok _, ru, q⟩
end
end L2
end

-- ErrVal
section
set_option Elab.async false
set_option linter.all false
set_option maxRecDepth 100000
set_option maxHeartbeats 2000000
/-! An own error with the field `given`, held as a value. -/
namespace L2
open PySem PySem.Spec PyProof.Rows
/-- an error of the class cls at e, its dict at d -/
def ExG (cls : Value) (e d : Addr) : HO := .ext fun h => ∃ (oe : Obj) (vs : Array Value), h.get? e = some oe ∧ Zc cls (some d) oe ∧ oe.data = .fields vs ∧ vs[1]? = some .none
section
variable {X : Cx} {C fI : Addr} {cn qn : Str} {B newId initId : String} {bt : List Value}
/-- Err(x), as a value -/
theorem pe_mkGiv {a : Expr} {ta : TA} {p pos : Pos} {k : Nat} (Z : PySem.Giv.BaseOk B newId initId bt) (T : PySem.Giv.ErrTxt X.K X.mg cn qn newId bt C fI) (hr : Room k X.A) (ha : PA X [a] ta) (hg : Gl X cn) (hdb : (cn == ("__debug__" : Str)) = false := by decide)
    (he : starEach (a :: []) X.env = (false, eval a X.env) :: starEach [] X.env := by rfl) (hpl : (backTo pos (starEach [] X.env)).any (·.1) = false := by rfl) :
    PE X (.Call (.Name cn p) [a] [] pos) (fun σ H Q => ta σ H fun vs H1 => ∃ v, vs = [v] ∧ ∀ e d, H1 e = none → H1 d = none → d ≠ e → Q (.ref e) (upd (upd H1 d (.xd [(("given" : Str), v)])) e (ExG (.ref C) e d))) := by
  refine ⟨fun pins s σ H Q I h => ?_⟩
  refine wpAny_Call_Name_kw (ld_glob I hg T.gC ?_ hdb)
  refine PySem.W.callWith_K (h₀ := X.base) I.ok.mod.kin T.kC (thn (ha.run pos pins s σ H _ I h) fun us s1 hh => ?_) he hpl
  obtain ⟨vs, H1, I1, r1, v, ev, q1⟩ := hh
  subst ev
  refine ⟨I1.kIn, ?_⟩
  cases r1 with
  | cons rv rn =>
    rename_i v' us'
    cases rn
    show wpAny _ _ (call (.ref C) [v']) _ _ _
    have hlim := I1.nolimit
    obtain ⟨hp, g, dr, tk, os⟩ := s1
    refine wpAny_call (PySem.Giv.giv_made Z T I1.kIn hlim (by have := hr.dp; omega) fun h' tk' e d M => ?_)
    show EP X pins σ Q (.ref e) ⟨h', g, dr, tk', os⟩
    obtain ⟨oe, fv, hoe, hc, hd, hdat, h1⟩ := M.obj
    have hns := M.ns
    obtain ⟨G', g1, g2⟩ := restrict h' fun b => decide (b ≠ e)
    have gk : ∀ b, b ≠ e → G'.get? b = h'.get? b := fun b hb => g1 b (decide_eq_true hb)
    have ge : G'.get? e = none := g2 e (by simp)
    have old : ∀ b o, hp.get? b = some o → G'.get? b = some o := fun b o q => (gk b (Nat.ne_of_lt (Nat.lt_of_lt_of_le (Heap.lt_size q) M.new))).trans (M.keep b o q)
    have ob : ObjOk X.prog X.w (upd H1 d (.xd [(("given" : Str), v)])) G' d (.xd [(("given" : Str), v)]) :=
      ⟨_, hns.at (fun o q => (gk d M.dne).trans q), fun f => relO_giv rv f⟩
    have J : L2.Inv X pins σ (upd H1 d (.xd [(("given" : Str), v)])) ⟨G', g, dr, tk', os⟩ := I1.laid (t' := tk') old M.dbig ob
    have en : (upd H1 d (.xd [(("given" : Str), v)])) e = none := by
      rw [upd_ne (Ne.symm M.dne)]
      exact I1.hok.fresh M.new
    have J2 : L2.Inv X pins σ (upd (upd H1 d (.xd [(("given" : Str), v)])) e (ExG (.ref C) e d)) ⟨h', g, dr, tk', os⟩ := J.laidN (t' := tk') (fun b o q => by
      by_cases hb : b = e
      · rw [hb, ge] at q; cases q
      · exact (gk b hb).symm.trans q) ge en ⟨⟨oe, fv, hoe, ⟨hc, hd⟩, hdat, h1⟩, ⟨oe, hoe⟩, fun _ _ ⟨o, u, q, r⟩ k => ⟨o, u, k o q, r⟩⟩
    exact ⟨.ref e, _, J2, rfl, q1 e d (I1.hok.fresh M.new) (I1.hok.fresh M.dbig) M.dne⟩
/-- err.given, err an error held as a value -/
theorem pe_givVal {e : Expr} {te : TE} {pos : Pos} (T : PySem.Giv.ErrTxt X.K X.mg cn qn newId bt C fI) (he : PE X e te) (hb : attributeBase e "given" X.env (eval e X.env) = eval e X.env := by rfl) :
    PE X (.Attribute e "given" pos) (fun σ H Q => te σ H fun x H1 => ∃ a d v, x = .ref a ∧ H1 a = some (ExG (.ref C) a d) ∧ H1 d = some (.xd [(("given" : Str), v)]) ∧ Q v H1) := by
  refine ⟨fun pins s σ H Q I h => ?_⟩
  refine attr_of hb (thn (he.run pins s σ H _ I h) fun u s1 hh => ?_)
  obtain ⟨x, H1, I1, rx, a, d, v, ex, ea, ed, q⟩ := hh
  subst ex
  obtain rfl : u = Value.ref a := rx
  obtain ⟨⟨oe, vs, ha, hz, hd, h1⟩, _, _⟩ := (show ObjOk X.prog X.w H1 s1.heap a (ExG (.ref C) a d) from I1.hok a _ ea)
  have hx : ObjOk X.prog X.w H1 s1.heap d (.xd [(("given" : Str), v)]) := I1.hok d _ ed
  obtain ⟨mA, hns, hr⟩ := hx
  obtain ⟨od, ho, hl⟩ := lookIn_ns hns
  have l : List.lookup ("given" : Str) [(("given" : Str), v)] = some v := by simp [List.lookup]
  obtain ⟨u, hu, ru⟩ := RelO.some_of (v := v) (o := mA "given") (by rw [← l]; exact hr "given")
  have J : PySem.W.InstAt s1.heap a oe C (some od) := ⟨ha, hz.1, by unfold PySem.W.notCls; rw [hd] <;> rfl, by rw [hz.2]; exact ho⟩
  exact HandSPX.exc_get I1.kIn J T.ga T.gg T.exC (PySem.W.findObj_own T.hdC T.noN rfl (by rw [hl, hu])) (handed_of ru) ⟨v, H1, I1.tok _, ru, q⟩
end
end L2
end

-- ErrVal2
section
set_option Elab.async false
set_option linter.all false
set_option maxRecDepth 100000
/-! isinstance of an error held as a value. -/
namespace L2
open PySem PySem.Spec PyProof.Rows
/-- what is known of the error class at C for isinstance -/
structure KitG (K : PySem.W.Frag) (C : Addr) : Prop where
  ic : PySem.W.isClsIn K C = true
  ga : PySem.W.findIn K (.ref C) "__getattribute__" = some (some (.builtin "BaseException.__getattribute__"))
  gg : ∃ gt, PySem.W.findIn K (.ref C) "__getattr__" = some gt
  ex : PySem.W.subIn K (.ref C) (.type "BaseException") = some true
  ha : PySem.W.findIn K (.ref C) "__class__" = some (some (.builtin "object.__class__"))
  hn : PySem.W.specialIn K (.builtin "object.__class__") "__get__" = some (some (.builtin "getset_descriptor.__get__"))
  htk : PySem.W.takesIn K (.builtin "object.__class__") = some true
  hm : PySem.W.mroIn K C (.type "object") = some true
def rIsiG (K : PySem.W.Frag) : List V → Hp → VK → Prop := fun xs H Q => ∃ (a d C : Addr) (fs : List (Str × V)) (c : V) (u : Value) (b : Bool), xs = [.ref a, c] ∧ H a = some (ExG (.ref C) a d) ∧ H d = some (.xd fs) ∧ KitG K C ∧ ClsV c u ∧ PySem.W.kitOne K (.ref C) u = some b ∧ Q (.bl b) H
theorem call_isiG {X : Cx} : CallR X (.builtin "isinstance") (rIsiG X.K) := by
  intro pins s σ H xs us Q I r h
  obtain ⟨a, d, C, fs, c, u, b, rfl, ea, ed, G, k, e, q⟩ := h
  obtain ⟨u1, u2, rfl, r1, r2⟩ := vals2 r
  cases (show u1 = Value.ref a from r1)
  have e2 := k.eq r2
  subst e2
  obtain ⟨⟨oe, vs, ha, hz, hd, h1⟩, _, _⟩ := (show ObjOk X.prog X.w H s.heap a (ExG (.ref C) a d) from I.hok a _ ea)
  have hx : ObjOk X.prog X.w H s.heap d (.xd fs) := I.hok d _ ed
  obtain ⟨mA, hns, hr⟩ := hx
  obtain ⟨od, ho, hl⟩ := lookIn_ns hns
  have J : PySem.W.InstAt s.heap a oe C (some od) := ⟨ha, hz.1, by unfold PySem.W.notCls; rw [hd] <;> rfl, by rw [hz.2]; exact ho⟩
  obtain ⟨gt, hgt⟩ := G.gg
  exact PySem.W.kia_one (PySem.W.kitx_exc (ox := oe) (od := some od) G.ic G.ga hgt G.ex G.ha G.hn G.htk G.hm) I.kIn J e (fun z => nomatch z) fun tk => ⟨.bl b, H, I.tok tk, rfl, q⟩
end L2
end

-- TryAs
section
set_option Elab.async false
set_option linter.all false
set_option maxRecDepth 100000
/-! try: with several clauses «except X as n». -/
namespace TryAs
open PySem L2
/-- the ends of a clause's suite: slot i is emptied on every way out -/
def endsAs (D : Ends) (i : Nat) : Ends where
  nx := fun t K => D.nx (t.set i none) K
  rt := D.rt
  bk := fun t K => D.bk (t.set i none) K
  ct := fun t K => D.ct (t.set i none) K
abbrev Cl := Value × Nat × (Addr → Value → Option Addr → TS)
def wAll (K : PySem.W.Frag) (Wout : WX) (D : Ends) : List Cl → WX
  | [] => Wout
  | (c, i, ts) :: r => fun cls d σ H => ∃ b, PySem.W.exmOne K cls c = some b ∧
      (b = true → ∀ a, H a = none → ts a cls d (endsAs D i) (σ.set i (some (.ref a))) H) ∧ (b = false → wAll K Wout D r cls d σ H)
inductive Clauses (X : Cx) : List ExceptHandler → List Cl → Prop
  | nil : Clauses X [] []
  | cons {x n : Str} {c : Value} {i : Nat} {ts : Addr → Value → Option Addr → TS} {fst : Stmt} {suite : List Stmt} {np hpos : Pos} {hds : List ExceptHandler} {l : List Cl}
      (at_ : X.N[i]? = some n) (loc : X.env.kindOf n = some .local) (nam : Names X x c)
      (run : ∀ (a : Addr) (oe : Obj) (cls : Value) (d : Option Addr) (pn : List (Addr × Obj)), Zc cls d oe → (∃ vs, oe.data = .fields vs) → PSs (X.suite a ((a, oe) :: pn)) (fst :: suite) (ts a cls d))
      (more : Clauses X hds l) : Clauses X (.ExceptHandler (some (.Name x np)) (some n) (fst :: suite) hpos :: hds) ((c, i, ts) :: l)
section
variable {X : Cx} {body : List Stmt} {hd0 : ExceptHandler} {hds : List ExceptHandler} {l : List Cl} {pos : Pos} {tb : WX → TS} {Wout : WX}
theorem ps_try_all (stk : X.stack = X.env :: X.outer) (frm : X.env.frame = some X.env.locals) (nod : X.N.Nodup) (tk : Takes X Wout)
    (hb : ∀ (W : WX) (pn : List (Addr × Obj)) (xe : Value → Shared → Prop), Takes (X.tr pn xe) W → PassesOwn (model X.prog X.w) X.A X.env xe → PSs (X.tr pn xe) body (tb W))
    (cl : Clauses X (hd0 :: hds) l) : PS X (.Try body (hd0 :: hds) [] [] pos) (fun D σ H => tb (wAll X.K Wout D l) D σ H) := by
  constructor
  intro pins s σ H D I h
  have okX := I.ok
  have frs2 : X.A.frames = some (X.env :: X.outer) := by rw [okX.frames, stk]
  refine wpAny_Try_except ?_
  refine wpAny_mono ((hb (wAll X.K Wout D l) (X.pn ++ pins)
    (fun e s₁ => wpAny (model X.prog X.w) X.A (noteFrame e X.env)
      (fun _ s₂ => wpAny (model X.prog X.w) X.A (setFlight e none)
        (fun _ s₃ => wpAny (model X.prog X.w) X.A (handleBy e X.env (hd0 :: hds)) (SP X pins D) X.xe s₃) X.xe s₂) X.xe s₁)
    (fun u s' xx => ?_) PassesOwn.looking).run [] s σ H D (I.toTry _) h) (fun f s1 hsp => ?_) (fun e s1 he => he)
  · obtain ⟨a, B, sI, pins1, σ1, H1, cls, d, rfl, J0, nb, up, sky, na, os, ag, w⟩ := xx
    have J1 : L2.Inv X pins σ1 H1 sI := J0.ofTry okX
    have sky1 : Sky B (X.env :: X.outer) a (Zc cls d) X.env.locals s'.heap := by rw [← stk]; exact sky
    show wpAny (model X.prog X.w) X.A (noteFrame (.ref a) X.env) _ _ _
    refine Sky.land Zc.steady frs2 frm sky1 fun h3 fl3 up3 => ?_
    have J3 : L2.Inv X pins σ1 H1 { s' with heap := h3 } := J1.landed nb fl3.1 (up.trans up3) os ag
    obtain ⟨oe3, vs3, he3, hz3, hd3⟩ := fl3.there
    have apart : a ∉ frs (X.env :: X.outer) := fun hm => by
      obtain ⟨_, o', e', hnf⟩ := fl3.2.2.1.mem hm
      have q : some o' = some oe3 := e'.symm.trans he3
      cases q
      exact hnf _ hd3
    have notL : a ≠ X.env.locals := fun z => apart (List.mem_filterMap.mpr ⟨X.env, List.mem_cons_self, by rw [frm, z]⟩)
    have notF : a ∉ X.fs := fun hm => by
      obtain ⟨e, he, q⟩ := List.mem_filterMap.mp hm
      exact apart (List.mem_filterMap.mpr ⟨e, List.mem_cons_of_mem _ he, q⟩)
    have S3 := J3.suite he3 hd3 na notL notF
    have go : ∀ {hs2 : List ExceptHandler} {l2 : List Cl}, Clauses X hs2 l2 → wAll X.K Wout D l2 cls d σ1 H1 →
        wpAny (model X.prog X.w) X.A (handleBy (.ref a) X.env hs2) (SP X pins D) X.xe { s' with heap := h3 } := by
      intro hs2 l2 hk
      induction hk with
      | nil =>
        intro w
        refine wpAny_handleBy_nil ?_
        obtain ⟨k1, k2, k3, oe, vs, T, oT, ts', he, hz, hd, h1, hr⟩ := id fl3
        unfold PySem.passOn
        refine wpAny_bind (wpAny_field he hd h1 ?_)
        have tn : ¬ ((Value.ref T == Value.none) = true) := by simp
        rw [if_neg tn]
        have fin : wpAny (model X.prog X.w) X.A (setFlight (.ref a) X.env.frame) (fun _ s4 => wpAny (model X.prog X.w) X.A (throw (.ref a) : Sem Flow) (SP X pins D) X.xe s4) X.xe { s' with heap := h3 } := by
          rw [frm]
          refine HandSPX.setFlight_upZ fl3 fun h4 hh4 up4 => wpAny_throw (tk _ _ ?_)
          exact ⟨a, B, sI, pins, σ1, H1, cls, d, rfl, J1, nb, (up.trans up3).trans up4, .inr (.inr (by rw [stk]; exact hh4)), na, os, ag, w⟩
        first | exact (wpAny_bind (wpAny_pure (wpAny_bind fin))) | exact (wpAny_bind fin)
      | @cons x n c i ts fst suite np hpos hs3 l3 at_ loc nam run more ih =>
        intro w
        obtain ⟨b, hb1, yes, no⟩ := w
        have slot : Loc X.env.scope n := .inl loc
        refine wpAny_handleBy_cons (codeAny_handlers_test ?_) (by intro q; cases q)
        have Lty : PySem.W.Looks (model X.prog X.w) h3 (typeOf (.ref a)) cls := fun A Q E s k q => wpAny_typeOf_ref (k _ _ he3) (by rw [hz3.1]; exact q)
        have Lex := PySem.W.exm_one (M := model X.prog X.w) (J3.kIn) Lty hb1
        have tst : ∀ {Q : Value → Shared → Prop} {E : Value → Shared → Prop}, Q c { s' with heap := h3 } → wpAny (model X.prog X.w) (X.A.mark (some (.ref a))) (eval (.Name x np) X.env) Q E { s' with heap := h3 } := fun {Q E} q => by
          obtain ⟨hg, ndb, hm | ⟨hm, hv, nn⟩⟩ := nam
          · exact (ld_glob (X := X.suite a ((a, oe3) :: (X.pn ++ pins))) S3 hg hm q ndb)
          · exact (ld_blt (X := X.suite a ((a, oe3) :: (X.pn ++ pins))) S3 hg hm hv q nn ndb)
        refine tst (Lex.here ?_)
        cases b with
        | true =>
          refine codeAny_handlers_suite_as ?_
          refine HandSPX.lands_againZ fl3 fun h4 fl4 up4 => ?_
          have J4 : L2.Inv X pins σ1 H1 { s' with heap := h4 } := J1.landed nb fl4.1 ((up.trans up3).trans up4) os ag
          obtain ⟨oe4, vs4, he4, hz4, hd4⟩ := fl4.there
          have S4 := J4.suite he4 hd4 na notL notF
          refine store_ok (X := X.suite a ((a, oe4) :: (X.pn ++ pins))) (v := .ref a) S4 nod at_ slot rfl (fun s5 S5 => ?_) (.inr loc)
          refine wpAny_mono ((run a oe4 cls d (X.pn ++ pins) hz4 ⟨_, hd4⟩).run [] s5 _ H1 _ S5 (yes rfl a na)) (fun f s6 hsp => ?_) (fun _ _ z => False.elim z)
          have wipe : ∀ {t6 : L2.St} {K6 : Hp} {Q : Shared → Prop}, L2.Inv (X.suite a ((a, oe4) :: (X.pn ++ pins))) [] t6 K6 s6 → (∀ s7, L2.Inv X pins (t6.set i none) K6 s7 → Q s7) →
              wpAny (model X.prog X.w) X.A (do bindName X.env n .none; unbindBehindTheSuite X.env n hpos) (fun _ s7 => Q s7) X.xe s6 := fun {t6 K6 Q} S6 hq => gone_ok (S6.unsuite okX) nod at_ loc hq
          cases f with
          | next =>
            obtain ⟨t6, K6, S6, q6⟩ := hsp
            exact (wipe S6 fun s7 J7 => ⟨_, _, J7, q6⟩)
          | brk =>
            obtain ⟨t6, K6, S6, q6⟩ := hsp
            exact (wipe S6 fun s7 J7 => ⟨_, _, J7, q6⟩)
          | cont =>
            obtain ⟨t6, K6, S6, q6⟩ := hsp
            exact (wipe S6 fun s7 J7 => ⟨_, _, J7, q6⟩)
          | ret u =>
            obtain ⟨v6, t6, K6, S6, r6, q6⟩ := hsp
            exact (wipe S6 fun s7 J7 => ⟨_, _, _, J7, r6, q6⟩)
        | false =>
          show wpAny _ X.A (handleBy (.ref a) X.env hs3) _ _ _
          exact ih (no rfl)
    exact go cl w
  · cases f with
    | next =>
      obtain ⟨t1, K1, J1, q⟩ := hsp
      exact wpAny_execs_nil ⟨t1, K1, J1.ofTry okX, q⟩
    | brk =>
      obtain ⟨t1, K1, J1, q⟩ := hsp
      exact ⟨t1, K1, J1.ofTry okX, q⟩
    | cont =>
      obtain ⟨t1, K1, J1, q⟩ := hsp
      exact ⟨t1, K1, J1.ofTry okX, q⟩
    | ret u =>
      obtain ⟨v1, t1, K1, J1, r, q⟩ := hsp
      exact ⟨v1, t1, K1, J1.ofTry okX, r, q⟩
/-- an exception of a callee, wished for at every state of the slots that fits -/
def EAll (X : Cx) (W : WX) : XK := fun cls d H' => ∀ t : L2.St, t.length = X.N.length → W cls d t H'
theorem pass_all {W : WX} (tk : Takes X W) : Passes (L2.CX X.prog X.w) X (EAll X W) := fun _ _ _ _ _ _ I c =>
  tk _ _ (XE.of_call I (fun _ _ _ z => z _ I.len) c)
end
end TryAs
end

-- OwnTry
section
set_option Elab.async false
set_option linter.all false
set_option maxRecDepth 100000
/-! Calls whose exception is wished for at just these slots; isinstance of a held error with a dict. -/
namespace OwnTry
open PySem L2
/-- W at the slots σ -/
def EA (W : WX) (σ : L2.St) : XK := fun cls d H' => W cls d σ H'
section
variable {X : Cx} {k : Nat} {f C : Addr} {fd : FuncData} {ps : List Str} {sp : Sp} {dvs : List V} {ds : List Value} {W : WX} {x m : Str} {p pos apos : Pos} {e o : Expr} {es : List Expr} {ta : TE} {t : TA}
theorem out_at {pins : List (Addr × Obj)} {σ : L2.St} {H : Hp} {s : Shared} (tk : Takes X W) (I : L2.Inv X pins σ H s) {u : Value} {s' : Shared} (c : L2.CX X.prog X.w X.stack H s (EA W σ) u s') : X.xe u s' :=
  tk _ _ (XE.of_call I (fun _ _ _ z => z) c)
/-- a def called, W wished for if it raises -/
theorem run_at {A : Around} {pins : List (Addr × Obj)} {σ : L2.St} {H : Hp} {s : Shared} {Q : VK} {us : List Value} {vs : List V} (F : FnOk X.prog X.w X.K X.mg X.base (L2.CX X.prog X.w) k f fd ps sp) (room : Room k A)
    (e0 : Env0 X.prog X.w X.K X.mg X.base A X.stack s H) (bi : L2.Binds X.K fd ps ds) (dv : Vals dvs ds) (tk : Takes X W)
    (I : L2.Inv X pins σ H s) (rel : Vals vs us) (h : sp (vs ++ dvs) H Q (EA W σ)) : wpAny (model X.prog X.w) A (call (.ref f) us) (EP X pins σ Q) X.xe s := by
  have both := rel.append dv
  have size : (us ++ ds).length = ps.length := both.length.symm.trans (F.len _ _ _ _ h)
  have body := F.run A X.stack s H ⟨us, []⟩ (us ++ ds) (vs ++ dvs) Q (EA W σ) room e0 (bi s us I.kIn size) both h
  refine wpAny_call (codeAny_mono body fun res s' got => ?_)
  match res, got with
  | .error u, got => exact out_at tk I got
  | .ok (.ret u), got => exact I.after got
  | .ok .next, got => exact got.elim
  | .ok .brk, got => exact got.elim
  | .ok .cont, got => exact got.elim
/-- o.m(e, ..) in a try -/
def tMethA (C : Addr) (m : Str) (sp : Sp) (dvs : List V) (W : WX) (ta : TE) (t : TA) : TE := fun σ H Q => ta σ H fun x H1 => ∃ a dx fs, x = .ref a ∧ H1 a = some (.ins C dx fs) ∧ fs.lookup m = none ∧ t σ H1 fun vs H2 => sp (.ref a :: (vs ++ dvs)) H2 Q (EA W σ)
theorem pe_methA {pl : Sem Bool} (he : PE X o ta) (c : Cls X.K C) (hm : Meth X.K C m f) (F : FnOk X.prog X.w X.K X.mg X.base (L2.CX X.prog X.w) k f fd ps sp) (room : Room k X.A) (bi : L2.Binds X.K fd ps ds) (dv : Vals dvs ds) (tk : Takes X W) (ha : PA X (e :: es) t)
    (hst : starEach (e :: es) X.env = (false, eval e X.env) :: starEach es X.env := by rfl) (hpl : (backTo pos (starEach es X.env)).any (·.1) = false := by rfl)
    (ht : eval (.Call (.Attribute o m apos) (e :: es) [] pos) X.env = (do
      let ov ← eval o X.env
      standAt apos.atName
      let (f, first) ← holding [ov] (getMethod ov m pl)
      callWith pos f first (backTo pos (starEach (e :: es) X.env)) (backToKw pos (keywordEach [] X.env))) := by rfl) :
    PE X (.Call (.Attribute o m apos) (e :: es) [] pos) (tMethA C m sp dvs W ta t) := by
  refine ⟨fun pins s σ H Q I h => ?_⟩
  refine PySem.W.methodCall_KW (pl := pl) (thn (he.run pins s σ H _ I h) fun u s1 hh => ?_) ht
  obtain ⟨x, H1, I1, rx, a, dx, fs, ex, ea, l, q⟩ := hh
  subst ex
  obtain rfl : u = Value.ref a := rx
  refine getmeth_ok I1 ea c hm l ?_
  refine PySem.W.callWith_K (first := [.ref a]) (h₀ := X.base) I.ok.mod.kin hm.kp (thn (ha.run pos pins s1 σ H1 _ I1 q) fun us s2 h2 => ?_) hst hpl
  obtain ⟨vs, H2, I2, r, q2⟩ := h2
  exact ⟨I2.kIn, run_at (us := .ref a :: us) (vs := .ref a :: vs) F room I2.env0 bi dv tk I2 (.cons rfl r) q2⟩
end
/-- isinstance(e, c), e the error with a dict that the suite holds -/
def rIsiH (K : PySem.W.Frag) (a : Addr) (cls : Value) (d : Option Addr) : List V → Hp → VK → Prop := fun xs H Q => ∃ (C dd : Addr) (fs : List (Str × V)) (c : V) (u : Value) (b : Bool),
  xs = [.ref a, c] ∧ cls = .ref C ∧ d = some dd ∧ H dd = some (.xd fs) ∧ KitG K C ∧ ClsV c u ∧ PySem.W.kitOne K (.ref C) u = some b ∧ Q (.bl b) H
theorem call_isiH {X : Cx} {a : Addr} {oe : Obj} {cls : Value} {d : Option Addr} {pn : List (Addr × Obj)} (hz : Zc cls d oe) (hf : ∃ vs, oe.data = .fields vs) : CallR (X.suite a ((a, oe) :: pn)) (.builtin "isinstance") (rIsiH X.K a cls d) := by
  intro pins s σ H xs us Q I r h
  obtain ⟨C, dd, fs, c, u, b, rfl, rfl, rfl, ed, G, k, e, q⟩ := h
  obtain ⟨u1, u2, rfl, r1, r2⟩ := vals2 r
  cases (show u1 = Value.ref a from r1)
  have e2 := k.eq r2
  subst e2
  obtain ⟨ha, _⟩ := I.pin (a, oe) (List.mem_append_left _ List.mem_cons_self)
  obtain ⟨vs, hd⟩ := hf
  have hx : ObjOk X.prog X.w H s.heap dd (.xd fs) := I.hok dd _ ed
  obtain ⟨mA, hns, hr⟩ := hx
  obtain ⟨od, ho, hl⟩ := lookIn_ns hns
  have J : PySem.W.InstAt s.heap a oe C (some od) := ⟨ha, hz.1, by unfold PySem.W.notCls; rw [hd] <;> rfl, by rw [hz.2]; exact ho⟩
  obtain ⟨gt, hgt⟩ := G.gg
  exact PySem.W.kia_one (PySem.W.kitx_exc (ox := oe) (od := some od) G.ic G.ga hgt G.ex G.ha G.hn G.htk G.hm) I.kIn J e (fun z => nomatch z) fun tk => ⟨.bl b, H, I.tok tk, rfl, q⟩
end OwnTry
end

-- P3a
section
set_option Elab.async false
set_option linter.all false
set_option maxRecDepth 100000
namespace R1
open PySem L2 OwnOps RatM
/-! ### 1. the text by places -/
def top (i : Nat) : Stmt := PySem.Challenge.pw_wishedwires_k53_prices_set.main.body.getD i (.Pass ⟨0, 0, 0, 0⟩)
abbrev sWhole : Stmt := top 3
abbrev sRat (j : Nat) : Stmt := inClass (top 10) j
abbrev sAs : Stmt := top 11
/-! ### 2. what the written part holds -/
abbrev veT : List Value := [.type "ValueError", .type "Exception", .type "BaseException", .type "object"]
abbrev zdT : List Value := [.type "ZeroDivisionError", .type "ArithmeticError", .type "Exception", .type "BaseException", .type "object"]
structure Txt (K : PySem.W.Frag) (mg : Str → Option Value) (C CI fCI CZ fCZ : Addr) : Prop where
  cl : Cls K C
  nT : NoAttr K C "top"
  nB : NoAttr K C "bottom"
  gC : mg "Ratio" = some (.ref C)
  eI : PySem.Giv.ErrTxt K mg "InvalidNumber" "InvalidNumber.__init__" "ValueError.__new__" veT CI fCI
  eZ : PySem.Giv.ErrTxt K mg "NoDivision" "NoDivision.__init__" "ZeroDivisionError.__new__" zdT CZ fCZ
  ha : PySem.W.findIn K (.ref C) "__class__" = some (some (.builtin "object.__class__"))
  hn : PySem.W.specialIn K (.builtin "object.__class__") "__get__" = some (some (.builtin "getset_descriptor.__get__"))
  htk : PySem.W.takesIn K (.builtin "object.__class__") = some true
  hm : PySem.W.mroIn K C (.type "object") = some true
  kCC : PySem.W.kitOne K (.ref C) (.ref C) = some true
  kCi : PySem.W.kitOne K (.ref C) (.type "int") = some false
  kiC : PySem.W.kitOne K (.type "int") (.ref C) = some false
  kbC : PySem.W.kitOne K (.type "bool") (.ref C) = some false
  knC : PySem.W.kitOne K (.type "NoneType") (.ref C) = some false
  ksC : PySem.W.kitOne K (.type "str") (.ref C) = some false
  klC : PySem.W.kitOne K (.type "list") (.ref C) = some false
  ktC : PySem.W.kitOne K (.type "tuple") (.ref C) = some false
  isi : mg "isinstance" = none
  int : mg "int" = none
  bool : mg "bool" = none
  abs : mg "abs" = none
  str : mg "str" = none
  repr : mg "repr" = none
  gcd : mg "gcd" = some (.builtin "math.gcd")
/-- the values that are met where a number is wanted -/
inductive Kd (C : Addr) (H : Hp) : V → Prop
  | int (i : Int) : Kd C H (.int i)
  | bl (b : Bool) : Kd C H (.bl b)
  | non : Kd C H .non
  | str (x : Str) : Kd C H (.str x)
  | ins {a dx : Addr} {fs : List (Str × V)} (e : H a = some (.ins C dx fs)) : Kd C H (.ref a)
  | lst {a : Addr} {xs : List V} (e : H a = some (.lst xs)) : Kd C H (.ref a)
  | tup {a : Addr} {xs : List V} (e : H a = some (.tup xs)) : Kd C H (.ref a)
def isW : V → Bool
  | .int _ => true
  | _ => false
/-- an instance of Ratio with these two -/
def flds (t b : Int) : List (Str × V) := putF "bottom" (.int b) (putF "top" (.int t) [])
theorem tb : ¬ (("top" : Str) = "bottom") := by decide +kernel
theorem flds_eq (t b : Int) : flds t b = ([("top", V.int t), ("bottom", V.int b)] : List (Str × V)) := by
  show (if ("top" : Str) = "bottom" then [(("top" : Str), V.int b)] else (("top" : Str), V.int t) :: putF "bottom" (V.int b) []) = ([("top", V.int t), ("bottom", V.int b)] : List (Str × V))
  rw [if_neg tb]
  all_goals rfl
theorem flds_top (t b : Int) : (flds t b).lookup ("top" : Str) = some (.int t) := by
  unfold flds
  rw [lookup_putF, if_neg tb, lookup_putF, if_pos rfl]
theorem flds_bot (t b : Int) : (flds t b).lookup ("bottom" : Str) = some (.int b) := by
  unfold flds
  rw [lookup_putF, if_pos rfl]
theorem flds_no (t b : Int) {m : Str} (h1 : ¬ m = "bottom") (h2 : ¬ m = "top") : (flds t b).lookup m = none := by
  unfold flds
  rw [lookup_putF, if_neg h1, lookup_putF, if_neg h2]
  all_goals rfl
def Rat (C : Addr) (H : Hp) (p : Addr) (t b : Int) : Prop := ∃ dx, H p = some (.ins C dx (flds t b))
theorem Rat.same {C : Addr} {H H' : Hp} {p : Addr} {t b : Int} (r : Rat C H p t b) (e : Same H H') : Rat C H' p t b := let ⟨dx, h⟩ := r; ⟨dx, e _ _ h⟩
/-- what may be told of a number -/
def Sm (n : Nat) (x : Int) : Prop := x.natAbs < 2 ^ n

section
variable {P : Program} {w : World} {K : PySem.W.Frag} {mg : Str → Option Value} {base : Heap} {C CI fCI CZ fCZ : Addr}
/-! ### 3. is_whole -/
def spWhole (C : Addr) : Sp := fun vs H Q _ => ∃ v, vs = [v] ∧ Kd C H v ∧ Q (.bl (isW v)) H
theorem scW : FnScope ["value"] ["value"] (defScope sWhole) := ⟨rfl, rfl, rfl, by decide +kernel, rfl, by decide +kernel, by decide +kernel⟩
theorem ok_whole {f : Addr} {fd : FuncData} (F : Fun K "is_whole" "is_whole" sWhole f fd) (T : Txt K mg C CI fCI CZ fCZ) : FnOk P w K mg base (L2.CX P w) 1 f fd ["value"] (spWhole C) := by
  refine F.okX scW (fun vs H Q E h => ?_) (fun cdv A outer s H vs Q E hr h => ?_)
  · obtain ⟨v, rfl, _⟩ := h
    rfl
  · obtain ⟨v, rfl, kd, k⟩ := h
    refine ⟨_, pss_one (ps_ret (pe_and (pe_callB call_isi (by rfl) T.isi (by decide +kernel) (pa_cons (pv 0) (pa_cons (pe_bltn (v := .ty "int") (by rfl) T.int (by decide +kernel) rfl) pa_nil)))
      (pe_one (pe_not (pe_callB call_isi (by rfl) T.isi (by decide +kernel) (pa_cons (pv 0) (pa_cons (pe_bltn (v := .ty "bool") (by rfl) T.bool (by decide +kernel) rfl) pa_nil))))))), ?_⟩
    cases kd with
    | int i => exact ⟨_, rfl, _, _, _, _, _, rfl, .ty _, .base (.int i), kit_ty (by decide +kernel), _, rfl, iteT ⟨_, rfl, _, _, _, _, _, rfl, .ty _, .base (.int i), kit_ty (r := false) (by decide +kernel), _, rfl, k⟩⟩
    | bl b => exact ⟨_, rfl, _, _, _, _, _, rfl, .ty _, .base (.bl b), kit_ty (by decide +kernel), _, rfl, iteT ⟨_, rfl, _, _, _, _, _, rfl, .ty _, .base (.bl b), kit_ty (r := true) (by decide +kernel), _, rfl, k⟩⟩
    | non => exact ⟨_, rfl, _, _, _, _, _, rfl, .ty _, .base .non, kit_ty (by decide +kernel), _, rfl, iteF k⟩
    | str x => exact ⟨_, rfl, _, _, _, _, _, rfl, .ty _, .base (.str x), kit_ty (by decide +kernel), _, rfl, iteF k⟩
    | ins e => exact ⟨_, rfl, _, _, _, _, _, rfl, .ty _, .base (.ins e T.cl T.ha T.hn T.htk T.hm), T.kCi, _, rfl, iteF k⟩
    | lst e => exact ⟨_, rfl, _, _, _, _, _, rfl, .ty _, .base (.lst e), kit_ty (by decide +kernel), _, rfl, iteF k⟩
    | tup e => exact ⟨_, rfl, _, _, _, _, _, rfl, .ty _, .base (.tup e), kit_ty (by decide +kernel), _, rfl, iteF k⟩

theorem if_pos' {c : Bool} {A B : Prop} (hc : c = true) (h : A) : if c = true then A else B := by
  rw [if_pos hc]
  exact h
theorem if_neg' {c : Bool} {A B : Prop} (hc : c = false) (h : B) : if c = true then A else B := by
  rw [hc, if_neg Bool.false_ne_true]
  exact h
/-! ### 4. __init__ -/
def CDivG (_ j : Int) : Prop := j ≠ 0 ∧ j.natAbs.log2 < 9000
theorem op_fdivG {X : Cx} : OpR X (binaryOp .FloorDiv) (rI CDivG fun i j => .int (i.fdiv j)) := opI fun i j _ _ _ _ _ hc q =>
  PyProof.Rows.floordiv_int hc.1 q (.inl (PyProof.noPylong_of_log2 hc.2))
theorem wide_divG {i j : Int} {n : Nat} (h : j ≠ 0) (hb : j.natAbs < 2 ^ n) (h0 : 0 < n) (h9 : n ≤ 9000) : CDivG i j := ⟨h, Nat.lt_of_lt_of_le (PySem.Flt.log2_lt_of h0 hb) h9⟩
abbrev xd (v : V) : HO := .xd [(("given" : Str), v)]
def spInit (C CI CZ : Addr) : Sp := fun vs H Q E => ∃ (p dx : Addr) (vt vb : V), vs = [.ref p, vt, vb] ∧ H p = some (.ins C dx []) ∧ Kd C H vt ∧ (isW vt = true → Kd C H vb) ∧
  ((isW vt = false ∧ ∀ d, H d = none → E (.ref CI) (some d) (upd H d (xd vt))) ∨
   (isW vt = true ∧ isW vb = false ∧ ∀ d, H d = none → E (.ref CI) (some d) (upd H d (xd vb))) ∨
   (∃ t b, vt = .int t ∧ vb = .int b ∧ ((b = 0 ∧ ∀ d, H d = none → E (.ref CZ) (some d) (upd H d (xd vt))) ∨
     (b ≠ 0 ∧ Sm 5000 b ∧ Q .non (upd H p (.ins C dx (flds (nt t b) (nb t b))))))))
theorem scI : FnScope ["self", "top", "bottom", "common"] ["self", "top", "bottom"] (defScope (sRat 0)) := ⟨rfl, rfl, rfl, by decide +kernel, rfl, by decide +kernel, by decide +kernel⟩
theorem Kd.whole {C : Addr} {H : Hp} {v : V} (k : Kd C H v) (h : isW v = true) : ∃ i, v = .int i := by
  cases k <;> first | exact ⟨_, rfl⟩ | exact absurd h (by simp [isW])
abbrev InitD (K : PySem.W.Frag) (f : Addr) (fd : FuncData) := FunD K "__init__" "Ratio.__init__" (defArgs (sRat 0)) (defBody (sRat 0)) (defScope (sRat 0)) [.int 1] [] f fd
theorem ok_init {f fW : Addr} {fd fdW : FuncData} (F : InitD K f fd) (T : Txt K mg C CI fCI CZ fCZ)
    (GW : FnOk P w K mg base (L2.CX P w) 1 fW fdW ["value"] (spWhole C)) (mW : mg "is_whole" = some (.ref fW)) (kW : PySem.W.keepIn K (.ref fW) = true) (bW : L2.Binds K fdW ["value"] []) :
    FnOk P w K mg base (L2.CX P w) 3 f fd ["self", "top", "bottom"] (spInit C CI CZ) := by
  refine F.ok scI (fun vs H Q E h => ?_) (fun cdv A outer s H vs Q E hr h => ?_)
  · obtain ⟨p, dx, vt, vb, rfl, _⟩ := h
    rfl
  · obtain ⟨p, dx, vt, vb, rfl, hp, kt, kb, k⟩ := h
    have hr1 : Room 1 _ := hr.mono (by decide)
    refine ⟨_, pss_cons (ps_if (pt_not (pt_val (pe_call GW hr1 (by rfl) mW kW bW .nil passL (pa_cons (pv 1) pa_nil)))) (pss_one (ps_raiseGiv rfl PySem.Giv.ok_VE T.eI hr (takes_of rfl rfl rfl rfl) (pa_cons (pv 1) pa_nil) (by rfl))) pss_nil)
      (pss_cons (ps_if (pt_not (pt_val (pe_call GW hr1 (by rfl) mW kW bW .nil passL (pa_cons (pv 2) pa_nil)))) (pss_one (ps_raiseGiv rfl PySem.Giv.ok_VE T.eI hr (takes_of rfl rfl rfl rfl) (pa_cons (pv 2) pa_nil) (by rfl))) pss_nil)
      (pss_cons (ps_if (pt_cmpR op_eq (pv 2) pe_int (nomark _)) (pss_one (ps_raiseGiv rfl PySem.Giv.ok_ZD T.eZ hr (takes_of rfl rfl rfl rfl) (pa_cons (pv 1) pa_nil) (by rfl))) pss_nil)
      (pss_cons (ps_set (i := 3) scI.nd rfl (Or.inl rfl) (pe_ifExp (pt_cmpR op_gt (pv 2) pe_int (nomark _)) (pe_callBfun cr_gcd (by rfl) T.gcd (pa_cons (pv 1) (pa_cons (pv 2) pa_nil)))
        (pe_un un_neg (pe_callBfun cr_gcd (by rfl) T.gcd (pa_cons (pv 1) (pa_cons (pv 2) pa_nil))))))
      (pss_cons (ps_fld (pv 0) (pe_op op_fdivG (pv 1) (pv 3)) rfl)
      (pss_one (ps_fld (pv 0) (pe_op op_fdivG (pv 2) (pv 3)) rfl)))))), ?_⟩
    refine ⟨_, rfl, _, rfl, kt, _, rfl, ?_⟩
    rcases k with ⟨n1, k⟩ | ⟨y1, n2, k⟩ | ⟨t, b, rfl, rfl, k⟩
    · rw [n1]
      exact iteT ⟨_, rfl, _, rfl, k⟩
    · rw [y1]
      refine iteF ⟨_, rfl, _, rfl, kb y1, _, rfl, ?_⟩
      rw [n2]
      exact iteT ⟨_, rfl, _, rfl, k⟩
    · refine iteF ⟨_, rfl, _, rfl, kb rfl, _, rfl, iteF ⟨_, rfl, rfl, _, rfl, ?_⟩⟩
      rcases k with ⟨b0, k⟩ | ⟨b0, bs, k⟩
      · refine if_pos' (decide_eq_true (show V.int b = V.int 0 by rw [b0])) ?_
        exact ⟨_, rfl, _, rfl, k⟩
      · refine if_neg' (decide_eq_false (fun z => b0 (V.int.inj z))) ?_
        have cb : (cmn t b).natAbs < 2 ^ 5000 := Nat.lt_of_le_of_lt (cmn_le b0) bs
        have dv : ∀ x, CDivG x (cmn t b) := fun x => wide_divG (cmn_ne b0) cb (by decide) (by decide)
        have e0 : upd (upd H p (.ins C dx (putF "top" (.int (nt t b)) []))) p (.ins C dx (flds (nt t b) (nb t b))) = upd H p (.ins C dx (flds (nt t b) (nb t b))) := upd_upd
        rw [← e0] at k
        have nxt : ∀ c : Int, c = cmn t b → (tSeq (sFld K (tVar 0) (tOp (rI CDivG fun i j => V.int (i.fdiv j)) (tVar 1) (tVar 3)) "top") (sFld K (tVar 0) (tOp (rI CDivG fun i j => V.int (i.fdiv j)) (tVar 2) (tVar 3)) "bottom"))
            { nx := fun _ H' => Q .non H', rt := Q } [some (.ref p), some (.int t), some (.int b), some (.int c)] H := by
          rintro c rfl
          exact ⟨_, rfl, _, rfl, _, _, rfl, rfl, dv t, _, rfl, p, C, dx, _, rfl, hp, T.cl, T.nT, (by show 0 < 1000; decide), _, rfl, _, rfl, _, _, rfl, rfl, dv b, _, rfl, p, C, dx, _, rfl, upd_same, T.cl, T.nB, (by show 1 < 1000; decide), k⟩
        refine ⟨_, rfl, _, _, rfl, rfl, _, rfl, ?_⟩
        refine ite2 (fun hb => ?_) (fun hb => ?_)
        · exact ⟨_, rfl, _, rfl, _, _, rfl, nxt _ (if_pos (of_decide_eq_true hb)).symm⟩
        · exact ⟨_, rfl, _, rfl, _, _, rfl, _, rfl, nxt _ (if_neg (fun z => hb (decide_eq_true z))).symm⟩
end
end R1
end

-- P3b
section
set_option Elab.async false
set_option linter.all false
set_option maxRecDepth 100000
namespace R1
open PySem L2 OwnOps RatM
/-- the values that are no numbers -/
inductive Bd (H : Hp) : V → Prop
  | bl (b : Bool) : Bd H (.bl b)
  | non : Bd H .non
  | str (x : Str) : Bd H (.str x)
  | lst {a : Addr} {xs : List V} (e : H a = some (.lst xs)) : Bd H (.ref a)
  | tup {a : Addr} {xs : List V} (e : H a = some (.tup xs)) : Bd H (.ref a)
theorem Bd.kd {C : Addr} {H : Hp} {v : V} (h : Bd H v) : Kd C H v := by
  cases h with
  | bl b => exact .bl b
  | non => exact .non
  | str x => exact .str x
  | lst e => exact .lst e
  | tup e => exact .tup e
theorem Bd.w {H : Hp} {v : V} (h : Bd H v) : isW v = false := by
  cases h <;> rfl
theorem Kd.same {C : Addr} {H H' : Hp} {v : V} (h : Kd C H v) (e : Same H H') : Kd C H' v := by
  cases h with
  | int i => exact .int i
  | bl b => exact .bl b
  | non => exact .non
  | str x => exact .str x
  | ins q => exact .ins (e _ _ q)
  | lst q => exact .lst (e _ _ q)
  | tup q => exact .tup (e _ _ q)
theorem Bd.same {H H' : Hp} {v : V} (h : Bd H v) (e : Same H H') : Bd H' v := by
  cases h with
  | bl b => exact .bl b
  | non => exact .non
  | str x => exact .str x
  | lst q => exact .lst (e _ _ q)
  | tup q => exact .tup (e _ _ q)
/-- v stands for the ratio t / b -/
def Num (C : Addr) (H : Hp) (v : V) (t b : Int) : Prop := (∃ q, v = .ref q ∧ Rat C H q t b) ∨ (v = .int t ∧ b = 1)
theorem Num.same {C : Addr} {H H' : Hp} {v : V} {t b : Int} (h : Num C H v t b) (e : Same H H') : Num C H' v t b := by
  rcases h with ⟨q, rfl, r⟩ | ⟨rfl, rfl⟩
  · exact .inl ⟨q, rfl, r.same e⟩
  · exact .inr ⟨rfl, rfl⟩
theorem same_upd {H : Hp} {p : Addr} {o : HO} (h : H p = none) : Same H (upd H p o) := fun b u e => by
  rw [upd_ne (ne_of_none e h)]
  exact e
/-- a new instance in making -/
theorem same_new {H : Hp} {x dx C : Addr} (hx : H x = none) (hd : H dx = none) : Same H (upd (upd H dx (.own x)) x (.ins C dx [])) := fun b u e => by
  rw [upd_ne (ne_of_none e hx), upd_ne (ne_of_none e hd)]
  exact e
section
variable {C CI CZ : Addr} {H : Hp} {Q : VK} {E : XK}
theorem mk_good {t b : Int} (hb : b ≠ 0) (bs : Sm 5000 b) (k : ∀ p H', Same H H' → Rat C H' p (nt t b) (nb t b) → Q (.ref p) H') :
    ∀ x dx, H x = none → H dx = none → dx ≠ x → spInit C CI CZ [.ref x, .int t, .int b] (upd (upd H dx (.own x)) x (.ins C dx [])) (fun v H2 => v = .non ∧ Q (.ref x) H2) E := by
  intro x dx hx hd ne
  refine ⟨x, dx, .int t, .int b, rfl, upd_same, .int t, fun _ => .int b, .inr (.inr ⟨t, b, rfl, rfl, .inr ⟨hb, bs, rfl, ?_⟩⟩)⟩
  refine k x _ (fun c o e => ?_) ⟨dx, upd_same⟩
  rw [upd_ne (ne_of_none e hx)]
  exact same_new hx hd c o e
theorem mk_bad1 {v u : V} (kd : Bd H v ∨ ∃ a dx fs, v = .ref a ∧ H a = some (.ins C dx fs)) (k : ∀ d H', Same H H' → H' d = some (xd v) → E (.ref CI) (some d) H') :
    ∀ x dx, H x = none → H dx = none → dx ≠ x → spInit C CI CZ [.ref x, v, u] (upd (upd H dx (.own x)) x (.ins C dx [])) (fun v H2 => v = .non ∧ Q (.ref x) H2) E := by
  intro x dx hx hd ne
  have nw : isW v = false := by
    rcases kd with h | ⟨a, _, _, rfl, _⟩
    · exact h.w
    · rfl
  have kk : Kd C H v := by
    rcases kd with h | ⟨a, _, _, rfl, e⟩
    · exact h.kd
    · exact .ins e
  refine ⟨x, dx, v, u, rfl, upd_same, kk.same (same_new hx hd), fun y => absurd y (by rw [nw]; decide), .inl ⟨nw, fun d hdn => ?_⟩⟩
  refine k d _ (fun c o e => ?_) upd_same
  have e2 := same_new (C := C) hx hd c o e
  rw [upd_ne (ne_of_none e2 hdn)]
  exact e2
theorem mk_bad2 {t : Int} {v : V} (kd : Bd H v ∨ ∃ a dx fs, v = .ref a ∧ H a = some (.ins C dx fs)) (k : ∀ d H', Same H H' → H' d = some (xd v) → E (.ref CI) (some d) H') :
    ∀ x dx, H x = none → H dx = none → dx ≠ x → spInit C CI CZ [.ref x, .int t, v] (upd (upd H dx (.own x)) x (.ins C dx [])) (fun v H2 => v = .non ∧ Q (.ref x) H2) E := by
  intro x dx hx hd ne
  have nw : isW v = false := by
    rcases kd with h | ⟨a, _, _, rfl, _⟩
    · exact h.w
    · rfl
  have kk : Kd C H v := by
    rcases kd with h | ⟨a, _, _, rfl, e⟩
    · exact h.kd
    · exact .ins e
  refine ⟨x, dx, .int t, v, rfl, upd_same, .int t, fun _ => kk.same (same_new hx hd), .inr (.inl ⟨rfl, nw, fun d hdn => ?_⟩)⟩
  refine k d _ (fun c o e => ?_) upd_same
  have e2 := same_new (C := C) hx hd c o e
  rw [upd_ne (ne_of_none e2 hdn)]
  exact e2
theorem mk_zero {t : Int} (k : ∀ d H', Same H H' → H' d = some (xd (.int t)) → E (.ref CZ) (some d) H') :
    ∀ x dx, H x = none → H dx = none → dx ≠ x → spInit C CI CZ [.ref x, .int t, .int 0] (upd (upd H dx (.own x)) x (.ins C dx [])) (fun v H2 => v = .non ∧ Q (.ref x) H2) E := by
  intro x dx hx hd ne
  refine ⟨x, dx, .int t, .int 0, rfl, upd_same, .int t, fun _ => .int 0, .inr (.inr ⟨t, 0, rfl, rfl, .inl ⟨rfl, fun d hdn => ?_⟩⟩)⟩
  refine k d _ (fun c o e => ?_) upd_same
  have e2 := same_new (C := C) hx hd c o e
  rw [upd_ne (ne_of_none e2 hdn)]
  exact e2
end

/-- what is known of the class's making -/
structure Mak (P : Program) (w : World) (K : PySem.W.Frag) (mg : Str → Option Value) (base : Heap) (C CI CZ : Addr) : Prop where
  ex : ∃ (fI : Addr) (fd : FuncData) (ds : List Value), Mk K C fI ∧ FnOk P w K mg base (L2.CX P w) 3 fI fd ["self", "top", "bottom"] (spInit C CI CZ) ∧ L2.Binds K fd ["self", "top", "bottom"] [] ∧ Vals [.int 1] ds ∧ L2.Binds K fd ["self", "top", "bottom"] ds
/-- a def of the module, called by its name -/
structure Glb (P : Program) (w : World) (K : PySem.W.Frag) (mg : Str → Option Value) (base : Heap) (x : Str) (k : Nat) (ps : List Str) (sp : Sp) : Prop where
  ex : ∃ (f : Addr) (fd : FuncData), mg x = some (.ref f) ∧ PySem.W.keepIn K (.ref f) = true ∧ FnOk P w K mg base (L2.CX P w) k f fd ps sp ∧ L2.Binds K fd ps []

section
variable {P : Program} {w : World} {K : PySem.W.Frag} {mg : Str → Option Value} {base : Heap} {C CI fCI CZ fCZ : Addr}
/-! ### _as_ratio -/
def spAs (C CI : Addr) : Sp := fun vs H Q E => ∃ v, vs = [v] ∧ ((∃ t b, Num C H v t b ∧ ∀ r H', Same H H' → Rat C H' r t b → Q (.ref r) H') ∨
  (Bd H v ∧ ∀ d H', Same H H' → H' d = some (xd v) → E (.ref CI) (some d) H'))
theorem scAs : FnScope ["value"] ["value"] (defScope sAs) := ⟨rfl, rfl, rfl, by decide +kernel, rfl, by decide +kernel, by decide +kernel⟩
theorem ok_as {f : Addr} {fd : FuncData} (F : Fun K "_as_ratio" "_as_ratio" sAs f fd) (T : Txt K mg C CI fCI CZ fCZ) (M : Mak P w K mg base C CI CZ) : FnOk P w K mg base (L2.CX P w) 5 f fd ["value"] (spAs C CI) := by
  obtain ⟨fI, fdI, ds, mk, GI, b3, d2, b2⟩ := M.ex
  refine F.okX scAs (fun vs H Q E h => ?_) (fun cdv A outer s H vs Q E hr h => ?_)
  · obtain ⟨v, rfl, _⟩ := h
    rfl
  · obtain ⟨v, rfl, k⟩ := h
    refine ⟨_, pss_one (ps_ret (pe_ifExp (pt_val (pe_callB call_isi (by rfl) T.isi (by decide +kernel) (pa_cons (pv 0) (pa_cons (pe_glob (v := .ref C) (by rfl) T.gC rfl) pa_nil)))) (pv 0)
      (pe_make mk GI hr (by rfl) T.gC b2 d2 (passes_call (takes_of rfl rfl rfl rfl) (fun _ _ _ _ z => z)) (pa_cons (pv 0) pa_nil)))), ?_⟩
    rcases k with ⟨t, b, ⟨q, rfl, dx, e⟩ | ⟨rfl, rfl⟩, k⟩ | ⟨bd, k⟩
    · exact ⟨_, rfl, _, _, _, _, _, rfl, .own C, .base (.ins e T.cl T.ha T.hn T.htk T.hm), T.kCC, _, rfl, iteT ⟨_, rfl, k q H (Same.refl H) ⟨dx, e⟩⟩⟩
    · refine ⟨_, rfl, _, _, _, _, _, rfl, .own C, .base (.int t), T.kiC, _, rfl, iteF ⟨_, rfl, ?_⟩⟩
      refine mk_good (by decide) (show (1 : Int).natAbs < 2 ^ 5000 by decide +kernel) fun p H' sm r => k p H' sm ?_
      rw [(nt_one t).1, (nt_one t).2] at r
      exact r
    · have fin := mk_bad1 (Q := Q) (E := E) (C := C) (CI := CI) (CZ := CZ) (u := .int 1) (.inl bd) k
      cases bd with
      | bl b => exact ⟨_, rfl, _, _, _, _, _, rfl, .own C, .base (.bl b), T.kbC, _, rfl, iteF ⟨_, rfl, fin⟩⟩
      | non => exact ⟨_, rfl, _, _, _, _, _, rfl, .own C, .base .non, T.knC, _, rfl, iteF ⟨_, rfl, fin⟩⟩
      | str x => exact ⟨_, rfl, _, _, _, _, _, rfl, .own C, .base (.str x), T.ksC, _, rfl, iteF ⟨_, rfl, fin⟩⟩
      | lst e => exact ⟨_, rfl, _, _, _, _, _, rfl, .own C, .base (.lst e), T.klC, _, rfl, iteF ⟨_, rfl, fin⟩⟩
      | tup e => exact ⟨_, rfl, _, _, _, _, _, rfl, .own C, .base (.tup e), T.ktC, _, rfl, iteF ⟨_, rfl, fin⟩⟩
end
end R1
end

-- P3c
section
set_option Elab.async false
set_option linter.all false
set_option maxRecDepth 100000
set_option exponentiation.threshold 6000
namespace R1
open PySem L2 OwnOps RatM
/-- what a two-place operator asks of its two numbers -/
structure Small (t b t' b' : Int) : Prop where
  b0 : 0 < b
  b0' : 0 < b'
  t1 : Sm 1200 t
  b1 : Sm 1200 b
  t1' : Sm 1200 t'
  b1' : Sm 1200 b'
theorem mulok {i j : Int} (a : Sm 1200 i) (b : Sm 1200 j) : CMulW i j := wide_mul a b (by decide) (by decide) (by decide)
theorem mul_sm {i j : Int} (a : Sm 1200 i) (b : Sm 1200 j) : Sm 5000 (i * j) := Nat.lt_of_lt_of_le (wide_lt a b) (Nat.pow_le_pow_right (by decide) (by decide))
def Raise1 (CI : Addr) (H : Hp) (v : V) (E : XK) : Prop := ∀ d H', Same H H' → H' d = some (xd v) → E (.ref CI) (some d) H'
/-- arithmetic: a new ratio, X / Y -/
def spAr (C CI : Addr) (X Y : Int → Int → Int → Int → Int) : Sp := fun vs H Q E => ∃ p v t b, vs = [.ref p, v] ∧ Rat C H p t b ∧ ((∃ t' b', Num C H v t' b' ∧ Small t b t' b' ∧
  ∀ r H', Same H H' → Rat C H' r (nt (X t b t' b') (Y t b t' b')) (nb (X t b t' b') (Y t b t' b')) → Q (.ref r) H') ∨ (Bd H v ∧ Raise1 CI H v E))
/-- a comparison -/
def spCm (C CI : Addr) (G : Int → Int → Int → Int → Bool) : Sp := fun vs H Q E => ∃ p v t b, vs = [.ref p, v] ∧ Rat C H p t b ∧ ((∃ t' b', Num C H v t' b' ∧ Small t b t' b' ∧
  ∀ H', Same H H' → Q (.bl (G t b t' b')) H') ∨ (Bd H v ∧ Raise1 CI H v E))
section
variable {P : Program} {w : World} {K : PySem.W.Frag} {mg : Str → Option Value} {base : Heap} {C CI fCI CZ fCZ : Addr}

theorem ok_mul {f : Addr} {fd : FuncData} (F : Fun K "__mul__" "Ratio.__mul__" (sRat 7) f fd) (T : Txt K mg C CI fCI CZ fCZ) (M : Mak P w K mg base C CI CZ) (GG : Glb P w K mg base "_as_ratio" 5 ["value"] (spAs C CI)) :
    FnOk P w K mg base (L2.CX P w) 6 f fd ["self", "other"] (spAr C CI (fun t b t' b' => t * t') (fun t b t' b' => b * b')) := by
  obtain ⟨fI, fdI, ds, mk, GI, b3, d2, b2⟩ := M.ex
  obtain ⟨fA, fdA, mA, kA, GA, bA⟩ := GG.ex
  have sc : FnScope ["self", "other", "right"] ["self", "other"] (defScope (sRat 7)) := ⟨rfl, rfl, rfl, by decide +kernel, rfl, by decide +kernel, by decide +kernel⟩
  refine F.okX sc (fun vs H Q E h => ?_) (fun cdv A outer s H vs Q E hr h => ?_)
  · obtain ⟨p, v, t, b, rfl, _⟩ := h
    rfl
  · obtain ⟨p, v, t, b, rfl, ⟨dx, hp⟩, k⟩ := h
    refine ⟨_, pss_cons (ps_set (i := 2) sc.nd rfl (Or.inl rfl) (pe_call GA (hr.mono (by decide)) (by rfl) mA kA bA .nil (passes_call (takes_of rfl rfl rfl rfl) (fun _ _ _ _ z => z)) (pa_cons (pv 1) pa_nil)))
      (pss_one (ps_ret (pe_make mk GI (hr.mono (by decide)) (by rfl) T.gC b3 .nil passL (pa_cons (pe_op op_mulW (pe_fld (pv 0) rfl) (pe_fld (pv 2) rfl)) (pa_cons (pe_op op_mulW (pe_fld (pv 0) rfl) (pe_fld (pv 2) rfl)) pa_nil))))), ?_⟩
    rcases k with ⟨t', b', nm, S, k⟩ | ⟨bd, k⟩
    · refine ⟨_, rfl, v, rfl, .inl ⟨t', b', nm, fun r H2 sm ⟨dr, hr2⟩ => ?_⟩⟩
      have hp2 := sm _ _ hp
      refine ⟨_, rfl, p, C, dx, _, _, rfl, hp2, T.cl, T.nT, flds_top _ _, _, rfl, r, C, dr, _, _, rfl, hr2, T.cl, T.nT, flds_top _ _, _, _, rfl, rfl, mulok S.t1 S.t1', _, rfl, p, C, dx, _, _, rfl, hp2, T.cl, T.nB, flds_bot _ _, _, rfl, r, C, dr, _, _, rfl, hr2, T.cl, T.nB, flds_bot _ _, _, _, rfl, rfl, mulok S.b1 S.b1', ?_⟩
      exact mk_good (Int.ne_of_gt (Int.mul_pos S.b0 S.b0')) (mul_sm S.b1 S.b1') fun q H' sm' r' => k q H' (sm.trans sm') r'
    · exact ⟨_, rfl, v, rfl, .inr ⟨bd, k⟩⟩

theorem ok_lt {f : Addr} {fd : FuncData} (F : Fun K "__lt__" "Ratio.__lt__" (sRat 13) f fd) (T : Txt K mg C CI fCI CZ fCZ) (GG : Glb P w K mg base "_as_ratio" 5 ["value"] (spAs C CI)) :
    FnOk P w K mg base (L2.CX P w) 6 f fd ["self", "other"] (spCm C CI (fun t b t' b' => decide (t * b' < t' * b))) := by
  obtain ⟨fA, fdA, mA, kA, GA, bA⟩ := GG.ex
  have sc : FnScope ["self", "other", "right"] ["self", "other"] (defScope (sRat 13)) := ⟨rfl, rfl, rfl, by decide +kernel, rfl, by decide +kernel, by decide +kernel⟩
  refine F.okX sc (fun vs H Q E h => ?_) (fun cdv A outer s H vs Q E hr h => ?_)
  · obtain ⟨p, v, t, b, rfl, _⟩ := h
    rfl
  · obtain ⟨p, v, t, b, rfl, ⟨dx, hp⟩, k⟩ := h
    refine ⟨_, pss_cons (ps_set (i := 2) sc.nd rfl (Or.inl rfl) (pe_call GA (hr.mono (by decide)) (by rfl) mA kA bA .nil (passes_call (takes_of rfl rfl rfl rfl) (fun _ _ _ _ z => z)) (pa_cons (pv 1) pa_nil)))
      (pss_one (ps_ret (pe_cmpR op_lt (pe_op op_mulW (pe_fld (pv 0) rfl) (pe_fld (pv 2) rfl)) (pe_op op_mulW (pe_fld (pv 2) rfl) (pe_fld (pv 0) rfl)) (nomark _)))), ?_⟩
    rcases k with ⟨t', b', nm, S, k⟩ | ⟨bd, k⟩
    · refine ⟨_, rfl, v, rfl, .inl ⟨t', b', nm, fun r H2 sm ⟨dr, hr2⟩ => ?_⟩⟩
      have hp2 := sm _ _ hp
      exact ⟨_, rfl, p, C, dx, _, _, rfl, hp2, T.cl, T.nT, flds_top _ _, _, rfl, r, C, dr, _, _, rfl, hr2, T.cl, T.nB, flds_bot _ _, _, _, rfl, rfl, mulok S.t1 S.b1', _, rfl, r, C, dr, _, _, rfl, hr2, T.cl, T.nT, flds_top _ _, _, rfl, p, C, dx, _, _, rfl, hp2, T.cl, T.nB, flds_bot _ _, _, _, rfl, rfl, mulok S.t1' S.b1, _, _, rfl, rfl, k H2 sm⟩
    · exact ⟨_, rfl, v, rfl, .inr ⟨bd, k⟩⟩

end
/-- a method of the class, by its name -/
structure Dun (P : Program) (w : World) (K : PySem.W.Frag) (mg : Str → Option Value) (base : Heap) (C : Addr) (nm : Str) (k : Nat) (ps : List Str) (sp : Sp) : Prop where
  ex : ∃ (f : Addr) (fd : FuncData), PySem.W.findIn K (.ref C) nm = some (some (.ref f)) ∧ PySem.W.isFn K (.ref f) = true ∧ PySem.W.keepIn K (.ref f) = true ∧ FnOk P w K mg base (L2.CX P w) k f fd ps sp ∧ L2.Binds K fd ps []
/-- what is known of the class beside the built-in types -/
structure Tys (K : PySem.W.Frag) (C : Addr) : Prop where
  sf : PySem.W.selfFirst K C = true
  nCC : PySem.W.notFirst K C (.ref C) = true
  nI : PySem.W.notFirst K C (.type "int") = true
  nB : PySem.W.notFirst K C (.type "bool") = true
  nN : PySem.W.notFirst K C (.type "NoneType") = true
  nS : PySem.W.notFirst K C (.type "str") = true
  nL : PySem.W.notFirst K C (.type "list") = true
  nT : PySem.W.notFirst K C (.type "tuple") = true
  sI : PySem.W.subIn K (.ref C) (.type "int") = some false
def RAny (C : Addr) : V → Hp → Prop := fun y H => RIns C y H ∨ RInt y H ∨ Bd H y
theorem looks_any {X : Cx} {C : Addr} (Y : Tys X.K C) {y : V} {H : Hp} {u : Value} {pins : List (Addr × Obj)} {σ : L2.St} {s : Shared} (I : L2.Inv X pins σ H s) (h : RAny C y H) (ry : RelV y u) :
    ∃ tb, PySem.W.Looks (model X.prog X.w) s.heap (typeOf u) tb ∧ PySem.W.notFirst X.K C tb = true := by
  rcases h with h | h | h
  · exact looks_ins Y.nCC I h ry
  · exact looks_int Y.nI I h ry
  · cases h with
    | bl b => cases (show u = Value.bool b from ry); exact ⟨_, PySem.W.Looks.of_pure rfl, Y.nB⟩
    | non => cases (show u = Value.none from ry); exact ⟨_, PySem.W.Looks.of_pure rfl, Y.nN⟩
    | str x => obtain ⟨t, rfl⟩ := (show ∃ t, u = Value.str x t from ry); exact ⟨_, PySem.W.Looks.of_pure rfl, Y.nS⟩
    | lst e =>
      cases (show u = Value.ref _ from ry)
      obtain ⟨_, _, n, _, h1⟩ := (show ObjOk X.prog X.w H s.heap _ (.lst _) from I.hok _ _ e)
      exact ⟨.type "list", fun A Q E s' k q => wpAny_typeOf_ref (k _ _ h1) q, Y.nL⟩
    | tup e =>
      cases (show u = Value.ref _ from ry)
      obtain ⟨_, _, _, o, h1, h2, _⟩ := (show ObjOk X.prog X.w H s.heap _ (.tup _) from I.hok _ _ e)
      exact ⟨.type "tuple", fun A Q E s' k q => wpAny_typeOf_ref (k _ _ h1) (by rw [h2]; exact q), Y.nT⟩

section
variable {P : Program} {w : World} {K : PySem.W.Frag} {mg : Str → Option Value} {base : Heap} {C CI fCI CZ fCZ : Addr}
def spEq (C : Addr) (neg : Bool) : Sp := fun vs H Q _ => ∃ p v t b, vs = [.ref p, v] ∧ Rat C H p t b ∧ ((∃ q t' b', v = .ref q ∧ Rat C H q t' b' ∧ Q (.bl (neg != (decide (t = t') && decide (b = b')))) H) ∨
  (∃ i, v = .int i ∧ Q (.bl (neg != (decide (b = 1) && decide (t = i)))) H) ∨ (Bd H v ∧ Q (.bl neg) H))
theorem dI (i j : Int) : decide (V.int i = V.int j) = decide (i = j) := by
  by_cases h : i = j
  · rw [decide_eq_true h, decide_eq_true (by rw [h])]
  · rw [decide_eq_false h, decide_eq_false (fun z => h (V.int.inj z))]
theorem ok_eq {f : Addr} {fd : FuncData} (F : Fun K "__eq__" "Ratio.__eq__" (sRat 11) f fd) (T : Txt K mg C CI fCI CZ fCZ) (GW : Glb P w K mg base "is_whole" 1 ["value"] (spWhole C)) :
    FnOk P w K mg base (L2.CX P w) 2 f fd ["self", "other"] (spEq C false) := by
  obtain ⟨fW, fdW, mW, kW, GW, bW⟩ := GW.ex
  have sc : FnScope ["self", "other"] ["self", "other"] (defScope (sRat 11)) := ⟨rfl, rfl, rfl, by decide +kernel, rfl, by decide +kernel, by decide +kernel⟩
  refine F.okX sc (fun vs H Q E h => ?_) (fun cdv A outer s H vs Q E hr h => ?_)
  · obtain ⟨p, v, t, b, rfl, _⟩ := h
    rfl
  · obtain ⟨p, v, t, b, rfl, ⟨dx, hp⟩, k⟩ := h
    refine ⟨_, pss_cons (ps_if (pt_val (pe_callB call_isi (by rfl) T.isi (by decide +kernel) (pa_cons (pv 1) (pa_cons (pe_glob (v := .ref C) (by rfl) T.gC rfl) pa_nil))))
        (pss_one (ps_ret (pe_and (pe_cmpR op_eq (pe_fld (pv 0) rfl) (pe_fld (pv 1) rfl) (nomark _)) (pe_one (pe_cmpR op_eq (pe_fld (pv 0) rfl) (pe_fld (pv 1) rfl) (nomark _)))))) pss_nil)
      (pss_one (ps_ret (pe_and (pe_call GW hr (by rfl) mW kW bW .nil passL (pa_cons (pv 1) pa_nil)) (pe_and (pe_cmpR op_eq (pe_fld (pv 0) rfl) pe_int (nomark _)) (pe_one (pe_cmpR op_eq (pe_fld (pv 0) rfl) (pv 1) (nomark _))))))), ?_⟩
    rcases k with ⟨q, t', b', rfl, ⟨dq, hq⟩, k⟩ | ⟨i, rfl, k⟩ | ⟨bd, k⟩
    · refine ⟨_, rfl, _, _, _, _, _, rfl, .own C, .base (.ins hq T.cl T.ha T.hn T.htk T.hm), T.kCC, _, rfl, iteT ?_⟩
      refine ⟨_, rfl, p, C, dx, _, _, rfl, hp, T.cl, T.nT, flds_top _ _, _, rfl, q, C, dq, _, _, rfl, hq, T.cl, T.nT, flds_top _ _, rfl, _, rfl, ?_⟩
      rw [dI]
      by_cases h : t = t'
      · rw [decide_eq_true h]
        refine iteT ⟨_, rfl, p, C, dx, _, _, rfl, hp, T.cl, T.nB, flds_bot _ _, _, rfl, q, C, dq, _, _, rfl, hq, T.cl, T.nB, flds_bot _ _, rfl, ?_⟩
        rw [dI]
        rw [decide_eq_true h] at k
        simpa using k
      · rw [decide_eq_false h]
        rw [decide_eq_false h] at k
        exact iteF (by simpa using k)
    · refine ⟨_, rfl, _, _, _, _, _, rfl, .own C, .base (.int i), T.kiC, _, rfl, iteF ?_⟩
      refine ⟨_, rfl, _, rfl, .int i, _, rfl, iteT ⟨_, rfl, p, C, dx, _, _, rfl, hp, T.cl, T.nB, flds_bot _ _, rfl, _, rfl, ?_⟩⟩
      rw [dI]
      by_cases h : b = 1
      · rw [decide_eq_true h]
        refine iteT ⟨_, rfl, p, C, dx, _, _, rfl, hp, T.cl, T.nT, flds_top _ _, _, rfl, rfl, ?_⟩
        rw [dI]
        rw [decide_eq_true h] at k
        simpa using k
      · rw [decide_eq_false h]
        rw [decide_eq_false h] at k
        exact iteF (by simpa using k)
    · cases bd with
      | bl b => exact ⟨_, rfl, _, _, _, _, _, rfl, .own C, .base (.bl b), T.kbC, _, rfl, iteF ⟨_, rfl, _, rfl, .bl b, _, rfl, iteF k⟩⟩
      | non => exact ⟨_, rfl, _, _, _, _, _, rfl, .own C, .base .non, T.knC, _, rfl, iteF ⟨_, rfl, _, rfl, .non, _, rfl, iteF k⟩⟩
      | str x => exact ⟨_, rfl, _, _, _, _, _, rfl, .own C, .base (.str x), T.ksC, _, rfl, iteF ⟨_, rfl, _, rfl, .str x, _, rfl, iteF k⟩⟩
      | lst e => exact ⟨_, rfl, _, _, _, _, _, rfl, .own C, .base (.lst e), T.klC, _, rfl, iteF ⟨_, rfl, _, rfl, .lst e, _, rfl, iteF k⟩⟩
      | tup e => exact ⟨_, rfl, _, _, _, _, _, rfl, .own C, .base (.tup e), T.ktC, _, rfl, iteF ⟨_, rfl, _, rfl, .tup e, _, rfl, iteF k⟩⟩
theorem ok_ne {f : Addr} {fd : FuncData} (F : Fun K "__ne__" "Ratio.__ne__" (sRat 12) f fd) (Z : Tys K C) (D : Dun P w K mg base C (cmpInfo .Eq).2.1 2 ["self", "other"] (spEq C false)) :
    FnOk P w K mg base (L2.CX P w) 3 f fd ["self", "other"] (spEq C true) := by
  obtain ⟨g, gd, ga, gf, _, GD, gb⟩ := D.ex
  have sc : FnScope ["self", "other"] ["self", "other"] (defScope (sRat 12)) := ⟨rfl, rfl, rfl, by decide +kernel, rfl, by decide +kernel, by decide +kernel⟩
  refine F.okX sc (fun vs H Q E h => ?_) (fun cdv A outer s H vs Q E hr h => ?_)
  · obtain ⟨p, v, t, b, rfl, _⟩ := h
    rfl
  · obtain ⟨p, v, t, b, rfl, ⟨dx, hp⟩, k⟩ := h
    refine ⟨_, pss_one (ps_ret (pe_not (pe_cmpR (op := .Eq) (cmp_own (C := C) (E := E0) (R := RAny C) (fun _ _ => rfl) ga gf GD hr gb passL (looks_any Z)) (pv 0) (pv 1) (nomark _)))), ?_⟩
    rcases k with ⟨q, t', b', rfl, ⟨dq, hq⟩, k⟩ | ⟨i, rfl, k⟩ | ⟨bd, k⟩
    · exact ⟨_, rfl, _, rfl, p, dx, _, rfl, hp, .inl ⟨q, dq, _, rfl, hq⟩, p, .ref q, t, b, rfl, ⟨dx, hp⟩, .inl ⟨q, t', b', rfl, ⟨dq, hq⟩, _, rfl, by cases hx : (decide (t = t') && decide (b = b')) <;> rw [hx] at k <;> exact k⟩⟩
    · exact ⟨_, rfl, _, rfl, p, dx, _, rfl, hp, .inr (.inl ⟨i, rfl⟩), p, .int i, t, b, rfl, ⟨dx, hp⟩, .inr (.inl ⟨i, rfl, _, rfl, by cases hx : (decide (b = 1) && decide (t = i)) <;> rw [hx] at k <;> exact k⟩)⟩
    · exact ⟨_, rfl, _, rfl, p, dx, _, rfl, hp, .inr (.inr bd), p, v, t, b, rfl, ⟨dx, hp⟩, .inr (.inr ⟨bd, _, rfl, k⟩)⟩
end
end R1
end

-- P3g
section
set_option Elab.async false
set_option linter.all false
set_option maxRecDepth 100000
set_option exponentiation.threshold 10000
namespace R1
open PySem L2 OwnOps RatM
abbrev sStart : Stmt := top 16
abbrev sDraw : Stmt := top 17
/-- all stands but at l -/
def SameX (l : Addr) (H H' : Hp) : Prop := ∀ b u, b ≠ l → H b = some u → H' b = some u
theorem SameX.refl (l : Addr) (H : Hp) : SameX l H H := fun _ _ _ e => e
theorem SameX.trans {l : Addr} {H H1 H2 : Hp} (a : SameX l H H1) (b : SameX l H1 H2) : SameX l H H2 := fun c o n h => b c o n (a c o n h)
theorem SameX.of {l : Addr} {H H' : Hp} (a : Same H H') : SameX l H H' := fun c o _ h => a c o h
theorem SameX.upd {l : Addr} {H : Hp} {o : HO} : SameX l H (upd H l o) := fun c u n h => by
  rw [upd_ne n]
  exact h
theorem SameX.put {l a : Addr} {H H1 : Hp} {o : HO} (s : SameX l H H1) (h : H1 a = none) : SameX l H (L2.upd H1 a o) := fun c u n e => by
  rw [upd_ne (ne_of_none (s c u n e) h)]
  exact s c u n e
/-- the state of the law's draws -/
def St (H : Hp) (l ls : Addr) : Prop := ∃ (ns : List Int) (at' rest seed : Int), ls ≠ l ∧ 0 ≤ at' ∧ H ls = some (.lst (ns.map V.int)) ∧ H l = some (.lst [.ref ls, .int at', .int rest, .int seed])
theorem St.same {H H' : Hp} {l ls : Addr} (h : St H l ls) (s : Same H H') : St H' l ls :=
  let ⟨ns, a, r, sd, n, a0, h1, h2⟩ := h
  ⟨ns, a, r, sd, n, a0, s _ _ h1, s _ _ h2⟩
structure Nms (mg : Str → Option Value) : Prop where
  len : mg "len" = none
  range : mg "range" = none
  list : mg "list" = none
  all : mg "all" = none
theorem mod_nn {x : Int} {u : Int} (h : 0 < u) : 0 ≤ x % u ∧ x % u < u := ⟨Int.emod_nonneg _ (Int.ne_of_gt h), Int.emod_lt_of_pos _ h⟩
theorem ns_at {ns : List Int} {a : Int} (a0 : 0 ≤ a) (h : decide (a < ((ns.map V.int).length : Int)) = true) : ∃ z, atI (ns.map V.int) a = some (.int z) := by
  have h := of_decide_eq_true h
  rw [List.length_map] at h
  obtain ⟨j, hj⟩ : ∃ j : Nat, a = j := ⟨_, (Int.toNat_of_nonneg a0).symm⟩
  have h3 : j < ns.length := by omega
  refine ⟨ns[j], at_of hj ?_⟩
  rw [List.getElem?_map, List.getElem?_eq_getElem h3]
  rfl
section
variable {P : Program} {w : World} {K : PySem.W.Frag} {mg : Str → Option Value} {base : Heap} {C CI fCI CZ fCZ : Addr}
def spDraw : Sp := fun vs H Q _ => ∃ (l ls : Addr) (u : Int), vs = [.ref l, .int u] ∧ 0 < u ∧ u.natAbs < 2 ^ 9000 ∧ St H l ls ∧
  ∀ d H', 0 ≤ d → d < u → SameX l H H' → St H' l ls → Q (.int d) H'
theorem ok_draw {f : Addr} {fd : FuncData} (F : Fun K "_law_draw" "_law_draw" sDraw f fd) (int : mg "int" = none) (N : Nms mg) :
    FnOk P w K mg base (L2.CX P w) 1 f fd ["_law_state", "_law_many"] spDraw := by
  have sc : FnScope ["_law_state", "_law_many", "_law_digit", "_law_cell"] ["_law_state", "_law_many"] (defScope sDraw) := ⟨rfl, rfl, rfl, by decide +kernel, rfl, by decide +kernel, by decide +kernel⟩
  refine F.okX sc (fun vs H Q E h => ?_) (fun cdv A outer s H vs Q E hr h => ?_)
  · obtain ⟨l, ls, u, rfl, _⟩ := h
    rfl
  · obtain ⟨l, ls, u, rfl, u0, u1, ⟨ns, a, r, sd, n, a0, h1, h2⟩, fin⟩ := h
    refine ⟨_, pss_cons (ps_if (pt_cmpR op_gt (pe_ix ix_list (pv 0) pe_int (fun _ _ => rfl)) pe_int (nomark _))
        (pss_cons (ps_set (i := 2) sc.nd rfl (Or.inl rfl) (pe_op op_mod (pe_callTy call_int1 (by rfl) int (by decide +kernel) (pa_cons (pe_ix ix_list (pv 0) pe_int (fun _ _ => rfl)) pa_nil)) (pv 1)))
        (pss_cons (ps_asg (pe_op op_fdivG (pe_ix ix_list (pv 0) pe_int (fun _ _ => rfl)) (pv 1)) (pg_sub (pv 0) pe_int set_list))
        (pss_one (ps_ret (pv 2))))) pss_nil)
      (pss_cons (ps_set (i := 3) sc.nd rfl (Or.inl rfl) (pe_ifExp (pt_cmpR op_lt (pe_ix ix_list (pv 0) pe_int (fun _ _ => rfl)) (pe_callB call_len_seq (by rfl) N.len PySem.boot_len (pa_cons (pe_ix ix_list (pv 0) pe_int (fun _ _ => rfl)) pa_nil)) (nomark _))
          (pe_ix ix_list (pe_ix ix_list (pv 0) pe_int (fun _ _ => rfl)) (pe_ix ix_list (pv 0) pe_int (fun _ _ => rfl)) (fun _ _ => rfl)) pe_int))
      (pss_cons (ps_asg (pe_op op_add (pe_ix ix_list (pv 0) pe_int (fun _ _ => rfl)) pe_int) (pg_sub (pv 0) pe_int set_list))
      (pss_cons (ps_if (pt_cmpR op_ge (pv 3) (pe_op op_pow pe_int pe_int) (nomark _))
        (pss_cons (ps_asg (pe_op op_fdivG (pv 3) (pv 1)) (pg_sub (pv 0) pe_int set_list))
        (pss_one (ps_ret (pe_op op_mod (pe_callTy call_int1 (by rfl) int (by decide +kernel) (pa_cons (pv 3) pa_nil)) (pv 1))))) pss_nil)
      (pss_cons (ps_asg (pe_op op_mod (pe_callTy call_int1 (by rfl) int (by decide +kernel) (pa_cons (pe_op op_add (pe_op op_add (pe_op op_add (pe_op op_mul (pe_ix ix_list (pv 0) pe_int (fun _ _ => rfl)) pe_int) (pe_op op_mul (pv 3) pe_int)) (pe_op op_mul (pe_ix ix_list (pv 0) pe_int (fun _ _ => rfl)) pe_int)) pe_int) pa_nil)) pe_int) (pg_sub (pv 0) pe_int set_list))
      (pss_one (ps_ret (pe_op op_mod (pe_callTy call_int1 (by rfl) int (by decide +kernel) (pa_cons (pe_op op_mod (pe_callTy call_int1 (by rfl) int (by decide +kernel) (pa_cons (pe_op op_add (pe_op op_mul (pe_ix ix_list (pv 0) pe_int (fun _ _ => rfl)) pe_int) pe_int) pa_nil)) pe_int) pa_nil)) (pv 1)))))))), ?_⟩
    have dv : ∀ x, CDivG x u := fun x => wide_divG (Int.ne_of_gt u0) u1 (by decide) (by decide)
    have kp : ∀ {o : HO} {H0 : Hp}, SameX l H H0 → (L2.upd H0 l o) ls = some (.lst (ns.map V.int)) := fun {o H0} s0 => by
      rw [upd_ne n]
      exact s0 _ _ n h1
    have p18 : ((10 : Int) ^ (18 : Int).toNat) = 1000000000000000000 := by decide +kernel
    refine ⟨_, rfl, l, _, _, _, rfl, rfl, SqL.of h2, at_of (j := 2) rfl rfl, _, _, rfl, rfl, _, rfl, ?_⟩
    refine ite2 (fun _ => ?_) (fun _ => ?_)
    · refine ⟨_, rfl, l, _, _, _, rfl, rfl, SqL.of h2, at_of (j := 2) rfl rfl, .inl ⟨_, rfl, _, rfl, _, _, rfl, rfl, u0, ?_⟩⟩
      refine ⟨_, rfl, l, _, _, _, rfl, rfl, SqL.of h2, at_of (j := 2) rfl rfl, _, rfl, _, _, rfl, rfl, dv _, _, rfl, l, _, _, 2, rfl, rfl, h2, rfl, _, rfl, ?_⟩
      exact fin _ _ (mod_nn u0).1 (mod_nn u0).2 SameX.upd ⟨ns, a, _, sd, n, a0, kp (SameX.refl l H), upd_same⟩
    · refine ⟨_, rfl, l, _, _, _, rfl, rfl, SqL.of h2, at_of (j := 1) rfl rfl, _, rfl, l, _, _, _, rfl, rfl, SqL.of h2, at_of (j := 0) rfl rfl, ls, _, rfl, .inl (SqL.of h1), _, _, rfl, rfl, _, rfl, ?_⟩
      refine ite2 (fun hin => ?_) (fun _ => ?_)
      · obtain ⟨z, hz⟩ := ns_at a0 hin
        refine ⟨_, rfl, l, _, _, _, rfl, rfl, SqL.of h2, at_of (j := 0) rfl rfl, _, rfl, l, _, _, _, rfl, rfl, SqL.of h2, at_of (j := 1) rfl rfl, ls, _, _, _, rfl, rfl, SqL.of h1, hz, ?_⟩
        refine ⟨_, rfl, l, _, _, _, rfl, rfl, SqL.of h2, at_of (j := 1) rfl rfl, _, _, rfl, rfl, _, rfl, l, _, _, 1, rfl, rfl, h2, rfl, ?_⟩
        have h3 : (L2.upd H l (.lst [.ref ls, .int (a + 1), .int r, .int sd])) l = some (.lst [.ref ls, .int (a + 1), .int r, .int sd]) := upd_same
        refine ⟨_, rfl, _, _, rfl, rfl, ⟨by decide, by decide, by decide +kernel⟩, _, _, rfl, rfl, _, rfl, ?_⟩
        refine ite2 (fun _ => ?_) (fun _ => ?_)
        · refine ⟨_, rfl, _, rfl, _, _, rfl, rfl, dv _, _, rfl, l, _, _, 2, rfl, rfl, h3, rfl, ?_⟩
          refine ⟨_, rfl, .inl ⟨_, rfl, _, rfl, _, _, rfl, rfl, u0, ?_⟩⟩
          exact fin _ _ (mod_nn u0).1 (mod_nn u0).2 (SameX.upd.trans SameX.upd) ⟨ns, a + 1, _, sd, n, by omega, kp SameX.upd, upd_same⟩
        · refine ⟨_, rfl, l, _, _, _, rfl, rfl, SqL.of h3, at_of (j := 3) rfl rfl, _, _, rfl, rfl, .inr ⟨by decide, by decide⟩, _, rfl, _, _, rfl, rfl, .inr ⟨by decide, by decide⟩, _, _, rfl, rfl,
            _, rfl, l, _, _, _, rfl, rfl, SqL.of h3, at_of (j := 1) rfl rfl, _, _, rfl, rfl, .inr ⟨by decide, by decide⟩, _, _, rfl, rfl, _, _, rfl, rfl, .inl ⟨_, rfl, _, _, rfl, rfl, (by show (0 : Int) < 2147483647; decide), _, rfl, l, _, _, 3, rfl, rfl, h3, rfl, ?_⟩⟩
          refine ⟨_, rfl, l, _, _, _, rfl, rfl, SqL.of upd_same, at_of (j := 3) rfl rfl, _, _, rfl, rfl, .inr ⟨by decide, by decide⟩, _, _, rfl, rfl, .inl ⟨_, rfl, _, _, rfl, rfl, (by show (0 : Int) < 2147483399; decide), .inl ⟨_, rfl, _, rfl, _, _, rfl, rfl, u0, ?_⟩⟩⟩
          exact fin _ _ (mod_nn u0).1 (mod_nn u0).2 (SameX.upd.trans SameX.upd) ⟨ns, a + 1, r, _, n, by omega, kp SameX.upd, upd_same⟩
      · skip
        refine ⟨_, rfl, l, _, _, _, rfl, rfl, SqL.of h2, at_of (j := 1) rfl rfl, _, _, rfl, rfl, _, rfl, l, _, _, 1, rfl, rfl, h2, rfl, ?_⟩
        have h3 : (L2.upd H l (.lst [.ref ls, .int (a + 1), .int r, .int sd])) l = some (.lst [.ref ls, .int (a + 1), .int r, .int sd]) := upd_same
        refine ⟨_, rfl, _, _, rfl, rfl, ⟨by decide, by decide, by decide +kernel⟩, _, _, rfl, rfl, _, rfl, ?_⟩
        refine ite2 (fun _ => ?_) (fun _ => ?_)
        · refine ⟨_, rfl, _, rfl, _, _, rfl, rfl, dv _, _, rfl, l, _, _, 2, rfl, rfl, h3, rfl, ?_⟩
          refine ⟨_, rfl, .inl ⟨_, rfl, _, rfl, _, _, rfl, rfl, u0, ?_⟩⟩
          exact fin _ _ (mod_nn u0).1 (mod_nn u0).2 (SameX.upd.trans SameX.upd) ⟨ns, a + 1, _, sd, n, by omega, kp SameX.upd, upd_same⟩
        · refine ⟨_, rfl, l, _, _, _, rfl, rfl, SqL.of h3, at_of (j := 3) rfl rfl, _, _, rfl, rfl, .inr ⟨by decide, by decide⟩, _, rfl, _, _, rfl, rfl, .inr ⟨by decide, by decide⟩, _, _, rfl, rfl,
            _, rfl, l, _, _, _, rfl, rfl, SqL.of h3, at_of (j := 1) rfl rfl, _, _, rfl, rfl, .inr ⟨by decide, by decide⟩, _, _, rfl, rfl, _, _, rfl, rfl, .inl ⟨_, rfl, _, _, rfl, rfl, (by show (0 : Int) < 2147483647; decide), _, rfl, l, _, _, 3, rfl, rfl, h3, rfl, ?_⟩⟩
          refine ⟨_, rfl, l, _, _, _, rfl, rfl, SqL.of upd_same, at_of (j := 3) rfl rfl, _, _, rfl, rfl, .inr ⟨by decide, by decide⟩, _, _, rfl, rfl, .inl ⟨_, rfl, _, _, rfl, rfl, (by show (0 : Int) < 2147483399; decide), .inl ⟨_, rfl, _, rfl, _, _, rfl, rfl, u0, ?_⟩⟩⟩
          exact fin _ _ (mod_nn u0).1 (mod_nn u0).2 (SameX.upd.trans SameX.upd) ⟨ns, a + 1, r, _, n, by omega, kp SameX.upd, upd_same⟩
end
end R1
end

-- P3p
section
set_option Elab.async false
set_option linter.all false
set_option maxRecDepth 100000
set_option exponentiation.threshold 10000
namespace R1
open PySem L2 OwnOps RatM OwnNe
abbrev sPri (j : Nat) : Stmt := inClass (top 13) j
abbrev sChk : Stmt := top 14
structure PTxt (K : PySem.W.Frag) (mg : Str → Option Value) (D CP fCP : Addr) : Prop where
  cl : Cls K D
  n1 : NoAttr K D "_lost"
  n2 : NoAttr K D "_surplus"
  n3 : NoAttr K D "_value"
  n4 : NoAttr K D "_junction"
  gD : mg "Prices" = some (.ref D)
  eP : PySem.Giv.ErrTxt K mg "InvalidPrices" "InvalidPrices.__init__" "ValueError.__new__" veT CP fCP
  ha : PySem.W.findIn K (.ref D) "__class__" = some (some (.builtin "object.__class__"))
  hn : PySem.W.specialIn K (.builtin "object.__class__") "__get__" = some (some (.builtin "getset_descriptor.__get__"))
  htk : PySem.W.takesIn K (.builtin "object.__class__") = some true
  hm : PySem.W.mroIn K D (.type "object") = some true
  kDD : PySem.W.kitOne K (.ref D) (.ref D) = some true
  kiD : PySem.W.kitOne K (.type "int") (.ref D) = some false
/-- v stands for t / b, in lowest terms -/
structure Pc (C : Addr) (H : Hp) (v : V) (t b : Int) : Prop where
  num : Num C H v t b
  b0 : 0 < b
  nt : nt t b = t
  nb : nb t b = b
  st : Sm 200 t
  sb : Sm 200 b
theorem Pc.same {C : Addr} {H H' : Hp} {v : V} {t b : Int} (h : Pc C H v t b) (e : Same H H') : Pc C H' v t b := ⟨h.num.same e, h.b0, h.nt, h.nb, h.st, h.sb⟩
/-- no price -/
def Off (C : Addr) (H : Hp) (v : V) : Prop := Bd H v ∨ ∃ t b, Pc C H v t b ∧ t < b
theorem Off.same {C : Addr} {H H' : Hp} {v : V} (h : Off C H v) (e : Same H H') : Off C H' v := h.elim (fun h => .inl (h.same e)) fun ⟨t, b, h, l⟩ => .inr ⟨t, b, h.same e, l⟩
def spChk (C CP : Addr) : Sp := fun vs H Q E => ∃ nm v, vs = [nm, v] ∧
  ((∃ t b, Pc C H v t b ∧ b ≤ t ∧ ∀ r H', Same H H' → Rat C H' r t b → Q (.ref r) H') ∨ (Off C H v ∧ ∀ d H', Same H H' → H' d = some (xd nm) → E (.ref CP) (some d) H'))
theorem sm12 {x : Int} (h : Sm 200 x) : Sm 1200 x := Nat.lt_of_lt_of_le h (Nat.pow_le_pow_right (by decide) (by decide))
theorem one12 : Sm 1200 1 := by unfold Sm; exact Nat.one_lt_two_pow (by decide)
section
variable {P : Program} {w : World} {K : PySem.W.Frag} {mg : Str → Option Value} {base : Heap} {C CI fCI CZ fCZ D CP fCP : Addr}
theorem nx_go {E : Ends} {σ : L2.St} {H : Hp} (h : E.nx σ H) : tNext E σ H := h
theorem make_c {σ : L2.St} {H : Hp} {Q : VK} {E : XK} {t : Int} (k : ∀ p H', Same H H' → Rat C H' p t 1 → Q (.ref p) H') : tMake C (spInit C CI CZ) [V.int 1] E (tCons (tC (V.int t)) tNil) σ H Q :=
  mk_good (by decide) (Nat.lt_of_lt_of_le one12 (Nat.pow_le_pow_right (by decide) (by decide))) fun p H3 s3 rp => k p H3 s3 (by rw [(nt_one t).1, (nt_one t).2] at rp; exact rp)
theorem ret_make {σ : L2.St} {H : Hp} {D : Ends} {E : XK} {t : Int} {r : R2} {tb : TE} (k : ∀ p H', Same H H' → Rat C H' p t 1 → tb σ H' fun y H2 => r (.ref p) y H2 D.rt) :
    tRet (tOp r (tMake C (spInit C CI CZ) [V.int 1] E (tCons (tC (V.int t)) tNil)) tb) D σ H := by
  show tMake C (spInit C CI CZ) [V.int 1] E (tCons (tC (V.int t)) tNil) σ H (fun x H1 => tb σ H1 fun y H2 => r x y H2 D.rt)
  exact make_c k
theorem ok_chk {f : Addr} {fd : FuncData} (F : Fun K "_checked_price" "_checked_price" sChk f fd) (T : Txt K mg C CI fCI CZ fCZ) (Z : Tys K C) (U : PTxt K mg D CP fCP) (M : Mak P w K mg base C CI CZ)
    (GW : Glb P w K mg base "is_whole" 1 ["value"] (spWhole C)) (ML : Dun P w K mg base C (PySem.dunder "mul") 6 ["self", "other"] (spAr C CI (fun t b t' b' => t * t') (fun t b t' b' => b * b')))
    (LT : Dun P w K mg base C (cmpInfo .Lt).2.1 6 ["self", "other"] (spCm C CI (fun t b t' b' => decide (t * b' < t' * b))))
    (rf : ∃ rc, PySem.W.findIn K (.ref C) (PySem.dunderR "mul") = some rc ∧ (rc = none ∨ ∃ q : Addr, rc = some (.ref q))) (TI : Ty2 K C "mul" "int") :
    FnOk P w K mg base (L2.CX P w) 7 f fd ["name", "price"] (spChk C CP) := by
  obtain ⟨fI, fdI, ds, mk, GI, b3, d2, b2⟩ := M.ex
  obtain ⟨fW, fdW, mW, kW, GW, bW⟩ := GW.ex
  obtain ⟨_, _, mua, muf, _, muG, mub⟩ := ML.ex
  obtain ⟨_, _, lta, ltf, _, ltG, ltb⟩ := LT.ex
  have sc : FnScope ["name", "price"] ["name", "price"] (defScope sChk) := ⟨rfl, rfl, rfl, by decide +kernel, rfl, by decide +kernel, by decide +kernel⟩
  refine F.okX sc (fun vs H Q E h => ?_) (fun cdv A outer s H vs Q E hr h => ?_)
  · obtain ⟨nm, v, rfl, _⟩ := h
    rfl
  · obtain ⟨nm, v, rfl, k⟩ := h
    refine ⟨_, pss_cons (ps_if (PW.pt (pw_and (pt_not (pt_val (pe_callB call_isi (by rfl) T.isi (by decide +kernel) (pa_cons (pv 1) (pa_cons (pe_glob (v := .ref C) (by rfl) T.gC rfl) pa_nil)))))
          (pw_and1 (pt_not (pt_val (pe_call GW (hr.mono (by decide)) (by rfl) mW kW bW .nil passL (pa_cons (pv 1) pa_nil)))))))
        (pss_one (ps_raiseGiv rfl PySem.Giv.ok_VE U.eP hr (takes_of rfl rfl rfl rfl) (pa_cons (pv 0) pa_nil) (by rfl))) pss_nil)
      (pss_cons (ps_if (pt_cmpR (op := .Lt) (op_or (cmp_own (C := C) (E := E0) (R := RAny C) (fun _ _ => rfl) lta ltf ltG (hr.mono (by decide)) ltb passL (looks_any Z)) op_lt) (pv 1) pe_int (nomark _))
        (pss_one (ps_raiseGiv rfl PySem.Giv.ok_VE U.eP hr (takes_of rfl rfl rfl rfl) (pa_cons (pv 0) pa_nil) (by rfl))) pss_nil)
      (pss_one (ps_ret (pe_op (op := .Mult) (op_or (op_ins (C := C) (E := E0) (op := .Mult) ⟨mua, rf, muf, Z.sf⟩ muG (hr.mono (by decide)) mub passL)
          (op_val (C := C) (E := E0) (op := .Mult) (T := "int") (R := RInt) ⟨mua, rf, muf, Z.sf⟩ TI muG (hr.mono (by decide)) mub passL (fun ⟨_, e⟩ r => by subst e; obtain ⟨t, rfl⟩ := r; rfl)))
        (pe_make mk GI (hr.mono (by decide)) (by rfl) T.gC b2 d2 passL (pa_cons pe_int pa_nil)) (pv 1))))), ?_⟩
    have nrm : ∀ {t b : Int}, Pc C H v t b → nt (1 * t) (1 * b) = t ∧ nb (1 * t) (1 * b) = b := fun pc => by rw [Int.one_mul, Int.one_mul]; exact ⟨pc.nt, pc.nb⟩
    have S1 : ∀ {t b : Int}, Pc C H v t b → Small t b 1 1 := fun pc => ⟨pc.b0, by decide, sm12 pc.st, sm12 pc.sb, one12, one12⟩
    have S2 : ∀ {t b : Int}, Pc C H v t b → Small 1 1 t b := fun pc => ⟨by decide, pc.b0, one12, one12, sm12 pc.st, sm12 pc.sb⟩
    rcases k with ⟨t, b, pc, le, k⟩ | ⟨bd | ⟨t, b, pc, lt⟩, k⟩
    · have T1 := S1 pc
      have T2 := S2 pc
      have nr := nrm pc
      have nl : decide (t * 1 < 1 * b) = false := decide_eq_false (by omega)
      rcases pc.num with ⟨q, rfl, dq, hq⟩ | ⟨rfl, rfl⟩
      · refine ⟨_, rfl, _, _, _, _, _, rfl, .own C, .base (.ins hq T.cl T.ha T.hn T.htk T.hm), T.kCC, _, rfl, if_neg' rfl ?_⟩
        refine ⟨_, rfl, .inl ⟨q, dq, _, rfl, hq, .inr (.inl ⟨1, rfl⟩), q, .int 1, t, b, rfl, ⟨dq, hq⟩, .inl ⟨1, 1, .inr ⟨rfl, rfl⟩, T1, fun H2 s2 => ⟨_, rfl, if_neg' nl ?_⟩⟩⟩⟩
        refine nx_go ?_; dsimp only; refine ret_make fun p H3 s3 rp => ?_
        have hq3 := s3 _ _ (s2 _ _ hq)
        refine ⟨_, rfl, .inl ⟨p, _, _, rfl, rp.choose_spec, ⟨q, dq, _, rfl, hq3⟩, p, .ref q, 1, 1, rfl, rp, .inl ⟨t, b, .inl ⟨q, rfl, dq, hq3⟩, T2, fun r H4 s4 rr => k r H4 ((s2.trans s3).trans s4) ?_⟩⟩⟩
        rw [nr.1, nr.2] at rr
        exact rr
      · refine ⟨_, rfl, _, _, _, _, _, rfl, .own C, .base (.int t), T.kiC, _, rfl, if_pos' rfl ⟨_, rfl, _, rfl, .int t, _, rfl, if_neg' rfl ?_⟩⟩
        refine ⟨_, rfl, .inr ⟨_, _, rfl, rfl, _, rfl, if_neg' (by simpa using le) ?_⟩⟩
        refine nx_go ?_; dsimp only; refine ret_make fun p H3 s3 rp => ?_
        refine ⟨_, rfl, .inr ⟨p, _, _, rfl, rp.choose_spec, ⟨t, rfl⟩, p, .int t, 1, 1, rfl, rp, .inl ⟨t, 1, .inr ⟨rfl, rfl⟩, T2, fun r H4 s4 rr => k r H4 (s3.trans s4) ?_⟩⟩⟩
        rw [nr.1, nr.2] at rr
        exact rr
    · have up : ∀ {d : Addr}, H d = none → Same H (upd H d (xd nm)) := fun hd => same_upd hd
      have fin : ∀ d, H d = none → E (.ref CP) (some d) (upd H d (xd nm)) := fun d hd => k d _ (same_upd hd) upd_same
      cases bd with
      | bl b => exact ⟨_, rfl, _, _, _, _, _, rfl, .own C, .base (.bl b), T.kbC, _, rfl, if_pos' rfl ⟨_, rfl, _, rfl, .bl b, _, rfl, if_pos' rfl ⟨_, rfl, _, rfl, fin⟩⟩⟩
      | non => exact ⟨_, rfl, _, _, _, _, _, rfl, .own C, .base .non, T.knC, _, rfl, if_pos' rfl ⟨_, rfl, _, rfl, .non, _, rfl, if_pos' rfl ⟨_, rfl, _, rfl, fin⟩⟩⟩
      | str x => exact ⟨_, rfl, _, _, _, _, _, rfl, .own C, .base (.str x), T.ksC, _, rfl, if_pos' rfl ⟨_, rfl, _, rfl, .str x, _, rfl, if_pos' rfl ⟨_, rfl, _, rfl, fin⟩⟩⟩
      | lst e => exact ⟨_, rfl, _, _, _, _, _, rfl, .own C, .base (.lst e), T.klC, _, rfl, if_pos' rfl ⟨_, rfl, _, rfl, .lst e, _, rfl, if_pos' rfl ⟨_, rfl, _, rfl, fin⟩⟩⟩
      | tup e => exact ⟨_, rfl, _, _, _, _, _, rfl, .own C, .base (.tup e), T.ktC, _, rfl, if_pos' rfl ⟨_, rfl, _, rfl, .tup e, _, rfl, if_pos' rfl ⟨_, rfl, _, rfl, fin⟩⟩⟩
    · have T1 := S1 pc
      have nl : decide (t * 1 < 1 * b) = true := decide_eq_true (by omega)
      have fin : ∀ H2, Same H H2 → ∀ d, H2 d = none → E (.ref CP) (some d) (upd H2 d (xd nm)) := fun H2 s2 d hd => k d _ (s2.trans (same_upd hd)) upd_same
      rcases pc.num with ⟨q, rfl, dq, hq⟩ | ⟨rfl, rfl⟩
      · refine ⟨_, rfl, _, _, _, _, _, rfl, .own C, .base (.ins hq T.cl T.ha T.hn T.htk T.hm), T.kCC, _, rfl, if_neg' rfl ?_⟩
        exact ⟨_, rfl, .inl ⟨q, dq, _, rfl, hq, .inr (.inl ⟨1, rfl⟩), q, .int 1, t, b, rfl, ⟨dq, hq⟩, .inl ⟨1, 1, .inr ⟨rfl, rfl⟩, T1, fun H2 s2 => ⟨_, rfl, if_pos' nl ⟨_, rfl, _, rfl, fin H2 s2⟩⟩⟩⟩⟩
      · refine ⟨_, rfl, _, _, _, _, _, rfl, .own C, .base (.int t), T.kiC, _, rfl, if_pos' rfl ⟨_, rfl, _, rfl, .int t, _, rfl, if_neg' rfl ?_⟩⟩
        exact ⟨_, rfl, .inr ⟨_, _, rfl, rfl, _, rfl, if_pos' (by simpa using lt) ⟨_, rfl, _, rfl, fin H (Same.refl H)⟩⟩⟩
end
end R1
end

-- P3q
section
set_option Elab.async false
set_option linter.all false
set_option maxRecDepth 100000
set_option exponentiation.threshold 10000
namespace R1
open PySem L2 OwnOps RatM OwnNe
/-! ### the four fields -/
def wd : Nat → Str
  | 0 => "lost"
  | 1 => "surplus"
  | 2 => "value"
  | _ => "junction"
def pf (r : Nat → Addr) : List (Str × V) := [("_lost", .ref (r 0)), ("_surplus", .ref (r 1)), ("_value", .ref (r 2)), ("_junction", .ref (r 3))]
theorem n01 : ¬ (("_lost" : Str) = "_surplus") := by decide +kernel
theorem n02 : ¬ (("_lost" : Str) = "_value") := by decide +kernel
theorem n03 : ¬ (("_lost" : Str) = "_junction") := by decide +kernel
theorem n10 : ¬ (("_surplus" : Str) = "_lost") := by decide +kernel
theorem n12 : ¬ (("_surplus" : Str) = "_value") := by decide +kernel
theorem n13 : ¬ (("_surplus" : Str) = "_junction") := by decide +kernel
theorem n20 : ¬ (("_value" : Str) = "_lost") := by decide +kernel
theorem n21 : ¬ (("_value" : Str) = "_surplus") := by decide +kernel
theorem n23 : ¬ (("_value" : Str) = "_junction") := by decide +kernel
theorem n30 : ¬ (("_junction" : Str) = "_lost") := by decide +kernel
theorem n31 : ¬ (("_junction" : Str) = "_surplus") := by decide +kernel
theorem n32 : ¬ (("_junction" : Str) = "_value") := by decide +kernel
abbrev Fs := List (Str × V)
theorem putF_ne {n m : Str} {x y : V} {r : Fs} (h : ¬ m = n) : putF n y ((m, x) :: r) = (m, x) :: putF n y r := by
  show (if m = n then _ else _) = _
  rw [if_neg h] <;> rfl
theorem putF_eq {n : Str} {x y : V} {r : Fs} : putF n y ((n, x) :: r) = (n, y) :: r := by
  show (if n = n then _ else _) = _
  rw [if_pos rfl] <;> rfl
theorem pF1 {a : V} : putF "_lost" a [] = ([("_lost", a)] : Fs) := rfl
theorem pF2 {a b : V} : putF "_surplus" b ([("_lost", a)] : Fs) = ([("_lost", a), ("_surplus", b)] : Fs) := putF_ne n01
theorem pF3 {a b c : V} : putF "_value" c ([("_lost", a), ("_surplus", b)] : Fs) = ([("_lost", a), ("_surplus", b), ("_value", c)] : Fs) := (putF_ne n02).trans (congrArg _ (putF_ne n12))
theorem pF4 {a b c d : V} : putF "_junction" d ([("_lost", a), ("_surplus", b), ("_value", c)] : Fs) = ([("_lost", a), ("_surplus", b), ("_value", c), ("_junction", d)] : Fs) :=
  (putF_ne n03).trans (congrArg _ ((putF_ne n13).trans (congrArg _ (putF_ne n23))))
/-- one field set anew -/
def put (k : Nat) (a : Addr) (r : Nat → Addr) : Nat → Addr := fun i => if i = k then a else r i
theorem pput0 {a : Addr} {r : Nat → Addr} : putF "_lost" (.ref a) (pf r) = pf (put 0 a r) := putF_eq
theorem pput1 {a : Addr} {r : Nat → Addr} : putF "_surplus" (.ref a) (pf r) = pf (put 1 a r) := (putF_ne n01).trans (congrArg _ putF_eq)
theorem pput2 {a : Addr} {r : Nat → Addr} : putF "_value" (.ref a) (pf r) = pf (put 2 a r) := (putF_ne n02).trans (congrArg _ ((putF_ne n12).trans (congrArg _ putF_eq)))
theorem pput3 {a : Addr} {r : Nat → Addr} : putF "_junction" (.ref a) (pf r) = pf (put 3 a r) := (putF_ne n03).trans (congrArg _ ((putF_ne n13).trans (congrArg _ ((putF_ne n23).trans (congrArg _ putF_eq)))))
theorem lk_cons {n m : Str} {v : V} {l : List (Str × V)} (h : ¬ m = n) : ((m, v) :: l).lookup n = l.lookup n := by
  rw [List.lookup_cons, beq_false_of_ne (fun e => h e.symm)] <;> rfl
theorem lk_here {n : Str} {v : V} {l : List (Str × V)} : ((n, v) :: l).lookup n = some v := by
  rw [List.lookup_cons, beq_self_eq_true] <;> rfl
theorem lk0 {r : Nat → Addr} : (pf r).lookup ("_lost" : Str) = some (.ref (r 0)) := lk_here
theorem lk1 {r : Nat → Addr} : (pf r).lookup ("_surplus" : Str) = some (.ref (r 1)) := (lk_cons n01).trans lk_here
theorem lk2 {r : Nat → Addr} : (pf r).lookup ("_value" : Str) = some (.ref (r 2)) := (lk_cons n02).trans ((lk_cons n12).trans lk_here)
theorem lk3 {r : Nat → Addr} : (pf r).lookup ("_junction" : Str) = some (.ref (r 3)) := (lk_cons n03).trans ((lk_cons n13).trans ((lk_cons n23).trans lk_here))
theorem nt0 : ¬ (("_lost" : Str) = "top") := by decide +kernel
theorem nt1 : ¬ (("_surplus" : Str) = "top") := by decide +kernel
theorem nt2 : ¬ (("_value" : Str) = "top") := by decide +kernel
theorem nt3 : ¬ (("_junction" : Str) = "top") := by decide +kernel
/-- no ratio stands there -/
def NoTop (fs : List (Str × V)) : Prop := fs.lookup ("top" : Str) = none
theorem noTop0 : NoTop [] := rfl
theorem noTop1 {a : V} : NoTop [(("_lost" : Str), a)] := (lk_cons nt0).trans noTop0
theorem noTop2 {a b : V} : NoTop [(("_lost" : Str), a), ("_surplus", b)] := (lk_cons nt0).trans ((lk_cons nt1).trans noTop0)
theorem noTop3 {a b c : V} : NoTop [(("_lost" : Str), a), ("_surplus", b), ("_value", c)] := (lk_cons nt0).trans ((lk_cons nt1).trans ((lk_cons nt2).trans noTop0))
theorem noTop4 {r : Nat → Addr} : NoTop (pf r) := (lk_cons nt0).trans ((lk_cons nt1).trans ((lk_cons nt2).trans ((lk_cons nt3).trans noTop0)))
theorem Rat.apart {C D : Addr} {H : Hp} {q p dx : Addr} {t b : Int} {fs : List (Str × V)} (r : Rat C H q t b) (e : H p = some (.ins D dx fs)) (n : NoTop fs) : q ≠ p := by
  rintro rfl
  obtain ⟨dq, h⟩ := r
  rw [e] at h
  cases h
  have := flds_top t b
  rw [n] at this
  cases this
section
variable {C D : Addr} {H H' : Hp} {p dx : Addr} {fs : List (Str × V)} {v : V} {t b : Int}
theorem Rat.sameX {q : Addr} (r : Rat C H q t b) (e : H p = some (.ins D dx fs)) (n : NoTop fs) (s : SameX p H H') : Rat C H' q t b :=
  let ⟨dq, h⟩ := r
  ⟨dq, s _ _ (Rat.apart ⟨dq, h⟩ e n) h⟩
theorem Num.sameX (h : Num C H v t b) (e : H p = some (.ins D dx fs)) (n : NoTop fs) (s : SameX p H H') : Num C H' v t b :=
  h.elim (fun ⟨q, e', r⟩ => .inl ⟨q, e', r.sameX e n s⟩) .inr
theorem Pc.sameX (h : Pc C H v t b) (e : H p = some (.ins D dx fs)) (n : NoTop fs) (s : SameX p H H') : Pc C H' v t b := ⟨h.num.sameX e n s, h.b0, h.nt, h.nb, h.st, h.sb⟩
theorem Off.sameX (h : Off C H v) (e : H p = some (.ins D dx fs)) (n : NoTop fs) (s : SameX p H H') : Off C H' v := by
  rcases h with h | ⟨t, b, h, l⟩
  · refine .inl ?_
    cases h with
    | bl b => exact .bl b
    | non => exact .non
    | str x => exact .str x
    | @lst a xs q => exact .lst (s _ _ (by rintro rfl; rw [e] at q; cases q) q)
    | @tup a xs q => exact .tup (s _ _ (by rintro rfl; rw [e] at q; cases q) q)
  · exact .inr ⟨t, b, h.sameX e n s, l⟩
end
/-- an object of the class, with these four prices -/
def Prc (C D : Addr) (H : Hp) (p : Addr) (T B : Nat → Int) : Prop := ∃ dx r, H p = some (.ins D dx (pf r)) ∧ ∀ i, i < 4 → Rat C H (r i) (T i) (B i)
theorem Prc.same {C D : Addr} {H H' : Hp} {p : Addr} {T B : Nat → Int} (h : Prc C D H p T B) (s : Same H H') : Prc C D H' p T B :=
  let ⟨dx, r, e, k⟩ := h
  ⟨dx, r, s _ _ e, fun i hi => (k i hi).same s⟩
/-- v is a price, t / b -/
def Good (C : Addr) (H : Hp) (v : V) (t b : Int) : Prop := Pc C H v t b ∧ b ≤ t
theorem Good.same {C : Addr} {H H' : Hp} {v : V} {t b : Int} (h : Good C H v t b) (s : Same H H') : Good C H' v t b := ⟨h.1.same s, h.2⟩
theorem Good.sameX {C D : Addr} {H H' : Hp} {p dx : Addr} {fs : List (Str × V)} {v : V} {t b : Int} (h : Good C H v t b) (e : H p = some (.ins D dx fs)) (n : NoTop fs) (s : SameX p H H') : Good C H' v t b := ⟨h.1.sameX e n s, h.2⟩
def spPI (C D CP : Addr) : Sp := fun vs H Q E => ∃ (p dx : Addr) (v : Nat → V), vs = [.ref p, v 0, v 1, v 2, v 3] ∧ H p = some (.ins D dx []) ∧
  ((∃ T B, (∀ i, i < 4 → Good C H (v i) (T i) (B i)) ∧ ∀ H', SameX p H H' → Prc C D H' p T B → Q .non H') ∨
   (∃ k, k < 4 ∧ (∀ i, i < k → ∃ t b, Good C H (v i) t b) ∧ Off C H (v k) ∧ ∀ d H', SameX p H H' → H' d = some (xd (.str (wd k))) → E (.ref CP) (some d) H'))
section
variable {P : Program} {w : World} {K : PySem.W.Frag} {mg : Str → Option Value} {base : Heap} {C CI fCI CZ fCZ D CP fCP : Addr}
abbrev InitP (K : PySem.W.Frag) (f : Addr) (fd : FuncData) := FunD K "__init__" "Prices.__init__" (defArgs (sPri 0)) (defBody (sPri 0)) (defScope (sPri 0)) [] [("lost", V.int 1), ("surplus", .int 1), ("value", .int 1), ("junction", .int 1)] f fd
theorem ok_pinit {f : Addr} {fd : FuncData} (F : InitP K f fd) (U : PTxt K mg D CP fCP) (GC : Glb P w K mg base "_checked_price" 7 ["name", "price"] (spChk C CP)) :
    FnOk P w K mg base (L2.CX P w) 8 f fd ["self", "lost", "surplus", "value", "junction"] (spPI C D CP) := by
  obtain ⟨fC, fdC, mC, kC, GC, bC⟩ := GC.ex
  have sc : FnScope ["self", "lost", "surplus", "value", "junction"] ["self", "lost", "surplus", "value", "junction"] (defScope (sPri 0)) := ⟨rfl, rfl, rfl, by decide +kernel, rfl, by decide +kernel, by decide +kernel⟩
  refine F.ok sc (fun vs H Q E h => ?_) (fun cdv A outer s H vs Q E hr h => ?_)
  · obtain ⟨p, dx, v, rfl, _⟩ := h
    rfl
  · obtain ⟨p, dx, v, rfl, hp, k⟩ := h
    refine ⟨_, pss_cons (ps_fld (pv 0) (pe_call GC hr (by rfl) mC kC bC .nil (passes_call (takes_of rfl rfl rfl rfl) (fun _ _ _ _ z => z)) (pa_cons pe_str (pa_cons (pv 1) pa_nil))) rfl)
      (pss_cons (ps_fld (pv 0) (pe_call GC hr (by rfl) mC kC bC .nil (passes_call (takes_of rfl rfl rfl rfl) (fun _ _ _ _ z => z)) (pa_cons pe_str (pa_cons (pv 2) pa_nil))) rfl)
      (pss_cons (ps_fld (pv 0) (pe_call GC hr (by rfl) mC kC bC .nil (passes_call (takes_of rfl rfl rfl rfl) (fun _ _ _ _ z => z)) (pa_cons pe_str (pa_cons (pv 3) pa_nil))) rfl)
      (pss_one (ps_fld (pv 0) (pe_call GC hr (by rfl) mC kC bC .nil (passes_call (takes_of rfl rfl rfl rfl) (fun _ _ _ _ z => z)) (pa_cons pe_str (pa_cons (pv 4) pa_nil))) rfl)))), ?_⟩
    rcases k with ⟨T, B, good, fin⟩ | ⟨k, hk, good, off, fin⟩
    · have gd := fun (i : Nat) (hi : i < 4) (H' : Hp) (s : SameX p H H') => (good i hi).sameX hp noTop0 s
      refine ⟨_, rfl, _, _, rfl, .inl ⟨_, _, (good 0 (by decide)).1, (good 0 (by decide)).2, fun r0 H1 s1 R0 => ?_⟩⟩
      have g1 := s1 _ _ hp
      refine ⟨_, rfl, p, D, dx, _, rfl, g1, U.cl, U.n1, (by show 0 < 1000; decide), ?_⟩
      rw [pF1]
      have x1 : SameX p H (upd H1 p (.ins D dx [("_lost", .ref r0)])) := (SameX.of s1).trans SameX.upd
      have hp1 : (upd H1 p (.ins D dx [("_lost", .ref r0)])) p = some (.ins D dx [("_lost", .ref r0)]) := upd_same
      have Q0 : Rat C (upd H1 p (.ins D dx [("_lost", .ref r0)])) r0 _ _ := R0.sameX g1 noTop0 SameX.upd
      generalize upd H1 p (.ins D dx [("_lost", .ref r0)]) = K1 at x1 hp1 Q0 ⊢
      have X1 : SameX p H K1 := x1
      refine ⟨_, rfl, _, _, rfl, .inl ⟨_, _, (gd 1 (by decide) _ X1).1, (gd 1 (by decide) _ X1).2, fun r1 H2 s2 R1 => ?_⟩⟩
      have g2 := s2 _ _ hp1
      refine ⟨_, rfl, p, D, dx, _, rfl, g2, U.cl, U.n2, (by show 1 < 1000; decide), ?_⟩
      rw [pF2]
      have x2 : SameX p K1 (upd H2 p (.ins D dx [("_lost", .ref r0), ("_surplus", .ref r1)])) := (SameX.of s2).trans SameX.upd
      have hp2 : (upd H2 p (.ins D dx [("_lost", .ref r0), ("_surplus", .ref r1)])) p = some (.ins D dx [("_lost", .ref r0), ("_surplus", .ref r1)]) := upd_same
      have Q1 : Rat C (upd H2 p (.ins D dx [("_lost", .ref r0), ("_surplus", .ref r1)])) r1 _ _ := R1.sameX g2 noTop1 SameX.upd
      have Q0_1 : Rat C (upd H2 p (.ins D dx [("_lost", .ref r0), ("_surplus", .ref r1)])) r0 _ _ := Q0.sameX hp1 noTop1 x2
      generalize upd H2 p (.ins D dx [("_lost", .ref r0), ("_surplus", .ref r1)]) = K2 at x2 hp2 Q1 Q0_1 ⊢
      have X2 : SameX p H K2 := X1.trans x2
      refine ⟨_, rfl, _, _, rfl, .inl ⟨_, _, (gd 2 (by decide) _ X2).1, (gd 2 (by decide) _ X2).2, fun r2 H3 s3 R2 => ?_⟩⟩
      have g3 := s3 _ _ hp2
      refine ⟨_, rfl, p, D, dx, _, rfl, g3, U.cl, U.n3, (by show 2 < 1000; decide), ?_⟩
      rw [pF3]
      have x3 : SameX p K2 (upd H3 p (.ins D dx [("_lost", .ref r0), ("_surplus", .ref r1), ("_value", .ref r2)])) := (SameX.of s3).trans SameX.upd
      have hp3 : (upd H3 p (.ins D dx [("_lost", .ref r0), ("_surplus", .ref r1), ("_value", .ref r2)])) p = some (.ins D dx [("_lost", .ref r0), ("_surplus", .ref r1), ("_value", .ref r2)]) := upd_same
      have Q2 : Rat C (upd H3 p (.ins D dx [("_lost", .ref r0), ("_surplus", .ref r1), ("_value", .ref r2)])) r2 _ _ := R2.sameX g3 noTop2 SameX.upd
      have Q0_2 : Rat C (upd H3 p (.ins D dx [("_lost", .ref r0), ("_surplus", .ref r1), ("_value", .ref r2)])) r0 _ _ := Q0_1.sameX hp2 noTop2 x3
      have Q1_2 : Rat C (upd H3 p (.ins D dx [("_lost", .ref r0), ("_surplus", .ref r1), ("_value", .ref r2)])) r1 _ _ := Q1.sameX hp2 noTop2 x3
      generalize upd H3 p (.ins D dx [("_lost", .ref r0), ("_surplus", .ref r1), ("_value", .ref r2)]) = K3 at x3 hp3 Q2 Q0_2 Q1_2 ⊢
      have X3 : SameX p H K3 := X2.trans x3
      refine ⟨_, rfl, _, _, rfl, .inl ⟨_, _, (gd 3 (by decide) _ X3).1, (gd 3 (by decide) _ X3).2, fun r3 H4 s4 R3 => ?_⟩⟩
      have g4 := s4 _ _ hp3
      refine ⟨_, rfl, p, D, dx, _, rfl, g4, U.cl, U.n4, (by show 3 < 1000; decide), ?_⟩
      rw [pF4]
      have x4 : SameX p K3 (upd H4 p (.ins D dx [("_lost", .ref r0), ("_surplus", .ref r1), ("_value", .ref r2), ("_junction", .ref r3)])) := (SameX.of s4).trans SameX.upd
      have hp4 : (upd H4 p (.ins D dx [("_lost", .ref r0), ("_surplus", .ref r1), ("_value", .ref r2), ("_junction", .ref r3)])) p = some (.ins D dx [("_lost", .ref r0), ("_surplus", .ref r1), ("_value", .ref r2), ("_junction", .ref r3)]) := upd_same
      have Q3 : Rat C (upd H4 p (.ins D dx [("_lost", .ref r0), ("_surplus", .ref r1), ("_value", .ref r2), ("_junction", .ref r3)])) r3 _ _ := R3.sameX g4 noTop3 SameX.upd
      have Q0_3 : Rat C (upd H4 p (.ins D dx [("_lost", .ref r0), ("_surplus", .ref r1), ("_value", .ref r2), ("_junction", .ref r3)])) r0 _ _ := Q0_2.sameX hp3 noTop3 x4
      have Q1_3 : Rat C (upd H4 p (.ins D dx [("_lost", .ref r0), ("_surplus", .ref r1), ("_value", .ref r2), ("_junction", .ref r3)])) r1 _ _ := Q1_2.sameX hp3 noTop3 x4
      have Q2_3 : Rat C (upd H4 p (.ins D dx [("_lost", .ref r0), ("_surplus", .ref r1), ("_value", .ref r2), ("_junction", .ref r3)])) r2 _ _ := Q2.sameX hp3 noTop3 x4
      generalize upd H4 p (.ins D dx [("_lost", .ref r0), ("_surplus", .ref r1), ("_value", .ref r2), ("_junction", .ref r3)]) = K4 at x4 hp4 Q3 Q0_3 Q1_3 Q2_3 ⊢
      have X4 : SameX p H K4 := X3.trans x4
      exact fin _ X4 ⟨dx, fun i => match i with | 0 => r0 | 1 => r1 | 2 => r2 | _ => r3, hp4, fun i hi => match i, hi with | 0, _ => Q0_3 | 1, _ => Q1_3 | 2, _ => Q2_3 | 3, _ => Q3⟩
    · have gd := fun (i : Nat) (hi : i < k) (H' : Hp) (s : SameX p H H') => let ⟨t, b, g⟩ := good i hi; (⟨t, b, g.sameX hp noTop0 s⟩ : ∃ t b, Good C H' (v i) t b)
      have ks : k = 0 ∨ k = 1 ∨ k = 2 ∨ k = 3 := by omega
      rcases ks with rfl | rfl | rfl | rfl
      · skip
        exact ⟨_, rfl, _, _, rfl, .inr ⟨off, fun d H9 s e => fin d H9 (SameX.of s) e⟩⟩
      · skip
        obtain ⟨t0, b0, G0⟩ := gd 0 (by decide) _ (SameX.refl p H)
        refine ⟨_, rfl, _, _, rfl, .inl ⟨_, _, (G0).1, (G0).2, fun r0 H1 s1 R0 => ?_⟩⟩
        have g1 := s1 _ _ hp
        refine ⟨_, rfl, p, D, dx, _, rfl, g1, U.cl, U.n1, (by show 0 < 1000; decide), ?_⟩
        rw [pF1]
        have x1 : SameX p H (upd H1 p (.ins D dx [("_lost", .ref r0)])) := (SameX.of s1).trans SameX.upd
        have hp1 : (upd H1 p (.ins D dx [("_lost", .ref r0)])) p = some (.ins D dx [("_lost", .ref r0)]) := upd_same
        have Q0 : Rat C (upd H1 p (.ins D dx [("_lost", .ref r0)])) r0 _ _ := R0.sameX g1 noTop0 SameX.upd
        generalize upd H1 p (.ins D dx [("_lost", .ref r0)]) = K1 at x1 hp1 Q0 ⊢
        have X1 : SameX p H K1 := x1
        exact ⟨_, rfl, _, _, rfl, .inr ⟨(off.sameX hp noTop0 X1), fun d H9 s e => fin d H9 (X1.trans (SameX.of s)) e⟩⟩
      · skip
        obtain ⟨t0, b0, G0⟩ := gd 0 (by decide) _ (SameX.refl p H)
        refine ⟨_, rfl, _, _, rfl, .inl ⟨_, _, (G0).1, (G0).2, fun r0 H1 s1 R0 => ?_⟩⟩
        have g1 := s1 _ _ hp
        refine ⟨_, rfl, p, D, dx, _, rfl, g1, U.cl, U.n1, (by show 0 < 1000; decide), ?_⟩
        rw [pF1]
        have x1 : SameX p H (upd H1 p (.ins D dx [("_lost", .ref r0)])) := (SameX.of s1).trans SameX.upd
        have hp1 : (upd H1 p (.ins D dx [("_lost", .ref r0)])) p = some (.ins D dx [("_lost", .ref r0)]) := upd_same
        have Q0 : Rat C (upd H1 p (.ins D dx [("_lost", .ref r0)])) r0 _ _ := R0.sameX g1 noTop0 SameX.upd
        generalize upd H1 p (.ins D dx [("_lost", .ref r0)]) = K1 at x1 hp1 Q0 ⊢
        have X1 : SameX p H K1 := x1
        obtain ⟨t1, b1, G1⟩ := gd 1 (by decide) _ X1
        refine ⟨_, rfl, _, _, rfl, .inl ⟨_, _, (G1).1, (G1).2, fun r1 H2 s2 R1 => ?_⟩⟩
        have g2 := s2 _ _ hp1
        refine ⟨_, rfl, p, D, dx, _, rfl, g2, U.cl, U.n2, (by show 1 < 1000; decide), ?_⟩
        rw [pF2]
        have x2 : SameX p K1 (upd H2 p (.ins D dx [("_lost", .ref r0), ("_surplus", .ref r1)])) := (SameX.of s2).trans SameX.upd
        have hp2 : (upd H2 p (.ins D dx [("_lost", .ref r0), ("_surplus", .ref r1)])) p = some (.ins D dx [("_lost", .ref r0), ("_surplus", .ref r1)]) := upd_same
        have Q1 : Rat C (upd H2 p (.ins D dx [("_lost", .ref r0), ("_surplus", .ref r1)])) r1 _ _ := R1.sameX g2 noTop1 SameX.upd
        have Q0_1 : Rat C (upd H2 p (.ins D dx [("_lost", .ref r0), ("_surplus", .ref r1)])) r0 _ _ := Q0.sameX hp1 noTop1 x2
        generalize upd H2 p (.ins D dx [("_lost", .ref r0), ("_surplus", .ref r1)]) = K2 at x2 hp2 Q1 Q0_1 ⊢
        have X2 : SameX p H K2 := X1.trans x2
        exact ⟨_, rfl, _, _, rfl, .inr ⟨(off.sameX hp noTop0 X2), fun d H9 s e => fin d H9 (X2.trans (SameX.of s)) e⟩⟩
      · skip
        obtain ⟨t0, b0, G0⟩ := gd 0 (by decide) _ (SameX.refl p H)
        refine ⟨_, rfl, _, _, rfl, .inl ⟨_, _, (G0).1, (G0).2, fun r0 H1 s1 R0 => ?_⟩⟩
        have g1 := s1 _ _ hp
        refine ⟨_, rfl, p, D, dx, _, rfl, g1, U.cl, U.n1, (by show 0 < 1000; decide), ?_⟩
        rw [pF1]
        have x1 : SameX p H (upd H1 p (.ins D dx [("_lost", .ref r0)])) := (SameX.of s1).trans SameX.upd
        have hp1 : (upd H1 p (.ins D dx [("_lost", .ref r0)])) p = some (.ins D dx [("_lost", .ref r0)]) := upd_same
        have Q0 : Rat C (upd H1 p (.ins D dx [("_lost", .ref r0)])) r0 _ _ := R0.sameX g1 noTop0 SameX.upd
        generalize upd H1 p (.ins D dx [("_lost", .ref r0)]) = K1 at x1 hp1 Q0 ⊢
        have X1 : SameX p H K1 := x1
        obtain ⟨t1, b1, G1⟩ := gd 1 (by decide) _ X1
        refine ⟨_, rfl, _, _, rfl, .inl ⟨_, _, (G1).1, (G1).2, fun r1 H2 s2 R1 => ?_⟩⟩
        have g2 := s2 _ _ hp1
        refine ⟨_, rfl, p, D, dx, _, rfl, g2, U.cl, U.n2, (by show 1 < 1000; decide), ?_⟩
        rw [pF2]
        have x2 : SameX p K1 (upd H2 p (.ins D dx [("_lost", .ref r0), ("_surplus", .ref r1)])) := (SameX.of s2).trans SameX.upd
        have hp2 : (upd H2 p (.ins D dx [("_lost", .ref r0), ("_surplus", .ref r1)])) p = some (.ins D dx [("_lost", .ref r0), ("_surplus", .ref r1)]) := upd_same
        have Q1 : Rat C (upd H2 p (.ins D dx [("_lost", .ref r0), ("_surplus", .ref r1)])) r1 _ _ := R1.sameX g2 noTop1 SameX.upd
        have Q0_1 : Rat C (upd H2 p (.ins D dx [("_lost", .ref r0), ("_surplus", .ref r1)])) r0 _ _ := Q0.sameX hp1 noTop1 x2
        generalize upd H2 p (.ins D dx [("_lost", .ref r0), ("_surplus", .ref r1)]) = K2 at x2 hp2 Q1 Q0_1 ⊢
        have X2 : SameX p H K2 := X1.trans x2
        obtain ⟨t2, b2, G2⟩ := gd 2 (by decide) _ X2
        refine ⟨_, rfl, _, _, rfl, .inl ⟨_, _, (G2).1, (G2).2, fun r2 H3 s3 R2 => ?_⟩⟩
        have g3 := s3 _ _ hp2
        refine ⟨_, rfl, p, D, dx, _, rfl, g3, U.cl, U.n3, (by show 2 < 1000; decide), ?_⟩
        rw [pF3]
        have x3 : SameX p K2 (upd H3 p (.ins D dx [("_lost", .ref r0), ("_surplus", .ref r1), ("_value", .ref r2)])) := (SameX.of s3).trans SameX.upd
        have hp3 : (upd H3 p (.ins D dx [("_lost", .ref r0), ("_surplus", .ref r1), ("_value", .ref r2)])) p = some (.ins D dx [("_lost", .ref r0), ("_surplus", .ref r1), ("_value", .ref r2)]) := upd_same
        have Q2 : Rat C (upd H3 p (.ins D dx [("_lost", .ref r0), ("_surplus", .ref r1), ("_value", .ref r2)])) r2 _ _ := R2.sameX g3 noTop2 SameX.upd
        have Q0_2 : Rat C (upd H3 p (.ins D dx [("_lost", .ref r0), ("_surplus", .ref r1), ("_value", .ref r2)])) r0 _ _ := Q0_1.sameX hp2 noTop2 x3
        have Q1_2 : Rat C (upd H3 p (.ins D dx [("_lost", .ref r0), ("_surplus", .ref r1), ("_value", .ref r2)])) r1 _ _ := Q1.sameX hp2 noTop2 x3
        generalize upd H3 p (.ins D dx [("_lost", .ref r0), ("_surplus", .ref r1), ("_value", .ref r2)]) = K3 at x3 hp3 Q2 Q0_2 Q1_2 ⊢
        have X3 : SameX p H K3 := X2.trans x3
        exact ⟨_, rfl, _, _, rfl, .inr ⟨(off.sameX hp noTop0 X3), fun d H9 s e => fin d H9 (X3.trans (SameX.of s)) e⟩⟩
end
end R1
end

-- P3r
section
set_option Elab.async false
set_option linter.all false
set_option maxRecDepth 100000
set_option exponentiation.threshold 10000
namespace R1
open PySem L2 OwnOps RatM OwnNe
theorem w01 : decide (V.str (wd 0) = V.str "surplus") = false := by decide +kernel
theorem w02 : decide (V.str (wd 0) = V.str "value") = false := by decide +kernel
theorem w03 : decide (V.str (wd 0) = V.str "junction") = false := by decide +kernel
theorem w10 : decide (V.str (wd 1) = V.str "lost") = false := by decide +kernel
theorem w12 : decide (V.str (wd 1) = V.str "value") = false := by decide +kernel
theorem w13 : decide (V.str (wd 1) = V.str "junction") = false := by decide +kernel
theorem w20 : decide (V.str (wd 2) = V.str "lost") = false := by decide +kernel
theorem w21 : decide (V.str (wd 2) = V.str "surplus") = false := by decide +kernel
theorem w23 : decide (V.str (wd 2) = V.str "junction") = false := by decide +kernel
theorem w30 : decide (V.str (wd 3) = V.str "lost") = false := by decide +kernel
theorem w31 : decide (V.str (wd 3) = V.str "surplus") = false := by decide +kernel
theorem w32 : decide (V.str (wd 3) = V.str "value") = false := by decide +kernel
/-- in lowest terms, and a price -/
structure Nm (t b : Int) : Prop where
  b0 : 0 < b
  nt : nt t b = t
  nb : nb t b = b
  st : Sm 200 t
  sb : Sm 200 b
  le : b ≤ t
theorem Good.nm {C : Addr} {H : Hp} {v : V} {t b : Int} (g : Good C H v t b) : Nm t b := ⟨g.1.b0, g.1.nt, g.1.nb, g.1.st, g.1.sb, g.2⟩
theorem Nm.good {C : Addr} {H : Hp} {v : V} {t b : Int} (n : Nm t b) (g : Num C H v t b) : Good C H v t b := ⟨⟨g, n.b0, n.nt, n.nb, n.st, n.sb⟩, n.le⟩
theorem Rat.good {C : Addr} {H : Hp} {q : Addr} {t b : Int} (n : Nm t b) (g : Rat C H q t b) : Good C H (.ref q) t b := n.good (.inl ⟨q, rfl, g⟩)
section
variable {C D CP : Addr} {H : Hp} {Q : VK} {E : XK}
theorem same_made {H' : Hp} {x dx : Addr} (hx : H x = none) (hd : H dx = none) (sx : SameX x (upd (upd H dx (.own x)) x (.ins D dx [])) H') : Same H H' := fun b u e =>
  sx b u (ne_of_none e hx) (same_new hx hd b u e)
theorem mkP_good {v : Nat → V} {T B : Nat → Int} (g : ∀ i, i < 4 → Good C H (v i) (T i) (B i)) (k : ∀ q H', H q = none → Same H H' → Prc C D H' q T B → Q (.ref q) H') :
    ∀ x dx, H x = none → H dx = none → dx ≠ x → spPI C D CP [.ref x, v 0, v 1, v 2, v 3] (upd (upd H dx (.own x)) x (.ins D dx [])) (fun v H2 => v = .non ∧ Q (.ref x) H2) E := by
  intro x dx hx hd ne
  exact ⟨x, dx, v, rfl, upd_same, .inl ⟨T, B, fun i hi => (g i hi).same (same_new hx hd), fun H' sx pr => ⟨rfl, k x H' hx (same_made hx hd sx) pr⟩⟩⟩
theorem mkP_bad {v : Nat → V} {k : Nat} {R : Addr → VK} (hk : k < 4) (g : ∀ i, i < k → ∃ t b, Good C H (v i) t b) (off : Off C H (v k)) (fin : ∀ d H', Same H H' → H' d = some (xd (.str (wd k))) → E (.ref CP) (some d) H') :
    ∀ x dx, H x = none → H dx = none → dx ≠ x → spPI C D CP [.ref x, v 0, v 1, v 2, v 3] (upd (upd H dx (.own x)) x (.ins D dx [])) (R x) E := by
  intro x dx hx hd ne
  exact ⟨x, dx, v, rfl, upd_same, .inr ⟨k, hk, fun i hi => let ⟨t, b, q⟩ := g i hi; ⟨t, b, q.same (same_new hx hd)⟩, off.same (same_new hx hd), fun d H' sx e => fin d H' (same_made hx hd sx) e⟩⟩
end
/-- a property of the class that tells a field -/
structure PropG (P : Program) (w : World) (K : PySem.W.Frag) (mg : Str → Option Value) (base : Heap) (D : Addr) (f fld : Str) : Prop where
  ex : ∃ (p g : Addr) (fd : FuncData), PropOf K D f p g ∧ FnOk P w K mg base (L2.CX P w) 1 g fd ["self"] (getSp D fld) ∧ L2.Binds K fd ["self"] []
abbrev psI : List Str := ["self", "lost", "surplus", "value", "junction"]
abbrev gA : {α : Type} → List α → List α → List α → List α := fun vs _ zs => vs ++ zs
def gJ : {α : Type} → List α → List α → List α → List α
  | _, x, _, [j, v, l, s] => x ++ [l, s, v, j]
  | _, x, _, _ => x
def gW : {α : Type} → List α → List α → List α → List α
  | _, x, [l, s, j], [v] => x ++ [l, s, v, j]
  | _, x, _, _ => x
/-- the class's making -/
structure MkP (P : Program) (w : World) (K : PySem.W.Frag) (mg : Str → Option Value) (base : Heap) (C D CP : Addr) : Prop where
  ex : ∃ (f : Addr) (fd : FuncData) (ds mA mJ mW : List Value), Mk K D f ∧ FnOk P w K mg base (L2.CX P w) 8 f fd psI (spPI C D CP) ∧ Vals [.int 1, .int 1, .int 1, .int 1] ds ∧ L2.Binds K fd psI ds ∧
    KBn K fd psI 1 ["lost", "surplus", "value", "junction"] (fun us ws => gA us mA ws) (fun vs zs => gA vs [] zs) ∧
    KBn K fd psI 1 ["junction", "value", "lost", "surplus"] (fun us ws => gJ us mJ ws) (fun vs zs => gJ vs [] zs) ∧
    KBn K fd psI 1 ["value"] (fun us ws => gW us mW ws) (fun vs zs => gW vs [.int 1, .int 1, .int 1] zs)
def set (k : Nat) (t : Int) (T : Nat → Int) : Nat → Int := fun i => if i = k then t else T i
theorem Prc.set {C D : Addr} {H : Hp} {p dx a : Addr} {r : Nat → Addr} {T B : Nat → Int} {k : Nat} {t b : Int} (e : H p = some (.ins D dx (pf (put k a r)))) (hr : ∀ i, i < 4 → Rat C H (r i) (T i) (B i)) (ha : Rat C H a t b) : Prc C D H p (set k t T) (set k b B) :=
  ⟨dx, _, e, fun i hi => by
    unfold R1.set put
    by_cases h : i = k
    · rw [if_pos h, if_pos h, if_pos h]; exact ha
    · rw [if_neg h, if_neg h, if_neg h]; exact hr i hi⟩
def spChange (C D CP : Addr) : Sp := fun vs H Q E => ∃ (p : Addr) (nm v : V) (T B : Nat → Int), vs = [.ref p, nm, v] ∧ Prc C D H p T B ∧
  ((∃ k, k < 4 ∧ nm = .str (wd k) ∧ ((∃ t b, Good C H v t b ∧ ∀ H', SameX p H H' → Prc C D H' p (set k t T) (set k b B) → Q .non H') ∨ (Off C H v ∧ ∀ d H', Same H H' → H' d = some (xd nm) → E (.ref CP) (some d) H'))) ∨
   ((nm = .non ∨ ∃ x, nm = .str x ∧ ∀ k, k < 4 → ¬ x = wd k) ∧ ∀ d H', Same H H' → H' d = some (xd nm) → E (.ref CP) (some d) H'))
section
variable {P : Program} {w : World} {K : PySem.W.Frag} {mg : Str → Option Value} {base : Heap} {C CI fCI CZ fCZ D CP fCP : Addr}
theorem ok_change {f : Addr} {fd : FuncData} (F : Fun K "change" "Prices.change" (sPri 9) f fd) (U : PTxt K mg D CP fCP) (GC : Glb P w K mg base "_checked_price" 7 ["name", "price"] (spChk C CP)) :
    FnOk P w K mg base (L2.CX P w) 8 f fd ["self", "name", "price"] (spChange C D CP) := by
  obtain ⟨fC, fdC, mC, kC, GC, bC⟩ := GC.ex
  have sc : FnScope ["self", "name", "price"] ["self", "name", "price"] (defScope (sPri 9)) := ⟨rfl, rfl, rfl, by decide +kernel, rfl, by decide +kernel, by decide +kernel⟩
  refine F.okX sc (fun vs H Q E h => ?_) (fun cdv A outer s H vs Q E hr h => ?_)
  · obtain ⟨p, nm, v, T, B, rfl, _⟩ := h
    rfl
  · obtain ⟨p, nm, v, T, B, rfl, ⟨dx, r, hp, hr4⟩, k⟩ := h
    refine ⟨_, pss_one (ps_if (pt_cmpR op_eq (pv 1) pe_str (nomark _))
      (pss_one (ps_fld (pv 0) (pe_call GC hr (by rfl) mC kC bC .nil (passes_call (takes_of rfl rfl rfl rfl) (fun _ _ _ _ z => z)) (pa_cons (pv 1) (pa_cons (pv 2) pa_nil))) rfl))
      (pss_one (ps_if (pt_cmpR op_eq (pv 1) pe_str (nomark _))
      (pss_one (ps_fld (pv 0) (pe_call GC hr (by rfl) mC kC bC .nil (passes_call (takes_of rfl rfl rfl rfl) (fun _ _ _ _ z => z)) (pa_cons (pv 1) (pa_cons (pv 2) pa_nil))) rfl))
      (pss_one (ps_if (pt_cmpR op_eq (pv 1) pe_str (nomark _))
      (pss_one (ps_fld (pv 0) (pe_call GC hr (by rfl) mC kC bC .nil (passes_call (takes_of rfl rfl rfl rfl) (fun _ _ _ _ z => z)) (pa_cons (pv 1) (pa_cons (pv 2) pa_nil))) rfl))
      (pss_one (ps_if (pt_cmpR op_eq (pv 1) pe_str (nomark _))
      (pss_one (ps_fld (pv 0) (pe_call GC hr (by rfl) mC kC bC .nil (passes_call (takes_of rfl rfl rfl rfl) (fun _ _ _ _ z => z)) (pa_cons (pv 1) (pa_cons (pv 2) pa_nil))) rfl))
      (pss_one (ps_raiseGiv rfl PySem.Giv.ok_VE U.eP hr (takes_of rfl rfl rfl rfl) (pa_cons (pv 1) pa_nil) (by rfl)))))))))), ?_⟩
    have fin : (∀ d H', Same H H' → H' d = some (xd nm) → E (.ref CP) (some d) H') → ∀ d, H d = none → E (.ref CP) (some d) (upd H d (xd nm)) := fun k d hd => k d _ (same_upd hd) upd_same
    rcases k with ⟨kk, hk, rfl, k⟩ | ⟨hn, k⟩
    · have ks : kk = 0 ∨ kk = 1 ∨ kk = 2 ∨ kk = 3 := by omega
      rcases ks with rfl | rfl | rfl | rfl
      · rcases k with ⟨t, b, g, k⟩ | ⟨off, k⟩
        · refine ⟨_, rfl, rfl, _, rfl, if_pos' (decide_eq_true rfl) ⟨_, rfl, _, rfl, _, _, rfl, .inl ⟨t, b, g.1, g.2, fun a H1 s1 ra => ?_⟩⟩⟩
          refine ⟨_, rfl, p, D, dx, _, rfl, s1 _ _ hp, U.cl, U.n1, (by show 4 < 1000; decide), ?_⟩
          rw [pput0]
          refine k _ ((SameX.of s1).trans SameX.upd) (Prc.set upd_same (fun i hi => ((hr4 i hi).same s1).sameX (s1 _ _ hp) noTop4 SameX.upd) (ra.sameX (s1 _ _ hp) noTop4 SameX.upd))
        · exact ⟨_, rfl, rfl, _, rfl, if_pos' (decide_eq_true rfl) ⟨_, rfl, _, rfl, _, _, rfl, .inr ⟨off, k⟩⟩⟩
      · rcases k with ⟨t, b, g, k⟩ | ⟨off, k⟩
        · refine ⟨_, rfl, rfl, _, rfl, if_neg' w10 ⟨_, rfl, rfl, _, rfl, if_pos' (decide_eq_true rfl) ⟨_, rfl, _, rfl, _, _, rfl, .inl ⟨t, b, g.1, g.2, fun a H1 s1 ra => ?_⟩⟩⟩⟩
          refine ⟨_, rfl, p, D, dx, _, rfl, s1 _ _ hp, U.cl, U.n2, (by show 4 < 1000; decide), ?_⟩
          rw [pput1]
          refine k _ ((SameX.of s1).trans SameX.upd) (Prc.set upd_same (fun i hi => ((hr4 i hi).same s1).sameX (s1 _ _ hp) noTop4 SameX.upd) (ra.sameX (s1 _ _ hp) noTop4 SameX.upd))
        · exact ⟨_, rfl, rfl, _, rfl, if_neg' w10 ⟨_, rfl, rfl, _, rfl, if_pos' (decide_eq_true rfl) ⟨_, rfl, _, rfl, _, _, rfl, .inr ⟨off, k⟩⟩⟩⟩
      · rcases k with ⟨t, b, g, k⟩ | ⟨off, k⟩
        · refine ⟨_, rfl, rfl, _, rfl, if_neg' w20 ⟨_, rfl, rfl, _, rfl, if_neg' w21 ⟨_, rfl, rfl, _, rfl, if_pos' (decide_eq_true rfl) ⟨_, rfl, _, rfl, _, _, rfl, .inl ⟨t, b, g.1, g.2, fun a H1 s1 ra => ?_⟩⟩⟩⟩⟩
          refine ⟨_, rfl, p, D, dx, _, rfl, s1 _ _ hp, U.cl, U.n3, (by show 4 < 1000; decide), ?_⟩
          rw [pput2]
          refine k _ ((SameX.of s1).trans SameX.upd) (Prc.set upd_same (fun i hi => ((hr4 i hi).same s1).sameX (s1 _ _ hp) noTop4 SameX.upd) (ra.sameX (s1 _ _ hp) noTop4 SameX.upd))
        · exact ⟨_, rfl, rfl, _, rfl, if_neg' w20 ⟨_, rfl, rfl, _, rfl, if_neg' w21 ⟨_, rfl, rfl, _, rfl, if_pos' (decide_eq_true rfl) ⟨_, rfl, _, rfl, _, _, rfl, .inr ⟨off, k⟩⟩⟩⟩⟩
      · rcases k with ⟨t, b, g, k⟩ | ⟨off, k⟩
        · refine ⟨_, rfl, rfl, _, rfl, if_neg' w30 ⟨_, rfl, rfl, _, rfl, if_neg' w31 ⟨_, rfl, rfl, _, rfl, if_neg' w32 ⟨_, rfl, rfl, _, rfl, if_pos' (decide_eq_true rfl) ⟨_, rfl, _, rfl, _, _, rfl, .inl ⟨t, b, g.1, g.2, fun a H1 s1 ra => ?_⟩⟩⟩⟩⟩⟩
          refine ⟨_, rfl, p, D, dx, _, rfl, s1 _ _ hp, U.cl, U.n4, (by show 4 < 1000; decide), ?_⟩
          rw [pput3]
          refine k _ ((SameX.of s1).trans SameX.upd) (Prc.set upd_same (fun i hi => ((hr4 i hi).same s1).sameX (s1 _ _ hp) noTop4 SameX.upd) (ra.sameX (s1 _ _ hp) noTop4 SameX.upd))
        · exact ⟨_, rfl, rfl, _, rfl, if_neg' w30 ⟨_, rfl, rfl, _, rfl, if_neg' w31 ⟨_, rfl, rfl, _, rfl, if_neg' w32 ⟨_, rfl, rfl, _, rfl, if_pos' (decide_eq_true rfl) ⟨_, rfl, _, rfl, _, _, rfl, .inr ⟨off, k⟩⟩⟩⟩⟩⟩
    · rcases hn with rfl | ⟨x, rfl, hn⟩
      · exact ⟨_, rfl, rfl, _, rfl, if_neg' (by decide +kernel) ⟨_, rfl, rfl, _, rfl, if_neg' (by decide +kernel) ⟨_, rfl, rfl, _, rfl, if_neg' (by decide +kernel) ⟨_, rfl, rfl, _, rfl, if_neg' (by decide +kernel) ⟨_, rfl, _, rfl, fin k⟩⟩⟩⟩⟩
      · have ne : ∀ k, k < 4 → decide (V.str x = V.str (wd k)) = false := fun k hk => decide_eq_false (fun e => hn k hk (V.str.inj e))
        exact ⟨_, rfl, rfl, _, rfl, if_neg' (ne 0 (by decide)) ⟨_, rfl, rfl, _, rfl, if_neg' (ne 1 (by decide)) ⟨_, rfl, rfl, _, rfl, if_neg' (ne 2 (by decide)) ⟨_, rfl, rfl, _, rfl, if_neg' (ne 3 (by decide)) ⟨_, rfl, _, rfl, fin k⟩⟩⟩⟩⟩
def spCop (C D : Addr) : Sp := fun vs H Q _ => ∃ (p : Addr) (T B : Nat → Int), vs = [.ref p] ∧ Prc C D H p T B ∧ (∀ i, i < 4 → Nm (T i) (B i)) ∧ ∀ q H', H q = none → Same H H' → Prc C D H' q T B → Q (.ref q) H'
theorem ok_copied {f : Addr} {fd : FuncData} (F : Fun K "copied" "Prices.copied" (sPri 10) f fd) (U : PTxt K mg D CP fCP) (M : MkP P w K mg base C D CP) :
    FnOk P w K mg base (L2.CX P w) 10 f fd ["self"] (spCop C D) := by
  obtain ⟨fI, fdI, ds, mA, mJ, mW, mk, GI, _, _, kA, _, _⟩ := M.ex
  have sc : FnScope ["self"] ["self"] (defScope (sPri 10)) := ⟨rfl, rfl, rfl, by decide +kernel, rfl, by decide +kernel, by decide +kernel⟩
  refine F.okX sc (fun vs H Q E h => ?_) (fun cdv A outer s H vs Q E hr h => ?_)
  · obtain ⟨p, T, B, rfl, _⟩ := h
    rfl
  · obtain ⟨p, T, B, rfl, ⟨dx, r, hp, hr4⟩, nm, k⟩ := h
    refine ⟨_, pss_one (ps_ret (pe_makeK0 (CX := L2.CX P w) (E := E0) mk GI (hr.mono (by decide)) (by rfl) U.gD kA passL (pk_cons (pe_fld (pv 0) rfl) (pk_cons (pe_fld (pv 0) rfl) (pk_cons (pe_fld (pv 0) rfl) (pk_cons (pe_fld (pv 0) rfl) pk_nil)))))), ?_⟩
    refine ⟨_, rfl, p, D, dx, _, _, rfl, hp, U.cl, U.n1, lk0, _, rfl, p, D, dx, _, _, rfl, hp, U.cl, U.n2, lk1, _, rfl, p, D, dx, _, _, rfl, hp, U.cl, U.n3, lk2, _, rfl, p, D, dx, _, _, rfl, hp, U.cl, U.n4, lk3, rfl, rfl, ?_⟩
    exact mkP_good (v := fun i => .ref (r i)) (fun i hi => (hr4 i hi).good (nm i hi)) k
/-- the four are the same -/
def same4 (T B T' B' : Nat → Int) : Bool := (decide (T 0 = T' 0) && decide (B 0 = B' 0)) && ((decide (T 1 = T' 1) && decide (B 1 = B' 1)) && ((decide (T 2 = T' 2) && decide (B 2 = B' 2)) && (decide (T 3 = T' 3) && decide (B 3 = B' 3))))
def spPEq (C D : Addr) : Sp := fun vs H Q _ => ∃ (p : Addr) (y : V) (T B : Nat → Int), vs = [.ref p, y] ∧ Prc C D H p T B ∧ ((∃ q T' B', y = .ref q ∧ Prc C D H q T' B' ∧ Q (.bl (same4 T B T' B')) H) ∨ (∃ i, y = .int i ∧ Q (.bl false) H))
theorem ok_peq {f : Addr} {fd : FuncData} (F : Fun K "__eq__" "Prices.__eq__" (sPri 11) f fd) (T : Txt K mg C CI fCI CZ fCZ) (Z : Tys K C) (U : PTxt K mg D CP fCP) (EQ : Dun P w K mg base C (cmpInfo .Eq).2.1 2 ["self", "other"] (spEq C false)) :
    FnOk P w K mg base (L2.CX P w) 3 f fd ["self", "other"] (spPEq C D) := by
  obtain ⟨_, _, eqa, eqf, _, eqG, eqb⟩ := EQ.ex
  have sc : FnScope ["self", "other"] ["self", "other"] (defScope (sPri 11)) := ⟨rfl, rfl, rfl, by decide +kernel, rfl, by decide +kernel, by decide +kernel⟩
  refine F.okX sc (fun vs H Q E h => ?_) (fun cdv A outer s H vs Q E hr h => ?_)
  · obtain ⟨p, y, T, B, rfl, _⟩ := h
    rfl
  · obtain ⟨p, y, t, b, rfl, ⟨dx, r, hp, hr4⟩, k⟩ := h
    refine ⟨_, pss_cons (ps_if (pt_not (pt_val (pe_callB call_isi (by rfl) T.isi (by decide +kernel) (pa_cons (pv 1) (pa_cons (pe_glob (v := .ref D) (by rfl) U.gD rfl) pa_nil))))) (pss_one (ps_ret pe_bl)) pss_nil)
      (pss_one (ps_ret (pe_and (pe_cmpR (op := .Eq) (cmp_own (C := C) (E := E0) (R := RAny C) (fun _ _ => rfl) eqa eqf eqG (hr.mono (by decide)) eqb passL (looks_any Z)) (pe_fld (pv 0) rfl) (pe_fld (pv 1) rfl) (nomark _))
        (pe_and (pe_cmpR (op := .Eq) (cmp_own (C := C) (E := E0) (R := RAny C) (fun _ _ => rfl) eqa eqf eqG (hr.mono (by decide)) eqb passL (looks_any Z)) (pe_fld (pv 0) rfl) (pe_fld (pv 1) rfl) (nomark _))
        (pe_and (pe_cmpR (op := .Eq) (cmp_own (C := C) (E := E0) (R := RAny C) (fun _ _ => rfl) eqa eqf eqG (hr.mono (by decide)) eqb passL (looks_any Z)) (pe_fld (pv 0) rfl) (pe_fld (pv 1) rfl) (nomark _))
        (pe_one (pe_cmpR (op := .Eq) (cmp_own (C := C) (E := E0) (R := RAny C) (fun _ _ => rfl) eqa eqf eqG (hr.mono (by decide)) eqb passL (looks_any Z)) (pe_fld (pv 0) rfl) (pe_fld (pv 1) rfl) (nomark _)))))))), ?_⟩
    rcases k with ⟨q, t', b', rfl, ⟨dq, r', hq, hq4⟩, k⟩ | ⟨i, rfl, k⟩
    · refine ⟨_, rfl, _, _, _, _, _, rfl, .own D, .base (.ins hq U.cl U.ha U.hn U.htk U.hm), U.kDD, _, rfl, if_neg' rfl ?_⟩
      unfold same4 at k
      refine ⟨_, rfl, p, D, dx, _, _, rfl, hp, U.cl, U.n1, lk0, _, rfl, q, D, dq, _, _, rfl, hq, U.cl, U.n1, lk0, r 0, _, _, rfl, (hr4 0 (by decide)).choose_spec, .inl ⟨r' 0, _, _, rfl, (hq4 0 (by decide)).choose_spec⟩, r 0, .ref (r' 0), _, _, rfl, hr4 0 (by decide), .inl ⟨r' 0, _, _, rfl, hq4 0 (by decide),  _, rfl, ?_⟩⟩
      cases h0 : (decide (t 0 = t' 0) && decide (b 0 = b' 0))
      · rw [h0] at k
        exact iteF k
      rw [h0, Bool.true_and] at k
      refine iteT ?_
      refine ⟨_, rfl, p, D, dx, _, _, rfl, hp, U.cl, U.n2, lk1, _, rfl, q, D, dq, _, _, rfl, hq, U.cl, U.n2, lk1, r 1, _, _, rfl, (hr4 1 (by decide)).choose_spec, .inl ⟨r' 1, _, _, rfl, (hq4 1 (by decide)).choose_spec⟩, r 1, .ref (r' 1), _, _, rfl, hr4 1 (by decide), .inl ⟨r' 1, _, _, rfl, hq4 1 (by decide),  _, rfl, ?_⟩⟩
      cases h1 : (decide (t 1 = t' 1) && decide (b 1 = b' 1))
      · rw [h1] at k
        exact iteF k
      rw [h1, Bool.true_and] at k
      refine iteT ?_
      refine ⟨_, rfl, p, D, dx, _, _, rfl, hp, U.cl, U.n3, lk2, _, rfl, q, D, dq, _, _, rfl, hq, U.cl, U.n3, lk2, r 2, _, _, rfl, (hr4 2 (by decide)).choose_spec, .inl ⟨r' 2, _, _, rfl, (hq4 2 (by decide)).choose_spec⟩, r 2, .ref (r' 2), _, _, rfl, hr4 2 (by decide), .inl ⟨r' 2, _, _, rfl, hq4 2 (by decide),  _, rfl, ?_⟩⟩
      cases h2 : (decide (t 2 = t' 2) && decide (b 2 = b' 2))
      · rw [h2] at k
        exact iteF k
      rw [h2, Bool.true_and] at k
      refine iteT ?_
      exact ⟨_, rfl, p, D, dx, _, _, rfl, hp, U.cl, U.n4, lk3, _, rfl, q, D, dq, _, _, rfl, hq, U.cl, U.n4, lk3, r 3, _, _, rfl, (hr4 3 (by decide)).choose_spec, .inl ⟨r' 3, _, _, rfl, (hq4 3 (by decide)).choose_spec⟩, r 3, .ref (r' 3), _, _, rfl, hr4 3 (by decide), .inl ⟨r' 3, _, _, rfl, hq4 3 (by decide),  by simpa using k⟩⟩
    · exact ⟨_, rfl, _, _, _, _, _, rfl, .own D, .base (.int i), U.kiD, _, rfl, if_pos' rfl k⟩
end
end R1
end

-- P3s
section
set_option Elab.async false
set_option linter.all false
set_option maxRecDepth 100000
set_option exponentiation.threshold 10000
namespace R1
open PySem L2 OwnOps RatM OwnNe TryAs OwnTry
abbrev sPrice : Stmt := top 18
abbrev sOdd : Stmt := top 19
abbrev sTold : Stmt := top 20
abbrev sUnch : Stmt := top 21
abbrev sUnm : Stmt := top 22
theorem ord {t b : Int} (hb : 0 < b) : nt t b < nb t b ↔ t < b := by
  have c : 0 < cmn t b := by
    have := nb_mul (t := t) (b := b)
    have p := nb_pos (t := t) (b := b) (by omega)
    rcases Int.lt_trichotomy (cmn t b) 0 with h | h | h
    · have : nb t b * cmn t b < 0 := Int.mul_neg_of_pos_of_neg p h
      omega
    · rw [h] at this; omega
    · exact h
  have e1 := nt_mul (t := t) (b := b)
  have e2 := nb_mul (t := t) (b := b)
  constructor
  · intro h
    have := Int.mul_lt_mul_of_pos_right h c
    omega
  · intro h
    rcases (show nt t b < nb t b ∨ nb t b ≤ nt t b by omega) with g | g
    · exact g
    · have := Int.mul_le_mul_of_nonneg_right g (Int.le_of_lt c)
      rw [nb_mul, nt_mul] at this
      omega
theorem Sm.le {x y : Int} {n : Nat} (h : x.natAbs ≤ y.natAbs) (s : Sm n y) : Sm n x := Nat.lt_of_le_of_lt h s
theorem pc_of {C : Addr} {H : Hp} {p : Addr} {t b : Int} (hb : 0 < b) (st : Sm 200 t) (sb : Sm 200 b) (r : Rat C H p (nt t b) (nb t b)) : Pc C H (.ref p) (nt t b) (nb t b) :=
  ⟨.inl ⟨p, rfl, r⟩, nb_pos (by omega), (nrm_id (by omega)).1, (nrm_id (by omega)).2, st.le (nt_le (by omega)), sb.le (nb_le (by omega))⟩
theorem pc_int {C : Addr} {H : Hp} {t : Int} (st : Sm 200 t) : Pc C H (.int t) t 1 := ⟨.inr ⟨rfl, rfl⟩, by decide, (nt_one t).1, (nt_one t).2, st, Nat.one_lt_two_pow (by decide)⟩
theorem sm9 {u : Int} (h : u.natAbs < 2 ^ 128) : u.natAbs < 2 ^ 9000 := Nat.lt_of_lt_of_le h (Nat.pow_le_pow_right (by decide) (by decide))
section
variable {P : Program} {w : World} {K : PySem.W.Frag} {mg : Str → Option Value} {base : Heap} {C CI fCI CZ fCZ D CP fCP : Addr}
theorem mk_lv {σ : L2.St} {H : Hp} {Q : VK} {E : XK} {t b : Int} {ta : TA} (hv : ∀ Q', Q' [.int t, .int b] H → ta σ H Q') (hb : b ≠ 0) (bs : Sm 5000 b) (k : ∀ p H', Same H H' → Rat C H' p (nt t b) (nb t b) → Q (.ref p) H') :
    tMake C (spInit C CI CZ) [] E ta σ H Q := hv _ (mk_good hb bs k)
theorem mk_lv1 {σ : L2.St} {H : Hp} {Q : VK} {E : XK} {t : Int} {ta : TA} (hv : ∀ Q', Q' [.int t] H → ta σ H Q') (k : ∀ p H', Same H H' → Rat C H' p t 1 → Q (.ref p) H') :
    tMake C (spInit C CI CZ) [V.int 1] E ta σ H Q := hv _ (mk_good (by decide) (Nat.lt_of_lt_of_le one12 (Nat.pow_le_pow_right (by decide) (by decide))) fun p H3 s3 rp => k p H3 s3 (by rw [(nt_one t).1, (nt_one t).2] at rp; exact rp))
/-! ### start, price, odd, told -/
def spStart (K : PySem.W.Frag) : Sp := fun vs H Q _ => ∃ (a : Addr) (ns : List Int), vs = [.ref a] ∧ SqL K H a (ns.map V.int) ∧ ∀ l ls H', Same H H' → St H' l ls → H l = none → H ls = none → Q (.ref l) H'
theorem ok_start {f : Addr} {fd : FuncData} (F : Fun K "_law_start" "_law_start" sStart f fd) (N : Nms mg) : FnOk P w K mg base (L2.CX P w) 1 f fd ["_law_script"] (spStart K) := by
  have sc : FnScope ["_law_script"] ["_law_script"] (defScope sStart) := ⟨rfl, rfl, rfl, by decide +kernel, rfl, by decide +kernel, by decide +kernel⟩
  refine F.okX sc (fun vs H Q E h => ?_) (fun cdv A outer s H vs Q E hr h => ?_)
  · obtain ⟨a, ns, rfl, _⟩ := h
    rfl
  · obtain ⟨a, ns, rfl, hS, k⟩ := h
    refine ⟨_, pss_one (ps_ret (pe_lst (pa_cons (pe_callTy call_list_of (by rfl) N.list (by decide +kernel) (pa_cons (pv 0) pa_nil)) (pa_cons pe_int (pa_cons pe_int (pa_cons pe_int pa_nil)))))), ?_⟩
    refine ⟨_, rfl, a, _, rfl, .inl hS, fun ls nls => ⟨(by show 4 ≤ sizeLine; decide), fun l nl => ?_⟩⟩
    have s1 := same_upd (o := .lst (ns.map V.int)) nls
    have s2 := same_upd (o := .lst [V.ref ls, .int 0, .int 0, .int 7]) nl
    exact k l ls _ (s1.trans s2) ⟨ns, 0, 0, 7, ne_of_none upd_same nl, Int.le_refl 0, s2 _ _ upd_same, upd_same⟩ (s1.free nl) nls
def spPrice (C : Addr) : Sp := fun vs H Q _ => ∃ l ls, vs = [.ref l] ∧ St H l ls ∧ ∀ v t b H', SameX l H H' → St H' l ls → Good C H' v t b → Q v H'
theorem ok_price {f : Addr} {fd : FuncData} (F : Fun K "_law_price" "_law_price" sPrice f fd) (T : Txt K mg C CI fCI CZ fCZ) (M : Mak P w K mg base C CI CZ) (GD : Glb P w K mg base "_law_draw" 1 ["_law_state", "_law_many"] spDraw) :
    FnOk P w K mg base (L2.CX P w) 5 f fd ["_law_state"] (spPrice C) := by
  obtain ⟨fI, fdI, ds, mk, GI, b3, d2, b2⟩ := M.ex
  obtain ⟨g, gd, mD, kD, GD, bD⟩ := GD.ex
  have sc : FnScope ["_law_state", "_law_top"] ["_law_state"] (defScope sPrice) := ⟨rfl, rfl, rfl, by decide +kernel, rfl, by decide +kernel, by decide +kernel⟩
  refine F.okX sc (fun vs H Q E h => ?_) (fun cdv A outer s H vs Q E hr h => ?_)
  · obtain ⟨l, ls, rfl, _⟩ := h
    rfl
  · obtain ⟨l, ls, rfl, hS, k⟩ := h
    refine ⟨_, pss_cons (ps_set (i := 1) sc.nd rfl (Or.inl rfl) (pe_op op_add pe_int (pe_call GD (hr.mono (by decide)) (by rfl) mD kD bD .nil passL (pa_cons (pv 0) (pa_cons (pe_op op_pow pe_int pe_int) pa_nil)))))
      (pss_cons (ps_if (pt_cmpR op_eq (pe_call GD (hr.mono (by decide)) (by rfl) mD kD bD .nil passL (pa_cons (pv 0) (pa_cons pe_int pa_nil))) pe_int (nomark _))
        (pss_one (ps_ret (pe_make mk GI hr (by rfl) T.gC b3 .nil passL (pa_cons (pe_op op_add (pv 1) pe_int) (pa_cons (pe_op op_add pe_int (pe_call GD (hr.mono (by decide)) (by rfl) mD kD bD .nil passL (pa_cons (pv 0) (pa_cons pe_int pa_nil)))) pa_nil))))) pss_nil)
      (pss_one (ps_ret (pv 1)))), ?_⟩
    have p30 : ((10 : Int) ^ (30 : Int).toNat) = 1000000000000000000000000000000 := by decide +kernel
    have big : (2 : Nat) ^ 200 = 1606938044258990275541962092341162602522202993782792835301376 := by decide +kernel
    refine ⟨_, rfl, _, _, rfl, rfl, ⟨by decide, by decide, by decide +kernel⟩, l, _, _, rfl, (by rw [p30]; decide), sm9 (by rw [p30]; decide), hS, fun d H1 d0 d1 sx1 S1 => ⟨_, _, rfl, rfl, ?_⟩⟩
    rw [p30] at d1
    refine ⟨_, rfl, l, _, 2, rfl, by decide, sm9 (by decide), S1, fun e H2 e0 e1 sx2 S2 => ⟨rfl, _, rfl, ?_⟩⟩
    have sT : Sm 200 (1 + d) := by unfold Sm; rw [big]; omega
    refine ite2 (fun _ => ?_) (fun _ => ?_)
    · refine ⟨_, rfl, _, _, rfl, rfl, _, rfl, l, _, 7, rfl, by decide, sm9 (by decide), S2, fun z H3 z0 z1 sx3 S3 => ⟨_, _, rfl, rfl, ?_⟩⟩
      have sA : Sm 200 (1 + d + 6) := by unfold Sm; rw [big]; omega
      have sB : Sm 200 (1 + z) := by unfold Sm; rw [big]; omega
      refine mk_good (by omega) (Nat.lt_of_lt_of_le sB (Nat.pow_le_pow_right (by decide) (by decide))) fun p H4 s4 r4 => ?_
      have pc := pc_of (C := C) (H := H4) (p := p) (by omega) sA sB r4
      exact k _ _ _ _ (((sx1.trans sx2).trans sx3).trans (.of s4)) (S3.same s4) ⟨pc, by have := (ord (t := 1 + d + 6) (b := 1 + z) (by omega)); omega⟩
    · exact ⟨_, rfl, k _ _ _ _ (sx1.trans sx2) S2 ⟨pc_int sT, by omega⟩⟩
def spOdd (C : Addr) : Sp := fun vs H Q _ => ∃ l ls, vs = [.ref l] ∧ St H l ls ∧ ∀ v H', SameX l H H' → St H' l ls → Off C H' v → Q v H'
theorem ok_odd {f : Addr} {fd : FuncData} (F : Fun K "_law_odd" "_law_odd" sOdd f fd) (T : Txt K mg C CI fCI CZ fCZ) (M : Mak P w K mg base C CI CZ) (GD : Glb P w K mg base "_law_draw" 1 ["_law_state", "_law_many"] spDraw) :
    FnOk P w K mg base (L2.CX P w) 5 f fd ["_law_state"] (spOdd C) := by
  obtain ⟨fI, fdI, ds, mk, GI, b3, d2, b2⟩ := M.ex
  obtain ⟨g, gd, mD, kD, GD, bD⟩ := GD.ex
  have sc : FnScope ["_law_state", "_law_bottom"] ["_law_state"] (defScope sOdd) := ⟨rfl, rfl, rfl, by decide +kernel, rfl, by decide +kernel, by decide +kernel⟩
  refine F.okX sc (fun vs H Q E h => ?_) (fun cdv A outer s H vs Q E hr h => ?_)
  · obtain ⟨l, ls, rfl, _⟩ := h
    rfl
  · obtain ⟨l, ls, rfl, hS, k⟩ := h
    refine ⟨_, pss_cons (ps_set (i := 1) sc.nd rfl (Or.inl rfl) (pe_op op_add pe_int (pe_call GD (hr.mono (by decide)) (by rfl) mD kD bD .nil passL (pa_cons (pv 0) (pa_cons (pe_op op_pow pe_int pe_int) pa_nil)))))
      (pss_one (ps_ret (pe_ix ix_list (pe_lst (pa_cons (pe_make mk GI hr (by rfl) T.gC b3 .nil passL (pa_cons (pe_op op_sub (pv 1) pe_int) (pa_cons (pv 1) pa_nil)))
        (pa_cons pe_int (pa_cons (pe_op op_sub pe_int (pv 1)) (pa_cons pe_bl (pa_cons pe_non (pa_cons pe_str (pa_cons (pe_make mk GI hr (by rfl) T.gC b2 d2 passL (pa_cons (pe_op op_sub pe_int (pv 1)) pa_nil)) pa_nil))))))))
        (pe_call GD (hr.mono (by decide)) (by rfl) mD kD bD .nil passL (pa_cons (pv 0) (pa_cons pe_int pa_nil))) (fun _ _ => rfl)))), ?_⟩
    have p9 : ((10 : Int) ^ (9 : Int).toNat) = 1000000000 := by decide +kernel
    have big : (2 : Nat) ^ 200 = 1606938044258990275541962092341162602522202993782792835301376 := by decide +kernel
    refine ⟨_, rfl, _, _, rfl, rfl, ⟨by decide, by decide, by decide +kernel⟩, l, _, _, rfl, (by rw [p9]; decide), sm9 (by rw [p9]; decide), hS, fun d H1 d0 d1 sx1 S1 => ⟨_, _, rfl, rfl, ?_⟩⟩
    rw [p9] at d1
    refine nx_go ?_
    dsimp only [tRet, tOp, tLst, tCons]
    have sA : Sm 200 (2 + d) := by unfold Sm; rw [big]; omega
    have sB : Sm 200 (2 + d - 1) := by unfold Sm; rw [big]; omega
    have sC : Sm 200 (0 - (2 + d)) := by unfold Sm; rw [big]; omega
    have s0 : Sm 200 0 := by unfold Sm; rw [big]; omega
    refine mk_lv (t := 2 + d - 1) (b := 2 + d) (fun Q' q => ⟨_, rfl, _, _, rfl, rfl, _, rfl, q⟩) (by omega) (Nat.lt_of_lt_of_le sA (Nat.pow_le_pow_right (by decide) (by decide))) fun p1 H2 s2 r1 => ?_
    refine ⟨_, rfl, _, _, rfl, rfl, ?_⟩
    dsimp only [tC, tCons]
    refine mk_lv1 (t := 0 - (2 + d)) (fun Q' q => ⟨_, rfl, _, _, rfl, rfl, q⟩) fun p2 H3 s3 r2 => ?_
    refine ⟨(by show 7 ≤ sizeLine; decide), fun q nq => ?_⟩
    have s4 := same_upd (o := .lst [V.ref p1, .int 0, .int (0 - (2 + d)), .bl true, .non, .str "1", .ref p2]) nq
    have hq : (L2.upd H3 q (.lst [V.ref p1, .int 0, .int (0 - (2 + d)), .bl true, .non, .str "1", .ref p2])) q = some (.lst [V.ref p1, .int 0, .int (0 - (2 + d)), .bl true, .non, .str "1", .ref p2]) := upd_same
    have q1 := (r1.same s3).same s4
    have q2 := r2.same s4
    have S4 := ((S1.same s2).same s3).same s4
    have sx4 : SameX l H (L2.upd H3 q (.lst [V.ref p1, .int 0, .int (0 - (2 + d)), .bl true, .non, .str "1", .ref p2])) := sx1.trans (.of ((s2.trans s3).trans s4))
    generalize L2.upd H3 q (.lst [V.ref p1, .int 0, .int (0 - (2 + d)), .bl true, .non, .str "1", .ref p2]) = H4 at s4 hq q1 q2 S4 sx4 ⊢
    refine ⟨_, rfl, l, _, 7, rfl, by decide, sm9 (by decide), S4, fun e H5 e0 e1 sx5 S5 => ?_⟩
    have nl : ∀ {b : Addr} {C' dx : Addr} {fs : Fs}, H4 b = some (.ins C' dx fs) → b ≠ l := fun hb z => by
      obtain ⟨_, _, _, _, _, _, _, h2⟩ := S4
      rw [z, h2] at hb
      cases hb
    have hq5 : H5 q = some (.lst [V.ref p1, .int 0, .int (0 - (2 + d)), .bl true, .non, .str "1", .ref p2]) := sx5 _ _ (fun z => by
      obtain ⟨_, _, _, _, _, _, _, h2⟩ := S4
      rw [z, h2] at hq
      cases hq) hq
    have r15 : Rat C H5 p1 _ _ := let ⟨x, hx⟩ := q1; ⟨x, sx5 _ _ (nl hx) hx⟩
    have r25 : Rat C H5 p2 _ _ := let ⟨x, hx⟩ := q2; ⟨x, sx5 _ _ (nl hx) hx⟩
    have fin : ∀ v, Off C H5 v → Q v H5 := fun v o => k v H5 (sx4.trans sx5) S5 o
    have es : e = 0 ∨ e = 1 ∨ e = 2 ∨ e = 3 ∨ e = 4 ∨ e = 5 ∨ e = 6 := by omega
    rcases es with rfl | rfl | rfl | rfl | rfl | rfl | rfl
    · exact ⟨q, _, _, _, rfl, rfl, SqL.of hq5, at_of (j := 0) rfl rfl, fin _ (.inr ⟨_, _, pc_of (by omega) sB sA r15, (ord (by omega)).mpr (by omega)⟩)⟩
    · exact ⟨q, _, _, _, rfl, rfl, SqL.of hq5, at_of (j := 1) rfl rfl, fin _ (.inr ⟨_, _, pc_int s0, by decide⟩)⟩
    · exact ⟨q, _, _, _, rfl, rfl, SqL.of hq5, at_of (j := 2) rfl rfl, fin _ (.inr ⟨_, _, pc_int sC, by omega⟩)⟩
    · exact ⟨q, _, _, _, rfl, rfl, SqL.of hq5, at_of (j := 3) rfl rfl, fin _ (.inl (.bl true))⟩
    · exact ⟨q, _, _, _, rfl, rfl, SqL.of hq5, at_of (j := 4) rfl rfl, fin _ (.inl .non)⟩
    · exact ⟨q, _, _, _, rfl, rfl, SqL.of hq5, at_of (j := 5) rfl rfl, fin _ (.inl (.str "1"))⟩
    · exact ⟨q, _, _, _, rfl, rfl, SqL.of hq5, at_of (j := 6) rfl rfl, fin _ (.inr ⟨_, _, ⟨.inl ⟨p2, rfl, r25⟩, by decide, (nt_one _).1, (nt_one _).2, sC, Nat.one_lt_two_pow (by decide)⟩, by omega⟩)⟩
/-! ### told -/
def spTold (C D : Addr) : Sp := fun vs H Q _ => ∃ (p : Addr) (T B : Nat → Int), vs = [.ref p] ∧ Prc C D H p T B ∧
  ∀ (q : Addr) (H' : Hp) (r : Nat → Addr), Same H H' → H q = none → H' q = some (.lst [.ref (r 0), .ref (r 1), .ref (r 2), .ref (r 3)]) → (∀ i, i < 4 → Rat C H' (r i) (T i) (B i)) → Q (.ref q) H'
structure Props (P : Program) (w : World) (K : PySem.W.Frag) (mg : Str → Option Value) (base : Heap) (D : Addr) : Prop where
  g1 : PropG P w K mg base D "lost" "_lost"
  g2 : PropG P w K mg base D "surplus" "_surplus"
  g3 : PropG P w K mg base D "value" "_value"
  g4 : PropG P w K mg base D "junction" "_junction"
theorem ok_told {f : Addr} {fd : FuncData} (F : Fun K "_law_told" "_law_told" sTold f fd) (U : PTxt K mg D CP fCP) (PP : Props P w K mg base D) : FnOk P w K mg base (L2.CX P w) 3 f fd ["_law_prices"] (spTold C D) := by
  obtain ⟨_, _, _, h1, G1, c1⟩ := PP.g1.ex
  obtain ⟨_, _, _, h2, G2, c2⟩ := PP.g2.ex
  obtain ⟨_, _, _, h3, G3, c3⟩ := PP.g3.ex
  obtain ⟨_, _, _, h4, G4, c4⟩ := PP.g4.ex
  have sc : FnScope ["_law_prices"] ["_law_prices"] (defScope sTold) := ⟨rfl, rfl, rfl, by decide +kernel, rfl, by decide +kernel, by decide +kernel⟩
  refine F.okX sc (fun vs H Q E h => ?_) (fun cdv A outer s H vs Q E hr h => ?_)
  · obtain ⟨p, T, B, rfl, _⟩ := h
    rfl
  · obtain ⟨p, T, B, rfl, ⟨dx, r, hp, hr4⟩, k⟩ := h
    refine ⟨_, pss_one (ps_ret (pe_lst (pa_cons (pe_prop (E := E0) (pv 0) U.cl h1 G1 hr c1 .nil passL rfl) (pa_cons (pe_prop (E := E0) (pv 0) U.cl h2 G2 hr c2 .nil passL rfl) (pa_cons (pe_prop (E := E0) (pv 0) U.cl h3 G3 hr c3 .nil passL rfl) (pa_cons (pe_prop (E := E0) (pv 0) U.cl h4 G4 hr c4 .nil passL rfl) pa_nil)))))), ?_⟩
    exact ⟨_, rfl, p, dx, _, rfl, hp, ⟨p, dx, _, _, rfl, hp, lk0, _, rfl, p, dx, _, rfl, hp, ⟨p, dx, _, _, rfl, hp, lk1, _, rfl, p, dx, _, rfl, hp, ⟨p, dx, _, _, rfl, hp, lk2, _, rfl, p, dx, _, rfl, hp, ⟨p, dx, _, _, rfl, hp, lk3, (by show 4 ≤ sizeLine; decide), fun q nq => k q _ r (same_upd nq) nq upd_same fun i hi => (hr4 i hi).same (same_upd nq)⟩⟩⟩⟩⟩
end
end R1
end

-- P3t
section
set_option Elab.async false
set_option linter.all false
set_option maxRecDepth 100000
set_option exponentiation.threshold 10000
namespace R1
open PySem L2 OwnOps RatM OwnNe TryAs OwnTry
/-- an exception wished for at every state of n slots -/
def EN (n : Nat) (W : WX) : XK := fun cls d H' => ∀ t : L2.St, t.length = n → W cls d t H'
theorem pass_n {X : Cx} {W : WX} {n : Nat} (hn : X.N.length = n) (tk : Takes X W) : Passes (L2.CX X.prog X.w) X (EN n W) := by
  subst hn
  exact pass_all tk
theorem set1 {t : L2.St} (h : t.length = 2) (v : Option V) : (t.set 1 v)[1]? = some v := by
  rw [List.getElem?_set_self (by omega)]
structure Wire (K : PySem.W.Frag) (mg : Str → Option Value) (CP WE : Addr) : Prop where
  gW : mg "WireError" = some (.ref WE)
  kit : PySem.W.kitOne K (.ref CP) (.ref WE) = some true
  kg : KitG K CP
/-- a name of none of the four, or no price -/
def Bent (C : Addr) (H : Hp) (nm v : V) : Prop := (∃ k, k < 4 ∧ nm = .str (wd k) ∧ Off C H v) ∨ (nm = .non ∨ ∃ x, nm = .str x ∧ ∀ k, k < 4 → ¬ x = wd k)
theorem Bent.scal {C : Addr} {H : Hp} {nm v : V} (h : Bent C H nm v) : scal nm nm = true := by
  rcases h with ⟨k, _, rfl, _⟩ | rfl | ⟨x, rfl, _⟩ <;> rfl
theorem Bent.to {C CP : Addr} {H : Hp} {nm v : V} {E : XK} {G : Nat → Prop} (h : Bent C H nm v) (k : ∀ d H', Same H H' → H' d = some (xd nm) → E (.ref CP) (some d) H') :
    (∃ k, k < 4 ∧ nm = .str (wd k) ∧ (G k ∨ (Off C H v ∧ ∀ d H', Same H H' → H' d = some (xd nm) → E (.ref CP) (some d) H'))) ∨ ((nm = .non ∨ ∃ x, nm = .str x ∧ ∀ k, k < 4 → ¬ x = wd k) ∧ ∀ d H', Same H H' → H' d = some (xd nm) → E (.ref CP) (some d) H') :=
  h.elim (fun ⟨i, hi, e, o⟩ => .inl ⟨i, hi, e, .inr ⟨o, k⟩⟩) fun h => .inr ⟨h, k⟩
section
variable {P : Program} {w : World} {K : PySem.W.Frag} {mg : Str → Option Value} {base : Heap} {C CI fCI CZ fCZ D CP fCP WE : Addr}
def spUnch (C D : Addr) : Sp := fun vs H Q _ => ∃ (p : Addr) (nm v : V) (T B : Nat → Int), vs = [.ref p, nm, v] ∧ Prc C D H p T B ∧ Bent C H nm v ∧ ∀ H', Same H H' → Q (.bl true) H'
theorem ok_unch {f : Addr} {fd : FuncData} (F : Fun K "_law_unchanged" "_law_unchanged" sUnch f fd) (T : Txt K mg C CI fCI CZ fCZ) (U : PTxt K mg D CP fCP) (Wi : Wire K mg CP WE)
    (GC : Dun P w K mg base D "change" 8 ["self", "name", "price"] (spChange C D CP)) : FnOk P w K mg base (L2.CX P w) 9 f fd ["_law_prices", "_law_name", "_law_thing"] (spUnch C D) := by
  obtain ⟨g, gd, cha, chf, chk, GCh, bCh⟩ := GC.ex
  have sc : FnScope ["_law_prices", "_law_name", "_law_thing", "e"] ["_law_prices", "_law_name", "_law_thing"] (defScope sUnch) := ⟨rfl, rfl, rfl, by decide +kernel, rfl, by decide +kernel, by decide +kernel⟩
  refine F.okX sc (fun vs H Q E h => ?_) (fun cdv A outer s H vs Q E hr h => ?_)
  · obtain ⟨p, nm, v, T, B, rfl, _⟩ := h
    rfl
  · obtain ⟨p, nm, v, t, b, rfl, pr, bent, k⟩ := h
    obtain ⟨dx, r, hp, hr4⟩ := id pr
    refine ⟨_, pss_cons (ps_try_all rfl rfl sc.nd (takes_of rfl rfl rfl rfl) (fun W pn xe tk _ => pss_one (ps_expr (pe_methA (W := W) (pv 0) U.cl ⟨cha, chf, chk⟩ GCh hr bCh .nil tk (pa_cons (pv 1) (pa_cons (pv 2) pa_nil)))))
        (Clauses.cons (i := 3) rfl rfl ⟨rfl, by decide, .inl U.eP.gC⟩ (fun a oe cls d pn hz hf => pss_one (ps_ret (pe_and (pe_cmpR op_eq (pe_byGiv U.eP hz hf (pv 3)) (pv 1) (nomark _))
          (pe_one (pe_callB (call_isiH hz hf) (by rfl) T.isi (by decide +kernel) (pa_cons (pv 3) (pa_cons (pe_glob (v := .ref WE) (by rfl) Wi.gW rfl) pa_nil))))))) Clauses.nil))
      (pss_one (ps_ret pe_bl)), ?_⟩
    refine ⟨_, rfl, p, dx, _, rfl, hp, (by rfl), _, rfl, _, rfl, p, nm, v, t, b, rfl, pr, ?_⟩
    exact bent.to fun d H1 sm hd => ⟨true, U.eP.te, fun _ a ha => ⟨_, rfl, rfl, rfl, d, _, rfl, hd, _, rfl, bent.scal, _, rfl, if_pos' (decide_eq_true rfl) ⟨_, rfl, CP, d, _, _, _, true, rfl, rfl, rfl, hd, Wi.kg, .own WE, Wi.kit, k H1 sm⟩⟩, fun z => nomatch z⟩
def spUnm (C : Addr) : Sp := fun vs H Q _ => ∃ (a : Addr) (v : Nat → V) (k : Nat), vs = [.ref a] ∧ H a = some (.lst [v 0, v 1, v 2, v 3]) ∧ k < 4 ∧ (∀ i, i < k → ∃ t b, Good C H (v i) t b) ∧ Off C H (v k) ∧ ∀ H', Same H H' → Q (.str (wd k)) H'
theorem ok_unm {f : Addr} {fd : FuncData} (F : Fun K "_law_unmade" "_law_unmade" sUnm f fd) (U : PTxt K mg D CP fCP) (M : MkP P w K mg base C D CP) : FnOk P w K mg base (L2.CX P w) 10 f fd ["_law_some"] (spUnm C) := by
  obtain ⟨fI, fdI, ds, mA, mJ, mW, mk, GI, _, _, kA, _, _⟩ := M.ex
  have sc : FnScope ["_law_some", "e"] ["_law_some"] (defScope sUnm) := ⟨rfl, rfl, rfl, by decide +kernel, rfl, by decide +kernel, by decide +kernel⟩
  refine F.okX sc (fun vs H Q E h => ?_) (fun cdv A outer s H vs Q E hr h => ?_)
  · obtain ⟨a, v, k, rfl, _⟩ := h
    rfl
  · obtain ⟨a, v, k, rfl, ha, hk, good, off, fin⟩ := h
    refine ⟨_, pss_one (ps_try_all rfl rfl sc.nd (takes_of rfl rfl rfl rfl) (fun W pn xe tk _ => pss_one (ps_ret (pe_cmpR op_isN (pe_makeK0 (CX := L2.CX P w) (E := EN 2 W) mk GI (hr.mono (by decide)) (by rfl) U.gD kA (pass_n rfl tk)
          (pk_cons (pe_ix (show IxR _ (rIxL K) from ix_list) (pv 0) pe_int (fun _ _ => rfl)) (pk_cons (pe_ix (show IxR _ (rIxL K) from ix_list) (pv 0) pe_int (fun _ _ => rfl)) (pk_cons (pe_ix (show IxR _ (rIxL K) from ix_list) (pv 0) pe_int (fun _ _ => rfl)) (pk_cons (pe_ix (show IxR _ (rIxL K) from ix_list) (pv 0) pe_int (fun _ _ => rfl)) pk_nil))))) pe_non (nomark _))))
        (Clauses.cons (i := 1) rfl rfl ⟨rfl, by decide, .inl U.eP.gC⟩ (fun a oe cls d pn hz hf => pss_one (ps_ret (pe_byGiv U.eP hz hf (pv 1)))) Clauses.nil)), ?_⟩
    refine ⟨_, rfl, a, _, _, _, rfl, rfl, SqL.of ha, at_of (j := 0) rfl rfl, _, rfl, a, _, _, _, rfl, rfl, SqL.of ha, at_of (j := 1) rfl rfl, _, rfl, a, _, _, _, rfl, rfl, SqL.of ha, at_of (j := 2) rfl rfl, _, rfl, a, _, _, _, rfl, rfl, SqL.of ha, at_of (j := 3) rfl rfl, rfl, rfl, ?_⟩
    exact mkP_bad hk good off fun d H1 sm hd t0 ht => ⟨true, U.eP.te, fun _ a ha => ⟨_, set1 ht _, rfl, rfl, d, _, rfl, hd, fin H1 sm⟩, fun z => nomatch z⟩
end
end R1
end

-- P3u
section
set_option Elab.async false
set_option linter.all false
set_option maxRecDepth 100000
set_option exponentiation.threshold 10000
namespace R1
open PySem L2 OwnOps RatM OwnNe
theorem Rat.uniq {C : Addr} {H : Hp} {q : Addr} {t b t' b' : Int} (r : Rat C H q t b) (r' : Rat C H q t' b') : t = t' ∧ b = b' := by
  obtain ⟨_, h⟩ := r
  obtain ⟨_, h'⟩ := r'
  rw [h] at h'
  injection h' with h'
  injection h' with _ _ h'
  have e1 := flds_top t b
  have e2 := flds_bot t b
  rw [h', flds_top] at e1
  rw [h', flds_bot] at e2
  injection e1 with e1
  injection e2 with e2
  injection e1 with e1
  injection e2 with e2
  exact ⟨e1.symm, e2.symm⟩
/-- two numbers, equal or not -/
def DP (C : Addr) : V → V → Hp → Bool → Prop := fun x y H r => ∃ t b t' b', Num C H x t b ∧ Num C H y t' b' ∧ r = (decide (t = t') && decide (b = b'))
theorem mon_DP {C : Addr} : ∀ x y H H' b, Ext H H' → DP C x y H b → DP C x y H' b := fun _ _ _ _ _ e ⟨t, b, t', b', h, h', r⟩ => ⟨t, b, t', b', h.same e, h'.same e, r⟩
section
variable {prog : Program} {w : World} {A : Around} {E : Value → Shared → Prop} {s : Shared}
theorem eqBool_rc {l : Addr} {v : Value} {Q : Bool → Shared → Prop} (ne : (Value.ref l == v) = false)
    (h : wpAny (model prog w) A (richCompare .Eq (.ref l) v) (fun x s' => ∃ r, x = .bool r ∧ Q r s') E s) : wpAny (model prog w) A (eqBool (.ref l) v) Q E s := by
  unfold eqBool
  refine wpAny_holding (wpAny_ite_split (fun z => absurd z (by rw [ne]; decide)) fun _ => wpAny_bind (wpAny_mono h ?_ fun _ _ x => x))
  rintro x s' ⟨r, rfl, q⟩
  exact wpAny_truthy_bool q
theorem eqBool_ri {i : Int} {tk : Tok} {l : Addr} {Q : Bool → Shared → Prop}
    (h : wpAny (model prog w) A (richCompare .Eq (.int i tk) (.ref l)) (fun x s' => ∃ r, x = .bool r ∧ Q r s') E s) : wpAny (model prog w) A (eqBool (.int i tk) (.ref l)) Q E s := by
  unfold eqBool
  refine wpAny_holding (wpAny_ite_split (fun z => by cases (beq_iff_eq.mp z)) fun _ => wpAny_bind (wpAny_mono h ?_ fun _ _ x => x))
  rintro x s' ⟨r, rfl, q⟩
  exact wpAny_truthy_bool q
end
section
variable {X : Cx} {C g : Addr} {fd : FuncData} {k : Nat}
theorem eqB_DP (Z : Tys X.K C) (hs : PySem.W.findIn X.K (.ref C) "__eq__" = some (some (.ref g))) (hf : PySem.W.isFn X.K (.ref g) = true)
    (F : FnOk X.prog X.w X.K X.mg X.base (L2.CX X.prog X.w) 2 g fd ["self", "other"] (spEq C false)) (hb : L2.Binds X.K fd ["self", "other"] []) : EqB X 2 (DP C) := by
  intro A pins s σ H x y u v bb sb I rx ry d
  obtain ⟨t, b, t', b', nx, ny, rfl⟩ := d
  have e := I.env0
  have e0 : Env0 X.prog X.w X.K X.mg X.base A X.stack s H := ⟨by rw [sb.fr]; exact e.frames, e.mod, e.bs, e.bsz, e.funs, e.frf, e.hok, e.bare⟩
  obtain ⟨m, hF⟩ := I.fr
  have run : ∀ (q : Addr) (z : V) (uz : Value) (r : Bool), RelV z uz → R1.spEq C false [.ref q, z] H (fun v H' => v = .bl r ∧ Ext H H') E0 →
      wpAny (model X.prog X.w) A (call (.ref g) [.ref q, uz]) (PySem.W.CmpBack fun x s' => ∃ c, x = .bool c ∧ (c = r ∧ ∃ H', L2.Inv X pins σ H' s' ∧ Ext H H')) X.xe s := fun q z uz r rz h => by
    refine wpAny_mono (run_any (us := [.ref q, uz]) (vs := [.ref q, z]) F sb.room e0 hb passL I (.cons rfl (.cons rz .nil)) h) (fun w s' got => ?_) fun _ _ x => x
    obtain ⟨z', H', I', rz', rfl, ex⟩ := id got
    cases (show w = Value.bool r from rz')
    exact ⟨r, rfl, rfl, H', I', ex⟩
  rcases nx with ⟨q, rfl, dq, hq⟩ | ⟨rfl, rfl⟩
  · cases (show u = Value.ref q from rx)
    obtain ⟨od, J⟩ := inst_at I hq
    rcases ny with ⟨q', rfl, dq', hq'⟩ | ⟨rfl, rfl⟩
    · cases (show v = Value.ref q' from ry)
      obtain ⟨od', J'⟩ := inst_at I hq'
      by_cases same : q = q'
      · subst same
        obtain ⟨e1, e2⟩ := Rat.uniq ⟨dq, hq⟩ ⟨dq', hq'⟩
        subst e1; subst e2
        exact SeqAt.EqAt.same (A := A) (s := s) (.ref q) X.prog X.w X.xe _ ⟨by simp, H, I, Ext.rfl'⟩
      · refine eqBool_rc (beq_eq_false_iff_ne.mpr fun z => same (Value.ref.inj z)) ?_
        refine PySem.W.cmp_K (op := .Eq) (tb := .ref C) sb.room.units0 hF I.ok.mod.kin J J'.type Z.nCC hs hf ?_
        exact run q (.ref q') _ _ rfl ⟨q, .ref q', t, b, rfl, ⟨dq, hq⟩, .inl ⟨q', t', b', rfl, ⟨dq', hq'⟩, by simp, Ext.rfl'⟩⟩
    · obtain ⟨tk, rfl⟩ := (show ∃ tk, v = Value.int t' tk from ry)
      refine eqBool_rc (beq_eq_false_iff_ne.mpr fun z => by cases z) ?_
      refine PySem.W.cmp_K (op := .Eq) (tb := .type "int") sb.room.units0 hF I.ok.mod.kin J (PySem.W.Looks.of_pure rfl) Z.nI hs hf ?_
      exact run q (.int t') _ _ ⟨tk, rfl⟩ ⟨q, .int t', t, b, rfl, ⟨dq, hq⟩, .inr (.inl ⟨t', rfl, by simp [Bool.and_comm], Ext.rfl'⟩)⟩
  · obtain ⟨tk, rfl⟩ := (show ∃ tk, u = Value.int t tk from rx)
    rcases ny with ⟨q', rfl, dq', hq'⟩ | ⟨rfl, rfl⟩
    · cases (show v = Value.ref q' from ry)
      obtain ⟨od', J'⟩ := inst_at I hq'
      refine eqBool_ri ?_
      refine cmp_refl (op := .Eq) sb.room.units0 I.kIn J' rfl dec_eq Z.sI hs hf ?_
      refine run q' (.int t) _ _ ⟨tk, rfl⟩ ⟨q', .int t, t', b', rfl, ⟨dq', hq'⟩, .inr (.inl ⟨t, rfl, ?_, Ext.rfl'⟩)⟩
      congr 1
      have c1 : decide (b' = 1) = decide (1 = b') := by congr 1; exact propext eq_comm
      have c2 : decide (t' = t) = decide (t = t') := by congr 1; exact propext eq_comm
      rw [c1, c2, Bool.and_comm]
      simp
    · obtain ⟨tk', rfl⟩ := (show ∃ tk', v = Value.int t' tk' from ry)
      have q := eqAt_V (A := A) (s := s) (show RelV (.int t) (Value.int t tk) from ⟨tk, rfl⟩) (show RelV (.int t') (Value.int t' tk') from ⟨tk', rfl⟩) rfl rfl
      have e3 : eqV (.int t) (.int t') = (decide (t = t') && decide ((1 : Int) = 1)) := by
        by_cases h : t = t' <;> simp [eqV, h]
      rw [e3] at q
      exact q X.prog X.w X.xe _ ⟨rfl, H, I, Ext.rfl'⟩
end
end R1
end

-- P3v
section
set_option Elab.async false
set_option linter.all false
set_option maxRecDepth 100000
set_option exponentiation.threshold 10000
namespace R1
open PySem L2 OwnOps RatM OwnNe
section
variable {C D : Addr} {H H' : Hp} {a : Addr} {xs : List V} {v : V} {t b : Int}
/-- a list that changes is no ratio -/
theorem Rat.sameL {q : Addr} (r : Rat C H q t b) (e : H a = some (.lst xs)) (s : SameX a H H') : Rat C H' q t b :=
  let ⟨dq, h⟩ := r
  ⟨dq, s _ _ (by rintro rfl; rw [e] at h; cases h) h⟩
theorem Good.sameL (h : Good C H v t b) (e : H a = some (.lst xs)) (s : SameX a H H') : Good C H' v t b :=
  ⟨⟨h.1.num.elim (fun ⟨q, e', r⟩ => .inl ⟨q, e', r.sameL e s⟩) .inr, h.1.b0, h.1.nt, h.1.nb, h.1.st, h.1.sb⟩, h.2⟩
theorem Prc.sameL {p : Addr} {T B : Nat → Int} (h : Prc C D H p T B) (e : H a = some (.lst xs)) (s : SameX a H H') : Prc C D H' p T B :=
  let ⟨dx, r, ep, k⟩ := h
  ⟨dx, r, s _ _ (by rintro rfl; rw [e] at ep; cases ep) ep, fun i hi => (k i hi).sameL e s⟩
theorem Prc.sameX {p q dx : Addr} {fs : Fs} {T B : Nat → Int} (h : Prc C D H p T B) (n : p ≠ q) (e : H q = some (.ins D dx fs)) (nt : NoTop fs) (s : SameX q H H') : Prc C D H' p T B :=
  let ⟨dy, r, ep, k⟩ := h
  ⟨dy, r, s _ _ n ep, fun i hi => (k i hi).sameX e nt s⟩
end
/-- what stands between two turns of the law's loop -/
structure LI (C D : Addr) (H : Hp) (l ls wa sa p lk fa : Addr) (v u : Nat → V) (T B T1 B1 T0 B0 : Nat → Int) : Prop where
  st : St H l ls
  hw : H wa = some (.lst [.str (wd 0), .str (wd 1), .str (wd 2), .str (wd 3)])
  hs : H sa = some (.lst [v 0, v 1, v 2, v 3])
  gs : ∀ i, i < 4 → Good C H (v i) (T i) (B i)
  hp : Prc C D H p T1 B1
  hl : Prc C D H lk T0 B0
  hf : H fa = some (.lst [u 0, u 1, u 2, u 3])
  gf : ∀ i, i < 4 → Good C H (u i) (T0 i) (B0 i)
  n1 : wa ≠ l
  n2 : sa ≠ l
  n3 : fa ≠ l
  n4 : sa ≠ ls
  n5 : sa ≠ wa
  n6 : sa ≠ fa
  n7 : p ≠ lk
theorem at4 {α : Type} {f : Nat → α} {k : Nat} (h : k < 4) : atI [f 0, f 1, f 2, f 3] (k : Int) = some (f k) := by
  have ks : k = 0 ∨ k = 1 ∨ k = 2 ∨ k = 3 := by omega
  rcases ks with rfl | rfl | rfl | rfl <;> rfl
theorem ix4 {k : Nat} (h : k < 4) : ixN 4 (k : Int) = some k := by
  have ks : k = 0 ∨ k = 1 ∨ k = 2 ∨ k = 3 := by omega
  rcases ks with rfl | rfl | rfl | rfl <;> rfl
def setV (k : Nat) (w : V) (v : Nat → V) : Nat → V := fun i => if i = k then w else v i
theorem set4 {v : Nat → V} {k : Nat} {w : V} (h : k < 4) : [v 0, v 1, v 2, v 3].set k w = [setV k w v 0, setV k w v 1, setV k w v 2, setV k w v 3] := by
  have ks : k = 0 ∨ k = 1 ∨ k = 2 ∨ k = 3 := by omega
  rcases ks with rfl | rfl | rfl | rfl <;> rfl
theorem setV_k {k : Nat} {w : V} {v : Nat → V} : setV k w v k = w := if_pos rfl
section
variable {C D : Addr} {H H' : Hp} {l ls wa sa p lk fa : Addr} {v u : Nat → V} {T B T1 B1 T0 B0 : Nat → Int}
theorem LI.same (h : LI C D H l ls wa sa p lk fa v u T B T1 B1 T0 B0) (s : Same H H') : LI C D H' l ls wa sa p lk fa v u T B T1 B1 T0 B0 where
  st := h.st.same s
  hw := s _ _ h.hw
  hs := s _ _ h.hs
  gs := fun i hi => (h.gs i hi).same s
  hp := h.hp.same s
  hl := h.hl.same s
  hf := s _ _ h.hf
  gf := fun i hi => (h.gf i hi).same s
  n1 := h.n1
  n2 := h.n2
  n3 := h.n3
  n4 := h.n4
  n5 := h.n5
  n6 := h.n6
  n7 := h.n7
theorem LI.draw (h : LI C D H l ls wa sa p lk fa v u T B T1 B1 T0 B0) (s : SameX l H H') (S : St H' l ls) : LI C D H' l ls wa sa p lk fa v u T B T1 B1 T0 B0 := by
  obtain ⟨ns, a, r, sd, n, a0, e1, e⟩ := h.st
  exact ⟨S, s _ _ h.n1 h.hw, s _ _ h.n2 h.hs, fun i hi => (h.gs i hi).sameL e s, h.hp.sameL e s, h.hl.sameL e s, s _ _ h.n3 h.hf, fun i hi => (h.gf i hi).sameL e s, h.n1, h.n2, h.n3, h.n4, h.n5, h.n6, h.n7⟩
theorem LI.sput (h : LI C D H l ls wa sa p lk fa v u T B T1 B1 T0 B0) {k : Nat} {w : V} {t b : Int} (hk : k < 4) (g : Good C H w t b) :
    LI C D (upd H sa (.lst [setV k w v 0, setV k w v 1, setV k w v 2, setV k w v 3])) l ls wa sa p lk fa (setV k w v) u (set k t T) (set k b B) T1 B1 T0 B0 := by
  have s : SameX sa H (upd H sa (.lst [setV k w v 0, setV k w v 1, setV k w v 2, setV k w v 3])) := SameX.upd
  obtain ⟨ns, a, r, sd, n, a0, e1, e⟩ := h.st
  refine ⟨⟨ns, a, r, sd, n, a0, s _ _ (Ne.symm h.n4) e1, s _ _ (Ne.symm h.n2) e⟩, s _ _ (Ne.symm h.n5) h.hw, upd_same, fun i hi => ?_, h.hp.sameL h.hs s, h.hl.sameL h.hs s, s _ _ (Ne.symm h.n6) h.hf, fun i hi => (h.gf i hi).sameL h.hs s, h.n1, h.n2, h.n3, h.n4, h.n5, h.n6, h.n7⟩
  unfold setV R1.set
  by_cases e : i = k
  · rw [if_pos e, if_pos e, if_pos e]
    exact g.sameL h.hs s
  · rw [if_neg e, if_neg e, if_neg e]
    exact (h.gs i hi).sameL h.hs s
theorem LI.pchg (h : LI C D H l ls wa sa p lk fa v u T B T1 B1 T0 B0) {T2 B2 : Nat → Int} (s : SameX p H H') (g : Prc C D H' p T2 B2) : LI C D H' l ls wa sa p lk fa v u T B T2 B2 T0 B0 := by
  obtain ⟨dx, r, e, hr⟩ := h.hp
  obtain ⟨ns, a, rr, sd, n, a0, e1, e2⟩ := h.st
  have nl : ∀ {x : Addr} {xs : List V}, H x = some (.lst xs) → x ≠ p := fun hx z => by
    rw [z, e] at hx
    cases hx
  exact ⟨⟨ns, a, rr, sd, n, a0, s _ _ (nl e1) e1, s _ _ (nl e2) e2⟩, s _ _ (nl h.hw) h.hw, s _ _ (nl h.hs) h.hs, fun i hi => (h.gs i hi).sameX e noTop4 s, g, h.hl.sameX (Ne.symm h.n7) e noTop4 s, s _ _ (nl h.hf) h.hf,
    fun i hi => (h.gf i hi).sameX e noTop4 s, h.n1, h.n2, h.n3, h.n4, h.n5, h.n6, h.n7⟩
/-- told prices against the list of the drawn ones -/
theorem prs4 {r : Nat → Addr} {w : Nat → V} {T B : Nat → Int} (hr : ∀ i, i < 4 → Rat C H (r i) (T i) (B i)) (hw : ∀ i, i < 4 → Num C H (w i) (T i) (B i)) :
    Prs (fun x y H => DP C x y H true) [.ref (r 0), .ref (r 1), .ref (r 2), .ref (r 3)] [w 0, w 1, w 2, w 3] H := by
  have one : ∀ i, i < 4 → DP C (.ref (r i)) (w i) H true := fun i hi => ⟨T i, B i, T i, B i, .inl ⟨r i, rfl, hr i hi⟩, hw i hi, by simp⟩
  exact .cons (one 0 (by decide)) (.cons (one 1 (by decide)) (.cons (one 2 (by decide)) (.cons (one 3 (by decide)) .nil)))
end
theorem list4 {acc : List V} (h : acc.length = 4) : ∃ v : Nat → V, acc = [v 0, v 1, v 2, v 3] := by
  match acc, h with
  | [a, b, c, d], _ => exact ⟨fun i => match i with | 0 => a | 1 => b | 2 => c | _ => d, rfl⟩
theorem goods {C : Addr} {H : Hp} {v : Nat → V} (h : ∀ i, i < 4 → ∃ t b, Good C H (v i) t b) : ∃ T B : Nat → Int, ∀ i, i < 4 → Good C H (v i) (T i) (B i) := by
  have q : ∀ i, ∃ t b, i < 4 → Good C H (v i) t b := fun i => by
    by_cases hi : i < 4
    · obtain ⟨t, b, g⟩ := h i hi
      exact ⟨t, b, fun _ => g⟩
    · exact ⟨0, 0, fun z => absurd z hi⟩
  exact ⟨fun i => Classical.choose (q i), fun i => Classical.choose (Classical.choose_spec (q i)), fun i hi => Classical.choose_spec (Classical.choose_spec (q i)) hi⟩
theorem mkK_good {C D CP : Addr} {σ : L2.St} {H : Hp} {Q : VK} {E : XK} {m : Nat} {gV : List V → List V → List V} {tk : TA} {zs : List V} {v : Nat → V} {T B : Nat → Int} (hv : ∀ Q', Q' zs H → tk σ H Q') (hg : ∀ x : Addr, gV [.ref x] zs = [.ref x, v 0, v 1, v 2, v 3]) (hz : zs.length = m)
    (g : ∀ i, i < 4 → Good C H (v i) (T i) (B i)) (k : ∀ q H', H q = none → Same H H' → Prc C D H' q T B → Q (.ref q) H') : tMakeK D 0 m (spPI C D CP) gV E tNil tk σ H Q :=
  hv _ ⟨rfl, hz, fun x dx hx hd ne => by rw [hg]; exact mkP_good g k x dx hx hd ne⟩
theorem seq_mkK {C D CP : Addr} {σ : L2.St} {H : Hp} {Dn : Ends} {rest : TS} {E : XK} {m i : Nat} {gV : List V → List V → List V} {tk : TA} {zs : List V} {v : Nat → V} {T B : Nat → Int} (hv : ∀ Q', Q' zs H → tk σ H Q') (hg : ∀ x : Addr, gV [.ref x] zs = [.ref x, v 0, v 1, v 2, v 3]) (hz : zs.length = m)
    (g : ∀ i, i < 4 → Good C H (v i) (T i) (B i)) (k : ∀ q H', H q = none → Same H H' → Prc C D H' q T B → rest Dn (σ.set i (some (.ref q))) H') : tSeq (tAsg (tMakeK D 0 m (spPI C D CP) gV E tNil tk) (gName i)) rest Dn σ H :=
  mkK_good (Q := fun x H1 => rest Dn (σ.set i (some x)) H1) hv hg hz g k
theorem goodP_at {C D CP : Addr} {H : Hp} {Q : VK} {E : XK} {v : Nat → V} {T B : Nat → Int} {x dx : Addr} (hx : H x = none) (hd : H dx = none) (g : ∀ i, i < 4 → Good C H (v i) (T i) (B i)) (k : ∀ H', Same H H' → Prc C D H' x T B → Q .non H') :
    spPI C D CP [.ref x, v 0, v 1, v 2, v 3] (upd (upd H dx (.own x)) x (.ins D dx [])) Q E :=
  ⟨x, dx, v, rfl, upd_same, .inl ⟨T, B, fun i hi => (g i hi).same (same_new hx hd), fun H' sx pr => k H' (same_made hx hd sx) pr⟩⟩
theorem get4 {v : Nat → V} {i : Nat} (h : i < 4) : [v 0, v 1, v 2, v 3][i]? = some (v i) := by
  have ks : i = 0 ∨ i = 1 ∨ i = 2 ∨ i = 3 := by omega
  rcases ks with rfl | rfl | rfl | rfl <;> rfl
theorem St.off {H : Hp} {l ls sa : Addr} {o : HO} (h : St H l ls) (n1 : sa ≠ l) (n2 : sa ≠ ls) : St (upd H sa o) l ls :=
  let ⟨ns, a, r, sd, n, a0, e1, e2⟩ := h
  ⟨ns, a, r, sd, n, a0, by rw [upd_ne (Ne.symm n2)]; exact e1, by rw [upd_ne (Ne.symm n1)]; exact e2⟩
theorem St.lst {H : Hp} {l ls : Addr} (h : St H l ls) : ∃ xs, H l = some (.lst xs) :=
  let ⟨_, _, _, _, _, _, _, e⟩ := h
  ⟨_, e⟩
theorem Off.draw {C : Addr} {H H' : Hp} {l ls : Addr} {v : V} (h : Off C H v) (S : St H l ls) (S' : St H' l ls) (s : SameX l H H') : Off C H' v := by
  obtain ⟨xs, e⟩ := S.lst
  obtain ⟨ys, e'⟩ := S'.lst
  rcases h with h | ⟨t, b, h, lt⟩
  · refine .inl ?_
    cases h with
    | bl b => exact .bl b
    | non => exact .non
    | str x => exact .str x
    | @lst a zs q =>
      by_cases n : a = l
      · rw [n]; exact .lst e'
      · exact .lst (s _ _ n q)
    | @tup a zs q => exact .tup (s _ _ (by rintro rfl; rw [e] at q; cases q) q)
  · exact .inr ⟨t, b, ⟨h.num.elim (fun ⟨q, e0, r⟩ => .inl ⟨q, e0, r.sameL e s⟩) .inr, h.b0, h.nt, h.nb, h.st, h.sb⟩, lt⟩
theorem Same.thenX {H H1 H2 : Hp} {l : Addr} (s : Same H H1) (x : SameX l H1 H2) (n : H l = none) : Same H H2 := fun c u e => x c u (ne_of_none e n) (s c u e)
theorem set_k {k : Nat} {t : Int} {T : Nat → Int} : R1.set k t T k = t := if_pos rfl
theorem price_ne : ∀ k, k < 4 → ¬ ("price" : Str) = wd k := fun k hk => by
  have ks : k = 0 ∨ k = 1 ∨ k = 2 ∨ k = 3 := by omega
  rcases ks with rfl | rfl | rfl | rfl <;> decide +kernel
theorem same4_iff {T B T' B' : Nat → Int} : same4 T B T' B' = true ↔ ∀ i, i < 4 → (decide (T i = T' i) && decide (B i = B' i)) = true := by
  unfold same4
  constructor
  · intro h i hi
    simp only [Bool.and_eq_true] at h ⊢
    obtain ⟨h0, h1, h2, h3⟩ := h
    have is : i = 0 ∨ i = 1 ∨ i = 2 ∨ i = 3 := by omega
    rcases is with rfl | rfl | rfl | rfl
    · exact h0
    · exact h1
    · exact h2
    · exact h3
  · intro h
    have h0 := h 0 (by decide)
    have h1 := h 1 (by decide)
    have h2 := h 2 (by decide)
    have h3 := h 3 (by decide)
    simp only [Bool.and_eq_true] at h0 h1 h2 h3 ⊢
    exact ⟨h0, h1, h2, h3⟩
theorem same4_self {T B : Nat → Int} : same4 T B T B = true := same4_iff.mpr fun i _ => by simp
end R1
end

-- P3w
section
set_option Elab.async false
set_option linter.all false
set_option maxRecDepth 100000
set_option exponentiation.threshold 10000
namespace R1
open PySem L2 OwnOps RatM OwnNe
abbrev sLaw : Stmt := top 23
abbrev NL : List Str := ["_law_script", "_law_state", "_law_words", "_law_some", "_law_prices", "_law_like", "_law_first", "_law_k", "_law_at", "_law_odd_here", "_law_low", "_law_bad", "_law_word", "_law_price_here"]
def RPD (D : Addr) : V → Hp → Prop := fun y H => RIns D y H ∨ RInt y H
theorem looksP {X : Cx} {D : Addr} (h1 : PySem.W.notFirst X.K D (.ref D) = true) (h2 : PySem.W.notFirst X.K D (.type "int") = true) {y : V} {H : Hp} {u : Value} {pins : List (Addr × Obj)} {σ : L2.St} {s : Shared} (I : L2.Inv X pins σ H s) (h : RPD D y H) (ry : RelV y u) :
    ∃ tb, PySem.W.Looks (model X.prog X.w) s.heap (typeOf u) tb ∧ PySem.W.notFirst X.K D tb = true := by
  rcases h with h | h
  · exact looks_ins h1 I h ry
  · exact looks_int h2 I h ry
theorem yes_go {σ : L2.St} {H : Hp} {Q : Bool → Hp → Prop} (h : Q true H) : tYes σ H Q := h
theorem passOwn {X : Cx} {K : Value → Shared → Prop} {E₁ : Value → Shared → Prop} (hx : X.xe = fun e s' => wpAny (model X.prog X.w) X.A (leaving X.env e) (fun _ s'' => K e s'') E₁ s' := by rfl) : PassesOwn (model X.prog X.w) X.A X.env X.xe := passes_of hx
def spLaw (K : PySem.W.Frag) : Sp := fun vs H Q _ => ∃ (a : Addr) (ns : List Int), vs = [.ref a] ∧ SqL K H a (ns.map V.int) ∧ ∀ H', Same H H' → Q (.bl true) H'
section
variable {P : Program} {w : World} {K : PySem.W.Frag} {mg : Str → Option Value} {base : Heap} {C CI fCI CZ fCZ D CP fCP WE : Addr}
theorem ok_law {f : Addr} {fd : FuncData} (F : Fun K "law" "law" sLaw f fd) (T : Txt K mg C CI fCI CZ fCZ) (Z : Tys K C) (N : Nms mg) (U : PTxt K mg D CP fCP) (M : MkP P w K mg base C D CP)
    (nDD : PySem.W.notFirst K D (.ref D) = true) (nDi : PySem.W.notFirst K D (.type "int") = true) (neD : PySem.W.findIn K (.ref D) "__ne__" = some (some (.builtin "object.__ne__")))
    (xSt : Glb P w K mg base "_law_start" 1 ["_law_script"] (spStart K)) (xD : Glb P w K mg base "_law_draw" 1 ["_law_state", "_law_many"] spDraw) (xPr : Glb P w K mg base "_law_price" 5 ["_law_state"] (spPrice C)) (xOd : Glb P w K mg base "_law_odd" 5 ["_law_state"] (spOdd C))
    (xTo : Glb P w K mg base "_law_told" 3 ["_law_prices"] (spTold C D)) (xUn : Glb P w K mg base "_law_unchanged" 9 ["_law_prices", "_law_name", "_law_thing"] (spUnch C D)) (xUm : Glb P w K mg base "_law_unmade" 10 ["_law_some"] (spUnm C))
    (xCh : Dun P w K mg base D "change" 8 ["self", "name", "price"] (spChange C D CP)) (xCo : Dun P w K mg base D "copied" 10 ["self"] (spCop C D)) (xPq : Dun P w K mg base D (cmpInfo .Eq).2.1 3 ["self", "other"] (spPEq C D)) (xEq : Dun P w K mg base C (cmpInfo .Eq).2.1 2 ["self", "other"] (spEq C false)) :
    FnOk P w K mg base (L2.CX P w) 11 f fd ["_law_script"] (spLaw K) := by
  obtain ⟨fI, fdI, ds, mA, mJ, mW, mk, GI, vds, bds, kA, kJ, kW⟩ := M.ex
  obtain ⟨_, _, mSt, kSt, GSt, bSt⟩ := xSt.ex
  obtain ⟨_, _, mD, kD, GD, bD⟩ := xD.ex
  obtain ⟨_, _, mPr, kPr, GPr, bPr⟩ := xPr.ex
  obtain ⟨_, _, mOd, kOd, GOd, bOd⟩ := xOd.ex
  obtain ⟨_, _, mTo, kTo, GTo, bTo⟩ := xTo.ex
  obtain ⟨_, _, mUn, kUn, GUn, bUn⟩ := xUn.ex
  obtain ⟨_, _, mUm, kUm, GUm, bUm⟩ := xUm.ex
  obtain ⟨_, _, cha, chf, chk, GCh, bCh⟩ := xCh.ex
  obtain ⟨_, _, coa, cof, cok, GCo, bCo⟩ := xCo.ex
  obtain ⟨_, _, pqa, pqf, _, GPq, bPq⟩ := xPq.ex
  obtain ⟨_, _, eqa, eqf, _, eqG, eqb⟩ := xEq.ex
  have sc : FnScope NL ["_law_script"] (defScope sLaw) := ⟨rfl, rfl, rfl, by decide +kernel, rfl, by decide +kernel, by decide +kernel⟩
  refine F.okX sc (fun vs H Q E h => ?_) (fun cdv A outer s H vs Q E hr h => ?_)
  · obtain ⟨a, ns, rfl, _⟩ := h
    rfl
  · obtain ⟨a, ns, rfl, hS, fin⟩ := h
    refine ⟨_, pss_cons (ps_set (i := 1) sc.nd rfl (Or.inr rfl) (pe_call GSt (hr.mono (by decide)) (by rfl) mSt kSt bSt .nil passL (pa_cons (pv 0) pa_nil)))
      (pss_cons (ps_set (i := 2) sc.nd rfl (Or.inl rfl) (pe_lst (pa_cons pe_str (pa_cons pe_str (pa_cons pe_str (pa_cons pe_str pa_nil))))))
      (pss_cons (ps_set (i := 3) sc.nd rfl (Or.inr rfl) (pe_lc (own := [("_law_word", 12)]) (g := gName 12) (tt := tYes) rfl sc.nd (pi_list (pv 2)) (blkOk_by (N := NL) (sc := defScope sLaw) (by decide +kernel)) (fun _ _ _ _ _ => pg_name (i := 12) sc.nd rfl (Or.inl rfl)) (fun _ _ _ _ _ => pts_nil) (fun _ _ _ _ _ => (pe_call GPr (hr.mono (by decide)) (by rfl) mPr kPr bPr .nil passL (pa_cons (pv 1) pa_nil)))))
      (pss_cons (ps_set (i := 4) sc.nd rfl (Or.inl rfl) (pe_makeK0 (CX := L2.CX P w) (E := E0) mk GI (hr.mono (by decide)) (by rfl) U.gD kJ passL (pk_cons (pe_ix ix_list (pv 3) pe_int (fun _ _ => rfl)) (pk_cons (pe_ix ix_list (pv 3) pe_int (fun _ _ => rfl)) (pk_cons (pe_ix ix_list (pv 3) pe_int (fun _ _ => rfl)) (pk_cons (pe_ix ix_list (pv 3) pe_int (fun _ _ => rfl)) pk_nil))))))
      (pss_cons (ps_if (PW.pt (pw_or (pt_cmpR (op_neG (n := 2) (fun x y H H' e => mon_DP x y H H' true e) (eqB_DP Z eqa eqf eqG eqb).eqG (hr.mono (by decide))) (pe_call GTo (hr.mono (by decide)) (by rfl) mTo kTo bTo .nil passL (pa_cons (pv 4) pa_nil)) (pv 3) (nomark _)) (pw_or1 (pt_not (pt_val (pe_callB (cr_all rfl) (by rfl) N.all (by decide +kernel) (pa_cons (pe_lc (own := [("_law_price_here", 13)]) (g := gName 13) (tt := tYes) rfl sc.nd (pi_list (pe_call GTo (hr.mono (by decide)) (by rfl) mTo kTo bTo .nil passL (pa_cons (pv 4) pa_nil))) (blkOk_by (N := NL) (sc := defScope sLaw) (by decide +kernel)) (fun _ _ _ _ _ => pg_name (i := 13) sc.nd rfl (Or.inl rfl)) (fun _ _ _ _ _ => pts_nil) (fun _ _ _ _ _ => (pe_callB (id := "isinstance") (show CallR _ (.builtin "isinstance") (rIsi K) from call_isi) (by rfl) T.isi (by decide +kernel) (pa_cons (pv 13) (pa_cons (pe_glob (v := .ref C) (by rfl) T.gC rfl) pa_nil))))) pa_nil))))))) (pss_one (ps_ret pe_bl)) pss_nil)
      (pss_cons (ps_if (PW.pt (pw_or (pt_cmpR (op_neG (n := 2) (fun x y H H' e => mon_DP x y H H' true e) (eqB_DP Z eqa eqf eqG eqb).eqG (hr.mono (by decide))) (pe_call GTo (hr.mono (by decide)) (by rfl) mTo kTo bTo .nil passL (pa_cons (pe_make0 (E := E0) mk GI (hr.mono (by decide)) (by rfl) U.gD bds vds passL) pa_nil)) (pe_lst (pa_cons pe_int (pa_cons pe_int (pa_cons pe_int (pa_cons pe_int pa_nil))))) (nomark _)) (pw_or1 (pt_cmpR (op_neG (n := 2) (fun x y H H' e => mon_DP x y H H' true e) (eqB_DP Z eqa eqf eqG eqb).eqG (hr.mono (by decide))) (pe_call GTo (hr.mono (by decide)) (by rfl) mTo kTo bTo .nil passL (pa_cons (pe_makeK0 (CX := L2.CX P w) (E := E0) mk GI (hr.mono (by decide)) (by rfl) U.gD kW passL (pk_cons (pe_ix ix_list (pv 3) pe_int (fun _ _ => rfl)) pk_nil)) pa_nil)) (pe_lst (pa_cons pe_int (pa_cons pe_int (pa_cons (pe_ix ix_list (pv 3) pe_int (fun _ _ => rfl)) (pa_cons pe_int pa_nil))))) (nomark _))))) (pss_one (ps_ret pe_bl)) pss_nil)
      (pss_cons (ps_set (i := 5) sc.nd rfl (Or.inl rfl) (pe_meth0 (E := E0) (pv 4) U.cl ⟨coa, cof, cok⟩ GCo (hr.mono (by decide)) bCo .nil passL))
      (pss_cons (ps_set (i := 6) sc.nd rfl (Or.inl rfl) (pe_callTy call_list_of (by rfl) N.list (by decide +kernel) (pa_cons (pv 3) pa_nil)))
      (pss_cons (ps_for passOwn rfl (pi_range1 rfl N.range (pa_cons (pe_op op_add pe_int (pe_call GD (hr.mono (by decide)) (by rfl) mD kD bD .nil passL (pa_cons (pv 1) (pa_cons pe_int pa_nil)))) pa_nil)) (pg_name (i := 7) sc.nd rfl (Or.inl rfl))
        (pss_cons (ps_set (i := 8) sc.nd rfl (Or.inl rfl) (pe_call GD (hr.mono (by decide)) (by rfl) mD kD bD .nil passL (pa_cons (pv 1) (pa_cons pe_int pa_nil))))
        (pss_cons (ps_asg (pe_call GPr (hr.mono (by decide)) (by rfl) mPr kPr bPr .nil passL (pa_cons (pv 1) pa_nil)) (pg_sub (pv 3) (pv 8) set_list))
        (pss_cons (ps_expr (pe_meth (E := E0) (pv 4) U.cl ⟨cha, chf, chk⟩ GCh (hr.mono (by decide)) bCh .nil passL (pa_cons (pe_ix ix_list (pv 2) (pv 8) (fun _ _ => rfl)) (pa_cons (pe_ix ix_list (pv 3) (pv 8) (fun _ _ => rfl)) pa_nil))))
        (pss_cons (ps_set (i := 9) sc.nd rfl (Or.inr rfl) (pe_call GOd (hr.mono (by decide)) (by rfl) mOd kOd bOd .nil passL (pa_cons (pv 1) pa_nil)))
        (pss_cons (ps_if (PW.pt (pw_or (pt_not (pt_val (pe_call GUn (hr.mono (by decide)) (by rfl) mUn kUn bUn .nil passL (pa_cons (pv 4) (pa_cons (pe_ix ix_list (pv 2) (pe_call GD (hr.mono (by decide)) (by rfl) mD kD bD .nil passL (pa_cons (pv 1) (pa_cons pe_int pa_nil))) (fun _ _ => rfl)) (pa_cons (pv 9) pa_nil)))))) (pw_or1 (pt_not (pt_val (pe_call GUn (hr.mono (by decide)) (by rfl) mUn kUn bUn .nil passL (pa_cons (pv 4) (pa_cons pe_str (pa_cons (pe_ix ix_list (pv 3) pe_int (fun _ _ => rfl)) pa_nil))))))))) (pss_one (ps_ret pe_bl)) pss_nil)
        (pss_cons (ps_if (PW.pt (pw_or (pt_not (pt_val (pe_call GUn (hr.mono (by decide)) (by rfl) mUn kUn bUn .nil passL (pa_cons (pv 4) (pa_cons pe_non (pa_cons (pe_ix ix_list (pv 3) pe_int (fun _ _ => rfl)) pa_nil)))))) (pw_or1 (pt_cmpR (op_neG (n := 2) (fun x y H H' e => mon_DP x y H H' true e) (eqB_DP Z eqa eqf eqG eqb).eqG (hr.mono (by decide))) (pe_call GTo (hr.mono (by decide)) (by rfl) mTo kTo bTo .nil passL (pa_cons (pv 4) pa_nil)) (pv 3) (nomark _))))) (pss_one (ps_ret pe_bl)) pss_nil)
        (pss_cons (ps_set (i := 10) sc.nd rfl (Or.inr rfl) (pe_call GD (hr.mono (by decide)) (by rfl) mD kD bD .nil passL (pa_cons (pv 1) (pa_cons pe_int pa_nil))))
        (pss_cons (ps_setLc (i := 11) (own := [("_law_k", 7)]) (g := gName 7) (tt := tYes) rfl sc.nd rfl rfl rfl (pi_range1 rfl N.range (pa_cons pe_int pa_nil)) (blkOk_by (N := NL) (sc := defScope sLaw) (by decide +kernel)) (fun _ _ _ _ _ => pg_name (i := 7) sc.nd rfl (Or.inl rfl)) (fun _ _ _ _ _ => pts_nil) (fun _ _ _ _ _ => (pe_ifExp (PW.pt (pw_or (pt_cmpR op_eq (pv 7) (pv 10) (nomark _)) (pw_or1 (PW.pt (pw_and (pt_cmpR op_gt (pv 7) (pv 10) (nomark _)) (pw_and1 (pt_cmpR op_eq (pe_call GD (hr.mono (by decide)) (by rfl) mD kD bD .nil passL (pa_cons (pv 1) (pa_cons pe_int pa_nil))) pe_int (nomark _)))))))) (pv 9) (pe_ix (show IxR _ (rIxL K) from ix_list) (pv 3) (pv 7) (fun _ _ => rfl)))))
        (pss_one (ps_if (pt_cmpR op_ne (pe_call GUm (hr.mono (by decide)) (by rfl) mUm kUm bUm .nil passL (pa_cons (pv 11) pa_nil)) (pe_ix ix_list (pv 2) (pv 10) (fun _ _ => rfl)) (nomark _)) (pss_one (ps_ret pe_bl)) pss_nil)))))))))))
      (pss_cons (ps_if (PW.pt (pw_or (pt_cmpR (op_neG (n := 2) (fun x y H H' e => mon_DP x y H H' true e) (eqB_DP Z eqa eqf eqG eqb).eqG (hr.mono (by decide))) (pe_call GTo (hr.mono (by decide)) (by rfl) mTo kTo bTo .nil passL (pa_cons (pv 5) pa_nil)) (pv 6) (nomark _)) (pw_or (pt_cmpR op_ne (pe_cmpR (op := .Eq) (cmp_own (C := D) (E := E0) (R := RPD D) (fun _ _ => rfl) pqa pqf GPq (hr.mono (by decide)) bPq passL (looksP nDD nDi)) (pv 5) (pv 4) (nomark _)) (pe_cmpR (op := .Eq) (op_eqB (n := 2) mon_DP (eqB_DP Z eqa eqf eqG eqb) (hr.mono (by decide))) (pv 6) (pv 3) (nomark _)) (nomark _)) (pw_or1 (pt_cmpR (op := .NotEq) (op_neOwn (C := D) (E := E0) (R := RPD D) U.hm neD pqa pqf GPq (hr.mono (by decide)) bPq passL (looksP nDD nDi)) (pv 5) (pe_meth0 (E := E0) (pv 5) U.cl ⟨coa, cof, cok⟩ GCo (hr.mono (by decide)) bCo .nil passL) (nomark _)))))) (pss_one (ps_ret pe_bl)) pss_nil)
      (pss_one (ps_ret (pe_and (pe_cmpR (op := .Eq) (cmp_own (C := D) (E := E0) (R := RPD D) (fun _ _ => rfl) pqa pqf GPq (hr.mono (by decide)) bPq passL (looksP nDD nDi)) (pv 4) (pe_makeK0 (CX := L2.CX P w) (E := E0) mk GI (hr.mono (by decide)) (by rfl) U.gD kA passL (pk_cons (pe_ix ix_list (pv 3) pe_int (fun _ _ => rfl)) (pk_cons (pe_ix ix_list (pv 3) pe_int (fun _ _ => rfl)) (pk_cons (pe_ix ix_list (pv 3) pe_int (fun _ _ => rfl)) (pk_cons (pe_ix ix_list (pv 3) pe_int (fun _ _ => rfl)) pk_nil))))) (nomark _)) (pe_one (pe_cmpR (op := .NotEq) (op_neOwn (C := D) (E := E0) (R := RPD D) U.hm neD pqa pqf GPq (hr.mono (by decide)) bPq passL (looksP nDD nDi)) (pv 4) pe_int (nomark _))))))))))))))), ?_⟩
    have four : 4 ≤ sizeLine := by decide
    refine ⟨_, rfl, a, ns, rfl, hS, fun l ls H1 s1 S1 nl nls => ?_⟩
    refine ⟨four, fun wa nwa => ?_⟩
    have s2 : Same H1 _ := same_upd (o := .lst [V.str (wd 0), .str (wd 1), .str (wd 2), .str (wd 3)]) nwa
    have S2 := S1.same s2
    have hw : (upd H1 wa (.lst [V.str (wd 0), .str (wd 1), .str (wd 2), .str (wd 3)])) wa = some (.lst [V.str (wd 0), .str (wd 1), .str (wd 2), .str (wd 3)]) := upd_same
    obtain ⟨_, _, _, _, _, _, f1, f2⟩ := id S1
    have nwl : wa ≠ l := Ne.symm (ne_of_none f2 nwa)
    have s12 := s1.trans s2
    change tSeq _ _ _ _ (upd H1 wa (.lst [V.str (wd 0), .str (wd 1), .str (wd 2), .str (wd 3)]))
    generalize upd H1 wa (.lst [V.str (wd 0), .str (wd 1), .str (wd 2), .str (wd 3)]) = H2 at s2 S2 hw s12 ⊢
    refine ⟨_, rfl, wa, rfl, ⟨_, SqL.of hw⟩, fun sa nsa => ?_⟩
    obtain ⟨_, _, _, _, _, _, f3, f4⟩ := id S2
    have nsl : sa ≠ l := Ne.symm (ne_of_none f4 nsa)
    have nsls : sa ≠ ls := Ne.symm (ne_of_none f3 nsa)
    have nsw : sa ≠ wa := Ne.symm (ne_of_none hw nsa)
    refine lc_list (K := K) (a := wa) (xs := [V.str (wd 0), .str (wd 1), .str (wd 2), .str (wd 3)]) (fun j G => SameX l H2 G ∧ St G l ls ∧ ∃ acc, G sa = some (.lst acc) ∧ acc.length = j ∧ ∀ (i : Nat) x, acc[i]? = some x → ∃ t b, Good C G x t b)
      ⟨SameX.of (same_upd nsa), S2.same (same_upd nsa), [], upd_same, rfl, fun i x hx => by simp at hx⟩ (fun j G _ ⟨sx, _⟩ => SqL.of (sx _ _ nwl hw)) (fun j x G hx ⟨sx, SG, acc, hacc, len, good⟩ => ⟨rfl, yes_go ?_⟩) (fun G ⟨sx, SG, acc, hacc, len, good⟩ => ?_)
    · have hj : j < 4 := (List.getElem?_eq_some_iff.mp hx).1
      refine iteT ⟨_, rfl, l, ls, rfl, SG, fun y t b G' sx' SG' g => ⟨acc, sx' _ _ nsl hacc, (by rw [len]; exact Nat.lt_trans hj (by decide)), fun c u nc e => ?_, SG'.off nsl nsls, acc ++ [y], upd_same, (by rw [List.length_append, len]; rfl), fun i z hz => ?_⟩⟩
      · rw [upd_ne (ne_of_none e nsa)]
        exact sx' _ _ nc (sx _ _ nc e)
      · obtain ⟨xs, el⟩ := SG.lst
        have ea := sx' _ _ nsl hacc
        by_cases hi : i < acc.length
        · rw [List.getElem?_append_left hi] at hz
          obtain ⟨t0, b0, g0⟩ := good i z hz
          exact ⟨t0, b0, (g0.sameL el sx').sameL ea SameX.upd⟩
        · rw [List.getElem?_append_right (by omega)] at hz
          have e0 : i - acc.length = 0 := by
            have := (List.getElem?_eq_some_iff.mp hz).1
            simp at this
            omega
          rw [e0] at hz
          cases (show some y = some z from hz)
          exact ⟨t, b, g.sameL ea SameX.upd⟩
    obtain ⟨v, rfl⟩ := list4 len
    obtain ⟨TT, BB, gs⟩ := goods fun i hi => good i (v i) (get4 hi)
    have hwG := sx _ _ nwl hw
    have sHG : Same H G := Same.thenX s12 sx nl
    have nsaH : H sa = none := s12.free nsa
    clear good len s2 S2 f1 f2 f3 f4
    refine ⟨_, rfl, sa, _, _, _, rfl, rfl, SqL.of hacc, at_of (j := 3) rfl rfl, _, rfl, sa, _, _, _, rfl, rfl, SqL.of hacc, at_of (j := 2) rfl rfl, _, rfl, sa, _, _, _, rfl, rfl, SqL.of hacc, at_of (j := 0) rfl rfl, _, rfl, sa, _, _, _, rfl, rfl, SqL.of hacc, at_of (j := 1) rfl rfl, rfl, rfl, fun p dp np ndp nep => ?_⟩
    refine goodP_at (v := v) np ndp gs fun H3 s3 hp => ⟨rfl, ?_⟩
    have npH : H p = none := sHG.free np
    have sH3 := sHG.trans s3
    have S3 := SG.same s3
    have hw3 := s3 _ _ hwG
    have hs3 := s3 _ _ hacc
    have gs3 := fun i hi => (gs i hi).same s3
    -- told(prices) != some
    refine ⟨_, rfl, p, TT, BB, rfl, hp, fun q4 H4 r4 s4 nq4 hq4 rr4 => ?_⟩
    have nums : ∀ {G' : Hp}, Same H3 G' → ∀ i, i < 4 → Num C G' (v i) (TT i) (BB i) := fun sm i hi => ((gs3 i hi).same sm).1.num
    refine ⟨_, rfl, ⟨q4, sa, _, _, rfl, rfl, hq4, s4 _ _ hs3, prs4 rr4 (nums s4)⟩, fun H5 s5 => ⟨_, rfl, if_neg' rfl ?_⟩⟩
    have s45 : Same H3 H5 := s4.trans s5
    refine ⟨_, rfl, p, TT, BB, rfl, hp.same s45, fun q6 H6 r6 s6 nq6 hq6 rr6 => ⟨q6, rfl, ⟨_, SqL.of hq6⟩, fun D6 nD6 => ?_⟩⟩
    refine lc_list (K := K) (a := q6) (xs := [.ref (r6 0), .ref (r6 1), .ref (r6 2), .ref (r6 3)]) (fun j G' => Same H6 G' ∧ G' D6 = some (.lst ((List.replicate j true).map V.bl)) ∧ j ≤ 4)
      ⟨same_upd nD6, upd_same, by decide⟩ (fun j G' _ ⟨sm, _⟩ => SqL.of (sm _ _ hq6)) (fun j x G' hx ⟨sm, hD, j4⟩ => ⟨rfl, yes_go ?_⟩) (fun G' ⟨sm, hD, _⟩ => ?_)
    · have hj : j < 4 := (List.getElem?_eq_some_iff.mp hx).1
      rw [get4 (v := fun i => V.ref (r6 i)) hj] at hx
      cases hx
      obtain ⟨dr, hr6⟩ := (rr6 j hj).same sm
      refine iteT ⟨_, rfl, _, _, _, _, _, rfl, .own C, .base (.ins hr6 T.cl T.ha T.hn T.htk T.hm), T.kCC, _, hD, ?_, fun c u e => ?_, ?_, by omega⟩
      · rw [List.length_map, List.length_replicate]
        exact Nat.lt_trans hj (by decide)
      · rw [upd_ne (ne_of_none e nD6)]
        exact sm _ _ e
      · rw [upd_same, List.replicate_succ', List.map_append]
        rfl
    refine ⟨D6, List.replicate 4 true, rfl, SqL.of hD, _, rfl, if_neg' rfl ?_⟩
    have s6' : Same H3 G' := (s45.trans s6).trans sm
    clear hD
    -- told(Prices())
    intro x7 dx7 nx7 nd7 ne7
    have s70 : Sm 200 1 := Nat.one_lt_two_pow (by decide)
    have g1 : ∀ {G0 : Hp}, ∀ i, i < 4 → Good C G0 ((fun _ => V.int 1) i) ((fun _ => 1) i) ((fun _ => 1) i) := fun i _ => ⟨pc_int s70, Int.le_refl 1⟩
    refine goodP_at (v := fun _ => .int 1) (T := fun _ => 1) (B := fun _ => 1) nx7 nd7 g1 fun H7 s7 hp7 => ⟨rfl, ?_⟩
    refine ⟨x7, _, _, rfl, hp7, fun q8 H8 r8 s8 nq8 hq8 rr8 => ⟨four, fun L8 nL8 => ?_⟩⟩
    have s8' := same_upd (o := .lst [V.int 1, .int 1, .int 1, .int 1]) nL8
    refine ⟨⟨q8, L8, _, _, rfl, rfl, s8' _ _ hq8, upd_same, prs4 (w := fun _ => V.int 1) (fun i hi => (rr8 i hi).same s8') (fun i hi => (g1 i hi).1.num)⟩, fun H9 s9 => ⟨_, rfl, if_neg' rfl ?_⟩⟩
    have sm9 : Same H3 H9 := ((s6'.trans s7).trans s8).trans (s8'.trans s9)
    -- told(Prices(value=some[2]))
    refine ⟨_, rfl, sa, _, _, _, rfl, rfl, SqL.of (sm9 _ _ hs3), at_of (j := 2) rfl rfl, rfl, rfl, fun x10 dx10 nx10 nd10 ne10 => ?_⟩
    have g2 : ∀ {G0 : Hp}, Good C G0 (v 2) (TT 2) (BB 2) → ∀ i, i < 4 → Good C G0 ((fun i => if i = 2 then v 2 else V.int 1) i) ((fun i => if i = 2 then TT 2 else 1) i) ((fun i => if i = 2 then BB 2 else 1) i) := fun g i _ => by
      by_cases e : i = 2
      · simp only [e, if_true]
        exact g
      · simp only [if_neg e]
        exact ⟨pc_int s70, Int.le_refl 1⟩
    have gv : ∀ {G0 : Hp}, Same H3 G0 → Good C G0 (v 2) (TT 2) (BB 2) := fun sm => (gs3 2 (by decide)).same sm
    refine goodP_at (v := fun i => if i = 2 then v 2 else .int 1) (T := fun i => if i = 2 then TT 2 else 1) (B := fun i => if i = 2 then BB 2 else 1) nx10 nd10 (g2 (gv sm9)) fun H10 s10 hp10 => ⟨rfl, ?_⟩
    refine ⟨x10, _, _, rfl, hp10, fun q11 H11 r11 s11 nq11 hq11 rr11 => ?_⟩
    have sm11 := (sm9.trans s10).trans s11
    refine ⟨_, rfl, sa, _, _, _, rfl, rfl, SqL.of (sm11 _ _ hs3), at_of (j := 2) rfl rfl, four, fun L11 nL11 => ?_⟩
    have s11' := same_upd (o := .lst [V.int 1, .int 1, v 2, .int 1]) nL11
    refine ⟨⟨q11, L11, _, _, rfl, rfl, s11' _ _ hq11, upd_same, prs4 (w := fun i => if i = 2 then v 2 else .int 1) (fun i hi => (rr11 i hi).same s11') (fun i hi => (g2 (gv (sm11.trans s11')) i hi).1.num)⟩, fun H12 s12' => ⟨_, rfl, if_neg' rfl ?_⟩⟩
    have sm12 : Same H3 H12 := sm11.trans (s11'.trans s12')
    -- copied, list
    obtain ⟨dp2, rp, ep, erp⟩ := hp.same sm12
    refine ⟨_, rfl, p, dp2, _, rfl, ep, (by rfl), p, TT, BB, rfl, ⟨dp2, rp, ep, erp⟩, fun i hi => (gs i hi).nm, fun lk H13 nlk s13 hl => ?_⟩
    have nlkp : p ≠ lk := ne_of_none ep nlk
    have sm13 := sm12.trans s13
    refine ⟨_, rfl, sa, _, rfl, .inl (SqL.of (sm13 _ _ hs3)), fun fa nfa => ?_⟩
    have s14 := same_upd (o := .lst [v 0, v 1, v 2, v 3]) nfa
    have sm14 := sm13.trans s14
    obtain ⟨_, _, _, _, _, _, f5, f6⟩ := S3.same sm13
    have inv : LI C D (upd H13 fa (.lst [v 0, v 1, v 2, v 3])) l ls wa sa p lk fa v v TT BB TT BB TT BB :=
      { st := S3.same sm14, hw := sm14 _ _ hw3, hs := sm14 _ _ hs3, gs := fun i hi => (gs3 i hi).same sm14, hp := hp.same sm14, hl := hl.same s14, hf := upd_same, gf := fun i hi => (gs3 i hi).same sm14,
        n1 := nwl, n2 := nsl, n3 := Ne.symm (ne_of_none f6 nfa), n4 := nsls, n5 := nsw, n6 := ne_of_none (sm13 _ _ hs3) nfa, n7 := nlkp }
    have sH14 : Same H (upd H13 fa (.lst [v 0, v 1, v 2, v 3])) := sH3.trans sm14
    dsimp only [gName]
    generalize upd H13 fa (.lst [v 0, v 1, v 2, v 3]) = H14 at inv sH14 ⊢
    have nm : ∀ i, i < 4 → Nm (TT i) (BB i) := fun i hi => (gs i hi).nm
    clear s14 sm14 f5 f6 sm13 s13 sm12 s12' s11' sm11 s11 s10 sm9 s9 s8' s8 s7 s6' sm s6 s45 s5 s4 s3 hw3 hs3 gs3 nums
    refine ⟨_, rfl, l, ls, 6, rfl, by decide, sm9 (by decide), inv.st, fun d H15 d0 d6 sx15 S15 => ⟨_, _, rfl, rfl, 1 + d, rfl, ?_, ?_, for_range (fun i σ G => ∃ x7 x8 x9 x10 x11 v' T' B', σ = [some (.ref a), some (.ref l), some (.ref wa), some (.ref sa), some (.ref p), some (.ref lk), some (.ref fa), x7, x8, x9, x10, x11, none, none] ∧
      LI C D G l ls wa sa p lk fa v' v T' B' T' B' TT BB ∧ Same H G) ⟨_, _, _, _, _, v, TT, BB, rfl, inv.draw sx15 S15, Same.thenX sH14 sx15 nl⟩ ?_ ?_⟩⟩
    · omega
    · omega
    · rintro i σ G hi ⟨x7, x8, x9, x10, x11, v', T', B', rfl, I, sH⟩
      refine ⟨_, rfl, l, ls, 4, rfl, by decide, sm9 (by decide), I.st, fun d1 G1 d10 d14 sx1 S1' => ?_⟩
      obtain ⟨k, rfl⟩ : ∃ k : Nat, d1 = k := ⟨d1.toNat, by omega⟩
      have hk : k < 4 := by omega
      have I1 := I.draw sx1 S1'
      have sH1 := Same.thenX sH sx1 nl
      refine ⟨_, rfl, l, ls, rfl, I1.st, fun y t b G2 sx2 S2' gy => ?_⟩
      have I2 := I1.draw sx2 S2'
      have sH2 := Same.thenX sH1 sx2 nl
      refine ⟨_, rfl, _, rfl, sa, _, k, k, rfl, rfl, I2.hs, ix4 hk, ?_⟩
      rw [set4 hk]
      have I3 := I2.sput hk gy
      have sH3' : Same H (upd G2 sa (.lst [setV k y v' 0, setV k y v' 1, setV k y v' 2, setV k y v' 3])) := Same.thenX sH2 SameX.upd nsaH
      generalize upd G2 sa (.lst [setV k y v' 0, setV k y v' 1, setV k y v' 2, setV k y v' 3]) = G3 at I3 sH3' ⊢
      have gk : Good C G3 (setV k y v' k) t b := by
        have h := I3.gs k hk
        rw [set_k, set_k] at h
        exact h
      obtain ⟨dx3, r3, e3, _⟩ := I3.hp
      refine ⟨_, rfl, p, dx3, _, rfl, e3, (by rfl), _, rfl, _, rfl, wa, _, _, _, rfl, rfl, SqL.of I3.hw, at4 (f := fun i => V.str (wd i)) hk, _, rfl, _, rfl, sa, _, _, _, rfl, rfl, SqL.of I3.hs, at4 hk, p, .str (wd k), _, T', B', rfl, I3.hp, .inl ⟨k, hk, rfl, .inl ⟨t, b, gk, fun G4 sx4 pr4 => ?_⟩⟩⟩
      have I4 := I3.pchg sx4 pr4
      have sH4 := Same.thenX sH3' sx4 npH
      clear I I1 I2 I3 gk gy e3
      generalize setV k y v' = v2 at I4 ⊢
      generalize R1.set k t T' = T2 at I4 pr4 ⊢
      generalize R1.set k b B' = B2 at I4 pr4 ⊢
      refine ⟨_, rfl, l, ls, rfl, I4.st, fun o G5 sx5 S5' off5 => ?_⟩
      have I5 := I4.draw sx5 S5'
      have sH5 := Same.thenX sH4 sx5 nl
      refine ⟨_, rfl, _, rfl, _, rfl, l, ls, 4, rfl, by decide, sm9 (by decide), I5.st, fun d6 G6 d60 d64 sx6 S6' => ?_⟩
      obtain ⟨k6, rfl⟩ : ∃ k : Nat, d6 = k := ⟨d6.toNat, by omega⟩
      have hk6 : k6 < 4 := by omega
      have I6 := I5.draw sx6 S6'
      have sH6 := Same.thenX sH5 sx6 nl
      have off6 := off5.draw I5.st S6' sx6
      refine ⟨wa, _, _, _, rfl, rfl, SqL.of I6.hw, at4 (f := fun i => V.str (wd i)) hk6, _, rfl, p, .str (wd k6), o, T2, B2, rfl, I6.hp, .inl ⟨k6, hk6, rfl, off6⟩, fun G7 s7 => ⟨_, rfl, if_neg' rfl ?_⟩⟩
      have I7 := I6.same s7
      refine ⟨_, rfl, _, rfl, sa, _, _, _, rfl, rfl, SqL.of I7.hs, at_of (j := 0) rfl rfl, p, .str "price", v2 0, T2, B2, rfl, I7.hp, .inr (.inr ⟨"price", rfl, price_ne⟩), fun G8 s8 => ⟨_, rfl, if_neg' rfl ?_⟩⟩
      have I8 := I7.same s8
      refine ⟨_, rfl, _, rfl, sa, _, _, _, rfl, rfl, SqL.of I8.hs, at_of (j := 0) rfl rfl, p, .non, v2 0, T2, B2, rfl, I8.hp, .inr (.inl rfl), fun G9 s9 => ⟨_, rfl, if_neg' rfl ?_⟩⟩
      have I9 := I8.same s9
      refine ⟨_, rfl, p, T2, B2, rfl, I9.hp, fun q10 G10 r10 s10 nq10 hq10 rr10 => ?_⟩
      have I10 := I9.same s10
      refine ⟨_, rfl, ⟨q10, sa, _, _, rfl, rfl, hq10, I10.hs, prs4 rr10 fun i hi => (I10.gs i hi).1.num⟩, fun G11 s11 => ⟨_, rfl, if_neg' rfl ?_⟩⟩
      have I11 := I10.same s11
      have sH11 := (((sH6.trans s7).trans s8).trans s9).trans (s10.trans s11)
      have off11 := ((((off6.same s7).same s8).same s9).same s10).same s11
      refine ⟨_, rfl, l, ls, 4, rfl, by decide, sm9 (by decide), I11.st, fun d12 G12 d120 d124 sx12 S12' => ?_⟩
      obtain ⟨m, rfl⟩ : ∃ k : Nat, d12 = k := ⟨d12.toNat, by omega⟩
      have hm : m < 4 := by omega
      have I12 := I11.draw sx12 S12'
      have sH12 := Same.thenX sH11 sx12 nl
      have off12 := off11.draw I11.st S12' sx12
      clear I4 I5 I6 I7 I8 I9 I10 I11 off5 off6 off11 rr10 hq10
      -- the list with a value that is no price
      refine ⟨4, rfl, by decide, by decide, fun Db nDb => ?_⟩
      have nDl : Db ≠ l := fun z => by
        obtain ⟨xs, e⟩ := I12.st.lst
        rw [z, e] at nDb
        cases nDb
      have nDls : Db ≠ ls := fun z => by
        obtain ⟨_, _, _, _, _, _, e, _⟩ := I12.st
        rw [z, e] at nDb
        cases nDb
      refine lc_range (lo := 0) (n := 4) (fun j G => SameX l G12 G ∧ St G l ls ∧ ∃ acc, G Db = some (.lst acc) ∧ acc.length = j ∧ (∀ i, i < j → i < m → acc[i]? = some (v2 i)) ∧ (m < j → acc[m]? = some o))
        ⟨SameX.of (same_upd nDb), I12.st.same (same_upd nDb), [], upd_same, rfl, fun i h => absurd h (by omega), fun h => absurd h (by omega)⟩ (fun j G hj ⟨sx, SG, acc, hacc, len, lo, at_m⟩ => ⟨rfl, yes_go ?_⟩) (fun G ⟨sx, SG, acc, hacc, len, lo, at_m⟩ => ?_)
      · refine iteT ?_
        have fin_step : ∀ (y : V) (G' : Hp), SameX l G G' → St G' l ls → (j < m → y = v2 j) → (j = m → y = o) → ∃ acc', G' Db = some (.lst acc') ∧ acc'.length < sizeLine ∧ (SameX l G12 (upd G' Db (.lst (acc' ++ [y]))) ∧ St (upd G' Db (.lst (acc' ++ [y]))) l ls ∧
            ∃ acc2, (upd G' Db (.lst (acc' ++ [y]))) Db = some (.lst acc2) ∧ acc2.length = j + 1 ∧ (∀ i, i < j + 1 → i < m → acc2[i]? = some (v2 i)) ∧ (m < j + 1 → acc2[m]? = some o)) := fun y G' sx' SG' c1 c2 => by
          refine ⟨acc, sx' _ _ nDl hacc, (by rw [len]; exact Nat.lt_trans hj (by decide)), fun c u nc e => ?_, SG'.off nDl nDls, acc ++ [y], upd_same, (by rw [List.length_append, len]; rfl), fun i hi him => ?_, fun hm1 => ?_⟩
          · rw [upd_ne (ne_of_none e nDb)]
            exact sx' _ _ nc (sx _ _ nc e)
          · by_cases h : i < j
            · rw [List.getElem?_append_left (by omega)]
              exact lo i h him
            · have e : i = j := by omega
              subst e
              rw [List.getElem?_append_right (by omega), len, Nat.sub_self, c1 him]
              rfl
          · by_cases h : m < j
            · rw [List.getElem?_append_left (by omega)]
              exact at_m h
            · have e : j = m := by omega
              rw [List.getElem?_append_right (by omega), len, e, Nat.sub_self, c2 e]
              rfl
        have hsG := sx _ _ nsl I12.hs
        refine ⟨_, rfl, _, rfl, rfl, _, rfl, ?_⟩
        rw [dI]
        by_cases e1 : j = m
        · refine if_pos' (decide_eq_true (by omega)) ?_
          exact ⟨_, rfl, fin_step o G (SameX.refl l G) SG (fun h => absurd h (by omega)) fun _ => rfl⟩
        · refine if_neg' (decide_eq_false (by omega)) ?_
          refine ⟨_, rfl, _, rfl, _, _, rfl, rfl, _, rfl, ?_⟩
          by_cases e2 : j < m
          · refine if_neg' (decide_eq_false (by omega)) ?_
            exact ⟨_, rfl, _, rfl, sa, _, _, _, rfl, rfl, SqL.of hsG, (by rw [Int.zero_add]; exact at4 hj), fin_step _ G (SameX.refl l G) SG (fun _ => rfl) fun h => absurd h e1⟩
          · refine if_pos' (decide_eq_true (by omega)) ?_
            refine ⟨_, rfl, l, ls, 2, rfl, by decide, sm9 (by decide), SG, fun e G' e0 e2' sx' SG' => ⟨rfl, _, rfl, ?_⟩⟩
            refine ite2 (fun _ => ?_) (fun _ => ?_)
            · exact ⟨_, rfl, fin_step o G' sx' SG' (fun h => absurd h e2) fun h => absurd h e1⟩
            · exact ⟨_, rfl, _, rfl, sa, _, _, _, rfl, rfl, SqL.of (sx' _ _ nsl hsG), (by rw [Int.zero_add]; exact at4 hj), fin_step _ G' sx' SG' (fun h => absurd h e2) fun h => absurd h e1⟩
      · obtain ⟨wv, rfl⟩ := list4 len
        have I13 := I12.draw sx SG
        have sH13 := Same.thenX sH12 sx nl
        have wm : wv m = o := by
          have h := at_m hm
          rw [get4 hm] at h
          exact Option.some.inj h
        have off13 : Off C G (wv m) := by
          rw [wm]
          exact off12.draw I12.st SG sx
        refine ⟨_, rfl, Db, wv, m, rfl, hacc, hm, fun i hi => ?_, off13, fun G14 s14 => ?_⟩
        · have h := lo i (by show i < 4; omega) hi
          rw [get4 (by omega)] at h
          rw [Option.some.inj h]
          exact ⟨_, _, I13.gs i (by omega)⟩
        have I14 := I13.same s14
        refine ⟨_, rfl, _, rfl, wa, _, _, _, rfl, rfl, SqL.of I14.hw, at4 (f := fun i => V.str (wd i)) hm, rfl, _, rfl, if_neg' (by simp) ?_⟩
        exact ⟨_, _, _, _, _, v2, T2, B2, rfl, I14, sH13.trans s14⟩
    · rintro σ G ⟨x7, x8, x9, x10, x11, v', T', B', rfl, I, sH⟩
      refine ⟨_, rfl, lk, TT, BB, rfl, I.hl, fun q1 G1 r1 s1 nq1 hq1 rr1 => ?_⟩
      have I1 := I.same s1
      refine ⟨_, rfl, ⟨q1, fa, _, _, rfl, rfl, hq1, I1.hf, prs4 rr1 fun i hi => (I1.gf i hi).1.num⟩, fun G2 s2 => ⟨_, rfl, if_neg' rfl ?_⟩⟩
      have I2 := I1.same s2
      have sH2 := (sH.trans s1).trans s2
      obtain ⟨dl, rl, el, hrl⟩ := id I2.hl
      obtain ⟨dq, rq, eq', hrq⟩ := id I2.hp
      refine ⟨_, rfl, _, rfl, lk, dl, _, rfl, el, .inl ⟨p, dq, _, rfl, eq'⟩, lk, .ref p, TT, BB, rfl, I2.hl, .inl ⟨p, T', B', rfl, I2.hp, ?_⟩⟩
      refine ⟨_, rfl, _, rfl, fa, sa, _, _, rfl, rfl, I2.hf, I2.hs, rfl, fun i => decide (TT i = T' i) && decide (BB i = B' i), fun i x y hx hy => ?_, fun G3 c s3 hc => ?_⟩
      · have hi : i < 4 := (List.getElem?_eq_some_iff.mp hx).1
        rw [get4 hi] at hx hy
        cases hx
        cases hy
        exact ⟨_, _, _, _, (I2.gf i hi).1.num, (I2.gs i hi).1.num, rfl⟩
      have ec : c = same4 TT BB T' B' := by
        have h : c = true ↔ same4 TT BB T' B' = true := hc.trans same4_iff.symm
        cases c <;> cases hs : same4 TT BB T' B' <;> simp_all
      subst ec
      refine ⟨rfl, _, rfl, if_neg' (by simp) ?_⟩
      have I3 := I2.same s3
      obtain ⟨dl3, rl3, el3, hrl3⟩ := id I3.hl
      refine ⟨_, rfl, _, rfl, lk, dl3, _, rfl, el3, (by rfl), lk, TT, BB, rfl, I3.hl, nm, fun q4 G4 nq4 s4 hq4 => ?_⟩
      have I4 := I3.same s4
      obtain ⟨dl4, rl4, el4, hrl4⟩ := id I4.hl
      obtain ⟨d4, r4, e4, hr4⟩ := id hq4
      refine ⟨lk, dl4, _, rfl, el4, .inl ⟨q4, d4, _, rfl, e4⟩, lk, .ref q4, TT, BB, rfl, I4.hl, .inl ⟨q4, TT, BB, rfl, hq4, ⟨_, rfl, ⟨_, rfl, if_neg' (by rw [same4_self]; rfl) ?_⟩⟩⟩⟩
      -- the end
      refine ⟨_, rfl, _, rfl, sa, _, _, _, rfl, rfl, SqL.of I4.hs, at_of (j := 0) rfl rfl, _, rfl, sa, _, _, _, rfl, rfl, SqL.of I4.hs, at_of (j := 1) rfl rfl, _, rfl, sa, _, _, _, rfl, rfl, SqL.of I4.hs, at_of (j := 2) rfl rfl, _, rfl, sa, _, _, _, rfl, rfl, SqL.of I4.hs, at_of (j := 3) rfl rfl, rfl, rfl, fun x5 dx5 nx5 nd5 ne5 => ?_⟩
      refine goodP_at (v := v') nx5 nd5 I4.gs fun G5 s5 hp5 => ⟨rfl, ?_⟩
      have I5 := I4.same s5
      obtain ⟨d5, r5, e5, hr5⟩ := id hp5
      obtain ⟨dp5, rp5, ep5, hrp5⟩ := id I5.hp
      refine ⟨p, dp5, _, rfl, ep5, .inl ⟨x5, d5, _, rfl, e5⟩, p, .ref x5, T', B', rfl, I5.hp, .inl ⟨x5, T', B', rfl, hp5, _, rfl, if_pos' same4_self ?_⟩⟩
      exact ⟨_, rfl, p, dp5, _, rfl, ep5, .inr ⟨1, rfl⟩, p, .int 1, T', B', rfl, I5.hp, .inr ⟨1, rfl, false, rfl, fin G5 (((sH2.trans s3).trans s4).trans s5)⟩⟩
end
end R1
end

-- P3x0
section
set_option Elab.async false
set_option linter.all false
set_option maxRecDepth 100000
set_option exponentiation.threshold 10000
namespace R1
open PySem L2 OwnOps RatM OwnNe
theorem rel_gJ {vs mz zs : List V} {us mv ws : List Value} (a : Vals vs us) (_ : Vals mz mv) (c : Vals zs ws) : Vals (gJ vs mz zs) (gJ us mv ws) := by
  cases c with
  | nil => exact a
  | cons r1 c => cases c with
    | nil => exact a
    | cons r2 c => cases c with
      | nil => exact a
      | cons r3 c => cases c with
        | nil => exact a
        | cons r4 c => cases c with
          | nil => exact a.append (.cons r3 (.cons r4 (.cons r2 (.cons r1 .nil))))
          | cons r5 c => exact a
theorem rel_gW {vs mz zs : List V} {us mv ws : List Value} (a : Vals vs us) (b : Vals mz mv) (c : Vals zs ws) : Vals (gW vs mz zs) (gW us mv ws) := by
  cases b with
  | nil => exact a
  | cons q1 b => cases b with
    | nil => exact a
    | cons q2 b => cases b with
      | nil => exact a
      | cons q3 b => cases b with
        | cons q4 b => exact a
        | nil => cases c with
          | nil => exact a
          | cons r1 c => cases c with
            | nil => exact a.append (.cons q1 (.cons q2 (.cons r1 (.cons q3 .nil))))
            | cons r2 c => exact a
section
variable {K : PySem.W.Frag} {f : Addr} {fd : FuncData}
theorem bd0 (F : InitP K f fd) : ∃ ds, Vals [.int 1, .int 1, .int 1, .int 1] ds ∧ L2.Binds K fd psI ds :=
  F.binds0 (ps := psI) 1 (by simp) rfl fun D doc pm an cdv ct us ks hu hk => match us, ks, hu, hk with
    | [a], [k1, k2, k3, k4], _, _ => ⟨_, _, _, _, _, _, rfl, rfl, _, _, _, _, _, _, rfl, rfl, _, _, _, _, _, _, rfl, rfl, _, _, _, _, _, _, rfl, rfl, rfl⟩
theorem bdA (F : InitP K f fd) : ∃ mv : List Value, KBn K fd psI 1 ["lost", "surplus", "value", "junction"] (fun us ws => gA us mv ws) (fun vs zs => gA vs [] zs) :=
  F.kbinds0 (ps := psI) 1 ["lost", "surplus", "value", "junction"] [] gA (by simp) (fun q h => by cases h) (fun a _ c => a.append c) fun D doc pm an cdv ct us mv ws hu hm hw => match us, mv, ws, hu, hm, hw with
    | [a], [], [k1, k2, k3, k4], _, _, _ => rfl
theorem bdJ (F : InitP K f fd) : ∃ mv : List Value, KBn K fd psI 1 ["junction", "value", "lost", "surplus"] (fun us ws => gJ us mv ws) (fun vs zs => gJ vs [] zs) :=
  F.kbinds0 (ps := psI) 1 ["junction", "value", "lost", "surplus"] [] gJ (by simp) (fun q h => by cases h) rel_gJ fun D doc pm an cdv ct us mv ws hu hm hw => match us, mv, ws, hu, hm, hw with
    | [a], [], [k1, k2, k3, k4], _, _, _ => rfl
theorem bdW (F : InitP K f fd) : ∃ mv : List Value, KBn K fd psI 1 ["value"] (fun us ws => gW us mv ws) (fun vs zs => gW vs [.int 1, .int 1, .int 1] zs) :=
  F.kbinds0 (ps := psI) 1 ["value"] [("lost", .int 1), ("surplus", .int 1), ("junction", .int 1)] gW (by simp) (fun q h => by
      rcases List.mem_cons.mp h with rfl | h
      · simp
      · rcases List.mem_cons.mp h with rfl | h
        · simp
        · rcases List.mem_cons.mp h with rfl | h
          · simp
          · cases h) rel_gW fun D doc pm an cdv ct us mv ws hu hm hw => match us, mv, ws, hu, hm, hw with
    | [a], [m1, m2, m3], [k1], _, _, _ => ⟨_, _, _, _, _, _, rfl, rfl, _, _, _, _, _, _, rfl, rfl, _, _, _, _, _, _, rfl, rfl, rfl⟩
end
end R1
end

-- P3x
section
set_option Elab.async false
set_option linter.all false
set_option maxRecDepth 100000
set_option exponentiation.threshold 10000
namespace R1
open PySem L2 OwnOps RatM OwnNe
/-- a def of the top -/
structure DefG (K : PySem.W.Frag) (x : Str) (st : Stmt) (f : Addr) : Prop where
  here : PySem.W.nsIn K mainGlobals x = some (some (.ref f))
  fn : ∃ fd, Fun K x x st f fd
theorem defG_mk {K : PySem.W.Frag} {x : Str} {st : Stmt} {f : Addr} {oc kV doc pm cdv ct : Value} {od an : Option Addr} {osl : Array (Option Value)} (a : PySem.W.nsIn K mainGlobals x = some (some (.ref f)))
    (l : K.lookup f = some ⟨oc, od, .func (PySem.W.fnOf x x (defArgs st) (defBody st) (defScope st) .none kV doc pm an cdv ct), osl⟩) (c : PySem.W.codeIn K cdv x = true) (k : PySem.W.keepIn K (.ref f) = true) : DefG K x st f := ⟨a, _, fun_mk l c k⟩
/-- a def of the class -/
structure DefM (K : PySem.W.Frag) (C : Addr) (x qual : Str) (st : Stmt) (f : Addr) : Prop where
  here : PySem.W.findIn K (.ref C) x = some (some (.ref f))
  is : PySem.W.isFn K (.ref f) = true
  kp : PySem.W.keepIn K (.ref f) = true
  fn : ∃ fd, Fun K x qual st f fd
theorem defM_mk {K : PySem.W.Frag} {C : Addr} {x qual : Str} {st : Stmt} {f : Addr} {oc kV doc pm cdv ct : Value} {od an : Option Addr} {osl : Array (Option Value)} (a : PySem.W.findIn K (.ref C) x = some (some (.ref f))) (i : PySem.W.isFn K (.ref f) = true)
    (l : K.lookup f = some ⟨oc, od, .func (PySem.W.fnOf x qual (defArgs st) (defBody st) (defScope st) .none kV doc pm an cdv ct), osl⟩) (c : PySem.W.codeIn K cdv qual = true) (k : PySem.W.keepIn K (.ref f) = true) : DefM K C x qual st f := ⟨a, i, k, _, fun_mk l c k⟩
/-- the class's __init__, with its default -/
structure DefI (K : PySem.W.Frag) (C : Addr) (f : Addr) : Prop where
  here : PySem.W.findIn K (.ref C) "__init__" = some (some (.ref f))
  is : PySem.W.isFn K (.ref f) = true
  fn : ∃ fd, InitD K f fd
theorem defI_mk {K : PySem.W.Frag} {C f Td : Addr} {oc kV doc pm cdv ct tc : Value} {od an td : Option Addr} {osl tsl : Array (Option Value)} {tk : Tok} {n : Nat} (a : PySem.W.findIn K (.ref C) "__init__" = some (some (.ref f))) (i : PySem.W.isFn K (.ref f) = true)
    (l : K.lookup f = some ⟨oc, od, .func (PySem.W.fnOf "__init__" "Ratio.__init__" (defArgs (sRat 0)) (defBody (sRat 0)) (defScope (sRat 0)) (.ref Td) kV doc pm an cdv ct), osl⟩) (t : K.lookup Td = some ⟨tc, td, .seq #[.int 1 tk] n, tsl⟩)
    (c : PySem.W.codeIn K cdv "Ratio.__init__" = true) (k : PySem.W.keepIn K (.ref f) = true) : DefI K C f :=
  ⟨a, i, _, ⟨oc, od, .ref Td, kV, doc, pm, an, cdv, ct, osl, rfl, l, c, .inr ⟨by simp, Td, _, [.int 1 tk], n, rfl, t, rfl, .cons ⟨tk, rfl⟩ .nil⟩, .inl rfl⟩, k⟩
section
variable {P : Program} {w : World} {K : PySem.W.Frag} {h base : Heap} {mg : Str → Option Value} {C : Addr}
theorem glb {x : Str} {st : Stmt} {f : Addr} {k : Nat} {ps : List Str} {sp : Sp} (X : K.In h) (G : h.Ns mainGlobals mg) (d : DefG K x st f) (ok : ∀ fd, Fun K x x st f fd → FnOk P w K mg base (L2.CX P w) k f fd ps sp)
    (b : ∀ fd, Fun K x x st f fd → L2.Binds K fd ps []) : Glb P w K mg base x k ps sp :=
  let ⟨fd, F⟩ := d.fn
  ⟨f, fd, PySem.W.mg_of X G d.here, F.kp, ok fd F, b fd F⟩
theorem dun {nm x qual : Str} {st : Stmt} {f : Addr} {k : Nat} {ps : List Str} {sp : Sp} (hn : nm = x) (d : DefM K C x qual st f) (ok : ∀ fd, Fun K x qual st f fd → FnOk P w K mg base (L2.CX P w) k f fd ps sp)
    (b : ∀ fd, Fun K x qual st f fd → L2.Binds K fd ps []) : Dun P w K mg base C nm k ps sp := by
  subst hn
  obtain ⟨fd, F⟩ := d.fn
  exact ⟨f, fd, d.here, d.is, d.kp, ok fd F, b fd F⟩
theorem kit_rt {T : String} {b : Bool} (m : PySem.W.kitMeta T = true) (e : PySem.W.subIn K (.ref C) (.type T) = some b) : PySem.W.kitOne K (.ref C) (.type T) = some b := by
  show (if (Value.ref C == Value.type T) = true then some true else if PySem.W.kitMeta T = true then PySem.W.subIn K (.ref C) (.type T) else none) = some b
  rw [if_neg (fun q => by cases beq_iff_eq.mp q), if_pos m, e]
theorem kit_tr {T : String} {b : Bool} (i : PySem.W.isClsIn K C = true) (t : PySem.W.typeIn K (.ref C) = some (.type "type")) (e : PySem.W.subIn K (.type T) (.ref C) = some b) : PySem.W.kitOne K (.type T) (.ref C) = some b := by
  have q : ((PySem.W.clsIn K C).isSome && PySem.W.typeIn K (.ref C) == some (.type "type")) = true := by
    rw [show (PySem.W.clsIn K C).isSome = true from i, t]
    rfl
  show (if (Value.type T == Value.ref C) = true then some true else if ((PySem.W.clsIn K C).isSome && PySem.W.typeIn K (.ref C) == some (.type "type")) = true then PySem.W.subIn K (.type T) (.ref C) else none) = some b
  rw [if_neg (fun q => by cases beq_iff_eq.mp q), if_pos q, e]
theorem kit_rr : PySem.W.kitOne K (.ref C) (.ref C) = some true := by
  show (if (Value.ref C == Value.ref C) = true then some true else _) = some true
  rw [if_pos (beq_self_eq_true _)]
/-- the error classes, as the top has made them -/
structure DefE (K : PySem.W.Frag) (cn qn : Str) (newId : String) (bt : List Value) (E fE : Addr) : Prop where
  here : PySem.W.nsIn K mainGlobals cn = some (some (.ref E))
  txt : ∀ mg : Str → Option Value, mg cn = some (.ref E) → PySem.Giv.ErrTxt K mg cn qn newId bt E fE
  ty : PySem.W.typeIn K (.ref E) = some (.type "type")
  ex : PySem.W.subIn K (.ref E) (.type "BaseException") = some true
  hd : PySem.W.hasDictIn K E = true
theorem defE_mk {cn qn : Str} {newId : String} {bt bm : List Value} {E fE N : Addr} {nm q : Str} {bs : List Value} {sn : List Str} {sub : List Value} {ab : Bool} {col : Option Bool} {dd an od : Option Addr} {k0 k1 k2 k3 k5 : Option Value} {oc doc pm cdv ct : Value} {osl : Array (Option Value)} {p1 p2 q1 q2 q3 q4 : Pos}
    (a : PySem.W.nsIn K mainGlobals cn = some (some (.ref E))) (xL : K.lookup E = some (PySem.excClassObj nm q E N bs bm true sn sub ab col dd k0 k1 k2 k3 k5 newId)) (tl : PySem.Giv.tailIs bt bm = true)
    (sa : PySem.W.findIn K (.ref E) "__setattr__" = some (some (.builtin "object.__setattr__"))) (ga : PySem.W.findIn K (.ref E) "__getattribute__" = some (some (.builtin "BaseException.__getattribute__"))) (gg : PySem.W.findIn K (.ref E) "__getattr__" = some none)
    (no : PySem.W.findIn K (.ref E) "given" = some none) (iC : PySem.W.findIn K (.ref E) "__init__" = some (some (.ref fE))) (tC : PySem.W.typeIn K (.ref fE) = some (.type "function"))
    (l : K.lookup fE = some ⟨oc, od, .func (PySem.W.fnOf "__init__" qn (PySem.Giv.gA p1 p2) (PySem.Giv.gB q1 q2 q3 q4) PySem.Giv.gS .none .none doc pm an cdv ct), osl⟩) (c : PySem.W.codeIn K cdv qn = true)
    (kC : PySem.W.keepIn K (.ref E) = true) (ex : PySem.W.subIn K (.ref E) (.type "BaseException") = some true) (ty : PySem.W.typeIn K (.ref E) = some (.type "type")) (hd : PySem.W.hasDictIn K E = true) (ss : PySem.W.subIn K (.ref E) (.ref E) = some true) : DefE K cn qn newId bt E fE :=
  ⟨a, fun mg hg => { gC := hg, cls := ⟨nm, q, N, bs, bm, sn, sub, ab, col, dd, k0, k1, k2, k3, k5, xL, tl⟩, sa := sa, ga := ga, gg := gg, noN := no, iC := iC, tC := tC, kC := kC, exC := ex, tyC := ty, hdC := hd, te := (PySem.W.exm_ref ex hd ty ss), fn := ⟨oc, od, doc, pm, an, cdv, ct, osl, p1, p2, q1, q2, q3, q4, l, c⟩ }, ty, ex, hd⟩
/-- the class itself -/
structure DefC (K : PySem.W.Frag) (C : Addr) : Prop where
  here : PySem.W.nsIn K mainGlobals "Ratio" = some (some (.ref C))
  cl : Cls K C
  nT : NoAttr K C "top"
  nB : NoAttr K C "bottom"
  ha : PySem.W.findIn K (.ref C) "__class__" = some (some (.builtin "object.__class__"))
  hn : PySem.W.specialIn K (.builtin "object.__class__") "__get__" = some (some (.builtin "getset_descriptor.__get__"))
  htk : PySem.W.takesIn K (.builtin "object.__class__") = some true
  hm : PySem.W.mroIn K C (.type "object") = some true
  mks : PySem.W.makesIn K C = true
  kp : PySem.W.keepIn K (.ref C) = true
  ic : PySem.W.isClsIn K C = true
  ty : PySem.W.typeIn K (.ref C) = some (.type "type")
  sf : PySem.W.selfFirst K C = true
  nCC : PySem.W.notFirst K C (.ref C) = true
/-- the class beside the built-in types -/
structure DefT (K : PySem.W.Frag) (C : Addr) (T : String) : Prop where
  nf : PySem.W.notFirst K C (.type T) = true
  tr : PySem.W.subIn K (.type T) (.ref C) = some false
  rt : PySem.W.subIn K (.ref C) (.type T) = some false
end



/-- the class Prices itself -/
structure DefP (K : PySem.W.Frag) (D : Addr) : Prop where
  here : PySem.W.nsIn K mainGlobals "Prices" = some (some (.ref D))
  cl : Cls K D
  n1 : NoAttr K D "_lost"
  n2 : NoAttr K D "_surplus"
  n3 : NoAttr K D "_value"
  n4 : NoAttr K D "_junction"
  ha : PySem.W.findIn K (.ref D) "__class__" = some (some (.builtin "object.__class__"))
  hn : PySem.W.specialIn K (.builtin "object.__class__") "__get__" = some (some (.builtin "getset_descriptor.__get__"))
  htk : PySem.W.takesIn K (.builtin "object.__class__") = some true
  hm : PySem.W.mroIn K D (.type "object") = some true
  mks : PySem.W.makesIn K D = true
  kp : PySem.W.keepIn K (.ref D) = true
  ic : PySem.W.isClsIn K D = true
  ty : PySem.W.typeIn K (.ref D) = some (.type "type")
  nDD : PySem.W.notFirst K D (.ref D) = true
  nDi : PySem.W.notFirst K D (.type "int") = true
  tr : PySem.W.subIn K (.type "int") (.ref D) = some false
  neD : PySem.W.findIn K (.ref D) "__ne__" = some (some (.builtin "object.__ne__"))
/-- its __init__, with its keyword-only defaults -/
structure DefPI (K : PySem.W.Frag) (D f : Addr) : Prop where
  here : PySem.W.findIn K (.ref D) "__init__" = some (some (.ref f))
  is : PySem.W.isFn K (.ref f) = true
  fn : ∃ fd, InitP K f fd
theorem defPI_mk {K : PySem.W.Frag} {D f Kd : Addr} {oc doc pm cdv ct u1 u2 u3 u4 : Value} {od an : Option Addr} {osl : Array (Option Value)} (a : PySem.W.findIn K (.ref D) "__init__" = some (some (.ref f))) (i : PySem.W.isFn K (.ref f) = true)
    (l : K.lookup f = some ⟨oc, od, .func (PySem.W.fnOf "__init__" "Prices.__init__" (defArgs (sPri 0)) (defBody (sPri 0)) (defScope (sPri 0)) .none (.ref Kd) doc pm an cdv ct), osl⟩)
    (k1 : PySem.W.nsIn K Kd "lost" = some (some u1)) (k2 : PySem.W.nsIn K Kd "surplus" = some (some u2)) (k3 : PySem.W.nsIn K Kd "value" = some (some u3)) (k4 : PySem.W.nsIn K Kd "junction" = some (some u4))
    (r1 : RelV (.int 1) u1) (r2 : RelV (.int 1) u2) (r3 : RelV (.int 1) u3) (r4 : RelV (.int 1) u4)
    (c : PySem.W.codeIn K cdv "Prices.__init__" = true) (k : PySem.W.keepIn K (.ref f) = true) : DefPI K D f :=
  ⟨a, i, _, ⟨oc, od, .none, .ref Kd, doc, pm, an, cdv, ct, osl, rfl, l, c, .inl ⟨rfl, rfl⟩, .inr ⟨Kd, rfl, fun q hq => by
    rcases List.mem_cons.mp hq with rfl | hq
    · exact ⟨u1, k1, r1⟩
    · rcases List.mem_cons.mp hq with rfl | hq
      · exact ⟨u2, k2, r2⟩
      · rcases List.mem_cons.mp hq with rfl | hq
        · exact ⟨u3, k3, r3⟩
        · rcases List.mem_cons.mp hq with rfl | hq
          · exact ⟨u4, k4, r4⟩
          · cases hq⟩⟩, k⟩
/-- a property of it -/
structure DefPr (K : PySem.W.Frag) (D : Addr) (x qual : Str) (st : Stmt) (p g : Addr) : Prop where
  of : PropOf K D x p g
  fn : ∃ fd, Fun K x qual st g fd
theorem defPr_mk {K : PySem.W.Frag} {D p g : Addr} {x qual : Str} {st : Stmt} {rest : List Value} {oc kV doc pm cdv ct : Value} {od an : Option Addr} {osl : Array (Option Value)} (a : PySem.W.findIn K (.ref D) x = some (some (.ref p)))
    (pge : PySem.W.specialIn K (.ref p) "__get__" = some (some (.builtin "property.__get__"))) (ptk : PySem.W.takesIn K (.ref p) = some true) (prc : PySem.W.recIn K p "property" = some (.ref g :: rest))
    (l : K.lookup g = some ⟨oc, od, .func (PySem.W.fnOf x qual (defArgs st) (defBody st) (defScope st) .none kV doc pm an cdv ct), osl⟩) (c : PySem.W.codeIn K cdv qual = true) (k : PySem.W.keepIn K (.ref g) = true) : DefPr K D x qual st p g :=
  ⟨⟨a, pge, ptk, rest, prc⟩, _, fun_mk l c k⟩
/-- the errors' base, and what isinstance asks of InvalidPrices -/
structure DefW (K : PySem.W.Frag) (CP WE : Addr) : Prop where
  here : PySem.W.nsIn K mainGlobals "WireError" = some (some (.ref WE))
  ic : PySem.W.isClsIn K WE = true
  ty : PySem.W.typeIn K (.ref WE) = some (.type "type")
  sub : PySem.W.subIn K (.ref CP) (.ref WE) = some true
  ic2 : PySem.W.isClsIn K CP = true
  ga : PySem.W.findIn K (.ref CP) "__getattribute__" = some (some (.builtin "BaseException.__getattribute__"))
  gg : PySem.W.findIn K (.ref CP) "__getattr__" = some none
  ex : PySem.W.subIn K (.ref CP) (.type "BaseException") = some true
  ha : PySem.W.findIn K (.ref CP) "__class__" = some (some (.builtin "object.__class__"))
  hn : PySem.W.specialIn K (.builtin "object.__class__") "__get__" = some (some (.builtin "getset_descriptor.__get__"))
  htk : PySem.W.takesIn K (.builtin "object.__class__") = some true
  hm : PySem.W.mroIn K CP (.type "object") = some true
theorem DefW.kit {K : PySem.W.Frag} {CP WE : Addr} (d : DefW K CP WE) : PySem.W.kitOne K (.ref CP) (.ref WE) = some true := by
  have q : ((PySem.W.clsIn K WE).isSome && PySem.W.typeIn K (.ref WE) == some (.type "type")) = true := by
    rw [show (PySem.W.clsIn K WE).isSome = true from d.ic, d.ty]
    rfl
  show (if (Value.ref CP == Value.ref WE) = true then some true else if ((PySem.W.clsIn K WE).isSome && PySem.W.typeIn K (.ref WE) == some (.type "type")) = true then PySem.W.subIn K (.ref CP) (.ref WE) else none) = some true
  by_cases h : (Value.ref CP == Value.ref WE) = true
  · rw [if_pos h]
  · rw [if_neg h, if_pos q, d.sub]
theorem all_mk {l : PySem.W.OpenLaw} {w : World} {K : PySem.W.Frag} {h : Heap} {mg : Str → Option Value} {fa C fI CI fCI CZ fCZ D fP CP fCP WE a0 a1 a2 a3 a4 a5 a6 a7 a8 a9 a10 b0 b1 b2 b3 c0 c1 c2 p0 p1 p2 p3 g0 g1 g2 g3 : Addr} (X : K.In h) (G : h.Ns mainGlobals mg) (hfa : mg "law" = some (.ref fa))
    (dC : DefC K C)
    (dI : DefI K C fI)
    (eI : DefE K "InvalidNumber" "InvalidNumber.__init__" "ValueError.__new__" veT CI fCI)
    (eZ : DefE K "NoDivision" "NoDivision.__init__" "ZeroDivisionError.__new__" zdT CZ fCZ)
    (eP : DefE K "InvalidPrices" "InvalidPrices.__init__" "ValueError.__new__" veT CP fCP)
    (dP : DefP K D)
    (dPI : DefPI K D fP)
    (dW : DefW K CP WE)
    (gc : PySem.W.nsIn K mainGlobals "gcd" = some (some (.builtin "math.gcd")))
    (fg0 : DefG K "is_whole" sWhole a0)
    (fg1 : DefG K "_as_ratio" sAs a1)
    (fg2 : DefG K "_checked_price" sChk a2)
    (fg3 : DefG K "_law_start" sStart a3)
    (fg4 : DefG K "_law_draw" sDraw a4)
    (fg5 : DefG K "_law_price" sPrice a5)
    (fg6 : DefG K "_law_odd" sOdd a6)
    (fg7 : DefG K "_law_told" sTold a7)
    (fg8 : DefG K "_law_unchanged" sUnch a8)
    (fg9 : DefG K "_law_unmade" sUnm a9)
    (fg10 : DefG K "law" sLaw a10)
    (fm0 : DefM K C "__mul__" "Ratio.__mul__" (sRat 7) b0)
    (fm1 : DefM K C "__rmul__" "Ratio.__rmul__" (sRat 8) b1)
    (fm2 : DefM K C "__eq__" "Ratio.__eq__" (sRat 11) b2)
    (fm3 : DefM K C "__lt__" "Ratio.__lt__" (sRat 13) b3)
    (fp0 : DefM K D "change" "Prices.change" (sPri 9) c0)
    (fp1 : DefM K D "copied" "Prices.copied" (sPri 10) c1)
    (fp2 : DefM K D "__eq__" "Prices.__eq__" (sPri 11) c2)
    (fr0 : DefPr K D "lost" "Prices.lost" (sPri 1) p0 g0)
    (fr1 : DefPr K D "surplus" "Prices.surplus" (sPri 3) p1 g1)
    (fr2 : DefPr K D "value" "Prices.value" (sPri 5) p2 g2)
    (fr3 : DefPr K D "junction" "Prices.junction" (sPri 7) p3 g3)
    (tint : DefT K C "int")
    (tbool : DefT K C "bool")
    (tNoneType : DefT K C "NoneType")
    (tstr : DefT K C "str")
    (tlist : DefT K C "list")
    (ttuple : DefT K C "tuple")
    (nisinstance : PySem.W.nsIn K mainGlobals "isinstance" = some none)
    (nint : PySem.W.nsIn K mainGlobals "int" = some none)
    (nbool : PySem.W.nsIn K mainGlobals "bool" = some none)
    (nabs : PySem.W.nsIn K mainGlobals "abs" = some none)
    (nstr : PySem.W.nsIn K mainGlobals "str" = some none)
    (nrepr : PySem.W.nsIn K mainGlobals "repr" = some none)
    (nlen : PySem.W.nsIn K mainGlobals "len" = some none)
    (nrange : PySem.W.nsIn K mainGlobals "range" = some none)
    (nlist : PySem.W.nsIn K mainGlobals "list" = some none)
    (nall : PySem.W.nsIn K mainGlobals "all" = some none) :
    ∃ fd : FuncData, (∀ (s : Shared) (v : Value), BindsTo s fd ⟨[v], []⟩ [("_law_script", v)]) ∧ ∀ base : Heap, K.In base → base.Ns mainGlobals mg → FnOk l.prog w K mg base (L2.CX l.prog w) 11 fa fd ["_law_script"] (spLaw K) := by
  have e := hfa.symm.trans (PySem.W.mg_of X G fg10.here)
  cases e
  obtain ⟨fdL, FL⟩ := fg10.fn
  refine ⟨fdL, fun s v => ?_, fun base KX KG => ?_⟩
  · obtain ⟨oc, od, kV, doc, pm, an, cdv, ct, osl, rfl, _, _⟩ := FL.ex
    exact .of_eq rfl
  have T : Txt K mg C CI fCI CZ fCZ :=
    { cl := dC.cl, nT := dC.nT, nB := dC.nB, gC := PySem.W.mg_of KX KG dC.here, eI := eI.txt mg (PySem.W.mg_of KX KG eI.here), eZ := eZ.txt mg (PySem.W.mg_of KX KG eZ.here), ha := dC.ha, hn := dC.hn, htk := dC.htk, hm := dC.hm,
      kCC := kit_rr, kCi := kit_rt (by decide +kernel) tint.rt, kiC := kit_tr dC.ic dC.ty tint.tr, kbC := kit_tr dC.ic dC.ty tbool.tr, knC := kit_tr dC.ic dC.ty tNoneType.tr, ksC := kit_tr dC.ic dC.ty tstr.tr, klC := kit_tr dC.ic dC.ty tlist.tr, ktC := kit_tr dC.ic dC.ty ttuple.tr,
      isi := PySem.W.mg_none_of KX KG nisinstance, int := PySem.W.mg_none_of KX KG nint, bool := PySem.W.mg_none_of KX KG nbool, abs := PySem.W.mg_none_of KX KG nabs, str := PySem.W.mg_none_of KX KG nstr, repr := PySem.W.mg_none_of KX KG nrepr, gcd := PySem.W.mg_of KX KG gc }
  have N : Nms mg := ⟨PySem.W.mg_none_of KX KG nlen, PySem.W.mg_none_of KX KG nrange, PySem.W.mg_none_of KX KG nlist, PySem.W.mg_none_of KX KG nall⟩
  have Z : Tys K C := ⟨dC.sf, dC.nCC, tint.nf, tbool.nf, tNoneType.nf, tstr.nf, tlist.nf, ttuple.nf, tint.rt⟩
  have U : PTxt K mg D CP fCP :=
    { cl := dP.cl, n1 := dP.n1, n2 := dP.n2, n3 := dP.n3, n4 := dP.n4, gD := PySem.W.mg_of KX KG dP.here, eP := eP.txt mg (PySem.W.mg_of KX KG eP.here), ha := dP.ha, hn := dP.hn, htk := dP.htk, hm := dP.hm, kDD := kit_rr, kiD := kit_tr dP.ic dP.ty dP.tr }
  have Wi : Wire K mg CP WE := ⟨PySem.W.mg_of KX KG dW.here, dW.kit, ⟨dW.ic2, dW.ga, ⟨_, dW.gg⟩, dW.ex, dW.ha, dW.hn, dW.htk, dW.hm⟩⟩
  have GW : Glb l.prog w K mg base "is_whole" 1 ["value"] (spWhole C) := glb KX KG fg0 (fun fd F => ok_whole F T) (fun fd F => F.binds (ps := ["value"]) fun _ _ _ _ _ _ us hl => match us, hl with | [_], _ => rfl)
  obtain ⟨fdI, FI⟩ := dI.fn
  have M : Mak l.prog w K mg base C CI CZ := by
    obtain ⟨fW, fdW, mW, kW, okW, bW⟩ := GW.ex
    obtain ⟨ds3, v3, b3⟩ := FI.binds1 (ps := ["self", "top", "bottom"]) 3 1 (by simp) rfl fun _ _ _ _ _ _ _ us its hu hi => match us, its, hu, hi with | [_, _, _], [_], _, _ => ⟨_, rfl, rfl⟩
    obtain ⟨ds2, v2, b2⟩ := FI.binds1 (ps := ["self", "top", "bottom"]) 2 0 (by simp) rfl fun _ _ _ _ _ _ _ us its hu hi => match us, its, hu, hi with | [_, _], [_], _, _ => ⟨_, rfl, rfl⟩
    cases v3
    exact ⟨fI, fdI, ds2, ⟨dC.mks, dI.here, dI.is, dC.kp⟩, ok_init FI T okW mW kW bW, b3, v2, b2⟩
  have GA : Glb l.prog w K mg base "_as_ratio" 5 ["value"] (spAs C CI) := glb KX KG fg1 (fun fd F => ok_as F T M) (fun fd F => F.binds (ps := ["value"]) fun _ _ _ _ _ _ us hl => match us, hl with | [_], _ => rfl)
  have ML : Dun l.prog w K mg base C (PySem.dunder "mul") 6 ["self", "other"] (spAr C CI (fun t b t' b' => t * t') (fun t b t' b' => b * b')) := dun rfl fm0 (fun fd F => ok_mul F T M GA) (fun fd F => F.binds (ps := ["self", "other"]) fun _ _ _ _ _ _ us hl => match us, hl with | [_, _], _ => rfl)
  have EQ : Dun l.prog w K mg base C (cmpInfo .Eq).2.1 2 ["self", "other"] (spEq C false) := dun rfl fm2 (fun fd F => ok_eq F T GW) (fun fd F => F.binds (ps := ["self", "other"]) fun _ _ _ _ _ _ us hl => match us, hl with | [_, _], _ => rfl)
  have LT : Dun l.prog w K mg base C (cmpInfo .Lt).2.1 6 ["self", "other"] (spCm C CI (fun t b t' b' => decide (t * b' < t' * b))) := dun rfl fm3 (fun fd F => ok_lt F T GA) (fun fd F => F.binds (ps := ["self", "other"]) fun _ _ _ _ _ _ us hl => match us, hl with | [_, _], _ => rfl)
  have GC : Glb l.prog w K mg base "_checked_price" 7 ["name", "price"] (spChk C CP) := glb KX KG fg2 (fun fd F => ok_chk F T Z U M GW ML LT ⟨_, fm1.here, .inr ⟨_, rfl⟩⟩ ⟨⟨_, rfl⟩, ⟨_, rfl⟩, tint.tr⟩) (fun fd F => F.binds (ps := ["name", "price"]) fun _ _ _ _ _ _ us hl => match us, hl with | [_, _], _ => rfl)
  obtain ⟨fdP, FP⟩ := dPI.fn
  have MP : MkP l.prog w K mg base C D CP := by
    obtain ⟨ds, v0, b0⟩ := bd0 FP
    obtain ⟨mA, kA⟩ := bdA FP
    obtain ⟨mJ, kJ⟩ := bdJ FP
    obtain ⟨mW, kW⟩ := bdW FP
    exact ⟨fP, fdP, ds, mA, mJ, mW, ⟨dP.mks, dPI.here, dPI.is, dP.kp⟩, ok_pinit FP U GC, v0, b0, kA, kJ, kW⟩
  have CH : Dun l.prog w K mg base D "change" 8 ["self", "name", "price"] (spChange C D CP) := dun rfl fp0 (fun fd F => ok_change F U GC) (fun fd F => F.binds (ps := ["self", "name", "price"]) fun _ _ _ _ _ _ us hl => match us, hl with | [_, _, _], _ => rfl)
  have CO : Dun l.prog w K mg base D "copied" 10 ["self"] (spCop C D) := dun rfl fp1 (fun fd F => ok_copied F U MP) (fun fd F => F.binds (ps := ["self"]) fun _ _ _ _ _ _ us hl => match us, hl with | [_], _ => rfl)
  have PQ : Dun l.prog w K mg base D (cmpInfo .Eq).2.1 3 ["self", "other"] (spPEq C D) := dun rfl fp2 (fun fd F => ok_peq F T Z U EQ) (fun fd F => F.binds (ps := ["self", "other"]) fun _ _ _ _ _ _ us hl => match us, hl with | [_, _], _ => rfl)
  have G0 : PropG l.prog w K mg base D "lost" "_lost" := by
    obtain ⟨fd, F⟩ := fr0.fn
    refine ⟨p0, g0, fd, fr0.of, ?_, F.binds (ps := ["self"]) fun _ _ _ _ _ _ us hl => match us, hl with | [_], _ => rfl⟩
    obtain ⟨oc, od, kV, doc, pm, an, cdv, ct, osl, rfl, lk, hc⟩ := F.ex
    exact fn_getter (k := 0) (N := ["self"]) lk hc ⟨rfl, rfl, rfl, by decide +kernel, rfl, by decide +kernel, by decide +kernel⟩ rfl rfl U.cl U.n1
  have G1 : PropG l.prog w K mg base D "surplus" "_surplus" := by
    obtain ⟨fd, F⟩ := fr1.fn
    refine ⟨p1, g1, fd, fr1.of, ?_, F.binds (ps := ["self"]) fun _ _ _ _ _ _ us hl => match us, hl with | [_], _ => rfl⟩
    obtain ⟨oc, od, kV, doc, pm, an, cdv, ct, osl, rfl, lk, hc⟩ := F.ex
    exact fn_getter (k := 0) (N := ["self"]) lk hc ⟨rfl, rfl, rfl, by decide +kernel, rfl, by decide +kernel, by decide +kernel⟩ rfl rfl U.cl U.n2
  have G2 : PropG l.prog w K mg base D "value" "_value" := by
    obtain ⟨fd, F⟩ := fr2.fn
    refine ⟨p2, g2, fd, fr2.of, ?_, F.binds (ps := ["self"]) fun _ _ _ _ _ _ us hl => match us, hl with | [_], _ => rfl⟩
    obtain ⟨oc, od, kV, doc, pm, an, cdv, ct, osl, rfl, lk, hc⟩ := F.ex
    exact fn_getter (k := 0) (N := ["self"]) lk hc ⟨rfl, rfl, rfl, by decide +kernel, rfl, by decide +kernel, by decide +kernel⟩ rfl rfl U.cl U.n3
  have G3 : PropG l.prog w K mg base D "junction" "_junction" := by
    obtain ⟨fd, F⟩ := fr3.fn
    refine ⟨p3, g3, fd, fr3.of, ?_, F.binds (ps := ["self"]) fun _ _ _ _ _ _ us hl => match us, hl with | [_], _ => rfl⟩
    obtain ⟨oc, od, kV, doc, pm, an, cdv, ct, osl, rfl, lk, hc⟩ := F.ex
    exact fn_getter (k := 0) (N := ["self"]) lk hc ⟨rfl, rfl, rfl, by decide +kernel, rfl, by decide +kernel, by decide +kernel⟩ rfl rfl U.cl U.n4
  have GSt : Glb l.prog w K mg base "_law_start" 1 ["_law_script"] (spStart K) := glb KX KG fg3 (fun fd F => ok_start F N) (fun fd F => F.binds (ps := ["_law_script"]) fun _ _ _ _ _ _ us hl => match us, hl with | [_], _ => rfl)
  have GD : Glb l.prog w K mg base "_law_draw" 1 ["_law_state", "_law_many"] spDraw := glb KX KG fg4 (fun fd F => ok_draw F T.int N) (fun fd F => F.binds (ps := ["_law_state", "_law_many"]) fun _ _ _ _ _ _ us hl => match us, hl with | [_, _], _ => rfl)
  have GPr : Glb l.prog w K mg base "_law_price" 5 ["_law_state"] (spPrice C) := glb KX KG fg5 (fun fd F => ok_price F T M GD) (fun fd F => F.binds (ps := ["_law_state"]) fun _ _ _ _ _ _ us hl => match us, hl with | [_], _ => rfl)
  have GOd : Glb l.prog w K mg base "_law_odd" 5 ["_law_state"] (spOdd C) := glb KX KG fg6 (fun fd F => ok_odd F T M GD) (fun fd F => F.binds (ps := ["_law_state"]) fun _ _ _ _ _ _ us hl => match us, hl with | [_], _ => rfl)
  have GTo : Glb l.prog w K mg base "_law_told" 3 ["_law_prices"] (spTold C D) := glb KX KG fg7 (fun fd F => ok_told F U ⟨G0, G1, G2, G3⟩) (fun fd F => F.binds (ps := ["_law_prices"]) fun _ _ _ _ _ _ us hl => match us, hl with | [_], _ => rfl)
  have GUn : Glb l.prog w K mg base "_law_unchanged" 9 ["_law_prices", "_law_name", "_law_thing"] (spUnch C D) := glb KX KG fg8 (fun fd F => ok_unch F T U Wi CH) (fun fd F => F.binds (ps := ["_law_prices", "_law_name", "_law_thing"]) fun _ _ _ _ _ _ us hl => match us, hl with | [_, _, _], _ => rfl)
  have GUm : Glb l.prog w K mg base "_law_unmade" 10 ["_law_some"] (spUnm C) := glb KX KG fg9 (fun fd F => ok_unm F U MP) (fun fd F => F.binds (ps := ["_law_some"]) fun _ _ _ _ _ _ us hl => match us, hl with | [_], _ => rfl)
  exact ok_law FL T Z N U MP dP.nDD dP.nDi dP.neD GSt GD GPr GOd GTo GUn GUm CH CO PQ EQ

theorem walk {l : PySem.W.OpenLaw} {q : Program} {loose : List Str} {XP : (Str → Option Value) → Heap → Prop} {YP : World → Heap → Prop} {d : DefRec} {K : Params → PySem.W.Frag} (hn : l.most = some 63) (hdf : d.params.defaults = [])
    (hY : ∀ (w : World) (h : Heap), YP w h → (K w.params).In h)
    (F : ∀ (w : World) (mg : Str → Option Value) (fa : Addr) (h : Heap), (K w.params).In h → h.Ns mainGlobals mg → mg d.name = some (.ref fa) →
      ∃ fd : FuncData, (∀ (s : Shared) (u : Value), BindsTo s fd ⟨[u], []⟩ [("_law_script", u)]) ∧ ∀ base : Heap, (K w.params).In base → base.Ns mainGlobals mg → FnOk l.prog w (K w.params) mg base (L2.CX l.prog w) 11 fa fd ["_law_script"] (spLaw (K w.params))) :
    PySem.W.WalkO q loose XP YP l.row.toRowW d [] (fun f vs => PySem.call f vs) :=
  L2.walk_of (n := 63) (k := 11) (x := "_law_script") (CX := fun w => L2.CX l.prog w) (sp := fun w => spLaw (K w.params)) hn (by decide) hdf ⟨rfl, by decide, by decide⟩ hY F (fun _ _ a ns hl _ hS => ⟨a, ns, rfl, hS, fun _ _ => rfl⟩) fun w H s e s' z => by
    obtain ⟨_, _, _, _, _, _, _, _, _, _, _, _, z⟩ := z
    exact z
end R1
end

-- P3y
section
set_option Elab.async false
set_option linter.all false
open PySem PySem.W PyProof.Rows
set_option maxRecDepth 100000 in
set_option maxHeartbeats 0 in
theorem PySem.Challenge.cw_wishedwires_k53_prices_set_holds : PySem.Challenge.rw_wishedwires_k53_prices_set.Holds := by
  w_on; o_law; k_head; (case hw => w_witness2)
  k_fill
  refine R1.walk (l := PySem.Challenge.rw_wishedwires_k53_prices_set) rfl rfl (fun w h Y => PySem.W.kIn_of Y) ?F
  case F =>
    intro w mg fa h KX G hmg
    refine' R1.all_mk KX G hmg ?dC ?dI ?eI ?eZ ?eP ?dP ?dPI ?dW ?gc ?fg0 ?fg1 ?fg2 ?fg3 ?fg4 ?fg5 ?fg6 ?fg7 ?fg8 ?fg9 ?fg10 ?fm0 ?fm1 ?fm2 ?fm3 ?fp0 ?fp1 ?fp2 ?fr0 ?fr1 ?fr2 ?fr3 ?tint ?tbool ?tNoneType ?tstr ?tlist ?ttuple ?nisinstance ?nint ?nbool ?nabs ?nstr ?nrepr ?nlen ?nrange ?nlist ?nall
    case dC => (refine' ⟨?here, ⟨?pg, ?hd, ?po, ?sa⟩, ?nT, ?nB, ?ha, ?hn, ?htk, ?hm, ?mks, ?kp, ?ic, ?ty, ?sf, ?nCC⟩); (case here => k_is); (case pg => k_is); (case hd => k_is); (case po => k_is); (case sa => k_is); (case nT => unfold L2.NoAttr; k_is); (case nB => unfold L2.NoAttr; k_is); (case ha => k_is); (case hn => k_is); (case htk => k_is); (case hm => k_is); (case mks => k_is); (case kp => k_is); (case ic => k_is); (case ty => k_is); (case sf => k_is); (case nCC => k_is)
    case dI => (refine' R1.defI_mk ?a ?i ?l ?t ?c ?k); (case a => k_is); (case i => k_is); (case l => k_is); (case t => k_is); (case c => k_is); (case k => k_is)
    case eI => (refine' R1.defE_mk ?a ?xL ?tl ?sa ?ga ?gg ?no ?iC ?tC ?l ?c ?kC ?ex ?ty ?hd ?ss); (case a => k_is); (case xL => k_is); (case tl => decide +kernel); (case sa => k_is); (case ga => k_is); (case gg => k_is); (case no => k_is); (case iC => k_is); (case tC => k_is); (case l => k_is); (case c => k_is); (case kC => k_is); (case ex => k_is); (case ty => k_is); (case hd => k_is); (case ss => first | rfl | k_is)
    case eZ => (refine' R1.defE_mk ?a ?xL ?tl ?sa ?ga ?gg ?no ?iC ?tC ?l ?c ?kC ?ex ?ty ?hd ?ss); (case a => k_is); (case xL => k_is); (case tl => decide +kernel); (case sa => k_is); (case ga => k_is); (case gg => k_is); (case no => k_is); (case iC => k_is); (case tC => k_is); (case l => k_is); (case c => k_is); (case kC => k_is); (case ex => k_is); (case ty => k_is); (case hd => k_is); (case ss => first | rfl | k_is)
    case eP => (refine' R1.defE_mk ?a ?xL ?tl ?sa ?ga ?gg ?no ?iC ?tC ?l ?c ?kC ?ex ?ty ?hd ?ss); (case a => k_is); (case xL => k_is); (case tl => decide +kernel); (case sa => k_is); (case ga => k_is); (case gg => k_is); (case no => k_is); (case iC => k_is); (case tC => k_is); (case l => k_is); (case c => k_is); (case kC => k_is); (case ex => k_is); (case ty => k_is); (case hd => k_is); (case ss => first | rfl | k_is)
    case dP => (refine' ⟨?here, ⟨?pg, ?hd, ?po, ?sa⟩, ?n1, ?n2, ?n3, ?n4, ?ha, ?hn, ?htk, ?hm, ?mks, ?kp, ?ic, ?ty, ?nDD, ?nDi, ?tr, ?neD⟩); (case here => k_is); (case pg => k_is); (case hd => k_is); (case po => k_is); (case sa => k_is); (case n1 => unfold L2.NoAttr; k_is); (case n2 => unfold L2.NoAttr; k_is); (case n3 => unfold L2.NoAttr; k_is); (case n4 => unfold L2.NoAttr; k_is); (case ha => k_is); (case hn => k_is); (case htk => k_is); (case hm => k_is); (case mks => k_is); (case kp => k_is); (case ic => k_is); (case ty => k_is); (case nDD => k_is); (case nDi => k_is); (case tr => k_is); (case neD => k_is)
    case dPI => (refine' R1.defPI_mk ?a ?i ?l ?k1 ?k2 ?k3 ?k4 ?r1 ?r2 ?r3 ?r4 ?c ?k); (case a => k_is); (case i => k_is); (case l => k_is); (case k1 => k_is); (case k2 => k_is); (case k3 => k_is); (case k4 => k_is); (case r1 => exact ⟨_, rfl⟩); (case r2 => exact ⟨_, rfl⟩); (case r3 => exact ⟨_, rfl⟩); (case r4 => exact ⟨_, rfl⟩); (case c => k_is); (case k => k_is)
    case dW => (refine' ⟨?here, ?ic, ?ty, ?sub, ?ic2, ?ga, ?gg, ?ex, ?ha, ?hn, ?htk, ?hm⟩); (case here => k_is); (case ic => k_is); (case ty => k_is); (case sub => k_is); (case ic2 => k_is); (case ga => k_is); (case gg => k_is); (case ex => k_is); (case ha => k_is); (case hn => k_is); (case htk => k_is); (case hm => k_is)
    case gc => k_is
    case fg0 => (refine' R1.defG_mk ?a ?l ?c ?k); (case a => k_is); (case l => k_is); (case c => k_is); (case k => k_is)
    case fg1 => (refine' R1.defG_mk ?a ?l ?c ?k); (case a => k_is); (case l => k_is); (case c => k_is); (case k => k_is)
    case fg2 => (refine' R1.defG_mk ?a ?l ?c ?k); (case a => k_is); (case l => k_is); (case c => k_is); (case k => k_is)
    case fg3 => (refine' R1.defG_mk ?a ?l ?c ?k); (case a => k_is); (case l => k_is); (case c => k_is); (case k => k_is)
    case fg4 => (refine' R1.defG_mk ?a ?l ?c ?k); (case a => k_is); (case l => k_is); (case c => k_is); (case k => k_is)
    case fg5 => (refine' R1.defG_mk ?a ?l ?c ?k); (case a => k_is); (case l => k_is); (case c => k_is); (case k => k_is)
    case fg6 => (refine' R1.defG_mk ?a ?l ?c ?k); (case a => k_is); (case l => k_is); (case c => k_is); (case k => k_is)
    case fg7 => (refine' R1.defG_mk ?a ?l ?c ?k); (case a => k_is); (case l => k_is); (case c => k_is); (case k => k_is)
    case fg8 => (refine' R1.defG_mk ?a ?l ?c ?k); (case a => k_is); (case l => k_is); (case c => k_is); (case k => k_is)
    case fg9 => (refine' R1.defG_mk ?a ?l ?c ?k); (case a => k_is); (case l => k_is); (case c => k_is); (case k => k_is)
    case fg10 => (refine' R1.defG_mk ?a ?l ?c ?k); (case a => k_is); (case l => k_is); (case c => k_is); (case k => k_is)
    case fm0 => (refine' R1.defM_mk ?a ?i ?l ?c ?k); (case a => k_is); (case i => k_is); (case l => k_is); (case c => k_is); (case k => k_is)
    case fm1 => (refine' R1.defM_mk ?a ?i ?l ?c ?k); (case a => k_is); (case i => k_is); (case l => k_is); (case c => k_is); (case k => k_is)
    case fm2 => (refine' R1.defM_mk ?a ?i ?l ?c ?k); (case a => k_is); (case i => k_is); (case l => k_is); (case c => k_is); (case k => k_is)
    case fm3 => (refine' R1.defM_mk ?a ?i ?l ?c ?k); (case a => k_is); (case i => k_is); (case l => k_is); (case c => k_is); (case k => k_is)
    case fp0 => (refine' R1.defM_mk ?a ?i ?l ?c ?k); (case a => k_is); (case i => k_is); (case l => k_is); (case c => k_is); (case k => k_is)
    case fp1 => (refine' R1.defM_mk ?a ?i ?l ?c ?k); (case a => k_is); (case i => k_is); (case l => k_is); (case c => k_is); (case k => k_is)
    case fp2 => (refine' R1.defM_mk ?a ?i ?l ?c ?k); (case a => k_is); (case i => k_is); (case l => k_is); (case c => k_is); (case k => k_is)
    case fr0 => (refine' R1.defPr_mk ?a ?pge ?ptk ?prc ?l ?c ?k); (case a => k_is); (case pge => k_is); (case ptk => k_is); (case prc => k_is); (case l => k_is); (case c => k_is); (case k => k_is)
    case fr1 => (refine' R1.defPr_mk ?a ?pge ?ptk ?prc ?l ?c ?k); (case a => k_is); (case pge => k_is); (case ptk => k_is); (case prc => k_is); (case l => k_is); (case c => k_is); (case k => k_is)
    case fr2 => (refine' R1.defPr_mk ?a ?pge ?ptk ?prc ?l ?c ?k); (case a => k_is); (case pge => k_is); (case ptk => k_is); (case prc => k_is); (case l => k_is); (case c => k_is); (case k => k_is)
    case fr3 => (refine' R1.defPr_mk ?a ?pge ?ptk ?prc ?l ?c ?k); (case a => k_is); (case pge => k_is); (case ptk => k_is); (case prc => k_is); (case l => k_is); (case c => k_is); (case k => k_is)
    case tint => (refine' ⟨?nf, ?tr, ?rt⟩); (case nf => k_is); (case tr => k_is); (case rt => k_is)
    case tbool => (refine' ⟨?nf, ?tr, ?rt⟩); (case nf => k_is); (case tr => k_is); (case rt => k_is)
    case tNoneType => (refine' ⟨?nf, ?tr, ?rt⟩); (case nf => k_is); (case tr => k_is); (case rt => k_is)
    case tstr => (refine' ⟨?nf, ?tr, ?rt⟩); (case nf => k_is); (case tr => k_is); (case rt => k_is)
    case tlist => (refine' ⟨?nf, ?tr, ?rt⟩); (case nf => k_is); (case tr => k_is); (case rt => k_is)
    case ttuple => (refine' ⟨?nf, ?tr, ?rt⟩); (case nf => k_is); (case tr => k_is); (case rt => k_is)
    case nisinstance => k_is
    case nint => k_is
    case nbool => k_is
    case nabs => k_is
    case nstr => k_is
    case nrepr => k_is
    case nlen => k_is
    case nrange => k_is
    case nlist => k_is
    case nall => k_is
#print axioms PySem.Challenge.cw_wishedwires_k53_prices_set_holds
end
