import PyProof.Rows.All
import Wide.All
import OpenK.AllK
import Wide.FinOn
import HandS.ForExc
import KE.KOpsOwn
import KE.KCallOwn
import HandS.OwnEq
import PyProof.NeKinds
import KE.KExcInit
import HandS.ExcOwn
import HandS.TryMany
import HandS.Wide
import HandS.Gcd
import HandS.IsInst
import HandS.Defaults
import HandS.FStr
import HandS.Flow
import KE.KEqSeq
import HandS.ForMost
import HandS.ExcIs
import PySem.Challenge.RW_wishedwires_k01_ratios_reckoned
-- RatMath
section
namespace RatM
/-- the divisor that Ratio's __init__ takes: the gcd with the bottom's sign -/
def cmn (t b : Int) : Int := if b > 0 then (Nat.gcd t.natAbs b.natAbs : Int) else -(Nat.gcd t.natAbs b.natAbs : Int)
def nt (t b : Int) : Int := t.fdiv (cmn t b)
def nb (t b : Int) : Int := b.fdiv (cmn t b)

theorem gpos {t b : Int} (h : b ≠ 0) : 0 < Nat.gcd t.natAbs b.natAbs := Nat.gcd_pos_of_pos_right _ (by omega)
theorem cmn_ne {t b : Int} (h : b ≠ 0) : cmn t b ≠ 0 := by
  have := gpos (t := t) h
  unfold cmn
  split <;> omega
theorem cmn_scale {t b k : Int} (hb : b ≠ 0) (hk : k ≠ 0) : cmn (t * k) (b * k) = cmn t b * k := by
  unfold cmn
  rw [Int.natAbs_mul, Int.natAbs_mul, Nat.gcd_mul_right, Int.natCast_mul]
  rcases Int.lt_or_gt_of_ne hk with h | h
  · have e : ((k.natAbs : Nat) : Int) = -k := by omega
    rw [e]
    rcases Int.lt_or_gt_of_ne hb with h2 | h2
    · rw [if_pos (show b * k > 0 from Int.mul_pos_of_neg_of_neg h2 h), if_neg (show ¬ b > 0 by omega), Int.mul_neg, Int.neg_mul]
    · rw [if_neg (show ¬ b * k > 0 from by have := Int.mul_neg_of_pos_of_neg h2 h; omega), if_pos (show b > 0 by omega), Int.mul_neg, Int.neg_neg]
  · have e : ((k.natAbs : Nat) : Int) = k := by omega
    rw [e]
    rcases Int.lt_or_gt_of_ne hb with h2 | h2
    · rw [if_neg (show ¬ b * k > 0 from by have := Int.mul_neg_of_neg_of_pos h2 h; omega), if_neg (show ¬ b > 0 by omega), Int.neg_mul]
    · rw [if_pos (show b * k > 0 from Int.mul_pos h2 h), if_pos (show b > 0 by omega)]
theorem cmn_dvd_t (t b : Int) : cmn t b ∣ t := by
  have h : ((Nat.gcd t.natAbs b.natAbs : Nat) : Int) ∣ t := Int.dvd_natAbs.mp (Int.natCast_dvd_natCast.mpr (Nat.gcd_dvd_left _ _))
  unfold cmn
  split
  · exact h
  · exact Int.neg_dvd.mpr h
theorem cmn_dvd_b (t b : Int) : cmn t b ∣ b := by
  have h : ((Nat.gcd t.natAbs b.natAbs : Nat) : Int) ∣ b := Int.dvd_natAbs.mp (Int.natCast_dvd_natCast.mpr (Nat.gcd_dvd_right _ _))
  unfold cmn
  split
  · exact h
  · exact Int.neg_dvd.mpr h
theorem nt_mul {t b : Int} : nt t b * cmn t b = t := Int.fdiv_mul_cancel (cmn_dvd_t t b)
theorem nb_mul {t b : Int} : nb t b * cmn t b = b := Int.fdiv_mul_cancel (cmn_dvd_b t b)
theorem nb_pos {t b : Int} (h : b ≠ 0) : 0 < nb t b := by
  have e := nb_mul (t := t) (b := b)
  have g := gpos (t := t) h
  have hc : cmn t b = if b > 0 then (Nat.gcd t.natAbs b.natAbs : Int) else -(Nat.gcd t.natAbs b.natAbs : Int) := rfl
  rcases Int.lt_trichotomy (nb t b) 0 with h1 | h1 | h1
  · exfalso
    split at hc
    · have := Int.mul_neg_of_neg_of_pos h1 (show 0 < cmn t b by omega); omega
    · have := Int.mul_pos_of_neg_of_neg h1 (show cmn t b < 0 by omega); omega
  · rw [h1, Int.zero_mul] at e; omega
  · exact h1
theorem nt_scale {t b k : Int} (hb : b ≠ 0) (hk : k ≠ 0) : nt (t * k) (b * k) = nt t b := by
  have e : t * k = nt t b * (cmn t b * k) := by rw [← Int.mul_assoc, nt_mul]
  show (t * k).fdiv (cmn (t * k) (b * k)) = nt t b
  rw [cmn_scale hb hk, e]
  exact Int.mul_fdiv_cancel _ (Int.mul_ne_zero (cmn_ne hb) hk)
theorem nb_scale {t b k : Int} (hb : b ≠ 0) (hk : k ≠ 0) : nb (t * k) (b * k) = nb t b := by
  have e : b * k = nb t b * (cmn t b * k) := by rw [← Int.mul_assoc, nb_mul]
  show (b * k).fdiv (cmn (t * k) (b * k)) = nb t b
  rw [cmn_scale hb hk, e]
  exact Int.mul_fdiv_cancel _ (Int.mul_ne_zero (cmn_ne hb) hk)
/-- pairs that are in proportion have one normal form -/
theorem nrm_of {t b t' b' k k' : Int} (hb : b ≠ 0) (hb' : b' ≠ 0) (hk : k ≠ 0) (hk' : k' ≠ 0) (e1 : t * k = t' * k') (e2 : b * k = b' * k') : nt t b = nt t' b' ∧ nb t b = nb t' b' := by
  refine ⟨?_, ?_⟩
  · rw [← nt_scale hb hk, e1, e2, nt_scale hb' hk']
  · rw [← nb_scale hb hk, e1, e2, nb_scale hb' hk']
theorem nrm_cross {t b t' b' : Int} (hb : b ≠ 0) (hb' : b' ≠ 0) (e : t * b' = t' * b) : nt t b = nt t' b' ∧ nb t b = nb t' b' :=
  nrm_of hb hb' hb' hb e (Int.mul_comm b b')
theorem nrm_id {t b : Int} (hb : b ≠ 0) : nt (nt t b) (nb t b) = nt t b ∧ nb (nt t b) (nb t b) = nb t b := by
  have p := nb_pos (t := t) hb
  have h := nrm_of (t := nt t b) (b := nb t b) (t' := t) (b' := b) (k := cmn t b) (k' := 1) (by omega) hb (cmn_ne hb) (by decide) (by rw [nt_mul, Int.mul_one]) (by rw [nb_mul, Int.mul_one])
  exact h
/-- equal normal forms are pairs in proportion -/
theorem cross_of {t b t' b' : Int} (e1 : nt t b = nt t' b') (e2 : nb t b = nb t' b') : t * b' = t' * b := by
  have a := nt_mul (t := t) (b := b); have c := nb_mul (t := t) (b := b)
  have a' := nt_mul (t := t') (b := b'); have c' := nb_mul (t := t') (b := b')
  rw [e1] at a
  rw [e2] at c
  generalize nt t' b' = x at a a'
  generalize nb t' b' = y at c c'
  generalize cmn t b = g at a c
  generalize cmn t' b' = g' at a' c'
  rw [← a, ← c', ← a', ← c]
  simp only [Int.mul_assoc, Int.mul_left_comm, Int.mul_comm]
theorem natAbs_le_mul {x y : Int} (hy : y ≠ 0) : x.natAbs ≤ (x * y).natAbs := by
  rw [Int.natAbs_mul]
  exact Nat.le_mul_of_pos_right _ (by omega)
theorem nt_le {t b : Int} (hb : b ≠ 0) : (nt t b).natAbs ≤ t.natAbs := by
  have h := natAbs_le_mul (x := nt t b) (cmn_ne (t := t) hb)
  rwa [nt_mul] at h
theorem nb_le {t b : Int} (hb : b ≠ 0) : (nb t b).natAbs ≤ b.natAbs := by
  have h := natAbs_le_mul (x := nb t b) (cmn_ne (t := t) hb)
  rwa [nb_mul] at h
theorem cmn_le {t b : Int} (hb : b ≠ 0) : (cmn t b).natAbs ≤ b.natAbs := by
  have p := nb_pos (t := t) hb
  have h := natAbs_le_mul (x := cmn t b) (y := nb t b) (by omega)
  rwa [Int.mul_comm, nb_mul] at h
theorem nt_one (t : Int) : nt t 1 = t ∧ nb t 1 = 1 := by
  have c : cmn t 1 = 1 := by
    unfold cmn
    rw [if_pos (by decide), show (1 : Int).natAbs = 1 from rfl, Nat.gcd_one_right]
    rfl
  exact ⟨by show t.fdiv (cmn t 1) = t; rw [c, Int.fdiv_one], by show (1 : Int).fdiv (cmn t 1) = 1; rw [c, Int.fdiv_one]⟩
end RatM
end

-- OwnOps
section
set_option Elab.async false
set_option linter.all false
set_option maxRecDepth 100000
/-! Operators of own classes, as rules over values: by this text's own hand. -/
namespace OwnOps
open PySem L2

section
variable {X : Cx} {pins : List (Addr × Obj)} {σ : St} {H : Hp} {s : Shared} {a b C dx dy g : Addr} {fs fs' : List (Str × V)}

theorem inst_at (I : Inv X pins σ H s) (e : H a = some (.ins C dx fs)) : ∃ od, PySem.W.InstAt s.heap a (PySem.W.instObj C dx) C (some od) := by
  obtain ⟨mA, O, _⟩ := ins_get I.hok e
  obtain ⟨od, J, _⟩ := O.look
  exact ⟨od, J⟩

theorem back_of {Q : Value → Shared → Prop} {s' : Shared} {v : V} {u : Value} (r : RelV v u) (q : Q u s') : PySem.W.CmpBack Q u s' := by
  cases v with
  | non => cases (show u = Value.none from r); exact q
  | bl b => cases (show u = Value.bool b from r); exact q
  | int i => obtain ⟨t, rfl⟩ := (show ∃ t, u = Value.int i t from r); exact q
  | str y => obtain ⟨t, rfl⟩ := (show ∃ t, u = Value.str y t from r); exact q
  | byt y => obtain ⟨t, rfl⟩ := (show ∃ t, u = Value.bytes y t from r); exact q
  | flt y => obtain ⟨t, rfl⟩ := (show ∃ t, u = Value.float y t from r); exact q
  | ref c => cases (show u = Value.ref c from r); exact q
  | ty n => cases (show u = Value.type n from r); exact q

variable {CX : CXT} {k : Nat} {fd : FuncData} {ps : List Str} {sp : Sp} {E : XK} {A : Around}

/-- a def's call wherever the builtins around it stand -/
theorem run_any {Q : VK} {us : List Value} {vs : List V} (F : FnOk X.prog X.w X.K X.mg X.base CX k g fd ps sp) (hr : Room k A) (e0 : Env0 X.prog X.w X.K X.mg X.base A X.stack s H)
    (hb : Binds X.K fd ps []) (hx : Passes CX X E) (I : Inv X pins σ H s) (r : Vals vs us) (h : sp vs H Q E) :
    wpAny (model X.prog X.w) A (call (.ref g) us) (EP X pins σ Q) X.xe s := by
  have hl : (us ++ []).length = ps.length := by rw [List.append_nil, ← r.length]; exact F.len _ _ _ _ h
  have hb' := hb s us I.kIn hl
  rw [List.append_nil] at hb'
  refine wpAny_call (codeAny_mono (F.run A X.stack s H ⟨us, []⟩ us vs Q E hr e0 hb' r h) fun res s' hq => ?_)
  cases res with
  | error e => exact hx pins σ H s e s' I hq
  | ok fl =>
    cases fl with
    | ret u => exact I.after hq
    | next => exact False.elim hq
    | brk => exact False.elim hq
    | cont => exact False.elim hq
end

/-- what an own class says of a two-place operator: its def, of this class -/
structure Op2 (K : PySem.W.Frag) (C g : Addr) (nm : String) : Prop where
  at_ : PySem.W.findIn K (.ref C) (PySem.dunder nm) = some (some (.ref g))
  rf : ∃ rc, PySem.W.findIn K (.ref C) (PySem.dunderR nm) = some rc ∧ (rc = none ∨ ∃ q : Addr, rc = some (.ref q))
  fn : PySem.W.isFn K (.ref g) = true
  first : PySem.W.selfFirst K C = true
/-- what is known of a built-in type beside the class at C, for the operator -/
structure Ty2 (K : PySem.W.Frag) (C : Addr) (nm T : String) : Prop where
  lf : ∃ fo, PySem.W.findIn K (.type T) (PySem.dunder nm) = some fo
  rt : ∃ ro, PySem.W.findIn K (.type T) (PySem.dunderR nm) = some ro
  sub : PySem.W.subIn K (.type T) (.ref C) = some false

/-- the reading of x op y by x's own def -/
def rOwn2 (C : Addr) (R : V → Hp → Prop) (sp : Sp) (E : XK) : R2 := fun x y H Q => ∃ a dx fs, x = .ref a ∧ H a = some (.ins C dx fs) ∧ R y H ∧ sp [x, y] H Q E
def RIns (C : Addr) : V → Hp → Prop := fun y H => ∃ b dy fs, y = .ref b ∧ H b = some (.ins C dy fs)
def RInt : V → Hp → Prop := fun y _ => ∃ i, y = .int i

section
variable {X : Cx} {CX : CXT} {C g : Addr} {k : Nat} {fd : FuncData} {ps : List Str} {sp : Sp} {E : XK} {op : Operator} {T : String}

/-- x op y, both of the class at C -/
theorem op_ins (O : Op2 X.K C g op.info.2) (F : FnOk X.prog X.w X.K X.mg X.base CX k g fd ps sp) (hr : Room k X.A) (hb : Binds X.K fd ps []) (hx : Passes CX X E) :
    OpR X (binaryOp op) (rOwn2 C (RIns C) sp E) := by
  intro pins s σ H x y v u Q I rx ry h
  obtain ⟨a, dx, fs, rfl, ha, ⟨b, dy, fs', rfl, hb'⟩, q⟩ := h
  cases (show v = Value.ref a from rx)
  cases (show u = Value.ref b from ry)
  obtain ⟨od, J⟩ := inst_at I ha
  obtain ⟨od', J'⟩ := inst_at I hb'
  obtain ⟨m, hF⟩ := I.fr
  refine PySem.W.binop_K hF I.ok.mod.kin J J'.type O.first O.at_ O.fn ?_
  refine wpAny_mono (run_any (us := [.ref a, .ref b]) (vs := [.ref a, .ref b]) F hr I.env0 hb hx I (.cons rfl (.cons rfl .nil)) q) (fun w s' z => ?_) fun _ _ e => e
  obtain ⟨z', H', I', rz, qz⟩ := id z
  exact back_of rz z

/-- x op y, y of a built-in type that tells its type at once -/
theorem op_val (O : Op2 X.K C g op.info.2) (Y : Ty2 X.K C op.info.2 T) (F : FnOk X.prog X.w X.K X.mg X.base CX k g fd ps sp) (hr : Room k X.A) (hb : Binds X.K fd ps []) (hx : Passes CX X E)
    {R : V → Hp → Prop} (hR : ∀ {y : V} {H : Hp} {u : Value}, R y H → RelV y u → typeOf u = pure (.type T)) :
    OpR X (binaryOp op) (rOwn2 C R sp E) := by
  intro pins s σ H x y v u Q I rx ry h
  obtain ⟨a, dx, fs, rfl, ha, hy, q⟩ := h
  cases (show v = Value.ref a from rx)
  obtain ⟨od, J⟩ := inst_at I ha
  obtain ⟨m, hF⟩ := I.fr
  obtain ⟨fo, hfo⟩ := Y.lf
  obtain ⟨ro, hro⟩ := Y.rt
  obtain ⟨rc, hrc, hp⟩ := O.rf
  refine PySem.W.ksp_binT hF I.ok.mod.kin J (hR hy ry) O.first O.at_ O.fn hrc hp hfo hro Y.sub ?_
  refine wpAny_mono (run_any (us := [.ref a, u]) (vs := [.ref a, y]) F hr I.env0 hb hx I (.cons rfl (.cons ry .nil)) q) (fun w s' z => ?_) fun _ _ e => e
  obtain ⟨z', H', I', rz, qz⟩ := id z
  exact back_of rz z
end
end OwnOps
end

-- OwnOps2
section
set_option Elab.async false
set_option linter.all false
set_option maxRecDepth 100000
namespace OwnOps
open PySem L2

section
variable {prog : Program} {w : World} {A : Around} {E : Value → Shared → Prop} {s : Shared} {K : PySem.W.Frag} {y C f g : Addr} {oy : Obj} {od : Option Obj} {u : Value} {T : String}

/-- u op y by y's reflected def: u's own type has no slot for it, or declines -/
theorem refl_K {op : Operator} {left : Bool} {Q : Value → Shared → Prop} (Y : K.In s.heap) (I : PySem.W.InstAt s.heap y oy C od)
    (ht : PySem.W.Looks (model prog w) s.heap (typeOf u) (.type T)) (hc : PySem.W.selfFirst K C = true)
    (hs : PySem.W.findIn K (.ref C) (PySem.dunder op.info.2) = some (some (.ref f))) (hr : PySem.W.findIn K (.ref C) (PySem.dunderR op.info.2) = some (some (.ref g)))
    (hg : PySem.W.isFn K (.ref g) = true) (hl : PySem.W.Looks (model prog w) s.heap (fillsNumberSlot (.type T) op.info.2) left)
    (hsub : PySem.W.subIn K (.ref C) (.type T) = some false)
    (hd : left = true → ∀ {Q : Option Value → Shared → Prop}, Q none s → wpAny (model prog w) A (tryMethod u (PySem.dunder op.info.2) (.ref y)) Q E s)
    (h : wpAny (model prog w) A (call (.ref g) [.ref y, u]) (PySem.W.CmpBack Q) E s) : wpAny (model prog w) A (binaryOp op u (.ref y)) Q E s := by
  obtain ⟨cd, rest, hcd, hm⟩ := PySem.W.ksp_first hc
  rcases hi : op.info with ⟨sym, nm⟩
  rw [hi] at hs hr hl hd
  dsimp only at hs hr hl hd
  have one := PySem.W.ksp_try Y I hr hg h
  obtain ⟨hh, gg, d, tt, os⟩ := s
  have L1 : PySem.W.Looks (model prog w) hh (typeOf (.ref y)) (.ref C) := I.type
  have L3 : PySem.W.Looks (model prog w) hh (fillsNumberSlot (.ref C) nm) true := PySem.W.fills_K Y hcd hm hs
  have L5 : PySem.W.Looks (model prog w) hh (isSubtype (.ref C) (.type T)) false := PySem.W.looks_subIn Y hsub
  have L7 : PySem.W.Looks (model prog w) hh (numberSlotInPython (.type T) nm) false := PySem.W.Looks.of_pure rfl
  have hne : (Value.type T == Value.ref C) = false := Bool.eq_false_iff.mpr fun q => by cases beq_iff_eq.mp q
  simp only [binaryOp, hi]
  refine wpAny_holding (wpAny_bind ?_)
  unfold binaryOp1
  refine wpAny_bind (ht.at (wpAny_bind (L1.at (wpAny_bind (hl.at ?_)))))
  simp only [hne, Bool.false_eq_true, if_false]
  cases left with
  | false =>
    ksp_lk
    refine wpAny_mono one (fun r s' hr' => ?_) fun _ _ e => e
    obtain ⟨v, rfl, hq⟩ := hr'
    ksp_lk
    exact hq
  | true =>
    ksp_lk
    refine hd rfl ?_
    ksp_lk
    refine wpAny_mono one (fun r s' hr' => ?_) fun _ _ e => e
    obtain ⟨v, rfl, hq⟩ := hr'
    ksp_lk
    exact hq
end
end OwnOps
end

-- OwnOps3
section
set_option Elab.async false
set_option linter.all false
set_option maxRecDepth 100000
namespace OwnOps
open PySem L2

section
variable {prog : Program} {w : World} {A : Around} {E : Value → Shared → Prop} {s : Shared} {K : PySem.W.Frag} {y C f g : Addr} {oy : Obj} {od : Option Obj} {n : Int} {t : Tok}
open MeetsSeq MeetsSeq2 MeetsSeq3 SeqRoads2 AutoSeq1
theorem int_call_add {Q : Value → Shared → Prop} (hy : s.heap.get? y = some oy) (hp : oy.data = .plain) (h : Q .notImplemented s) :
    wpAny (model prog w) A (call (.builtin "int.__add__") [.int n t, .ref y]) Q E s := by
  refine GQ.call_here F.slot_int_add (typeIs_int s n t) F.entry_int_add (F.args_int_add_2 _ _) ?_
  obtain ⟨c, dd, dt, sl⟩ := oy
  cases hp
  obtain ⟨hh, gg, d, tt, os⟩ := s
  wp_walk using wpAny_loadPart' hy
  exact h
theorem int_call_sub {Q : Value → Shared → Prop} (hy : s.heap.get? y = some oy) (hp : oy.data = .plain) (h : Q .notImplemented s) :
    wpAny (model prog w) A (call (.builtin "int.__sub__") [.int n t, .ref y]) Q E s := by
  refine GQ.call_here F.slot_int_sub (typeIs_int s n t) F.entry_int_sub (F.args_int_sub_2 _ _) ?_
  obtain ⟨c, dd, dt, sl⟩ := oy
  cases hp
  obtain ⟨hh, gg, d, tt, os⟩ := s
  wp_walk using wpAny_loadPart' hy
  exact h
theorem int_call_mul {Q : Value → Shared → Prop} (hy : s.heap.get? y = some oy) (hp : oy.data = .plain) (h : Q .notImplemented s) :
    wpAny (model prog w) A (call (.builtin "int.__mul__") [.int n t, .ref y]) Q E s := by
  refine GQ.call_here F.slot_int_mul (typeIs_int s n t) F.entry_int_mul (F.args_int_mul_2 _ _) ?_
  obtain ⟨c, dd, dt, sl⟩ := oy
  cases hp
  obtain ⟨hh, gg, d, tt, os⟩ := s
  wp_walk using wpAny_loadPart' hy
  exact h
theorem bool_call_mul {k : Bool} {Q : Value → Shared → Prop} (hy : s.heap.get? y = some oy) (hp : oy.data = .plain) (h : Q .notImplemented s) :
    wpAny (model prog w) A (call (.builtin "int.__mul__") [.bool k, .ref y]) Q E s := by
  refine GQ.call_here F.slot_bool_mul (typeIs_bool s k) F.entry_int_mul (F.args_int_mul_2 _ _) ?_
  obtain ⟨c, dd, dt, sl⟩ := oy
  cases hp
  obtain ⟨hh, gg, d, tt, os⟩ := s
  wp_walk using wpAny_loadPart' hy
  exact h
/-- how an int meets an instance of no built-in kind -/
theorem int_cmp_eq {Q : Value → Shared → Prop} (hy : s.heap.get? y = some oy) (hp : oy.data = .plain) (h : Q .notImplemented s) :
    wpAny (model prog w) A (call (.builtin "int.__eq__") [.int n t, .ref y]) Q E s := by
  refine GQ.call_here F.slot_int_eq (typeIs_int s n t) F.entry_int_eq (F.args_int_eq_2 _ _) ?_
  obtain ⟨c, dd, dt, sl⟩ := oy
  cases hp
  obtain ⟨hh, gg, d, tt, os⟩ := s
  wp_walk using wpAny_loadPart' hy
  exact h
theorem int_cmp_ne {Q : Value → Shared → Prop} (hy : s.heap.get? y = some oy) (hp : oy.data = .plain) (h : Q .notImplemented s) :
    wpAny (model prog w) A (call (.builtin "int.__ne__") [.int n t, .ref y]) Q E s := by
  refine GQ.call_here F.slot_int_ne (typeIs_int s n t) F.entry_int_ne (F.args_int_ne_2 _ _) ?_
  obtain ⟨c, dd, dt, sl⟩ := oy
  cases hp
  obtain ⟨hh, gg, d, tt, os⟩ := s
  wp_walk using wpAny_loadPart' hy
  exact h
theorem int_cmp_lt {Q : Value → Shared → Prop} (hy : s.heap.get? y = some oy) (hp : oy.data = .plain) (h : Q .notImplemented s) :
    wpAny (model prog w) A (call (.builtin "int.__lt__") [.int n t, .ref y]) Q E s := by
  refine GQ.call_here F.slot_int_lt (typeIs_int s n t) F.entry_int_lt (F.args_int_lt_2 _ _) ?_
  obtain ⟨c, dd, dt, sl⟩ := oy
  cases hp
  obtain ⟨hh, gg, d, tt, os⟩ := s
  wp_walk using wpAny_loadPart' hy
  exact h
theorem int_cmp_le {Q : Value → Shared → Prop} (hy : s.heap.get? y = some oy) (hp : oy.data = .plain) (h : Q .notImplemented s) :
    wpAny (model prog w) A (call (.builtin "int.__le__") [.int n t, .ref y]) Q E s := by
  refine GQ.call_here F.slot_int_le (typeIs_int s n t) F.entry_int_le (F.args_int_le_2 _ _) ?_
  obtain ⟨c, dd, dt, sl⟩ := oy
  cases hp
  obtain ⟨hh, gg, d, tt, os⟩ := s
  wp_walk using wpAny_loadPart' hy
  exact h
theorem int_cmp_gt {Q : Value → Shared → Prop} (hy : s.heap.get? y = some oy) (hp : oy.data = .plain) (h : Q .notImplemented s) :
    wpAny (model prog w) A (call (.builtin "int.__gt__") [.int n t, .ref y]) Q E s := by
  refine GQ.call_here F.slot_int_gt (typeIs_int s n t) F.entry_int_gt (F.args_int_gt_2 _ _) ?_
  obtain ⟨c, dd, dt, sl⟩ := oy
  cases hp
  obtain ⟨hh, gg, d, tt, os⟩ := s
  wp_walk using wpAny_loadPart' hy
  exact h
theorem int_cmp_ge {Q : Value → Shared → Prop} (hy : s.heap.get? y = some oy) (hp : oy.data = .plain) (h : Q .notImplemented s) :
    wpAny (model prog w) A (call (.builtin "int.__ge__") [.int n t, .ref y]) Q E s := by
  refine GQ.call_here F.slot_int_ge (typeIs_int s n t) F.entry_int_ge (F.args_int_ge_2 _ _) ?_
  obtain ⟨c, dd, dt, sl⟩ := oy
  cases hp
  obtain ⟨hh, gg, d, tt, os⟩ := s
  wp_walk using wpAny_loadPart' hy
  exact h
end
/-- int op instance, declined -/
def IntDec (op : CmpOp) : Prop := ∀ {prog : Program} {w : World} {A : Around} {E : Value → Shared → Prop} {s : Shared} {y : Addr} {oy : Obj} {n : Int} {t : Tok} {Q : Option Value → Shared → Prop}, s.heap.get? y = some oy → oy.data = .plain → Q none s →
  wpAny (model prog w) A (tryCompare (.int n t) (cmpInfo op).2.1 (.ref y)) Q E s
theorem dec_eq : IntDec .Eq := fun hy hp h => wpAny_tryCompare_declines (typeIs_int _ _ _) F.slot_int_eq (int_cmp_eq hy hp ⟨rfl, h⟩)
theorem dec_ne : IntDec .NotEq := fun hy hp h => wpAny_tryCompare_declines (typeIs_int _ _ _) F.slot_int_ne (int_cmp_ne hy hp ⟨rfl, h⟩)
theorem dec_lt : IntDec .Lt := fun hy hp h => wpAny_tryCompare_declines (typeIs_int _ _ _) F.slot_int_lt (int_cmp_lt hy hp ⟨rfl, h⟩)
theorem dec_le : IntDec .LtE := fun hy hp h => wpAny_tryCompare_declines (typeIs_int _ _ _) F.slot_int_le (int_cmp_le hy hp ⟨rfl, h⟩)
theorem dec_gt : IntDec .Gt := fun hy hp h => wpAny_tryCompare_declines (typeIs_int _ _ _) F.slot_int_gt (int_cmp_gt hy hp ⟨rfl, h⟩)
theorem dec_ge : IntDec .GtE := fun hy hp h => wpAny_tryCompare_declines (typeIs_int _ _ _) F.slot_int_ge (int_cmp_ge hy hp ⟨rfl, h⟩)
def IntDecB (op : Operator) : Prop := ∀ {prog : Program} {w : World} {A : Around} {E : Value → Shared → Prop} {s : Shared} {y : Addr} {oy : Obj} {n : Int} {t : Tok} {Q : Option Value → Shared → Prop}, s.heap.get? y = some oy → oy.data = .plain → Q none s →
  wpAny (model prog w) A (tryMethod (.int n t) (PySem.dunder op.info.2) (.ref y)) Q E s
theorem dec_add : IntDecB .Add := by
  intro prog w A E s y oy n t Q hy hp h
  show wpAny (model prog w) A (tryMethod (.int n t) (PySem.dunder "add") (.ref y)) Q E s
  have hc : wpAny (model prog w) A (call (.builtin "int.__add__") [.int n t, .ref y]) (fun v s' => v = .notImplemented ∧ Q none s') E s := int_call_add hy hp ⟨rfl, h⟩
  exact wpAny_tryMethod_declines (name := PySem.dunder "add") (id := "int.__add__") (typeIs_int s n t) F.slot_int_add hc
theorem dec_sub : IntDecB .Sub := by
  intro prog w A E s y oy n t Q hy hp h
  show wpAny (model prog w) A (tryMethod (.int n t) (PySem.dunder "sub") (.ref y)) Q E s
  have hc : wpAny (model prog w) A (call (.builtin "int.__sub__") [.int n t, .ref y]) (fun v s' => v = .notImplemented ∧ Q none s') E s := int_call_sub hy hp ⟨rfl, h⟩
  exact wpAny_tryMethod_declines (name := PySem.dunder "sub") (id := "int.__sub__") (typeIs_int s n t) F.slot_int_sub hc
theorem dec_mul : IntDecB .Mult := by
  intro prog w A E s y oy n t Q hy hp h
  show wpAny (model prog w) A (tryMethod (.int n t) (PySem.dunder "mul") (.ref y)) Q E s
  have hc : wpAny (model prog w) A (call (.builtin "int.__mul__") [.int n t, .ref y]) (fun v s' => v = .notImplemented ∧ Q none s') E s := int_call_mul hy hp ⟨rfl, h⟩
  exact wpAny_tryMethod_declines (name := PySem.dunder "mul") (id := "int.__mul__") (typeIs_int s n t) F.slot_int_mul hc

section
variable {prog : Program} {w : World} {A : Around} {E : Value → Shared → Prop} {s : Shared} {K : PySem.W.Frag} {y C f g : Addr} {oy : Obj} {od : Option Obj} {n : Int} {t : Tok}
/-- n op y by y's def for the comparison turned round -/
theorem cmp_refl {op : CmpOp} {Q : Value → Shared → Prop} (hu : A.units < cLine) (Y : K.In s.heap) (I : PySem.W.InstAt s.heap y oy C od) (hp : oy.data = .plain) (dec : IntDec op)
    (hsub : PySem.W.subIn K (.ref C) (.type "int") = some false) (hr : PySem.W.findIn K (.ref C) (cmpInfo op).2.2 = some (some (.ref g))) (hg : PySem.W.isFn K (.ref g) = true)
    (h : wpAny (model prog w) A (call (.ref g) [.ref y, .int n t]) (PySem.W.CmpBack Q) E s) : wpAny (model prog w) A (richCompare op (.int n t) (.ref y)) Q E s := by
  have one : wpAny (model prog w) A (tryCompare (.ref y) (cmpInfo op).2.2 (.int n t)) (fun r s' => ∃ v, r = some v ∧ Q v s') E s := by
    unfold tryCompare
    refine wpAny_bind (PySem.W.ifBound_K Y I hr hg (wpAny_mono h (fun v s' hv => ?_) fun _ _ e => e))
    cases v <;> first | exact hv.elim | exact wpAny_pure ⟨_, rfl, hv⟩
  have h1 : oneThing? op (.int n t) (.ref y) = none := rfl
  have hne : (Value.type "int" != Value.ref C) = true := rfl
  unfold richCompare
  simp only [h1]
  refine wpAny_holding (wpAny_bind (wpAny_cRoomFor hu ?_))
  refine wpAny_bind ((PySem.W.Looks.of_pure rfl : PySem.W.Looks (model prog w) s.heap (typeOf (.int n t)) (.type "int")).here (wpAny_bind (I.type.here ?_)))
  rw [hne]
  simp only [if_true]
  refine wpAny_bind ((PySem.W.looks_subIn Y hsub).here ?_)
  simp only [Bool.false_eq_true, if_false]
  refine wpAny_bind (dec I.at_ hp ?_)
  simp only [Bool.not_false, if_true]
  refine wpAny_bind (wpAny_mono one (fun r s' z => ?_) fun _ _ e => e)
  obtain ⟨v, rfl, hq⟩ := z
  exact wpAny_pure hq
end
end OwnOps
end

-- OwnOps4
section
set_option Elab.async false
set_option linter.all false
set_option maxRecDepth 100000
namespace OwnOps
open PySem L2

section
variable {X : Cx} {CX : CXT} {C g f : Addr} {k : Nat} {fd : FuncData} {ps : List Str} {sp : Sp} {E : XK} {op : Operator} {T : String}

/-- the reading of n op y by y's def -/
def rRef2 (C : Addr) (sp : Sp) (E : XK) : R2 := fun x y H Q => ∃ (i : Int) (b dy : Addr) (fs : List (Str × V)), x = .int i ∧ y = .ref b ∧ H b = some (.ins C dy fs) ∧ sp [y, x] H Q E

theorem op_refl {nm : String} (hnm : op.info.2 = nm) (O : Op2 X.K C f nm) (hrf : PySem.W.findIn X.K (.ref C) (PySem.dunderR nm) = some (some (.ref g))) (hg : PySem.W.isFn X.K (.ref g) = true) (hl : fillsNumberSlot (.type "int") nm = pure true)
    (hsub : PySem.W.subIn X.K (.ref C) (.type "int") = some false) (dec : IntDecB op)
    (F : FnOk X.prog X.w X.K X.mg X.base CX k g fd ps sp) (hr : Room k X.A) (hb : Binds X.K fd ps []) (hx : Passes CX X E) : OpR X (binaryOp op) (rRef2 C sp E) := by
  subst hnm
  intro pins s σ H x y v u Q I rx ry h
  obtain ⟨i, b, dy, fs, rfl, rfl, hb', q⟩ := h
  obtain ⟨t, rfl⟩ := (show ∃ t, v = Value.int i t from rx)
  cases (show u = Value.ref b from ry)
  obtain ⟨od, J⟩ := inst_at I hb'
  refine refl_K I.kIn J (PySem.W.Looks.of_pure rfl) O.first O.at_ hrf hg (PySem.W.Looks.of_pure hl) hsub (fun _ Q' q' => dec J.at_ rfl q') ?_
  refine wpAny_mono (run_any (us := [.ref b, .int i t]) (vs := [.ref b, .int i]) F hr I.env0 hb hx I (.cons rfl (.cons ⟨t, rfl⟩ .nil)) q) (fun w s' z => ?_) fun _ _ e => e
  obtain ⟨z', H', I', rz, qz⟩ := id z
  exact back_of rz z

/-- x op y (a comparison), x of the class at C -/
theorem cmp_own {op : CmpOp} (hop : ∀ a b, compareOp op a b = richCompare op a b) (hs : PySem.W.findIn X.K (.ref C) (cmpInfo op).2.1 = some (some (.ref g))) (hf : PySem.W.isFn X.K (.ref g) = true)
    (F : FnOk X.prog X.w X.K X.mg X.base CX k g fd ps sp) (hr : Room k X.A) (hb : Binds X.K fd ps []) (hx : Passes CX X E)
    {R : V → Hp → Prop} (hR : ∀ {y : V} {H : Hp} {u : Value} {pins : List (Addr × Obj)} {σ : St} {s : Shared}, L2.Inv X pins σ H s → R y H → RelV y u → ∃ tb, PySem.W.Looks (model X.prog X.w) s.heap (typeOf u) tb ∧ PySem.W.notFirst X.K C tb = true) :
    OpR X (compareOp op) (rOwn2 C R sp E) := by
  intro pins s σ H x y v u Q I rx ry h
  obtain ⟨a, dx, fs, rfl, ha, hy, q⟩ := h
  cases (show v = Value.ref a from rx)
  obtain ⟨od, J⟩ := inst_at I ha
  obtain ⟨m, hF⟩ := I.fr
  obtain ⟨tb, ht, hn⟩ := hR I hy ry
  rw [hop]
  refine PySem.W.cmp_K (op := op) hr.units0 hF I.ok.mod.kin J ht hn hs hf ?_
  refine wpAny_mono (run_any (us := [.ref a, u]) (vs := [.ref a, y]) F hr I.env0 hb hx I (.cons rfl (.cons ry .nil)) q) (fun w s' z => ?_) fun _ _ e => e
  obtain ⟨z', H', I', rz, qz⟩ := id z
  exact back_of rz z
theorem looks_ins (hsame : PySem.W.notFirst X.K C (.ref C) = true) {y : V} {H : Hp} {u : Value} {pins : List (Addr × Obj)} {σ : St} {s : Shared} (I : L2.Inv X pins σ H s) (h : RIns C y H) (ry : RelV y u) :
    ∃ tb, PySem.W.Looks (model X.prog X.w) s.heap (typeOf u) tb ∧ PySem.W.notFirst X.K C tb = true := by
  obtain ⟨b, dy, fs, rfl, hb⟩ := h
  cases (show u = Value.ref b from ry)
  obtain ⟨od, J⟩ := inst_at I hb
  exact ⟨_, J.type, hsame⟩
theorem looks_int (hi : PySem.W.notFirst X.K C (.type "int") = true) {y : V} {H : Hp} {u : Value} {pins : List (Addr × Obj)} {σ : St} {s : Shared} (I : L2.Inv X pins σ H s) (h : RInt y H) (ry : RelV y u) :
    ∃ tb, PySem.W.Looks (model X.prog X.w) s.heap (typeOf u) tb ∧ PySem.W.notFirst X.K C tb = true := by
  obtain ⟨i, rfl⟩ := h
  obtain ⟨t, rfl⟩ := (show ∃ t, u = Value.int i t from ry)
  exact ⟨_, PySem.W.Looks.of_pure rfl, hi⟩

theorem cmp_refl2 {op : CmpOp} (hop : ∀ a b, compareOp op a b = richCompare op a b) (dec : IntDec op) (hs : PySem.W.findIn X.K (.ref C) (cmpInfo op).2.2 = some (some (.ref g))) (hf : PySem.W.isFn X.K (.ref g) = true)
    (hsub : PySem.W.subIn X.K (.ref C) (.type "int") = some false)
    (F : FnOk X.prog X.w X.K X.mg X.base CX k g fd ps sp) (hr : Room k X.A) (hb : Binds X.K fd ps []) (hx : Passes CX X E) : OpR X (compareOp op) (rRef2 C sp E) := by
  intro pins s σ H x y v u Q I rx ry h
  obtain ⟨i, b, dy, fs, rfl, rfl, hb', q⟩ := h
  obtain ⟨t, rfl⟩ := (show ∃ t, v = Value.int i t from rx)
  cases (show u = Value.ref b from ry)
  obtain ⟨od, J⟩ := inst_at I hb'
  rw [hop]
  refine cmp_refl hr.units0 I.kIn J rfl dec hsub hs hf ?_
  refine wpAny_mono (run_any (us := [.ref b, .int i t]) (vs := [.ref b, .int i]) F hr I.env0 hb hx I (.cons rfl (.cons ⟨t, rfl⟩ .nil)) q) (fun w s' z => ?_) fun _ _ e => e
  obtain ⟨z', H', I', rz, qz⟩ := id z
  exact back_of rz z

/-- one-place: what x's own def hands back -/
def rOwn1 (C : Addr) (sp : Sp) (E : XK) (R : V → Prop) : V → Hp → VK → Prop := fun x H Q => ∃ a dx fs, x = .ref a ∧ H a = some (.ins C dx fs) ∧ sp [x] H (fun z H' => R z ∧ Q z H') E
theorem neg_own (hs : PySem.W.findIn X.K (.ref C) "__neg__" = some (some (.ref g))) (hf : PySem.W.isFn X.K (.ref g) = true)
    (F : FnOk X.prog X.w X.K X.mg X.base CX k g fd ps sp) (hr : Room k X.A) (hb : Binds X.K fd ps []) (hx : Passes CX X E) : UnR X (unaryOp .USub) (rOwn1 C sp E fun _ => True) := by
  intro pins s σ H x v Q I rx h
  obtain ⟨a, dx, fs, rfl, ha, q⟩ := h
  cases (show v = Value.ref a from rx)
  obtain ⟨od, J⟩ := inst_at I ha
  obtain ⟨m, hF⟩ := I.fr
  refine PySem.W.ksp_neg hF I.ok.mod.kin J hs hf ?_
  refine wpAny_mono (run_any (us := [.ref a]) (vs := [.ref a]) F hr I.env0 hb hx I (.cons rfl .nil) q) (fun w s' z => ?_) fun _ _ e => e
  obtain ⟨z', H', I', rz, _, qz⟩ := z
  exact ⟨z', H', I', rz, qz⟩

open Builtin in
theorem abs_K {prog : Program} {w : World} {A : Around} {E : Value → Shared → Prop} {s : Shared} {K : PySem.W.Frag} {x C f : Addr} {ox : Obj} {od : Option Obj} {Q : Value → Shared → Prop} (Y : K.In s.heap) (I : PySem.W.InstAt s.heap x ox C od)
    (hs : PySem.W.findIn K (.ref C) "__abs__" = some (some (.ref f))) (hf : PySem.W.isFn K (.ref f) = true)
    (h : wpAny (model prog w) A.in1 (call (.ref f) [.ref x]) Q E s) : wpAny (model prog w) A (call (.builtin "abs") [.ref x]) Q E s := by
  refine Calls.call_function_entry PyProof.Rows.kind_abs PyProof.Rows.plain_abs PyProof.Rows.entry_abs (PyProof.Rows.args_abs _) ?_
  unfold Builtin.«abs»
  refine wpAny_bind (m := oneArg "abs" _) (wpAny_pure ?_)
  refine wpAny_bind (m := callSpecial? (.ref x) (Str.ofString "__abs__")) (PySem.W.special_fn Y I hs (beq_iff_eq.mp hf) (wpAny_mono h (fun r s' z => ?_) fun _ _ e => e))
  exact wpAny_pure ⟨_, rfl, z⟩

theorem room2 {k : Nat} {A : Around} (r : Room (k + 2) A) : Room k A.in1.in1 := (Room.in1 (r.in1))

theorem call_absO (hs : PySem.W.findIn X.K (.ref C) "__abs__" = some (some (.ref g))) (hf : PySem.W.isFn X.K (.ref g) = true)
    (F : FnOk X.prog X.w X.K X.mg X.base CX k g fd ps sp) (hr : Room (k + 1) X.A) (hb : Binds X.K fd ps []) (hx : Passes CX X E) : CallR X (.builtin "abs") (fun xs H Q => ∃ x, xs = [x] ∧ rOwn1 C sp E (fun _ => True) x H Q) := by
  intro pins s σ H xs us Q I rx h
  obtain ⟨x, rfl, a, dx, fs, rfl, ha, q⟩ := h
  obtain ⟨u, rfl, ru⟩ := vals1 rx
  cases (show u = Value.ref a from ru)
  obtain ⟨od, J⟩ := inst_at I ha
  refine abs_K I.kIn J hs hf ?_
  refine wpAny_mono (run_any (us := [.ref a]) (vs := [.ref a]) F hr.in1 I.env0.in1 hb hx I (.cons rfl .nil) q) (fun w s' z => ?_) fun _ _ e => e
  obtain ⟨z', H', I', rz, _, qz⟩ := z
  exact ⟨z', H', I', rz, qz⟩

def IsStr : V → Prop := fun z => ∃ y, z = .str y
theorem strback {Q : Value → Shared → Prop} {z : V} {u : Value} {s' : Shared} (hz : IsStr z) (r : RelV z u) (q : Q u s') : PySem.W.StrBack Q u s' := by
  obtain ⟨y, rfl⟩ := hz
  obtain ⟨t, rfl⟩ := (show ∃ t, u = Value.str y t from r)
  exact q
theorem call_reprO (hs : PySem.W.findIn X.K (.ref C) "__repr__" = some (some (.ref g))) (hf : PySem.W.isFn X.K (.ref g) = true)
    (F : FnOk X.prog X.w X.K X.mg X.base CX k g fd ps sp) (hr : Room (k + 1) X.A) (hb : Binds X.K fd ps []) (hx : Passes CX X E) : CallR X (.builtin "repr") (fun xs H Q => ∃ x, xs = [x] ∧ rOwn1 C sp E IsStr x H Q) := by
  intro pins s σ H xs us Q I rx h
  obtain ⟨x, rfl, a, dx, fs, rfl, ha, q⟩ := h
  obtain ⟨u, rfl, ru⟩ := vals1 rx
  cases (show u = Value.ref a from ru)
  obtain ⟨od, J⟩ := inst_at I ha
  obtain ⟨m, hF⟩ := I.fr
  refine PySem.W.repr_K hr.in1.units0 hF I.ok.mod.kin J hs hf ?_
  refine wpAny_mono (run_any (us := [.ref a]) (vs := [.ref a]) F hr.in1 I.env0.in1 hb hx I (.cons rfl .nil) q) (fun w s' z => ?_) fun _ _ e => e
  obtain ⟨z', H', I', rz, hz, qz⟩ := z
  exact strback hz rz ⟨z', H', I', rz, qz⟩
theorem call_strO (hs : PySem.W.findIn X.K (.ref C) "__str__" = some (some (.ref g))) (hf : PySem.W.isFn X.K (.ref g) = true)
    (F : FnOk X.prog X.w X.K X.mg X.base CX k g fd ps sp) (hr : Room (k + 2) X.A) (hb : Binds X.K fd ps []) (hx : Passes CX X E) : CallR X (.type "str") (fun xs H Q => ∃ x, xs = [x] ∧ rOwn1 C sp E IsStr x H Q) := by
  intro pins s σ H xs us Q I rx h
  obtain ⟨x, rfl, a, dx, fs, rfl, ha, q⟩ := h
  obtain ⟨u, rfl, ru⟩ := vals1 rx
  cases (show u = Value.ref a from ru)
  obtain ⟨od, J⟩ := inst_at I ha
  refine PySem.W.kso_call (room2 hr).units0 I.kIn J hs hf ?_
  refine wpAny_mono (run_any (us := [.ref a]) (vs := [.ref a]) F (room2 hr) I.env0.in1.in1 hb hx I (.cons rfl .nil) q) (fun w s' z => ?_) fun _ _ e => e
  obtain ⟨z', H', I', rz, hz, qz⟩ := z
  exact strback hz rz ⟨z', H', I', rz, qz⟩

open Builtin in
theorem bool_K {prog : Program} {w : World} {A : Around} {E : Value → Shared → Prop} {s : Shared} {K : PySem.W.Frag} {x C f : Addr} {ox : Obj} {od : Option Obj} {Q : Value → Shared → Prop} {m : Str → Option Value} {h₀ : Heap} {L : Addr} (F : PyProof.Rows.Fr h₀ L s.heap m) (Y : K.In h₀) (I : PySem.W.InstAt s.heap x ox C od)
    (hs : PySem.W.findIn K (.ref C) "__bool__" = some (some (.ref f))) (hf : PySem.W.isFn K (.ref f) = true)
    (h : wpAny (model prog w) A.in1.in1 (call (.ref f) [.ref x]) (PySem.W.BoolBack fun b s' => Q (.bool b) s') E s) : wpAny (model prog w) A (call (.type "bool") [.ref x]) Q E s := by
  refine callType_codes (T := "bool") (Bi := Builtin.«object.__init__») (Q₁ := fun r s₁ => ∃ y, r = .bool y ∧ Q r s₁) PySem.F.called_bool (PySem.F.typeCall_bool_1 _) PySem.F.entry_object_init ?_ ?_
  · refine codeAny_of_tree ?_
    show wpAny _ A.in1.in1 (do checkBuiltinCall "bool.__new__" ⟨[.type "bool", .ref x], []⟩; again (.builtin "bool.__new__" ⟨[.type "bool", .ref x], []⟩)) _ _ s
    refine wpAny_bind (wpAny_of_eq (PySem.F.newCall_bool_1 _) (wpAny_pure ⟨plainId_quiet (by decide +kernel) _, codeAny_builtin PySem.F.entry_bool_new ?_⟩))
    rw [Around.under_plainId (by decide +kernel) _]
    have key : wpAny (model prog w) A.in1.in1 (truthy (.ref x)) (fun b s₁ => Q (.bool b) s₁) E s := PySem.W.truthy_K F Y I hs hf h
    have f1 := PySem.F.conv_sub_bool
    obtain ⟨hp, gg, d, tk, os⟩ := s
    repeat (any_goals (first | assumption | (with_reducible refine wpAny_bind (wpAny_mono key (fun b s1 z => ?_) fun _ _ e => e)) | wp_step))
    all_goals first | exact ⟨_, rfl, z⟩ | exact ⟨_, rfl, _, rfl, z⟩ | skip
  · rintro obj s₁ ⟨y, rfl, hq⟩
    exact ⟨typeIs_bool _ _, PySem.F.args_object_init_2 _ _, object_init_meets PySem.F.called_bool.init.lookup PySem.F.called_bool.made (by decide) prog w A.in1 _ s₁ ⟨typeIs_bool _ _, rfl, hq⟩⟩
end
end OwnOps
end

-- OwnOps5
section
set_option Elab.async false
set_option linter.all false
set_option maxRecDepth 100000
namespace OwnOps
open PySem L2

section
variable {prog : Program} {w : World} {A : Around} {E : Value → Shared → Prop} {s : Shared} {K : PySem.W.Frag} {x C g : Addr} {ox : Obj} {od : Option Obj} {u : Value} {T : String}
/-- x op u by x's own def, u of a built-in type that is told by a look -/
theorem left_K {op : Operator} {fo ro rc : Option Value} {Q : Value → Shared → Prop} (Y : K.In s.heap) (I : PySem.W.InstAt s.heap x ox C od)
    (ht : PySem.W.Looks (model prog w) s.heap (typeOf u) (.type T)) (hc : PySem.W.selfFirst K C = true)
    (hs : PySem.W.findIn K (.ref C) (PySem.dunder op.info.2) = some (some (.ref g))) (hg : PySem.W.isFn K (.ref g) = true)
    (hrc : PySem.W.findIn K (.ref C) (PySem.dunderR op.info.2) = some rc) (hp : rc = none ∨ ∃ q : Addr, rc = some (.ref q))
    (hfo : PySem.W.findIn K (.type T) (PySem.dunder op.info.2) = some fo) (hro : PySem.W.findIn K (.type T) (PySem.dunderR op.info.2) = some ro) (hsub : PySem.W.subIn K (.type T) (.ref C) = some false)
    (h : wpAny (model prog w) A (call (.ref g) [.ref x, u]) (PySem.W.CmpBack Q) E s) : wpAny (model prog w) A (binaryOp op (.ref x) u) Q E s := by
  obtain ⟨dat, tl, hcd, hmro⟩ := PySem.W.ksp_first hc
  rcases hi : op.info with ⟨sy, nam⟩
  rw [hi] at hs hrc hfo hro
  dsimp only at hs hrc hfo hro
  have one := PySem.W.ksp_try Y I hs hg h
  obtain ⟨hh, gg, d, tt, os⟩ := s
  have M1 : PySem.W.Looks (model prog w) hh (typeOf (.ref x)) (.ref C) := I.type
  have M3 : PySem.W.Looks (model prog w) hh (fillsNumberSlot (.ref C) nam) true := PySem.W.fills_K Y hcd hmro hs
  have M4 : PySem.W.Looks (model prog w) hh (fillsNumberSlot (.type T) nam) ((fo.isSome && !isSeqSlot fo) || (ro.isSome && !isSeqSlot ro)) := PySem.W.ksp_fillsT Y hfo hro
  have M5 : PySem.W.Looks (model prog w) hh (isSubtype (.type T) (.ref C)) false := PySem.W.looks_subIn Y hsub
  have M6 : PySem.W.Looks (model prog w) hh (numberSlotInPython (.ref C) nam) true := PySem.W.ksp_inPy Y hs hrc hp
  have M7 : PySem.W.Looks (model prog w) hh (numberSlotInPython (.type T) nam) false := PySem.W.Looks.of_pure rfl
  have M8 : PySem.W.Looks (model prog w) hh (typeLookup (.type T) (PySem.dunderR nam)) ro := PySem.W.looks_findIn Y hro
  generalize ((fo.isSome && !isSeqSlot fo) || (ro.isSome && !isSeqSlot ro)) = fills at M4
  have differ : (Value.ref C == Value.type T) = false := Bool.eq_false_iff.mpr fun q => by cases beq_iff_eq.mp q
  simp only [binaryOp, hi]
  refine wpAny_holding (wpAny_bind ?_)
  unfold binaryOp1
  refine wpAny_bind (M1.at (wpAny_bind (ht.at (wpAny_bind (M3.at ?_)))))
  simp only [differ, Bool.false_eq_true, if_false]
  cases fills
  all_goals
    ksp_lk
    refine wpAny_mono one (fun r s' back => ?_) fun _ _ e => e
    obtain ⟨v, rfl, hq⟩ := back
    ksp_lk
    exact hq
end
end OwnOps
end

-- OwnNe
section
set_option Elab.async false
set_option linter.all false
set_option maxRecDepth 100000
/-! != of two lists that are equal item by item, by an own == too. -/
namespace OwnNe
open PySem PySem.SeqAt GQ
open AutoSeq1 (wpAny_loadPart')
open MeetsSeq MeetsSeq2 MeetsSeq3 SeqRoads2
section
variable {prog : Program} {w : World} {A : Around} {R : Result → Shared → Prop} {E : Value → Shared → Prop}
/-- the loop over the items, from i on: all are equal, so the answer is no -/
theorem loopN (l b : Addr) (N : Nat) (I : Nat → Shared → Prop) (hl : ListI prog w A (fun e s' => R (.error e) s') l b N I) (fin : ∀ s, I N s → R (.ok (.ret (.bool false))) s) :
    ∀ (k i : Nat), N - i = k → i ≤ N → ∀ s, I i s → wpAny (model prog w) A.in1 (Builtin.«list.__eq__.loop» ⟨[.ref l, .ref b, rawInt i, rawInt 3], []⟩) (FinOf prog w A R) (fun e s' => R (.error e) s') s
  | 0, i, hk, hi, s, h => by
    obtain ⟨xs, ys, n, n2, hl1, hb1, z1, z2, _⟩ := hl _ _ h
    have last : i = N := by omega
    have done : R (.ok (.ret (.bool false))) s := fin s (last ▸ h)
    obtain ⟨hp, g, d, tk, os⟩ := s
    wp_walk using wpAny_loadPart' hl1, wpAny_loadPart' hb1
    have no1 : xs[((i : Nat) : Int).toNat]? = none := by simp; omega
    have no2 : ys[((i : Nat) : Int).toNat]? = none := by simp; omega
    rw [no1, no2]
    wp_walk using wpAny_loadPart' hl1, wpAny_loadPart' hb1
    show R (.ok (.ret (.bool (xs.size != ys.size)))) _
    rw [z1, z2]
    simpa using done
  | k + 1, i, hk, hi, s, h => by
    obtain ⟨xs, ys, n, n2, hl1, hb1, z1, z2, one⟩ := hl _ _ h
    have lt1 : i < xs.size := by omega
    have lt2 : i < ys.size := by omega
    have here := one lt1 lt2
    obtain ⟨hp, g, d, tk, os⟩ := s
    wp_walk using wpAny_loadPart' hl1, wpAny_loadPart' hb1
    have is1 : xs[((i : Nat) : Int).toNat]? = some xs[i] := by simp [lt1]
    have is2 : ys[((i : Nat) : Int).toNat]? = some ys[i] := by simp [lt2]
    have up : ((i : Int) + 1) = ((i + 1 : Nat) : Int) := by omega
    rw [is1, is2]
    refine wpAny_bind (wpAny_mono here (fun r s2 q => ?_) fun _ _ x => x)
    obtain ⟨hr, q⟩ := q
    subst hr
    have rest := loopN l b N I hl fin k (i + 1) (by omega) (by omega) s2 q
    obtain ⟨hp2, g2, d2, tk2, os2⟩ := s2
    wp_walk
    rw [up]
    exact ⟨plainId_quiet plain_eq_loop _, codeAny_builtin entry_eq_loop (by rw [Around.under_plainId plain_eq_loop _] <;> exact rest)⟩
theorem listN (l b : Addr) (N : Nat) (I : Nat → Shared → Prop) (hl : ListI prog w A (fun e s' => R (.error e) s') l b N I) (fin : ∀ s, I N s → R (.ok (.ret (.bool false))) s) {s : Shared} (h : I 0 s) :
    wpAny (model prog w) A.in1 (Builtin.«list.__ne__» ⟨[.ref l, .ref b], []⟩) (FinOf prog w A R) (fun e s' => R (.error e) s') s := by
  obtain ⟨xs, ys, n, n2, hl1, hb1, z1, z2, _⟩ := hl _ _ h
  have rest := loopN (A := A) (R := R) l b N I hl fin _ 0 rfl (Nat.zero_le _) s h
  obtain ⟨hp, g, d, tk, os⟩ := s
  have sub := AutoSeq1.sub_list_list
  have same : ¬ (xs.size != ys.size) = true := by simp [z1, z2]
  wp_walk using wpAny_loadPart' hl1, wpAny_loadPart' hb1
  exact ⟨plainId_quiet plain_eq_loop _, codeAny_builtin entry_eq_loop (by rw [Around.under_plainId plain_eq_loop _] <;> exact rest)⟩
theorem rcN {l b : Addr} {N : Nat} {Q : Value → Shared → Prop} {s : Shared} (hu : A.units < cLine) (I : Nat → Shared → Prop) (hl : ListI prog w A E l b N I)
    (fin : ∀ s, I N s → Q (.bool false) s) (h : I 0 s) : wpAny (model prog w) A (richCompare .NotEq (.ref l) (.ref b)) Q E s := by
  obtain ⟨xs, ys, n, n2, hl1, hb1, _, _, _⟩ := hl _ _ h
  refine wpAny_richCompare_same_room (op := .NotEq) ⟨_, hl1, rfl⟩ ⟨_, hb1, rfl⟩ F.slot_list_ne (call_here F.slot_list_ne ⟨_, hl1, rfl⟩ F.entry_list_ne (F.args_list_ne_2 _ _) ?_) hu
  exact listN (R := wants (fun v s' => v ≠ .notImplemented ∧ Q v s') E) l b N I hl (fun s' q => ⟨(fun x => nomatch x), fin s' q⟩) h
end
open L2
/-- x != y of two lists, item by item equal -/
def rNeG (D : Eqv) : R2 := fun x y H Q => DList D x y H ∧ ∀ H', Ext H H' → Q (.bl false) H'
theorem op_neG {X : Cx} {n : Nat} {D : Eqv} (hD : Mon D) (h : EqG X n D) (hr : Room (n + 1) X.A) : OpR X (compareOp .NotEq) (rNeG D) := by
  intro pins s σ H x y v u Q I rx ry hq
  obtain ⟨⟨a, b, xs, ys, rfl, rfl, ha, hb, p⟩, q⟩ := hq
  cases rx
  cases ry
  have sb : Sub X (n + 1) X.A := ⟨hr, rfl⟩
  show wpAny (model X.prog X.w) X.A (richCompare .NotEq (.ref a) (.ref b)) (EP X pins σ Q) X.xe s
  refine rcN (N := xs.length) hr.units0 (fun _ s' => LoopI X pins σ H s') (fun i s' z => ?_) (fun s' ⟨H', I', e⟩ => ⟨.bl false, H', I', rfl, q H' e⟩) ⟨H, I, Ext.rfl'⟩
  obtain ⟨H1, I1, e1⟩ := id z
  obtain ⟨zz, its, k, r, e⟩ := I1.hok a _ (e1 _ _ ha)
  obtain ⟨zz2, its2, k2, r2, e2⟩ := I1.hok b _ (e1 _ _ hb)
  refine ⟨its.toArray, its2.toArray, k, k2, e, e2, by rw [List.size_toArray, ← r.length], by rw [List.size_toArray, ← r2.length, ← p.1], fun h1 h2 => ?_⟩
  exact turnG hD h sb p r r2 i h1 h2 s' z
/-- the same thing -/
def DSame : Eqv := fun x y _ => x = y ∧ ∃ a, x = .ref a
theorem mon_same : Mon DSame := fun _ _ _ _ _ d => d
theorem eqG_same {X : Cx} {n : Nat} : EqG X n DSame := by
  intro A pins s σ H x y u v sb I rx ry d
  obtain ⟨rfl, a, rfl⟩ := d
  cases rx
  cases ry
  exact SeqAt.EqAt.same (A := A) (s := s) (.ref a) X.prog X.w X.xe _ ⟨rfl, H, I, Ext.rfl'⟩
end OwnNe
end

-- GivErr
section
set_option Elab.async false
set_option linter.all false
set_option maxRecDepth 100000
set_option maxHeartbeats 2000000
/-! An own error class, over any of three built-in ones, that keeps its one argument in the field `given`. -/
namespace PySem
namespace Giv
open PySem.W PySem.Calls PyProof.Rows PySem.HandSPX Builtin Builtin.ObjectAttr
/-- own classes, then the given tail -/
def tailIs (bt : List Value) : List Value → Bool
  | .ref _ :: r => tailIs bt r
  | l => l == bt
theorem tail_cases (bt : List Value) : ∀ l : List Value, tailIs bt l = true → (∃ c r, l = .ref c :: r ∧ tailIs bt r = true) ∨ l = bt := fun l e => by
  cases l with
  | nil => exact .inr (beq_iff_eq.mp e)
  | cons a r => cases a <;> first | exact .inl ⟨_, _, rfl, e⟩ | exact .inr (beq_iff_eq.mp e)
theorem tail_pass {bt : List Value} (hb : ∀ self, refuseLoop self "__setattr__" bt = pure ()) (self : Value) : ∀ l : List Value, tailIs bt l = true → refuseLoop self "__setattr__" l = pure () := fun l => by
  induction l with
  | nil => intro e; rcases tail_cases bt _ e with ⟨_, _, q, _⟩ | q; cases q; rw [q]; exact hb self
  | cons a r ih =>
    intro e
    rcases tail_cases bt (a :: r) e with ⟨c, r', q, h⟩ | q
    · cases q; rw [refuseLoop_ref]; exact ih h
    · rw [q]; exact hb self
theorem tail_has {bt : List Value} (Y : String) : ∀ l : List Value, tailIs bt l = true → l.contains (.type Y) = bt.contains (.type Y) := fun l => by
  induction l with
  | nil => intro e; rcases tail_cases bt _ e with ⟨_, _, q, _⟩ | q; cases q; rw [q]
  | cons a r ih =>
    intro e
    rcases tail_cases bt (a :: r) e with ⟨c, r', q, h⟩ | q
    · cases q; rw [List.contains_cons, ih h]; rfl
    · rw [q]
/-- what is used of the built-in base -/
structure BaseOk (B newId initId : String) (bt : List Value) : Prop where
  facts : ExcBaseFacts B newId initId bt
  pass : ∀ self, refuseLoop self "__setattr__" bt = pure ()
  obj : bt.contains (.type "object") = true
theorem ok_VE : BaseOk "ValueError" "ValueError.__new__" "ValueError.__init__" [.type "ValueError", .type "Exception", .type "BaseException", .type "object"] :=
  ⟨F.excBase_ValueError, fun self => F.store_ValueError.passes self, by decide +kernel⟩
theorem ok_ZD : BaseOk "ZeroDivisionError" "ZeroDivisionError.__new__" "ZeroDivisionError.__init__" [.type "ZeroDivisionError", .type "ArithmeticError", .type "Exception", .type "BaseException", .type "object"] :=
  ⟨F.excBase_ZeroDivisionError, fun self => F.store_ZeroDivisionError.passes self, by decide +kernel⟩

section
variable {prog : Program} {w : World} {A : Around} {E : Value → Shared → Prop} {R : Result → Shared → Prop} {hp : Heap} {g : Array GenState} {d : Drawn} {t : Nat} {os : OsState}
/-- self.name = v on a new exception -/
theorem osa_giv {K : W.Frag} {name : Str} {tk : Tok} {v : Value} {x C : Addr} {fv : Array Value} {cd : ClassData} {bt bm : List Value} (hb : ∀ self, refuseLoop self "__setattr__" bt = pure ()) (hbo : bt.contains (.type "object") = true)
    (Y : K.In hp) (hx : hp.get? x = some { cls := .ref C, data := .fields fv }) (hcd : W.clsIn K C = some cd) (hm : cd.mro = .ref C :: bm) (htl : tailIs bt bm = true) (hh : cd.hasDict = true) (hno : W.findIn K (.ref C) name = some none)
    (fin : ∀ h' tk' dx, (∀ b o, b ≠ x → hp.get? b = some o → h'.get? b = some o) → hp.objs.size ≤ dx → dx ≠ x → h'.get? x = some { cls := .ref C, dict := some dx, data := .fields fv } →
      h'.Ns1 dx (fun y => if y = name then some v else none) → R (.ok (.ret .none)) ⟨h', g, d, tk', os⟩) :
    codeAny (model prog w) A (.call (.builtin "object.__setattr__") ⟨[.ref x, .str name tk, v], []⟩) R ⟨hp, g, d, t, os⟩ := by
  have J : W.InstAt hp x { cls := .ref C, data := .fields fv } C none := ⟨hx, rfl, rfl, trivial⟩
  have SO := F.store_object
  have htail : tailIs bt cd.mro = true := by rw [hm]; exact htl
  have hob2 : cd.mro.contains (.type "object") = true := by rw [tail_has "object" _ htail]; exact hbo
  have hemp : cd.mro.isEmpty = false := by rw [hm]; rfl
  have apart : x ≠ hp.objs.size := Nat.ne_of_lt (Heap.lt_size hx)
  have Lsub : W.Looks (model prog w) hp (isInstance (.ref x) (.type "object")) true :=
    J.type.andThen (W.looks_mroIn Y (by unfold W.mroIn; rw [hcd, Option.bind_some, if_neg (by rw [hemp]; decide), hob2]))
  refine codeAny_call_builtin SO.slot.plain SO.entry (@W.check_slot (model prog w) _ _ ⟨hp, g, d, t, os⟩ "object.__setattr__" "object" "__setattr__" (.ref x)
    [.str name tk, v] [] _ SO.kind SO.split Lsub (SO.args (.ref x) (.str name tk) v) ?_)
  have Lmro : W.Looks (model prog w) hp (mroOf (.ref C)) cd.mro := (W.looks_clsIn Y hcd).andThen .now
  have Lno : W.Looks (model prog w) hp (storeTaker? none) none := .now
  have Lcd : W.Looks (model prog w) hp (classData C) cd := W.looks_clsIn Y hcd
  rw [W.osa_eq, refuse_eq]
  refine wpAny_bind (wpAny_bind (J.type.at (wpAny_bind (Lmro.at ?_))))
  rw [tail_pass hb _ _ htail]
  refine wpAny_pure (wpAny_bind (J.type.at (wpAny_bind ((W.looks_findIn Y hno).at (wpAny_bind (Lno.at ?_))))))
  show wpAny _ _ (storeInOwnDict (.ref x) (.ref C) (.str name tk) name v false) _ _ _
  obtain ⟨c1, c2, c3, c4, c5, c6, c7, c8, c9, c10, c11⟩ := cd
  dsimp only at hh
  subst hh
  unfold storeInOwnDict ownDictForStores
  repeat (first | (with_reducible refine store_in_new ?_ ?_) | (with_reducible refine wpAny_loadPart_at hx ?_) | (with_reducible refine Lcd.at ?_) | wp_step)
  · exact ⟨_, #[], _, (Heap.get?_update_ne _ _ _ _ apart.symm).trans (Heap.get?_push_at rfl rfl), rfl, fun e he => absurd he (by simp), fun _ => rfl⟩
  · intro h' tk' hn' hs
    have hx1 : (hp.push { cls := .type "dict", data := .dict #[] }).get? x = some { cls := .ref C, data := .fields fv } := Heap.get?_push_of_some _ hx
    refine fin h' tk' hp.objs.size (fun b o hb ho => ?_) (Nat.le_refl _) apart.symm ?_ hn'
    · exact (hs.2 b (Nat.ne_of_lt (Heap.lt_size ho))).trans ((Heap.get?_update_ne _ _ _ _ hb).trans (Heap.get?_push_of_some _ ho))
    · exact (hs.2 x apart).trans (Heap.get?_update_self _ hx1 rfl)
end

/-! ### the text of __init__ -/
def gA (p1 p2 : Pos) : Arguments := { posonlyargs := [], args := [{ arg := "self", annotation := none, pos := p1 }, { arg := "given", annotation := none, pos := p2 }], vararg := none, kwonlyargs := [], kw_defaults := [], kwarg := none, defaults := [] }
def gB (q1 q2 q3 q4 : Pos) : List Stmt := [.Assign [.Attribute (.Name "self" q1) "given" q2] (.Name "given" q3) q4]
def gS : Scope := { kind := .function, names := [(PySem.Str.ofString "self", .local), (PySem.Str.ofString "given", .local)], isGenerator := false, isCoroutine := false, more := [] }
/-- what the written part says of the class called cn, at C, and of its __init__, at fI -/
structure ErrTxt (K : Frag) (mg : Str → Option Value) (cn qn : Str) (newId : String) (bt : List Value) (C fI : Addr) : Prop where
  gC : mg cn = some (.ref C)
  cls : ∃ nm q N bs bm sn sub ab col dd k0 k1 k2 k3 k5, K.lookup C = some (excClassObj nm q C N bs bm true sn sub ab col dd k0 k1 k2 k3 k5 newId) ∧ tailIs bt bm = true
  sa : findIn K (.ref C) "__setattr__" = some (some (.builtin "object.__setattr__"))
  ga : findIn K (.ref C) "__getattribute__" = some (some (.builtin "BaseException.__getattribute__"))
  gg : findIn K (.ref C) "__getattr__" = some none
  noN : findIn K (.ref C) "given" = some none
  iC : findIn K (.ref C) "__init__" = some (some (.ref fI))
  tC : typeIn K (.ref fI) = some (.type "function")
  kC : keepIn K (.ref C) = true
  exC : subIn K (.ref C) (.type "BaseException") = some true
  tyC : typeIn K (.ref C) = some (.type "type")
  hdC : hasDictIn K C = true
  te : exmOne K (.ref C) (.ref C) = some true
  fn : ∃ (oc : Value) (od : Option Addr) (doc pm : Value) (an : Option Addr) (cdv ct : Value) (osl : Array (Option Value)) (p1 p2 q1 q2 q3 q4 : Pos),
    K.lookup fI = some ⟨oc, od, .func (fnOf "__init__" qn (gA p1 p2) (gB q1 q2 q3 q4) gS .none .none doc pm an cdv ct), osl⟩ ∧ codeIn K cdv qn = true
theorem one_fits (v : Value) : [v].length ≤ sizeLine := by
  rw [sizeLine_eq]
  exact (by decide : 1 ≤ 16777216)
theorem ldG {M : Model} {s : Shared} {name : Str} {scope : Scope} {L a : Addr} {cd : Value} {m : Str → Option Value} {x : Str} {pos : Pos} {v : Value} {Q : Value → Shared → Prop} {A : Around} {E : Value → Shared → Prop} (hn : s.heap.Ns L m) (hv : m x = some v) (h : Q v s)
    (hk : scope.kind = .function := by rfl) (hl : (envOfC name scope L a cd).kindOf x = some .local := by rfl) (hd : (x == ("__debug__" : Str)) = false := by decide) :
    wpAny M A (eval (.Name x pos) (envOfC name scope L a cd)) Q E s := wpAny_Name (wpAny_loadName_local hk hl hn hv h) hd
/-- what __init__ leaves -/
structure GivEnd (h h' : Heap) (x C dx t1 : Addr) (v : Value) : Prop where
  keep : ∀ b o, b ≠ x → h.get? b = some o → h'.get? b = some o
  obj : h'.get? x = some { cls := .ref C, dict := some dx, data := .fields #[.ref t1, .none, .none, .none, .bool false, .none] }
  dbig : h.objs.size ≤ dx
  dne : dx ≠ x
  ns : h'.Ns1 dx (fun y => if y = "given" then some v else none)
/-- a made one -/
structure GivMade (h h' : Heap) (e C d : Addr) (v : Value) : Prop where
  keep : ∀ b o, h.get? b = some o → h'.get? b = some o
  new : h.objs.size ≤ e
  obj : ∃ oe vs, h'.get? e = some oe ∧ oe.cls = .ref C ∧ oe.dict = some d ∧ oe.data = .fields vs ∧ vs[1]? = some .none
  dbig : h.objs.size ≤ d
  dne : d ≠ e
  ns : h'.Ns1 d (fun y => if y = "given" then some v else none)
section
variable {prog : Program} {w : World} {A : Around} {E : Value → Shared → Prop} {R : Result → Shared → Prop} {s : Shared} {K : Frag} {mg : Str → Option Value} {C fI : Addr} {cn qn : Str} {B newId initId : String} {bt : List Value}
theorem giv_init (Z : BaseOk B newId initId bt) (T : ErrTxt K mg cn qn newId bt C fI) {x t0 : Addr} {v : Value} (X : K.In s.heap) (hlim : s.heap.NoLimit) (hx : s.heap.get? x = some (excO C t0)) (hroom : A.depth < recursionLimit)
    (hq : ∀ h' tk dx, GivEnd s.heap h' x C dx t0 v → R (.ok (.ret .none)) { s with heap := h', toks := tk }) :
    codeAny (model prog w) A (.call (.ref fI) ⟨[.ref x, v], []⟩) R s := by
  obtain ⟨oc, od, doc, pm, an, cdv, ct, osl, p1, p2, q1, q2, q3, q4, ho, hcd⟩ := T.fn
  obtain ⟨nm, q, N, bs, bm, sn, sub, ab, col, dd, k0, k1, k2, k3, k5, hC, hbm⟩ := T.cls
  have hcl : clsIn K C = some { name := nm, bases := bs, mro := .ref C :: bm, ns := N, qualname := q, hasDict := true, slotNames := sn, subclasses := sub, abstract := ab, collection := col, hasDel := false } := by unfold clsIn; rw [hC] <;> rfl
  refine Att.call_fn (binds := [("self", .ref x), ("given", v)]) X hlim ho hcd hroom (BindsTo.of_eq (by first | rfl | with_unfolding_all rfl)) (by first | rfl | decide | with_unfolding_all rfl) (fun s₁ IC => ?_) rfl rfl rfl
  obtain ⟨h₁, tk₁, rfl⟩ := IC.toInCall.same
  have k : ∀ b o, s.heap.get? b = some o → h₁.get? b = some o := IC.toInCall.keep
  have hn := IC.toInCall.ns
  have X₁ : K.In h₁ := X.keeps k
  have hx₁ := k _ _ hx
  show wpAny _ _ (execs _ _) _ _ _
  refine wpAny_execs_cons (plainObj_wpAny_Assign_Attribute ?_)
  refine ldG (v := v) hn (by first | rfl | with_unfolding_all rfl | kernel_rfl) (ldG (v := .ref x) hn (by first | rfl | with_unfolding_all rfl | kernel_rfl) ?_)
  refine set_plain X₁ (ox := excO C t0) (od := none) ⟨hx₁, rfl, rfl, trivial⟩ T.sa ?_
  refine osa_giv Z.pass Z.obj X₁ hx₁ hcl rfl hbm rfl T.noN (fun h₃ tk₃ dx k₃ dn dne hx₃ hn₃ => ?_)
  show wpAny _ _ (execs _ _) _ _ _
  have z : s.heap.objs.size < h₁.objs.size := hn.lt
  exact wpAny_execs_nil (hq h₃ tk₃ dx ⟨fun b o hb e => k₃ b o hb (k b o e), hx₃, Nat.le_of_lt (Nat.lt_of_lt_of_le z dn), dne, hn₃⟩)
theorem giv_made (Z : BaseOk B newId initId bt) (T : ErrTxt K mg cn qn newId bt C fI) {v : Value} (X : K.In s.heap) (hlim : s.heap.NoLimit) (hroom : A.depth + 1 < recursionLimit)
    (hq : ∀ h' tk e d, GivMade s.heap h' e C d v → R (.ok (.ret (.ref e))) { s with heap := h', toks := tk }) :
    codeAny (model prog w) A (.call (.ref C) ⟨[v], []⟩) R s := by
  obtain ⟨nm, q, N, bs, bm, sn, sub, ab, col, dd, k0, k1, k2, k3, k5, hC, hbm⟩ := T.cls
  obtain ⟨hp, g, dr, tk, os⟩ := s
  have k : ∀ b o, hp.get? b = some o → ((hp.push (kdv_tup [v])).push (excO C hp.objs.size)).get? b = some o := fun b o e => Heap.get?_push_of_some _ (Heap.get?_push_of_some _ e)
  have hget : ((hp.push (kdv_tup [v])).push (excO C hp.objs.size)).get? (hp.objs.size + 1) = some (excO C hp.objs.size) := by heap_get
  refine call_own Z.facts (fun X => tail_has X bm hbm) (X _ _ hC) (looks_findIn X T.iC) (fun self => bind_fn X self T.tC) (one_fits v) ?_
  refine giv_init (s := ⟨(hp.push (kdv_tup [v])).push (excO C hp.objs.size), g, dr, tk, os⟩) Z T (X.keeps k) (hlim.keeps k) hget ?_ fun h' tk' dx ⟨k', hx, dn, dne, hns⟩ => ?_
  · show A.depth + 1 < recursionLimit
    exact hroom
  · have old : ∀ b o, hp.get? b = some o → h'.get? b = some o := fun b o e => k' b o (Nat.ne_of_lt (Nat.lt_succ_of_lt (Heap.lt_size e))) (k b o e)
    have z : hp.objs.size + 1 + 1 ≤ dx := by
      first
        | (simpa only [Heap.size_push] using dn)
        | exact dn
        | (have q := dn; rw [Heap.size_push, Heap.size_push] at q; exact q)
    exact ⟨rfl, hq h' tk' (hp.objs.size + 1) dx ⟨old, Nat.le_succ _, ⟨_, _, hx, rfl, rfl, rfl, rfl⟩, Nat.le_trans (Nat.le_trans (Nat.le_succ _) (Nat.le_succ _)) z, dne, hns⟩⟩
end
end Giv
end PySem
end

-- GivErr2
section
set_option Elab.async false
set_option linter.all false
set_option maxRecDepth 100000
set_option maxHeartbeats 2000000
namespace L2
open PySem PySem.Spec PyProof.Rows
theorem relO_giv {v : V} {v' : Value} (r : RelV v v') (f : Str) : RelO (List.lookup f [(("given" : Str), v)]) (if f = "given" then some v' else none) := by
  by_cases hw : f = "given"
  · subst hw
    rw [if_pos rfl]
    have q : List.lookup ("given" : Str) [(("given" : Str), v)] = some v := by simp [List.lookup]
    rw [q]
    exact r
  · rw [if_neg hw]
    have qw : (f == ("given" : Str)) = false := by simpa using hw
    have q2 : List.lookup f [(("given" : Str), v)] = none := by simp [List.lookup, qw]
    rw [q2]
    trivial
section
variable {X : Cx} {C fI : Addr} {cn qn : Str} {B newId initId : String} {bt : List Value}
/-- Err(e) -/
def tMkGiv (C : Addr) (ta : TA) : L2.St → Hp → XK → Prop := fun σ H Q => ta σ H fun vs H1 => ∃ v, vs = [v] ∧ ∀ d, H1 d = none → Q (.ref C) (some d) (upd H1 d (.xd [(("given" : Str), v)]))
theorem pmk_giv {a : Expr} {ta : TA} {p pos : Pos} {k : Nat} (Z : PySem.Giv.BaseOk B newId initId bt) (T : PySem.Giv.ErrTxt X.K X.mg cn qn newId bt C fI) (hr : Room k X.A) (ha : PA X [a] ta) (hg : Gl X cn) (hdb : (cn == ("__debug__" : Str)) = false)
    (he : starEach (a :: []) X.env = (false, eval a X.env) :: starEach [] X.env := by rfl) (hpl : (backTo pos (starEach [] X.env)).any (·.1) = false := by rfl) :
    PMk X (.Call (.Name cn p) [a] [] pos) (tMkGiv C ta) := by
  intro pins s σ H Q I h
  refine wpAny_Call_Name_kw (ld_glob I hg T.gC ?_ hdb)
  refine PySem.W.callWith_K (h₀ := X.base) I.ok.mod.kin T.kC (thn (ha.run pos pins s σ H _ I h) fun us s1 hh => ?_) he hpl
  obtain ⟨vs, H1, I1, r1, v, ev, q1⟩ := hh
  subst ev
  refine ⟨I1.kIn, ?_⟩
  cases r1 with
  | cons rv rn =>
    rename_i v' us'
    cases rn
    show wpAny _ _ (call (.ref C) [v']) _ _ _
    have hlim := I1.nolimit
    obtain ⟨hp, g, dr, tk, os⟩ := s1
    refine wpAny_call (PySem.Giv.giv_made Z T I1.kIn hlim (by have := hr.dp; omega) fun h' tk' e d M => ?_)
    show MkP X pins σ Q (.ref e) ⟨h', g, dr, tk', os⟩
    obtain ⟨oe, fv, hoe, hc, hd, hdat, h1⟩ := M.obj
    have hns := M.ns
    obtain ⟨G', g1, g2⟩ := restrict h' fun b => decide (b ≠ e)
    have gk : ∀ b, b ≠ e → G'.get? b = h'.get? b := fun b hb => g1 b (decide_eq_true hb)
    have ge : G'.get? e = none := g2 e (by simp)
    have old : ∀ b o, hp.get? b = some o → G'.get? b = some o := fun b o q => (gk b (Nat.ne_of_lt (Nat.lt_of_lt_of_le (Heap.lt_size q) M.new))).trans (M.keep b o q)
    have ob : ObjOk X.prog X.w (upd H1 d (.xd [(("given" : Str), v)])) G' d (.xd [(("given" : Str), v)]) :=
      ⟨_, hns.at (fun o q => (gk d M.dne).trans q), fun f => relO_giv rv f⟩
    have J : L2.Inv X pins σ (upd H1 d (.xd [(("given" : Str), v)])) ⟨G', g, dr, tk', os⟩ := I1.laid (t' := tk') old M.dbig ob
    refine ⟨e, oe, fv, ⟨G', g, dr, tk', os⟩, _, .ref C, some d, rfl, J, fun b o q => ?_, ge, hoe, ⟨hc, hd⟩, hdat, h1, ?_, rfl, I1.bare, raises_own T.exC T.tyC, q1 d (I1.hok.fresh M.dbig)⟩
    · by_cases hb : b = e
      · have q' : G'.get? b = some o := q
        rw [hb, ge] at q'; cases q'
      · exact (gk b hb).symm.trans q
    · rw [upd_ne (Ne.symm M.dne)]
      exact I1.hok.fresh M.new
/-- raise Err(e) -/
def tRaiseGiv (C : Addr) (W : WX) (ta : TA) : TS := fun _ σ H => tMkGiv C ta σ H fun cls d H' => W cls d σ H'
theorem ps_raiseGiv {a : Expr} {ta : TA} {W : WX} {p pos pos2 : Pos} {k : Nat} (hc : X.calm = true) (Z : PySem.Giv.BaseOk B newId initId bt) (T : PySem.Giv.ErrTxt X.K X.mg cn qn newId bt C fI) (hr : Room k X.A) (tk : Takes X W) (ha : PA X [a] ta) (hg : Gl X cn) (hdb : (cn == ("__debug__" : Str)) = false := by decide)
    (he : starEach (a :: []) X.env = (false, eval a X.env) :: starEach [] X.env := by rfl) (hpl : (backTo pos (starEach [] X.env)).any (·.1) = false := by rfl) :
    PS X (.Raise (some (.Call (.Name cn p) [a] [] pos)) none pos2) (tRaiseGiv C W ta) := ps_raise hc tk (pmk_giv Z T hr ha hg hdb he hpl)
/-- err.given, err the exception that the suite holds (at a; its class cls, its dict d) -/
def tByGiv (C : Addr) (a : Addr) (cls : Value) (d : Option Addr) (te : TE) : TE := fun σ H Q => te σ H fun x H1 => x = .ref a ∧ cls = .ref C ∧ ∃ (dd : Addr) (v : V), d = some dd ∧ H1 dd = some (.xd [(("given" : Str), v)]) ∧ Q v H1
theorem pe_byGiv {a : Addr} {oe : Obj} {cls : Value} {d : Option Addr} {pn : List (Addr × Obj)} {e : Expr} {te : TE} {pos : Pos} (T : PySem.Giv.ErrTxt X.K X.mg cn qn newId bt C fI) (hz : Zc cls d oe) (hf : ∃ vs, oe.data = .fields vs) (he : PE (X.suite a ((a, oe) :: pn)) e te)
    (hb : attributeBase e "given" X.env (eval e X.env) = eval e X.env := by rfl) :
    PE (X.suite a ((a, oe) :: pn)) (.Attribute e "given" pos) (tByGiv C a cls d te) := by
  refine ⟨fun pins s σ H Q I h => ?_⟩
  refine attr_of hb (thn (he.run pins s σ H _ I h) fun u s1 hh => ?_)
  obtain ⟨x, H1, I1, rx, ex, ec, dd, v, ed, ea, q⟩ := hh
  subst ex
  obtain rfl : u = Value.ref a := rx
  subst ec
  subst ed
  obtain ⟨ha, _⟩ := I1.pin (a, oe) (List.mem_append_left _ List.mem_cons_self)
  obtain ⟨vs, hd⟩ := hf
  have hx : ObjOk X.prog X.w H1 s1.heap dd (.xd [(("given" : Str), v)]) := I1.hok dd _ ea
  obtain ⟨mA, hns, hr⟩ := hx
  obtain ⟨od, ho, hl⟩ := lookIn_ns hns
  have l : List.lookup ("given" : Str) [(("given" : Str), v)] = some v := by simp [List.lookup]
  obtain ⟨u, hu, ru⟩ := RelO.some_of (v := v) (o := mA "given") (by rw [← l]; exact hr "given")
  have J : PySem.W.InstAt s1.heap a oe C (some od) := ⟨ha, hz.1, by unfold PySem.W.notCls; rw [hd] <;> rfl, by rw [hz.2]; exact ho⟩
  exact HandSPX.exc_get I1.kIn J T.ga T.gg T.exC (PySem.W.findObj_own T.hdC T.noN rfl (by rw [hl, hu])) (handed_of ru) ⟨v, H1, I1.tok _, ru, q⟩
end
end L2
end

-- TryAs
section
set_option Elab.async false
set_option linter.all false
set_option maxRecDepth 100000
/-! try: with several clauses «except X as n». -/
namespace TryAs
open PySem L2
/-- the ends of a clause's suite: slot i is emptied on every way out -/
def endsAs (D : Ends) (i : Nat) : Ends where
  nx := fun t K => D.nx (t.set i none) K
  rt := D.rt
  bk := fun t K => D.bk (t.set i none) K
  ct := fun t K => D.ct (t.set i none) K
abbrev Cl := Value × Nat × (Addr → Value → Option Addr → TS)
def wAll (K : PySem.W.Frag) (Wout : WX) (D : Ends) : List Cl → WX
  | [] => Wout
  | (c, i, ts) :: r => fun cls d σ H => ∃ b, PySem.W.exmOne K cls c = some b ∧
      (b = true → ∀ a, H a = none → ts a cls d (endsAs D i) (σ.set i (some (.ref a))) H) ∧ (b = false → wAll K Wout D r cls d σ H)
inductive Clauses (X : Cx) : List ExceptHandler → List Cl → Prop
  | nil : Clauses X [] []
  | cons {x n : Str} {c : Value} {i : Nat} {ts : Addr → Value → Option Addr → TS} {fst : Stmt} {suite : List Stmt} {np hpos : Pos} {hds : List ExceptHandler} {l : List Cl}
      (at_ : X.N[i]? = some n) (loc : X.env.kindOf n = some .local) (nam : Names X x c)
      (run : ∀ (a : Addr) (oe : Obj) (cls : Value) (d : Option Addr) (pn : List (Addr × Obj)), Zc cls d oe → (∃ vs, oe.data = .fields vs) → PSs (X.suite a ((a, oe) :: pn)) (fst :: suite) (ts a cls d))
      (more : Clauses X hds l) : Clauses X (.ExceptHandler (some (.Name x np)) (some n) (fst :: suite) hpos :: hds) ((c, i, ts) :: l)
section
variable {X : Cx} {body : List Stmt} {hd0 : ExceptHandler} {hds : List ExceptHandler} {l : List Cl} {pos : Pos} {tb : WX → TS} {Wout : WX}
theorem ps_try_all (stk : X.stack = X.env :: X.outer) (frm : X.env.frame = some X.env.locals) (nod : X.N.Nodup) (tk : Takes X Wout)
    (hb : ∀ (W : WX) (pn : List (Addr × Obj)) (xe : Value → Shared → Prop), Takes (X.tr pn xe) W → PassesOwn (model X.prog X.w) X.A X.env xe → PSs (X.tr pn xe) body (tb W))
    (cl : Clauses X (hd0 :: hds) l) : PS X (.Try body (hd0 :: hds) [] [] pos) (fun D σ H => tb (wAll X.K Wout D l) D σ H) := by
  constructor
  intro pins s σ H D I h
  have okX := I.ok
  have frs2 : X.A.frames = some (X.env :: X.outer) := by rw [okX.frames, stk]
  refine wpAny_Try_except ?_
  refine wpAny_mono ((hb (wAll X.K Wout D l) (X.pn ++ pins)
    (fun e s₁ => wpAny (model X.prog X.w) X.A (noteFrame e X.env)
      (fun _ s₂ => wpAny (model X.prog X.w) X.A (setFlight e none)
        (fun _ s₃ => wpAny (model X.prog X.w) X.A (handleBy e X.env (hd0 :: hds)) (SP X pins D) X.xe s₃) X.xe s₂) X.xe s₁)
    (fun u s' xx => ?_) PassesOwn.looking).run [] s σ H D (I.toTry _) h) (fun f s1 hsp => ?_) (fun e s1 he => he)
  · obtain ⟨a, B, sI, pins1, σ1, H1, cls, d, rfl, J0, nb, up, sky, na, os, ag, w⟩ := xx
    have J1 : L2.Inv X pins σ1 H1 sI := J0.ofTry okX
    have sky1 : Sky B (X.env :: X.outer) a (Zc cls d) X.env.locals s'.heap := by rw [← stk]; exact sky
    show wpAny (model X.prog X.w) X.A (noteFrame (.ref a) X.env) _ _ _
    refine Sky.land Zc.steady frs2 frm sky1 fun h3 fl3 up3 => ?_
    have J3 : L2.Inv X pins σ1 H1 { s' with heap := h3 } := J1.landed nb fl3.1 (up.trans up3) os ag
    obtain ⟨oe3, vs3, he3, hz3, hd3⟩ := fl3.there
    have apart : a ∉ frs (X.env :: X.outer) := fun hm => by
      obtain ⟨_, o', e', hnf⟩ := fl3.2.2.1.mem hm
      have q : some o' = some oe3 := e'.symm.trans he3
      cases q
      exact hnf _ hd3
    have notL : a ≠ X.env.locals := fun z => apart (List.mem_filterMap.mpr ⟨X.env, List.mem_cons_self, by rw [frm, z]⟩)
    have notF : a ∉ X.fs := fun hm => by
      obtain ⟨e, he, q⟩ := List.mem_filterMap.mp hm
      exact apart (List.mem_filterMap.mpr ⟨e, List.mem_cons_of_mem _ he, q⟩)
    have S3 := J3.suite he3 hd3 na notL notF
    have go : ∀ {hs2 : List ExceptHandler} {l2 : List Cl}, Clauses X hs2 l2 → wAll X.K Wout D l2 cls d σ1 H1 →
        wpAny (model X.prog X.w) X.A (handleBy (.ref a) X.env hs2) (SP X pins D) X.xe { s' with heap := h3 } := by
      intro hs2 l2 hk
      induction hk with
      | nil =>
        intro w
        refine wpAny_handleBy_nil ?_
        obtain ⟨k1, k2, k3, oe, vs, T, oT, ts', he, hz, hd, h1, hr⟩ := id fl3
        unfold PySem.passOn
        refine wpAny_bind (wpAny_field he hd h1 ?_)
        have tn : ¬ ((Value.ref T == Value.none) = true) := by simp
        rw [if_neg tn]
        have fin : wpAny (model X.prog X.w) X.A (setFlight (.ref a) X.env.frame) (fun _ s4 => wpAny (model X.prog X.w) X.A (throw (.ref a) : Sem Flow) (SP X pins D) X.xe s4) X.xe { s' with heap := h3 } := by
          rw [frm]
          refine HandSPX.setFlight_upZ fl3 fun h4 hh4 up4 => wpAny_throw (tk _ _ ?_)
          exact ⟨a, B, sI, pins, σ1, H1, cls, d, rfl, J1, nb, (up.trans up3).trans up4, .inr (.inr (by rw [stk]; exact hh4)), na, os, ag, w⟩
        first | exact (wpAny_bind (wpAny_pure (wpAny_bind fin))) | exact (wpAny_bind fin)
      | @cons x n c i ts fst suite np hpos hs3 l3 at_ loc nam run more ih =>
        intro w
        obtain ⟨b, hb1, yes, no⟩ := w
        have slot : Loc X.env.scope n := .inl loc
        refine wpAny_handleBy_cons (codeAny_handlers_test ?_) (by intro q; cases q)
        have Lty : PySem.W.Looks (model X.prog X.w) h3 (typeOf (.ref a)) cls := fun A Q E s k q => wpAny_typeOf_ref (k _ _ he3) (by rw [hz3.1]; exact q)
        have Lex := PySem.W.exm_one (M := model X.prog X.w) (J3.kIn) Lty hb1
        have tst : ∀ {Q : Value → Shared → Prop} {E : Value → Shared → Prop}, Q c { s' with heap := h3 } → wpAny (model X.prog X.w) (X.A.mark (some (.ref a))) (eval (.Name x np) X.env) Q E { s' with heap := h3 } := fun {Q E} q => by
          obtain ⟨hg, ndb, hm | ⟨hm, hv, nn⟩⟩ := nam
          · exact (ld_glob (X := X.suite a ((a, oe3) :: (X.pn ++ pins))) S3 hg hm q ndb)
          · exact (ld_blt (X := X.suite a ((a, oe3) :: (X.pn ++ pins))) S3 hg hm hv q nn ndb)
        refine tst (Lex.here ?_)
        cases b with
        | true =>
          refine codeAny_handlers_suite_as ?_
          refine HandSPX.lands_againZ fl3 fun h4 fl4 up4 => ?_
          have J4 : L2.Inv X pins σ1 H1 { s' with heap := h4 } := J1.landed nb fl4.1 ((up.trans up3).trans up4) os ag
          obtain ⟨oe4, vs4, he4, hz4, hd4⟩ := fl4.there
          have S4 := J4.suite he4 hd4 na notL notF
          refine store_ok (X := X.suite a ((a, oe4) :: (X.pn ++ pins))) (v := .ref a) S4 nod at_ slot rfl (fun s5 S5 => ?_) (.inr loc)
          refine wpAny_mono ((run a oe4 cls d (X.pn ++ pins) hz4 ⟨_, hd4⟩).run [] s5 _ H1 _ S5 (yes rfl a na)) (fun f s6 hsp => ?_) (fun _ _ z => False.elim z)
          have wipe : ∀ {t6 : L2.St} {K6 : Hp} {Q : Shared → Prop}, L2.Inv (X.suite a ((a, oe4) :: (X.pn ++ pins))) [] t6 K6 s6 → (∀ s7, L2.Inv X pins (t6.set i none) K6 s7 → Q s7) →
              wpAny (model X.prog X.w) X.A (do bindName X.env n .none; unbindBehindTheSuite X.env n hpos) (fun _ s7 => Q s7) X.xe s6 := fun {t6 K6 Q} S6 hq => gone_ok (S6.unsuite okX) nod at_ loc hq
          cases f with
          | next =>
            obtain ⟨t6, K6, S6, q6⟩ := hsp
            exact (wipe S6 fun s7 J7 => ⟨_, _, J7, q6⟩)
          | brk =>
            obtain ⟨t6, K6, S6, q6⟩ := hsp
            exact (wipe S6 fun s7 J7 => ⟨_, _, J7, q6⟩)
          | cont =>
            obtain ⟨t6, K6, S6, q6⟩ := hsp
            exact (wipe S6 fun s7 J7 => ⟨_, _, J7, q6⟩)
          | ret u =>
            obtain ⟨v6, t6, K6, S6, r6, q6⟩ := hsp
            exact (wipe S6 fun s7 J7 => ⟨_, _, _, J7, r6, q6⟩)
        | false =>
          show wpAny _ X.A (handleBy (.ref a) X.env hs3) _ _ _
          exact ih (no rfl)
    exact go cl w
  · cases f with
    | next =>
      obtain ⟨t1, K1, J1, q⟩ := hsp
      exact wpAny_execs_nil ⟨t1, K1, J1.ofTry okX, q⟩
    | brk =>
      obtain ⟨t1, K1, J1, q⟩ := hsp
      exact ⟨t1, K1, J1.ofTry okX, q⟩
    | cont =>
      obtain ⟨t1, K1, J1, q⟩ := hsp
      exact ⟨t1, K1, J1.ofTry okX, q⟩
    | ret u =>
      obtain ⟨v1, t1, K1, J1, r, q⟩ := hsp
      exact ⟨v1, t1, K1, J1.ofTry okX, r, q⟩
/-- an exception of a callee, wished for at every state of the slots that fits -/
def EAll (X : Cx) (W : WX) : XK := fun cls d H' => ∀ t : L2.St, t.length = X.N.length → W cls d t H'
theorem pass_all {W : WX} (tk : Takes X W) : Passes (L2.CX X.prog X.w) X (EAll X W) := fun _ _ _ _ _ _ I c =>
  tk _ _ (XE.of_call I (fun _ _ _ z => z _ I.len) c)
end
end TryAs
end

-- K01a
section
set_option Elab.async false
set_option linter.all false
set_option maxRecDepth 100000
namespace R1
open PySem L2 OwnOps RatM
/-! ### 1. the text by places -/
def top (i : Nat) : Stmt := PySem.Challenge.pw_wishedwires_k01_ratios_reckoned.main.body.getD i (.Pass ⟨0, 0, 0, 0⟩)
abbrev sWhole : Stmt := top 3
abbrev sRat (j : Nat) : Stmt := inClass (top 9) j
abbrev sAs : Stmt := top 10
/-! ### 2. what the written part holds -/
abbrev veT : List Value := [.type "ValueError", .type "Exception", .type "BaseException", .type "object"]
abbrev zdT : List Value := [.type "ZeroDivisionError", .type "ArithmeticError", .type "Exception", .type "BaseException", .type "object"]
structure Txt (K : PySem.W.Frag) (mg : Str → Option Value) (C CI fCI CZ fCZ : Addr) : Prop where
  cl : Cls K C
  nT : NoAttr K C "top"
  nB : NoAttr K C "bottom"
  gC : mg "Ratio" = some (.ref C)
  eI : PySem.Giv.ErrTxt K mg "InvalidNumber" "InvalidNumber.__init__" "ValueError.__new__" veT CI fCI
  eZ : PySem.Giv.ErrTxt K mg "NoDivision" "NoDivision.__init__" "ZeroDivisionError.__new__" zdT CZ fCZ
  ha : PySem.W.findIn K (.ref C) "__class__" = some (some (.builtin "object.__class__"))
  hn : PySem.W.specialIn K (.builtin "object.__class__") "__get__" = some (some (.builtin "getset_descriptor.__get__"))
  htk : PySem.W.takesIn K (.builtin "object.__class__") = some true
  hm : PySem.W.mroIn K C (.type "object") = some true
  kCC : PySem.W.kitOne K (.ref C) (.ref C) = some true
  kCi : PySem.W.kitOne K (.ref C) (.type "int") = some false
  kiC : PySem.W.kitOne K (.type "int") (.ref C) = some false
  kbC : PySem.W.kitOne K (.type "bool") (.ref C) = some false
  knC : PySem.W.kitOne K (.type "NoneType") (.ref C) = some false
  ksC : PySem.W.kitOne K (.type "str") (.ref C) = some false
  klC : PySem.W.kitOne K (.type "list") (.ref C) = some false
  ktC : PySem.W.kitOne K (.type "tuple") (.ref C) = some false
  isi : mg "isinstance" = none
  int : mg "int" = none
  bool : mg "bool" = none
  abs : mg "abs" = none
  str : mg "str" = none
  repr : mg "repr" = none
  gcd : mg "gcd" = some (.builtin "math.gcd")
/-- the values that are met where a number is wanted -/
inductive Kd (C : Addr) (H : Hp) : V → Prop
  | int (i : Int) : Kd C H (.int i)
  | bl (b : Bool) : Kd C H (.bl b)
  | non : Kd C H .non
  | str (x : Str) : Kd C H (.str x)
  | ins {a dx : Addr} {fs : List (Str × V)} (e : H a = some (.ins C dx fs)) : Kd C H (.ref a)
  | lst {a : Addr} {xs : List V} (e : H a = some (.lst xs)) : Kd C H (.ref a)
  | tup {a : Addr} {xs : List V} (e : H a = some (.tup xs)) : Kd C H (.ref a)
def isW : V → Bool
  | .int _ => true
  | _ => false
/-- an instance of Ratio with these two -/
def flds (t b : Int) : List (Str × V) := putF "bottom" (.int b) (putF "top" (.int t) [])
theorem tb : ¬ (("top" : Str) = "bottom") := by decide +kernel
theorem flds_eq (t b : Int) : flds t b = ([("top", V.int t), ("bottom", V.int b)] : List (Str × V)) := by
  show (if ("top" : Str) = "bottom" then [(("top" : Str), V.int b)] else (("top" : Str), V.int t) :: putF "bottom" (V.int b) []) = ([("top", V.int t), ("bottom", V.int b)] : List (Str × V))
  rw [if_neg tb]
  all_goals rfl
theorem flds_top (t b : Int) : (flds t b).lookup ("top" : Str) = some (.int t) := by
  unfold flds
  rw [lookup_putF, if_neg tb, lookup_putF, if_pos rfl]
theorem flds_bot (t b : Int) : (flds t b).lookup ("bottom" : Str) = some (.int b) := by
  unfold flds
  rw [lookup_putF, if_pos rfl]
theorem flds_no (t b : Int) {m : Str} (h1 : ¬ m = "bottom") (h2 : ¬ m = "top") : (flds t b).lookup m = none := by
  unfold flds
  rw [lookup_putF, if_neg h1, lookup_putF, if_neg h2]
  all_goals rfl
def Rat (C : Addr) (H : Hp) (p : Addr) (t b : Int) : Prop := ∃ dx, H p = some (.ins C dx (flds t b))
theorem Rat.same {C : Addr} {H H' : Hp} {p : Addr} {t b : Int} (r : Rat C H p t b) (e : Same H H') : Rat C H' p t b := let ⟨dx, h⟩ := r; ⟨dx, e _ _ h⟩
/-- what may be told of a number -/
def Sm (n : Nat) (x : Int) : Prop := x.natAbs < 2 ^ n

section
variable {P : Program} {w : World} {K : PySem.W.Frag} {mg : Str → Option Value} {base : Heap} {C CI fCI CZ fCZ : Addr}
/-! ### 3. is_whole -/
def spWhole (C : Addr) : Sp := fun vs H Q _ => ∃ v, vs = [v] ∧ Kd C H v ∧ Q (.bl (isW v)) H
theorem scW : FnScope ["value"] ["value"] (defScope sWhole) := ⟨rfl, rfl, rfl, by decide +kernel, rfl, by decide +kernel, by decide +kernel⟩
theorem ok_whole {f : Addr} {fd : FuncData} (F : Fun K "is_whole" "is_whole" sWhole f fd) (T : Txt K mg C CI fCI CZ fCZ) : FnOk P w K mg base (L2.CX P w) 1 f fd ["value"] (spWhole C) := by
  refine F.okX scW (fun vs H Q E h => ?_) (fun cdv A outer s H vs Q E hr h => ?_)
  · obtain ⟨v, rfl, _⟩ := h
    rfl
  · obtain ⟨v, rfl, kd, k⟩ := h
    refine ⟨_, pss_one (ps_ret (pe_and (pe_callB call_isi (by rfl) T.isi (by decide +kernel) (pa_cons (pv 0) (pa_cons (pe_bltn (v := .ty "int") (by rfl) T.int (by decide +kernel) rfl) pa_nil)))
      (pe_one (pe_not (pe_callB call_isi (by rfl) T.isi (by decide +kernel) (pa_cons (pv 0) (pa_cons (pe_bltn (v := .ty "bool") (by rfl) T.bool (by decide +kernel) rfl) pa_nil))))))), ?_⟩
    cases kd with
    | int i => exact ⟨_, rfl, _, _, _, _, _, rfl, .ty _, .base (.int i), kit_ty (by decide +kernel), _, rfl, iteT ⟨_, rfl, _, _, _, _, _, rfl, .ty _, .base (.int i), kit_ty (r := false) (by decide +kernel), _, rfl, k⟩⟩
    | bl b => exact ⟨_, rfl, _, _, _, _, _, rfl, .ty _, .base (.bl b), kit_ty (by decide +kernel), _, rfl, iteT ⟨_, rfl, _, _, _, _, _, rfl, .ty _, .base (.bl b), kit_ty (r := true) (by decide +kernel), _, rfl, k⟩⟩
    | non => exact ⟨_, rfl, _, _, _, _, _, rfl, .ty _, .base .non, kit_ty (by decide +kernel), _, rfl, iteF k⟩
    | str x => exact ⟨_, rfl, _, _, _, _, _, rfl, .ty _, .base (.str x), kit_ty (by decide +kernel), _, rfl, iteF k⟩
    | ins e => exact ⟨_, rfl, _, _, _, _, _, rfl, .ty _, .base (.ins e T.cl T.ha T.hn T.htk T.hm), T.kCi, _, rfl, iteF k⟩
    | lst e => exact ⟨_, rfl, _, _, _, _, _, rfl, .ty _, .base (.lst e), kit_ty (by decide +kernel), _, rfl, iteF k⟩
    | tup e => exact ⟨_, rfl, _, _, _, _, _, rfl, .ty _, .base (.tup e), kit_ty (by decide +kernel), _, rfl, iteF k⟩

theorem if_pos' {c : Bool} {A B : Prop} (hc : c = true) (h : A) : if c = true then A else B := by
  rw [if_pos hc]
  exact h
theorem if_neg' {c : Bool} {A B : Prop} (hc : c = false) (h : B) : if c = true then A else B := by
  rw [hc, if_neg Bool.false_ne_true]
  exact h
/-! ### 4. __init__ -/
def CDivG (_ j : Int) : Prop := j ≠ 0 ∧ j.natAbs.log2 < 9000
theorem op_fdivG {X : Cx} : OpR X (binaryOp .FloorDiv) (rI CDivG fun i j => .int (i.fdiv j)) := opI fun i j _ _ _ _ _ hc q =>
  PyProof.Rows.floordiv_int hc.1 q (.inl (PyProof.noPylong_of_log2 hc.2))
theorem wide_divG {i j : Int} {n : Nat} (h : j ≠ 0) (hb : j.natAbs < 2 ^ n) (h0 : 0 < n) (h9 : n ≤ 9000) : CDivG i j := ⟨h, Nat.lt_of_lt_of_le (PySem.Flt.log2_lt_of h0 hb) h9⟩
abbrev xd (v : V) : HO := .xd [(("given" : Str), v)]
def spInit (C CI CZ : Addr) : Sp := fun vs H Q E => ∃ (p dx : Addr) (vt vb : V), vs = [.ref p, vt, vb] ∧ H p = some (.ins C dx []) ∧ Kd C H vt ∧ (isW vt = true → Kd C H vb) ∧
  ((isW vt = false ∧ ∀ d, H d = none → E (.ref CI) (some d) (upd H d (xd vt))) ∨
   (isW vt = true ∧ isW vb = false ∧ ∀ d, H d = none → E (.ref CI) (some d) (upd H d (xd vb))) ∨
   (∃ t b, vt = .int t ∧ vb = .int b ∧ ((b = 0 ∧ ∀ d, H d = none → E (.ref CZ) (some d) (upd H d (xd vt))) ∨
     (b ≠ 0 ∧ Sm 5000 b ∧ Q .non (upd H p (.ins C dx (flds (nt t b) (nb t b))))))))
theorem scI : FnScope ["self", "top", "bottom", "common"] ["self", "top", "bottom"] (defScope (sRat 0)) := ⟨rfl, rfl, rfl, by decide +kernel, rfl, by decide +kernel, by decide +kernel⟩
theorem Kd.whole {C : Addr} {H : Hp} {v : V} (k : Kd C H v) (h : isW v = true) : ∃ i, v = .int i := by
  cases k <;> first | exact ⟨_, rfl⟩ | exact absurd h (by simp [isW])
abbrev InitD (K : PySem.W.Frag) (f : Addr) (fd : FuncData) := FunD K "__init__" "Ratio.__init__" (defArgs (sRat 0)) (defBody (sRat 0)) (defScope (sRat 0)) [.int 1] [] f fd
theorem ok_init {f fW : Addr} {fd fdW : FuncData} (F : InitD K f fd) (T : Txt K mg C CI fCI CZ fCZ)
    (GW : FnOk P w K mg base (L2.CX P w) 1 fW fdW ["value"] (spWhole C)) (mW : mg "is_whole" = some (.ref fW)) (kW : PySem.W.keepIn K (.ref fW) = true) (bW : L2.Binds K fdW ["value"] []) :
    FnOk P w K mg base (L2.CX P w) 3 f fd ["self", "top", "bottom"] (spInit C CI CZ) := by
  refine F.ok scI (fun vs H Q E h => ?_) (fun cdv A outer s H vs Q E hr h => ?_)
  · obtain ⟨p, dx, vt, vb, rfl, _⟩ := h
    rfl
  · obtain ⟨p, dx, vt, vb, rfl, hp, kt, kb, k⟩ := h
    have hr1 : Room 1 _ := hr.mono (by decide)
    refine ⟨_, pss_cons (ps_if (pt_not (pt_val (pe_call GW hr1 (by rfl) mW kW bW .nil passL (pa_cons (pv 1) pa_nil)))) (pss_one (ps_raiseGiv rfl PySem.Giv.ok_VE T.eI hr (takes_of rfl rfl rfl rfl) (pa_cons (pv 1) pa_nil) (by rfl))) pss_nil)
      (pss_cons (ps_if (pt_not (pt_val (pe_call GW hr1 (by rfl) mW kW bW .nil passL (pa_cons (pv 2) pa_nil)))) (pss_one (ps_raiseGiv rfl PySem.Giv.ok_VE T.eI hr (takes_of rfl rfl rfl rfl) (pa_cons (pv 2) pa_nil) (by rfl))) pss_nil)
      (pss_cons (ps_if (pt_cmpR op_eq (pv 2) pe_int (nomark _)) (pss_one (ps_raiseGiv rfl PySem.Giv.ok_ZD T.eZ hr (takes_of rfl rfl rfl rfl) (pa_cons (pv 1) pa_nil) (by rfl))) pss_nil)
      (pss_cons (ps_set (i := 3) scI.nd rfl (Or.inl rfl) (pe_ifExp (pt_cmpR op_gt (pv 2) pe_int (nomark _)) (pe_callBfun cr_gcd (by rfl) T.gcd (pa_cons (pv 1) (pa_cons (pv 2) pa_nil)))
        (pe_un un_neg (pe_callBfun cr_gcd (by rfl) T.gcd (pa_cons (pv 1) (pa_cons (pv 2) pa_nil))))))
      (pss_cons (ps_fld (pv 0) (pe_op op_fdivG (pv 1) (pv 3)) rfl)
      (pss_one (ps_fld (pv 0) (pe_op op_fdivG (pv 2) (pv 3)) rfl)))))), ?_⟩
    refine ⟨_, rfl, _, rfl, kt, _, rfl, ?_⟩
    rcases k with ⟨n1, k⟩ | ⟨y1, n2, k⟩ | ⟨t, b, rfl, rfl, k⟩
    · rw [n1]
      exact iteT ⟨_, rfl, _, rfl, k⟩
    · rw [y1]
      refine iteF ⟨_, rfl, _, rfl, kb y1, _, rfl, ?_⟩
      rw [n2]
      exact iteT ⟨_, rfl, _, rfl, k⟩
    · refine iteF ⟨_, rfl, _, rfl, kb rfl, _, rfl, iteF ⟨_, rfl, rfl, _, rfl, ?_⟩⟩
      rcases k with ⟨b0, k⟩ | ⟨b0, bs, k⟩
      · refine if_pos' (decide_eq_true (show V.int b = V.int 0 by rw [b0])) ?_
        exact ⟨_, rfl, _, rfl, k⟩
      · refine if_neg' (decide_eq_false (fun z => b0 (V.int.inj z))) ?_
        have cb : (cmn t b).natAbs < 2 ^ 5000 := Nat.lt_of_le_of_lt (cmn_le b0) bs
        have dv : ∀ x, CDivG x (cmn t b) := fun x => wide_divG (cmn_ne b0) cb (by decide) (by decide)
        have e0 : upd (upd H p (.ins C dx (putF "top" (.int (nt t b)) []))) p (.ins C dx (flds (nt t b) (nb t b))) = upd H p (.ins C dx (flds (nt t b) (nb t b))) := upd_upd
        rw [← e0] at k
        have nxt : ∀ c : Int, c = cmn t b → (tSeq (sFld K (tVar 0) (tOp (rI CDivG fun i j => V.int (i.fdiv j)) (tVar 1) (tVar 3)) "top") (sFld K (tVar 0) (tOp (rI CDivG fun i j => V.int (i.fdiv j)) (tVar 2) (tVar 3)) "bottom"))
            { nx := fun _ H' => Q .non H', rt := Q } [some (.ref p), some (.int t), some (.int b), some (.int c)] H := by
          rintro c rfl
          exact ⟨_, rfl, _, rfl, _, _, rfl, rfl, dv t, _, rfl, p, C, dx, _, rfl, hp, T.cl, T.nT, (by show 0 < 1000; decide), _, rfl, _, rfl, _, _, rfl, rfl, dv b, _, rfl, p, C, dx, _, rfl, upd_same, T.cl, T.nB, (by show 1 < 1000; decide), k⟩
        refine ⟨_, rfl, _, _, rfl, rfl, _, rfl, ?_⟩
        refine ite2 (fun hb => ?_) (fun hb => ?_)
        · exact ⟨_, rfl, _, rfl, _, _, rfl, nxt _ (if_pos (of_decide_eq_true hb)).symm⟩
        · exact ⟨_, rfl, _, rfl, _, _, rfl, _, rfl, nxt _ (if_neg (fun z => hb (decide_eq_true z))).symm⟩
end
end R1
end

-- K01b
section
set_option Elab.async false
set_option linter.all false
set_option maxRecDepth 100000
namespace R1
open PySem L2 OwnOps RatM
/-- the values that are no numbers -/
inductive Bd (H : Hp) : V → Prop
  | bl (b : Bool) : Bd H (.bl b)
  | non : Bd H .non
  | str (x : Str) : Bd H (.str x)
  | lst {a : Addr} {xs : List V} (e : H a = some (.lst xs)) : Bd H (.ref a)
  | tup {a : Addr} {xs : List V} (e : H a = some (.tup xs)) : Bd H (.ref a)
theorem Bd.kd {C : Addr} {H : Hp} {v : V} (h : Bd H v) : Kd C H v := by
  cases h with
  | bl b => exact .bl b
  | non => exact .non
  | str x => exact .str x
  | lst e => exact .lst e
  | tup e => exact .tup e
theorem Bd.w {H : Hp} {v : V} (h : Bd H v) : isW v = false := by
  cases h <;> rfl
theorem Kd.same {C : Addr} {H H' : Hp} {v : V} (h : Kd C H v) (e : Same H H') : Kd C H' v := by
  cases h with
  | int i => exact .int i
  | bl b => exact .bl b
  | non => exact .non
  | str x => exact .str x
  | ins q => exact .ins (e _ _ q)
  | lst q => exact .lst (e _ _ q)
  | tup q => exact .tup (e _ _ q)
theorem Bd.same {H H' : Hp} {v : V} (h : Bd H v) (e : Same H H') : Bd H' v := by
  cases h with
  | bl b => exact .bl b
  | non => exact .non
  | str x => exact .str x
  | lst q => exact .lst (e _ _ q)
  | tup q => exact .tup (e _ _ q)
/-- v stands for the ratio t / b -/
def Num (C : Addr) (H : Hp) (v : V) (t b : Int) : Prop := (∃ q, v = .ref q ∧ Rat C H q t b) ∨ (v = .int t ∧ b = 1)
theorem Num.same {C : Addr} {H H' : Hp} {v : V} {t b : Int} (h : Num C H v t b) (e : Same H H') : Num C H' v t b := by
  rcases h with ⟨q, rfl, r⟩ | ⟨rfl, rfl⟩
  · exact .inl ⟨q, rfl, r.same e⟩
  · exact .inr ⟨rfl, rfl⟩
theorem same_upd {H : Hp} {p : Addr} {o : HO} (h : H p = none) : Same H (upd H p o) := fun b u e => by
  rw [upd_ne (ne_of_none e h)]
  exact e
/-- a new instance in making -/
theorem same_new {H : Hp} {x dx C : Addr} (hx : H x = none) (hd : H dx = none) : Same H (upd (upd H dx (.own x)) x (.ins C dx [])) := fun b u e => by
  rw [upd_ne (ne_of_none e hx), upd_ne (ne_of_none e hd)]
  exact e
section
variable {C CI CZ : Addr} {H : Hp} {Q : VK} {E : XK}
theorem mk_good {t b : Int} (hb : b ≠ 0) (bs : Sm 5000 b) (k : ∀ p H', Same H H' → Rat C H' p (nt t b) (nb t b) → Q (.ref p) H') :
    ∀ x dx, H x = none → H dx = none → dx ≠ x → spInit C CI CZ [.ref x, .int t, .int b] (upd (upd H dx (.own x)) x (.ins C dx [])) (fun v H2 => v = .non ∧ Q (.ref x) H2) E := by
  intro x dx hx hd ne
  refine ⟨x, dx, .int t, .int b, rfl, upd_same, .int t, fun _ => .int b, .inr (.inr ⟨t, b, rfl, rfl, .inr ⟨hb, bs, rfl, ?_⟩⟩)⟩
  refine k x _ (fun c o e => ?_) ⟨dx, upd_same⟩
  rw [upd_ne (ne_of_none e hx)]
  exact same_new hx hd c o e
theorem mk_bad1 {v u : V} (kd : Bd H v ∨ ∃ a dx fs, v = .ref a ∧ H a = some (.ins C dx fs)) (k : ∀ d H', Same H H' → H' d = some (xd v) → E (.ref CI) (some d) H') :
    ∀ x dx, H x = none → H dx = none → dx ≠ x → spInit C CI CZ [.ref x, v, u] (upd (upd H dx (.own x)) x (.ins C dx [])) (fun v H2 => v = .non ∧ Q (.ref x) H2) E := by
  intro x dx hx hd ne
  have nw : isW v = false := by
    rcases kd with h | ⟨a, _, _, rfl, _⟩
    · exact h.w
    · rfl
  have kk : Kd C H v := by
    rcases kd with h | ⟨a, _, _, rfl, e⟩
    · exact h.kd
    · exact .ins e
  refine ⟨x, dx, v, u, rfl, upd_same, kk.same (same_new hx hd), fun y => absurd y (by rw [nw]; decide), .inl ⟨nw, fun d hdn => ?_⟩⟩
  refine k d _ (fun c o e => ?_) upd_same
  have e2 := same_new (C := C) hx hd c o e
  rw [upd_ne (ne_of_none e2 hdn)]
  exact e2
theorem mk_bad2 {t : Int} {v : V} (kd : Bd H v ∨ ∃ a dx fs, v = .ref a ∧ H a = some (.ins C dx fs)) (k : ∀ d H', Same H H' → H' d = some (xd v) → E (.ref CI) (some d) H') :
    ∀ x dx, H x = none → H dx = none → dx ≠ x → spInit C CI CZ [.ref x, .int t, v] (upd (upd H dx (.own x)) x (.ins C dx [])) (fun v H2 => v = .non ∧ Q (.ref x) H2) E := by
  intro x dx hx hd ne
  have nw : isW v = false := by
    rcases kd with h | ⟨a, _, _, rfl, _⟩
    · exact h.w
    · rfl
  have kk : Kd C H v := by
    rcases kd with h | ⟨a, _, _, rfl, e⟩
    · exact h.kd
    · exact .ins e
  refine ⟨x, dx, .int t, v, rfl, upd_same, .int t, fun _ => kk.same (same_new hx hd), .inr (.inl ⟨rfl, nw, fun d hdn => ?_⟩)⟩
  refine k d _ (fun c o e => ?_) upd_same
  have e2 := same_new (C := C) hx hd c o e
  rw [upd_ne (ne_of_none e2 hdn)]
  exact e2
theorem mk_zero {t : Int} (k : ∀ d H', Same H H' → H' d = some (xd (.int t)) → E (.ref CZ) (some d) H') :
    ∀ x dx, H x = none → H dx = none → dx ≠ x → spInit C CI CZ [.ref x, .int t, .int 0] (upd (upd H dx (.own x)) x (.ins C dx [])) (fun v H2 => v = .non ∧ Q (.ref x) H2) E := by
  intro x dx hx hd ne
  refine ⟨x, dx, .int t, .int 0, rfl, upd_same, .int t, fun _ => .int 0, .inr (.inr ⟨t, 0, rfl, rfl, .inl ⟨rfl, fun d hdn => ?_⟩⟩)⟩
  refine k d _ (fun c o e => ?_) upd_same
  have e2 := same_new (C := C) hx hd c o e
  rw [upd_ne (ne_of_none e2 hdn)]
  exact e2
end

/-- what is known of the class's making -/
structure Mak (P : Program) (w : World) (K : PySem.W.Frag) (mg : Str → Option Value) (base : Heap) (C CI CZ : Addr) : Prop where
  ex : ∃ (fI : Addr) (fd : FuncData) (ds : List Value), Mk K C fI ∧ FnOk P w K mg base (L2.CX P w) 3 fI fd ["self", "top", "bottom"] (spInit C CI CZ) ∧ L2.Binds K fd ["self", "top", "bottom"] [] ∧ Vals [.int 1] ds ∧ L2.Binds K fd ["self", "top", "bottom"] ds
/-- a def of the module, called by its name -/
structure Glb (P : Program) (w : World) (K : PySem.W.Frag) (mg : Str → Option Value) (base : Heap) (x : Str) (k : Nat) (ps : List Str) (sp : Sp) : Prop where
  ex : ∃ (f : Addr) (fd : FuncData), mg x = some (.ref f) ∧ PySem.W.keepIn K (.ref f) = true ∧ FnOk P w K mg base (L2.CX P w) k f fd ps sp ∧ L2.Binds K fd ps []

section
variable {P : Program} {w : World} {K : PySem.W.Frag} {mg : Str → Option Value} {base : Heap} {C CI fCI CZ fCZ : Addr}
/-! ### _as_ratio -/
def spAs (C CI : Addr) : Sp := fun vs H Q E => ∃ v, vs = [v] ∧ ((∃ t b, Num C H v t b ∧ ∀ r H', Same H H' → Rat C H' r t b → Q (.ref r) H') ∨
  (Bd H v ∧ ∀ d H', Same H H' → H' d = some (xd v) → E (.ref CI) (some d) H'))
theorem scAs : FnScope ["value"] ["value"] (defScope sAs) := ⟨rfl, rfl, rfl, by decide +kernel, rfl, by decide +kernel, by decide +kernel⟩
theorem ok_as {f : Addr} {fd : FuncData} (F : Fun K "_as_ratio" "_as_ratio" sAs f fd) (T : Txt K mg C CI fCI CZ fCZ) (M : Mak P w K mg base C CI CZ) : FnOk P w K mg base (L2.CX P w) 5 f fd ["value"] (spAs C CI) := by
  obtain ⟨fI, fdI, ds, mk, GI, b3, d2, b2⟩ := M.ex
  refine F.okX scAs (fun vs H Q E h => ?_) (fun cdv A outer s H vs Q E hr h => ?_)
  · obtain ⟨v, rfl, _⟩ := h
    rfl
  · obtain ⟨v, rfl, k⟩ := h
    refine ⟨_, pss_one (ps_ret (pe_ifExp (pt_val (pe_callB call_isi (by rfl) T.isi (by decide +kernel) (pa_cons (pv 0) (pa_cons (pe_glob (v := .ref C) (by rfl) T.gC rfl) pa_nil)))) (pv 0)
      (pe_make mk GI hr (by rfl) T.gC b2 d2 (passes_call (takes_of rfl rfl rfl rfl) (fun _ _ _ _ z => z)) (pa_cons (pv 0) pa_nil)))), ?_⟩
    rcases k with ⟨t, b, ⟨q, rfl, dx, e⟩ | ⟨rfl, rfl⟩, k⟩ | ⟨bd, k⟩
    · exact ⟨_, rfl, _, _, _, _, _, rfl, .own C, .base (.ins e T.cl T.ha T.hn T.htk T.hm), T.kCC, _, rfl, iteT ⟨_, rfl, k q H (Same.refl H) ⟨dx, e⟩⟩⟩
    · refine ⟨_, rfl, _, _, _, _, _, rfl, .own C, .base (.int t), T.kiC, _, rfl, iteF ⟨_, rfl, ?_⟩⟩
      refine mk_good (by decide) (show (1 : Int).natAbs < 2 ^ 5000 by decide +kernel) fun p H' sm r => k p H' sm ?_
      rw [(nt_one t).1, (nt_one t).2] at r
      exact r
    · have fin := mk_bad1 (Q := Q) (E := E) (C := C) (CI := CI) (CZ := CZ) (u := .int 1) (.inl bd) k
      cases bd with
      | bl b => exact ⟨_, rfl, _, _, _, _, _, rfl, .own C, .base (.bl b), T.kbC, _, rfl, iteF ⟨_, rfl, fin⟩⟩
      | non => exact ⟨_, rfl, _, _, _, _, _, rfl, .own C, .base .non, T.knC, _, rfl, iteF ⟨_, rfl, fin⟩⟩
      | str x => exact ⟨_, rfl, _, _, _, _, _, rfl, .own C, .base (.str x), T.ksC, _, rfl, iteF ⟨_, rfl, fin⟩⟩
      | lst e => exact ⟨_, rfl, _, _, _, _, _, rfl, .own C, .base (.lst e), T.klC, _, rfl, iteF ⟨_, rfl, fin⟩⟩
      | tup e => exact ⟨_, rfl, _, _, _, _, _, rfl, .own C, .base (.tup e), T.ktC, _, rfl, iteF ⟨_, rfl, fin⟩⟩
end
end R1
end

-- K01c
section
set_option Elab.async false
set_option linter.all false
set_option maxRecDepth 100000
set_option exponentiation.threshold 6000
namespace R1
open PySem L2 OwnOps RatM
/-- what a two-place operator asks of its two numbers -/
structure Small (t b t' b' : Int) : Prop where
  b0 : 0 < b
  b0' : 0 < b'
  t1 : Sm 1200 t
  b1 : Sm 1200 b
  t1' : Sm 1200 t'
  b1' : Sm 1200 b'
theorem mulok {i j : Int} (a : Sm 1200 i) (b : Sm 1200 j) : CMulW i j := wide_mul a b (by decide) (by decide) (by decide)
theorem mul_sm {i j : Int} (a : Sm 1200 i) (b : Sm 1200 j) : Sm 5000 (i * j) := Nat.lt_of_lt_of_le (wide_lt a b) (Nat.pow_le_pow_right (by decide) (by decide))
def Raise1 (CI : Addr) (H : Hp) (v : V) (E : XK) : Prop := ∀ d H', Same H H' → H' d = some (xd v) → E (.ref CI) (some d) H'
/-- arithmetic: a new ratio, X / Y -/
def spAr (C CI : Addr) (X Y : Int → Int → Int → Int → Int) : Sp := fun vs H Q E => ∃ p v t b, vs = [.ref p, v] ∧ Rat C H p t b ∧ ((∃ t' b', Num C H v t' b' ∧ Small t b t' b' ∧
  ∀ r H', Same H H' → Rat C H' r (nt (X t b t' b') (Y t b t' b')) (nb (X t b t' b') (Y t b t' b')) → Q (.ref r) H') ∨ (Bd H v ∧ Raise1 CI H v E))
/-- a comparison -/
def spCm (C CI : Addr) (G : Int → Int → Int → Int → Bool) : Sp := fun vs H Q E => ∃ p v t b, vs = [.ref p, v] ∧ Rat C H p t b ∧ ((∃ t' b', Num C H v t' b' ∧ Small t b t' b' ∧
  ∀ H', Same H H' → Q (.bl (G t b t' b')) H') ∨ (Bd H v ∧ Raise1 CI H v E))
section
variable {P : Program} {w : World} {K : PySem.W.Frag} {mg : Str → Option Value} {base : Heap} {C CI fCI CZ fCZ : Addr}

theorem ok_add {f : Addr} {fd : FuncData} (F : Fun K "__add__" "Ratio.__add__" (sRat 3) f fd) (T : Txt K mg C CI fCI CZ fCZ) (M : Mak P w K mg base C CI CZ) (GG : Glb P w K mg base "_as_ratio" 5 ["value"] (spAs C CI)) :
    FnOk P w K mg base (L2.CX P w) 6 f fd ["self", "other"] (spAr C CI (fun t b t' b' => t * b' + t' * b) (fun t b t' b' => b * b')) := by
  obtain ⟨fI, fdI, ds, mk, GI, b3, d2, b2⟩ := M.ex
  obtain ⟨fA, fdA, mA, kA, GA, bA⟩ := GG.ex
  have sc : FnScope ["self", "other", "right"] ["self", "other"] (defScope (sRat 3)) := ⟨rfl, rfl, rfl, by decide +kernel, rfl, by decide +kernel, by decide +kernel⟩
  refine F.okX sc (fun vs H Q E h => ?_) (fun cdv A outer s H vs Q E hr h => ?_)
  · obtain ⟨p, v, t, b, rfl, _⟩ := h
    rfl
  · obtain ⟨p, v, t, b, rfl, ⟨dx, hp⟩, k⟩ := h
    refine ⟨_, pss_cons (ps_set (i := 2) sc.nd rfl (Or.inl rfl) (pe_call GA (hr.mono (by decide)) (by rfl) mA kA bA .nil (passes_call (takes_of rfl rfl rfl rfl) (fun _ _ _ _ z => z)) (pa_cons (pv 1) pa_nil)))
      (pss_one (ps_ret (pe_make mk GI (hr.mono (by decide)) (by rfl) T.gC b3 .nil passL (pa_cons (pe_op op_add (pe_op op_mulW (pe_fld (pv 0) rfl) (pe_fld (pv 2) rfl)) (pe_op op_mulW (pe_fld (pv 2) rfl) (pe_fld (pv 0) rfl))) (pa_cons (pe_op op_mulW (pe_fld (pv 0) rfl) (pe_fld (pv 2) rfl)) pa_nil))))), ?_⟩
    rcases k with ⟨t', b', nm, S, k⟩ | ⟨bd, k⟩
    · refine ⟨_, rfl, v, rfl, .inl ⟨t', b', nm, fun r H2 sm ⟨dr, hr2⟩ => ?_⟩⟩
      have hp2 := sm _ _ hp
      refine ⟨_, rfl, p, C, dx, _, _, rfl, hp2, T.cl, T.nT, flds_top _ _, _, rfl, r, C, dr, _, _, rfl, hr2, T.cl, T.nB, flds_bot _ _, _, _, rfl, rfl, mulok S.t1 S.b1', _, rfl, r, C, dr, _, _, rfl, hr2, T.cl, T.nT, flds_top _ _, _, rfl, p, C, dx, _, _, rfl, hp2, T.cl, T.nB, flds_bot _ _, _, _, rfl, rfl, mulok S.t1' S.b1, _, _, rfl, rfl, _, rfl, p, C, dx, _, _, rfl, hp2, T.cl, T.nB, flds_bot _ _, _, rfl, r, C, dr, _, _, rfl, hr2, T.cl, T.nB, flds_bot _ _, _, _, rfl, rfl, mulok S.b1 S.b1', ?_⟩
      exact mk_good (Int.ne_of_gt (Int.mul_pos S.b0 S.b0')) (mul_sm S.b1 S.b1') fun q H' sm' r' => k q H' (sm.trans sm') r'
    · exact ⟨_, rfl, v, rfl, .inr ⟨bd, k⟩⟩

theorem ok_sub {f : Addr} {fd : FuncData} (F : Fun K "__sub__" "Ratio.__sub__" (sRat 5) f fd) (T : Txt K mg C CI fCI CZ fCZ) (M : Mak P w K mg base C CI CZ) (GG : Glb P w K mg base "_as_ratio" 5 ["value"] (spAs C CI)) :
    FnOk P w K mg base (L2.CX P w) 6 f fd ["self", "other"] (spAr C CI (fun t b t' b' => t * b' - t' * b) (fun t b t' b' => b * b')) := by
  obtain ⟨fI, fdI, ds, mk, GI, b3, d2, b2⟩ := M.ex
  obtain ⟨fA, fdA, mA, kA, GA, bA⟩ := GG.ex
  have sc : FnScope ["self", "other", "right"] ["self", "other"] (defScope (sRat 5)) := ⟨rfl, rfl, rfl, by decide +kernel, rfl, by decide +kernel, by decide +kernel⟩
  refine F.okX sc (fun vs H Q E h => ?_) (fun cdv A outer s H vs Q E hr h => ?_)
  · obtain ⟨p, v, t, b, rfl, _⟩ := h
    rfl
  · obtain ⟨p, v, t, b, rfl, ⟨dx, hp⟩, k⟩ := h
    refine ⟨_, pss_cons (ps_set (i := 2) sc.nd rfl (Or.inl rfl) (pe_call GA (hr.mono (by decide)) (by rfl) mA kA bA .nil (passes_call (takes_of rfl rfl rfl rfl) (fun _ _ _ _ z => z)) (pa_cons (pv 1) pa_nil)))
      (pss_one (ps_ret (pe_make mk GI (hr.mono (by decide)) (by rfl) T.gC b3 .nil passL (pa_cons (pe_op op_sub (pe_op op_mulW (pe_fld (pv 0) rfl) (pe_fld (pv 2) rfl)) (pe_op op_mulW (pe_fld (pv 2) rfl) (pe_fld (pv 0) rfl))) (pa_cons (pe_op op_mulW (pe_fld (pv 0) rfl) (pe_fld (pv 2) rfl)) pa_nil))))), ?_⟩
    rcases k with ⟨t', b', nm, S, k⟩ | ⟨bd, k⟩
    · refine ⟨_, rfl, v, rfl, .inl ⟨t', b', nm, fun r H2 sm ⟨dr, hr2⟩ => ?_⟩⟩
      have hp2 := sm _ _ hp
      refine ⟨_, rfl, p, C, dx, _, _, rfl, hp2, T.cl, T.nT, flds_top _ _, _, rfl, r, C, dr, _, _, rfl, hr2, T.cl, T.nB, flds_bot _ _, _, _, rfl, rfl, mulok S.t1 S.b1', _, rfl, r, C, dr, _, _, rfl, hr2, T.cl, T.nT, flds_top _ _, _, rfl, p, C, dx, _, _, rfl, hp2, T.cl, T.nB, flds_bot _ _, _, _, rfl, rfl, mulok S.t1' S.b1, _, _, rfl, rfl, _, rfl, p, C, dx, _, _, rfl, hp2, T.cl, T.nB, flds_bot _ _, _, rfl, r, C, dr, _, _, rfl, hr2, T.cl, T.nB, flds_bot _ _, _, _, rfl, rfl, mulok S.b1 S.b1', ?_⟩
      exact mk_good (Int.ne_of_gt (Int.mul_pos S.b0 S.b0')) (mul_sm S.b1 S.b1') fun q H' sm' r' => k q H' (sm.trans sm') r'
    · exact ⟨_, rfl, v, rfl, .inr ⟨bd, k⟩⟩

theorem ok_mul {f : Addr} {fd : FuncData} (F : Fun K "__mul__" "Ratio.__mul__" (sRat 7) f fd) (T : Txt K mg C CI fCI CZ fCZ) (M : Mak P w K mg base C CI CZ) (GG : Glb P w K mg base "_as_ratio" 5 ["value"] (spAs C CI)) :
    FnOk P w K mg base (L2.CX P w) 6 f fd ["self", "other"] (spAr C CI (fun t b t' b' => t * t') (fun t b t' b' => b * b')) := by
  obtain ⟨fI, fdI, ds, mk, GI, b3, d2, b2⟩ := M.ex
  obtain ⟨fA, fdA, mA, kA, GA, bA⟩ := GG.ex
  have sc : FnScope ["self", "other", "right"] ["self", "other"] (defScope (sRat 7)) := ⟨rfl, rfl, rfl, by decide +kernel, rfl, by decide +kernel, by decide +kernel⟩
  refine F.okX sc (fun vs H Q E h => ?_) (fun cdv A outer s H vs Q E hr h => ?_)
  · obtain ⟨p, v, t, b, rfl, _⟩ := h
    rfl
  · obtain ⟨p, v, t, b, rfl, ⟨dx, hp⟩, k⟩ := h
    refine ⟨_, pss_cons (ps_set (i := 2) sc.nd rfl (Or.inl rfl) (pe_call GA (hr.mono (by decide)) (by rfl) mA kA bA .nil (passes_call (takes_of rfl rfl rfl rfl) (fun _ _ _ _ z => z)) (pa_cons (pv 1) pa_nil)))
      (pss_one (ps_ret (pe_make mk GI (hr.mono (by decide)) (by rfl) T.gC b3 .nil passL (pa_cons (pe_op op_mulW (pe_fld (pv 0) rfl) (pe_fld (pv 2) rfl)) (pa_cons (pe_op op_mulW (pe_fld (pv 0) rfl) (pe_fld (pv 2) rfl)) pa_nil))))), ?_⟩
    rcases k with ⟨t', b', nm, S, k⟩ | ⟨bd, k⟩
    · refine ⟨_, rfl, v, rfl, .inl ⟨t', b', nm, fun r H2 sm ⟨dr, hr2⟩ => ?_⟩⟩
      have hp2 := sm _ _ hp
      refine ⟨_, rfl, p, C, dx, _, _, rfl, hp2, T.cl, T.nT, flds_top _ _, _, rfl, r, C, dr, _, _, rfl, hr2, T.cl, T.nT, flds_top _ _, _, _, rfl, rfl, mulok S.t1 S.t1', _, rfl, p, C, dx, _, _, rfl, hp2, T.cl, T.nB, flds_bot _ _, _, rfl, r, C, dr, _, _, rfl, hr2, T.cl, T.nB, flds_bot _ _, _, _, rfl, rfl, mulok S.b1 S.b1', ?_⟩
      exact mk_good (Int.ne_of_gt (Int.mul_pos S.b0 S.b0')) (mul_sm S.b1 S.b1') fun q H' sm' r' => k q H' (sm.trans sm') r'
    · exact ⟨_, rfl, v, rfl, .inr ⟨bd, k⟩⟩

theorem ok_lt {f : Addr} {fd : FuncData} (F : Fun K "__lt__" "Ratio.__lt__" (sRat 13) f fd) (T : Txt K mg C CI fCI CZ fCZ) (GG : Glb P w K mg base "_as_ratio" 5 ["value"] (spAs C CI)) :
    FnOk P w K mg base (L2.CX P w) 6 f fd ["self", "other"] (spCm C CI (fun t b t' b' => decide (t * b' < t' * b))) := by
  obtain ⟨fA, fdA, mA, kA, GA, bA⟩ := GG.ex
  have sc : FnScope ["self", "other", "right"] ["self", "other"] (defScope (sRat 13)) := ⟨rfl, rfl, rfl, by decide +kernel, rfl, by decide +kernel, by decide +kernel⟩
  refine F.okX sc (fun vs H Q E h => ?_) (fun cdv A outer s H vs Q E hr h => ?_)
  · obtain ⟨p, v, t, b, rfl, _⟩ := h
    rfl
  · obtain ⟨p, v, t, b, rfl, ⟨dx, hp⟩, k⟩ := h
    refine ⟨_, pss_cons (ps_set (i := 2) sc.nd rfl (Or.inl rfl) (pe_call GA (hr.mono (by decide)) (by rfl) mA kA bA .nil (passes_call (takes_of rfl rfl rfl rfl) (fun _ _ _ _ z => z)) (pa_cons (pv 1) pa_nil)))
      (pss_one (ps_ret (pe_cmpR op_lt (pe_op op_mulW (pe_fld (pv 0) rfl) (pe_fld (pv 2) rfl)) (pe_op op_mulW (pe_fld (pv 2) rfl) (pe_fld (pv 0) rfl)) (nomark _)))), ?_⟩
    rcases k with ⟨t', b', nm, S, k⟩ | ⟨bd, k⟩
    · refine ⟨_, rfl, v, rfl, .inl ⟨t', b', nm, fun r H2 sm ⟨dr, hr2⟩ => ?_⟩⟩
      have hp2 := sm _ _ hp
      exact ⟨_, rfl, p, C, dx, _, _, rfl, hp2, T.cl, T.nT, flds_top _ _, _, rfl, r, C, dr, _, _, rfl, hr2, T.cl, T.nB, flds_bot _ _, _, _, rfl, rfl, mulok S.t1 S.b1', _, rfl, r, C, dr, _, _, rfl, hr2, T.cl, T.nT, flds_top _ _, _, rfl, p, C, dx, _, _, rfl, hp2, T.cl, T.nB, flds_bot _ _, _, _, rfl, rfl, mulok S.t1' S.b1, _, _, rfl, rfl, k H2 sm⟩
    · exact ⟨_, rfl, v, rfl, .inr ⟨bd, k⟩⟩

theorem ok_le {f : Addr} {fd : FuncData} (F : Fun K "__le__" "Ratio.__le__" (sRat 14) f fd) (T : Txt K mg C CI fCI CZ fCZ) (GG : Glb P w K mg base "_as_ratio" 5 ["value"] (spAs C CI)) :
    FnOk P w K mg base (L2.CX P w) 6 f fd ["self", "other"] (spCm C CI (fun t b t' b' => decide (t * b' ≤ t' * b))) := by
  obtain ⟨fA, fdA, mA, kA, GA, bA⟩ := GG.ex
  have sc : FnScope ["self", "other", "right"] ["self", "other"] (defScope (sRat 14)) := ⟨rfl, rfl, rfl, by decide +kernel, rfl, by decide +kernel, by decide +kernel⟩
  refine F.okX sc (fun vs H Q E h => ?_) (fun cdv A outer s H vs Q E hr h => ?_)
  · obtain ⟨p, v, t, b, rfl, _⟩ := h
    rfl
  · obtain ⟨p, v, t, b, rfl, ⟨dx, hp⟩, k⟩ := h
    refine ⟨_, pss_cons (ps_set (i := 2) sc.nd rfl (Or.inl rfl) (pe_call GA (hr.mono (by decide)) (by rfl) mA kA bA .nil (passes_call (takes_of rfl rfl rfl rfl) (fun _ _ _ _ z => z)) (pa_cons (pv 1) pa_nil)))
      (pss_one (ps_ret (pe_cmpR op_le (pe_op op_mulW (pe_fld (pv 0) rfl) (pe_fld (pv 2) rfl)) (pe_op op_mulW (pe_fld (pv 2) rfl) (pe_fld (pv 0) rfl)) (nomark _)))), ?_⟩
    rcases k with ⟨t', b', nm, S, k⟩ | ⟨bd, k⟩
    · refine ⟨_, rfl, v, rfl, .inl ⟨t', b', nm, fun r H2 sm ⟨dr, hr2⟩ => ?_⟩⟩
      have hp2 := sm _ _ hp
      exact ⟨_, rfl, p, C, dx, _, _, rfl, hp2, T.cl, T.nT, flds_top _ _, _, rfl, r, C, dr, _, _, rfl, hr2, T.cl, T.nB, flds_bot _ _, _, _, rfl, rfl, mulok S.t1 S.b1', _, rfl, r, C, dr, _, _, rfl, hr2, T.cl, T.nT, flds_top _ _, _, rfl, p, C, dx, _, _, rfl, hp2, T.cl, T.nB, flds_bot _ _, _, _, rfl, rfl, mulok S.t1' S.b1, _, _, rfl, rfl, k H2 sm⟩
    · exact ⟨_, rfl, v, rfl, .inr ⟨bd, k⟩⟩

theorem ok_gt {f : Addr} {fd : FuncData} (F : Fun K "__gt__" "Ratio.__gt__" (sRat 15) f fd) (T : Txt K mg C CI fCI CZ fCZ) (GG : Glb P w K mg base "_as_ratio" 5 ["value"] (spAs C CI)) :
    FnOk P w K mg base (L2.CX P w) 6 f fd ["self", "other"] (spCm C CI (fun t b t' b' => decide (t' * b < t * b'))) := by
  obtain ⟨fA, fdA, mA, kA, GA, bA⟩ := GG.ex
  have sc : FnScope ["self", "other", "right"] ["self", "other"] (defScope (sRat 15)) := ⟨rfl, rfl, rfl, by decide +kernel, rfl, by decide +kernel, by decide +kernel⟩
  refine F.okX sc (fun vs H Q E h => ?_) (fun cdv A outer s H vs Q E hr h => ?_)
  · obtain ⟨p, v, t, b, rfl, _⟩ := h
    rfl
  · obtain ⟨p, v, t, b, rfl, ⟨dx, hp⟩, k⟩ := h
    refine ⟨_, pss_cons (ps_set (i := 2) sc.nd rfl (Or.inl rfl) (pe_call GA (hr.mono (by decide)) (by rfl) mA kA bA .nil (passes_call (takes_of rfl rfl rfl rfl) (fun _ _ _ _ z => z)) (pa_cons (pv 1) pa_nil)))
      (pss_one (ps_ret (pe_cmpR op_gt (pe_op op_mulW (pe_fld (pv 0) rfl) (pe_fld (pv 2) rfl)) (pe_op op_mulW (pe_fld (pv 2) rfl) (pe_fld (pv 0) rfl)) (nomark _)))), ?_⟩
    rcases k with ⟨t', b', nm, S, k⟩ | ⟨bd, k⟩
    · refine ⟨_, rfl, v, rfl, .inl ⟨t', b', nm, fun r H2 sm ⟨dr, hr2⟩ => ?_⟩⟩
      have hp2 := sm _ _ hp
      exact ⟨_, rfl, p, C, dx, _, _, rfl, hp2, T.cl, T.nT, flds_top _ _, _, rfl, r, C, dr, _, _, rfl, hr2, T.cl, T.nB, flds_bot _ _, _, _, rfl, rfl, mulok S.t1 S.b1', _, rfl, r, C, dr, _, _, rfl, hr2, T.cl, T.nT, flds_top _ _, _, rfl, p, C, dx, _, _, rfl, hp2, T.cl, T.nB, flds_bot _ _, _, _, rfl, rfl, mulok S.t1' S.b1, _, _, rfl, rfl, k H2 sm⟩
    · exact ⟨_, rfl, v, rfl, .inr ⟨bd, k⟩⟩

theorem ok_ge {f : Addr} {fd : FuncData} (F : Fun K "__ge__" "Ratio.__ge__" (sRat 16) f fd) (T : Txt K mg C CI fCI CZ fCZ) (GG : Glb P w K mg base "_as_ratio" 5 ["value"] (spAs C CI)) :
    FnOk P w K mg base (L2.CX P w) 6 f fd ["self", "other"] (spCm C CI (fun t b t' b' => decide (t' * b ≤ t * b'))) := by
  obtain ⟨fA, fdA, mA, kA, GA, bA⟩ := GG.ex
  have sc : FnScope ["self", "other", "right"] ["self", "other"] (defScope (sRat 16)) := ⟨rfl, rfl, rfl, by decide +kernel, rfl, by decide +kernel, by decide +kernel⟩
  refine F.okX sc (fun vs H Q E h => ?_) (fun cdv A outer s H vs Q E hr h => ?_)
  · obtain ⟨p, v, t, b, rfl, _⟩ := h
    rfl
  · obtain ⟨p, v, t, b, rfl, ⟨dx, hp⟩, k⟩ := h
    refine ⟨_, pss_cons (ps_set (i := 2) sc.nd rfl (Or.inl rfl) (pe_call GA (hr.mono (by decide)) (by rfl) mA kA bA .nil (passes_call (takes_of rfl rfl rfl rfl) (fun _ _ _ _ z => z)) (pa_cons (pv 1) pa_nil)))
      (pss_one (ps_ret (pe_cmpR op_ge (pe_op op_mulW (pe_fld (pv 0) rfl) (pe_fld (pv 2) rfl)) (pe_op op_mulW (pe_fld (pv 2) rfl) (pe_fld (pv 0) rfl)) (nomark _)))), ?_⟩
    rcases k with ⟨t', b', nm, S, k⟩ | ⟨bd, k⟩
    · refine ⟨_, rfl, v, rfl, .inl ⟨t', b', nm, fun r H2 sm ⟨dr, hr2⟩ => ?_⟩⟩
      have hp2 := sm _ _ hp
      exact ⟨_, rfl, p, C, dx, _, _, rfl, hp2, T.cl, T.nT, flds_top _ _, _, rfl, r, C, dr, _, _, rfl, hr2, T.cl, T.nB, flds_bot _ _, _, _, rfl, rfl, mulok S.t1 S.b1', _, rfl, r, C, dr, _, _, rfl, hr2, T.cl, T.nT, flds_top _ _, _, rfl, p, C, dx, _, _, rfl, hp2, T.cl, T.nB, flds_bot _ _, _, _, rfl, rfl, mulok S.t1' S.b1, _, _, rfl, rfl, k H2 sm⟩
    · exact ⟨_, rfl, v, rfl, .inr ⟨bd, k⟩⟩

/-! ### over -/
def spOver (C CI CZ : Addr) : Sp := fun vs H Q E => ∃ p v t b, vs = [.ref p, v] ∧ Rat C H p t b ∧ ((∃ t' b', Num C H v t' b' ∧ Small t b t' b' ∧
  ((t' = 0 ∧ ∀ d H', Same H H' → H' d = some (xd v) → E (.ref CZ) (some d) H') ∨
   (t' ≠ 0 ∧ ∀ r H', Same H H' → Rat C H' r (nt (t * b') (b * t')) (nb (t * b') (b * t')) → Q (.ref r) H'))) ∨ (Bd H v ∧ Raise1 CI H v E))
theorem ok_over {f : Addr} {fd : FuncData} (F : Fun K "over" "Ratio.over" (sRat 2) f fd) (T : Txt K mg C CI fCI CZ fCZ) (M : Mak P w K mg base C CI CZ) (GG : Glb P w K mg base "_as_ratio" 5 ["value"] (spAs C CI)) :
    FnOk P w K mg base (L2.CX P w) 6 f fd ["self", "other"] (spOver C CI CZ) := by
  obtain ⟨fI, fdI, ds, mk, GI, b3, d2, b2⟩ := M.ex
  obtain ⟨fA, fdA, mA, kA, GA, bA⟩ := GG.ex
  have sc : FnScope ["self", "other", "right"] ["self", "other"] (defScope (sRat 2)) := ⟨rfl, rfl, rfl, by decide +kernel, rfl, by decide +kernel, by decide +kernel⟩
  refine F.okX sc (fun vs H Q E h => ?_) (fun cdv A outer s H vs Q E hr h => ?_)
  · obtain ⟨p, v, t, b, rfl, _⟩ := h
    rfl
  · obtain ⟨p, v, t, b, rfl, ⟨dx, hp⟩, k⟩ := h
    refine ⟨_, pss_cons (ps_set (i := 2) sc.nd rfl (Or.inl rfl) (pe_call GA (hr.mono (by decide)) (by rfl) mA kA bA .nil (passes_call (takes_of rfl rfl rfl rfl) (fun _ _ _ _ z => z)) (pa_cons (pv 1) pa_nil)))
      (pss_cons (ps_if (pt_cmpR op_eq (pe_fld (pv 2) rfl) pe_int (nomark _)) (pss_one (ps_raiseGiv rfl PySem.Giv.ok_ZD T.eZ hr (takes_of rfl rfl rfl rfl) (pa_cons (pv 1) pa_nil) (by rfl))) pss_nil)
      (pss_one (ps_ret (pe_make mk GI (hr.mono (by decide)) (by rfl) T.gC b3 .nil passL (pa_cons (pe_op op_mulW (pe_fld (pv 0) rfl) (pe_fld (pv 2) rfl)) (pa_cons (pe_op op_mulW (pe_fld (pv 0) rfl) (pe_fld (pv 2) rfl)) pa_nil)))))), ?_⟩
    rcases k with ⟨t', b', nm, S, k⟩ | ⟨bd, k⟩
    · refine ⟨_, rfl, v, rfl, .inl ⟨t', b', nm, fun r H2 sm ⟨dr, hr2⟩ => ?_⟩⟩
      have hp2 := sm _ _ hp
      refine ⟨_, rfl, r, C, dr, _, _, rfl, hr2, T.cl, T.nT, flds_top _ _, rfl, _, rfl, ?_⟩
      rcases k with ⟨z, k⟩ | ⟨z, k⟩
      · refine if_pos' (decide_eq_true (by rw [z])) ⟨_, rfl, _, rfl, fun d hd => k d _ (fun c o e => ?_) upd_same⟩
        rw [upd_ne (ne_of_none (sm c o e) hd)]
        exact sm c o e
      · refine if_neg' (decide_eq_false (fun y => z (V.int.inj y))) ?_
        refine ⟨_, rfl, p, C, dx, _, _, rfl, hp2, T.cl, T.nT, flds_top _ _, _, rfl, r, C, dr, _, _, rfl, hr2, T.cl, T.nB, flds_bot _ _, _, _, rfl, rfl, mulok S.t1 S.b1', _, rfl, p, C, dx, _, _, rfl, hp2, T.cl, T.nB, flds_bot _ _, _, rfl, r, C, dr, _, _, rfl, hr2, T.cl, T.nT, flds_top _ _, _, _, rfl, rfl, mulok S.b1 S.t1', ?_⟩
        exact mk_good (Int.mul_ne_zero (Int.ne_of_gt S.b0) z) (mul_sm S.b1 S.t1') fun q H' sm' r' => k q H' (sm.trans sm') r'
    · exact ⟨_, rfl, v, rfl, .inr ⟨bd, k⟩⟩
end
end R1
end

-- K01d
section
set_option Elab.async false
set_option linter.all false
set_option maxRecDepth 100000
set_option exponentiation.threshold 6000
namespace R1
open PySem L2 OwnOps RatM
/-- a method of the class, by its name -/
structure Dun (P : Program) (w : World) (K : PySem.W.Frag) (mg : Str → Option Value) (base : Heap) (C : Addr) (nm : Str) (k : Nat) (ps : List Str) (sp : Sp) : Prop where
  ex : ∃ (f : Addr) (fd : FuncData), PySem.W.findIn K (.ref C) nm = some (some (.ref f)) ∧ PySem.W.isFn K (.ref f) = true ∧ PySem.W.keepIn K (.ref f) = true ∧ FnOk P w K mg base (L2.CX P w) k f fd ps sp ∧ L2.Binds K fd ps []
/-- what is known of the class beside the built-in types -/
structure Tys (K : PySem.W.Frag) (C : Addr) : Prop where
  sf : PySem.W.selfFirst K C = true
  nCC : PySem.W.notFirst K C (.ref C) = true
  nI : PySem.W.notFirst K C (.type "int") = true
  nB : PySem.W.notFirst K C (.type "bool") = true
  nN : PySem.W.notFirst K C (.type "NoneType") = true
  nS : PySem.W.notFirst K C (.type "str") = true
  nL : PySem.W.notFirst K C (.type "list") = true
  nT : PySem.W.notFirst K C (.type "tuple") = true
  sI : PySem.W.subIn K (.ref C) (.type "int") = some false
def RAny (C : Addr) : V → Hp → Prop := fun y H => RIns C y H ∨ RInt y H ∨ Bd H y
theorem looks_any {X : Cx} {C : Addr} (Y : Tys X.K C) {y : V} {H : Hp} {u : Value} {pins : List (Addr × Obj)} {σ : L2.St} {s : Shared} (I : L2.Inv X pins σ H s) (h : RAny C y H) (ry : RelV y u) :
    ∃ tb, PySem.W.Looks (model X.prog X.w) s.heap (typeOf u) tb ∧ PySem.W.notFirst X.K C tb = true := by
  rcases h with h | h | h
  · exact looks_ins Y.nCC I h ry
  · exact looks_int Y.nI I h ry
  · cases h with
    | bl b => cases (show u = Value.bool b from ry); exact ⟨_, PySem.W.Looks.of_pure rfl, Y.nB⟩
    | non => cases (show u = Value.none from ry); exact ⟨_, PySem.W.Looks.of_pure rfl, Y.nN⟩
    | str x => obtain ⟨t, rfl⟩ := (show ∃ t, u = Value.str x t from ry); exact ⟨_, PySem.W.Looks.of_pure rfl, Y.nS⟩
    | lst e =>
      cases (show u = Value.ref _ from ry)
      obtain ⟨_, _, n, _, h1⟩ := (show ObjOk X.prog X.w H s.heap _ (.lst _) from I.hok _ _ e)
      exact ⟨.type "list", fun A Q E s' k q => wpAny_typeOf_ref (k _ _ h1) q, Y.nL⟩
    | tup e =>
      cases (show u = Value.ref _ from ry)
      obtain ⟨_, _, _, o, h1, h2, _⟩ := (show ObjOk X.prog X.w H s.heap _ (.tup _) from I.hok _ _ e)
      exact ⟨.type "tuple", fun A Q E s' k q => wpAny_typeOf_ref (k _ _ h1) (by rw [h2]; exact q), Y.nT⟩

section
variable {P : Program} {w : World} {K : PySem.W.Frag} {mg : Str → Option Value} {base : Heap} {C CI fCI CZ fCZ : Addr}
/-! ### the reflected ones: other op self -/
def spRf (C : Addr) (X Y : Int → Int → Int → Int → Int) (CI : Addr) : Sp := fun vs H Q E => ∃ p v t b, vs = [.ref p, v] ∧ Rat C H p t b ∧ ((∃ t' b', Num C H v t' b' ∧ Small t' b' t b ∧
  ∀ r H', Same H H' → Rat C H' r (nt (X t' b' t b) (Y t' b' t b)) (nb (X t' b' t b) (Y t' b' t b)) → Q (.ref r) H') ∨ (Bd H v ∧ Raise1 CI H v E))

theorem ok_radd {f : Addr} {fd : FuncData} (F : Fun K "__radd__" "Ratio.__radd__" (sRat 4) f fd) (Z : Tys K C)
    (GG : Glb P w K mg base "_as_ratio" 5 ["value"] (spAs C CI)) (D : Dun P w K mg base C (PySem.dunder "add") 6 ["self", "other"] (spAr C CI (fun t b t' b' => t * b' + t' * b) (fun t b t' b' => b * b')))
    (rf : ∃ rc, PySem.W.findIn K (.ref C) (PySem.dunderR "add") = some rc ∧ (rc = none ∨ ∃ q : Addr, rc = some (.ref q))) :
    FnOk P w K mg base (L2.CX P w) 7 f fd ["self", "other"] (spRf C (fun t b t' b' => t * b' + t' * b) (fun t b t' b' => b * b') CI) := by
  obtain ⟨fA, fdA, mA, kA, GA, bA⟩ := GG.ex
  obtain ⟨g, gd, ga, gf, _, GD, gb⟩ := D.ex
  have sc : FnScope ["self", "other"] ["self", "other"] (defScope (sRat 4)) := ⟨rfl, rfl, rfl, by decide +kernel, rfl, by decide +kernel, by decide +kernel⟩
  refine F.okX sc (fun vs H Q E h => ?_) (fun cdv A outer s H vs Q E hr h => ?_)
  · obtain ⟨p, v, t, b, rfl, _⟩ := h
    rfl
  · obtain ⟨p, v, t, b, rfl, ⟨dx, hp⟩, k⟩ := h
    refine ⟨_, pss_one (ps_ret (pe_op (op := .Add) (op_ins (C := C) (E := E0) (op := .Add) ⟨ga, rf, gf, Z.sf⟩ GD hr gb passL) (pe_call GA (hr.mono (by decide)) (by rfl) mA kA bA .nil (passes_call (takes_of rfl rfl rfl rfl) (fun _ _ _ _ z => z)) (pa_cons (pv 1) pa_nil)) (pv 0))), ?_⟩
    rcases k with ⟨t', b', nm, S, k⟩ | ⟨bd, k⟩
    · refine ⟨_, rfl, v, rfl, .inl ⟨t', b', nm, fun r H2 sm hr2 => ?_⟩⟩
      have hp2 := sm _ _ hp
      refine ⟨_, rfl, r, _, _, rfl, hr2.choose_spec, ⟨p, dx, _, rfl, hp2⟩, r, .ref p, t', b', rfl, hr2, .inl ⟨t, b, .inl ⟨p, rfl, dx, hp2⟩, S, fun q H' sm' r' => k q H' (sm.trans sm') r'⟩⟩
    · exact ⟨_, rfl, v, rfl, .inr ⟨bd, k⟩⟩

theorem ok_rsub {f : Addr} {fd : FuncData} (F : Fun K "__rsub__" "Ratio.__rsub__" (sRat 6) f fd) (Z : Tys K C)
    (GG : Glb P w K mg base "_as_ratio" 5 ["value"] (spAs C CI)) (D : Dun P w K mg base C (PySem.dunder "sub") 6 ["self", "other"] (spAr C CI (fun t b t' b' => t * b' - t' * b) (fun t b t' b' => b * b')))
    (rf : ∃ rc, PySem.W.findIn K (.ref C) (PySem.dunderR "sub") = some rc ∧ (rc = none ∨ ∃ q : Addr, rc = some (.ref q))) :
    FnOk P w K mg base (L2.CX P w) 7 f fd ["self", "other"] (spRf C (fun t b t' b' => t * b' - t' * b) (fun t b t' b' => b * b') CI) := by
  obtain ⟨fA, fdA, mA, kA, GA, bA⟩ := GG.ex
  obtain ⟨g, gd, ga, gf, _, GD, gb⟩ := D.ex
  have sc : FnScope ["self", "other"] ["self", "other"] (defScope (sRat 6)) := ⟨rfl, rfl, rfl, by decide +kernel, rfl, by decide +kernel, by decide +kernel⟩
  refine F.okX sc (fun vs H Q E h => ?_) (fun cdv A outer s H vs Q E hr h => ?_)
  · obtain ⟨p, v, t, b, rfl, _⟩ := h
    rfl
  · obtain ⟨p, v, t, b, rfl, ⟨dx, hp⟩, k⟩ := h
    refine ⟨_, pss_one (ps_ret (pe_op (op := .Sub) (op_ins (C := C) (E := E0) (op := .Sub) ⟨ga, rf, gf, Z.sf⟩ GD hr gb passL) (pe_call GA (hr.mono (by decide)) (by rfl) mA kA bA .nil (passes_call (takes_of rfl rfl rfl rfl) (fun _ _ _ _ z => z)) (pa_cons (pv 1) pa_nil)) (pv 0))), ?_⟩
    rcases k with ⟨t', b', nm, S, k⟩ | ⟨bd, k⟩
    · refine ⟨_, rfl, v, rfl, .inl ⟨t', b', nm, fun r H2 sm hr2 => ?_⟩⟩
      have hp2 := sm _ _ hp
      refine ⟨_, rfl, r, _, _, rfl, hr2.choose_spec, ⟨p, dx, _, rfl, hp2⟩, r, .ref p, t', b', rfl, hr2, .inl ⟨t, b, .inl ⟨p, rfl, dx, hp2⟩, S, fun q H' sm' r' => k q H' (sm.trans sm') r'⟩⟩
    · exact ⟨_, rfl, v, rfl, .inr ⟨bd, k⟩⟩

theorem ok_rmul {f : Addr} {fd : FuncData} (F : Fun K "__rmul__" "Ratio.__rmul__" (sRat 8) f fd) (Z : Tys K C)
    (GG : Glb P w K mg base "_as_ratio" 5 ["value"] (spAs C CI)) (D : Dun P w K mg base C (PySem.dunder "mul") 6 ["self", "other"] (spAr C CI (fun t b t' b' => t * t') (fun t b t' b' => b * b')))
    (rf : ∃ rc, PySem.W.findIn K (.ref C) (PySem.dunderR "mul") = some rc ∧ (rc = none ∨ ∃ q : Addr, rc = some (.ref q))) :
    FnOk P w K mg base (L2.CX P w) 7 f fd ["self", "other"] (spRf C (fun t b t' b' => t * t') (fun t b t' b' => b * b') CI) := by
  obtain ⟨fA, fdA, mA, kA, GA, bA⟩ := GG.ex
  obtain ⟨g, gd, ga, gf, _, GD, gb⟩ := D.ex
  have sc : FnScope ["self", "other"] ["self", "other"] (defScope (sRat 8)) := ⟨rfl, rfl, rfl, by decide +kernel, rfl, by decide +kernel, by decide +kernel⟩
  refine F.okX sc (fun vs H Q E h => ?_) (fun cdv A outer s H vs Q E hr h => ?_)
  · obtain ⟨p, v, t, b, rfl, _⟩ := h
    rfl
  · obtain ⟨p, v, t, b, rfl, ⟨dx, hp⟩, k⟩ := h
    refine ⟨_, pss_one (ps_ret (pe_op (op := .Mult) (op_ins (C := C) (E := E0) (op := .Mult) ⟨ga, rf, gf, Z.sf⟩ GD hr gb passL) (pe_call GA (hr.mono (by decide)) (by rfl) mA kA bA .nil (passes_call (takes_of rfl rfl rfl rfl) (fun _ _ _ _ z => z)) (pa_cons (pv 1) pa_nil)) (pv 0))), ?_⟩
    rcases k with ⟨t', b', nm, S, k⟩ | ⟨bd, k⟩
    · refine ⟨_, rfl, v, rfl, .inl ⟨t', b', nm, fun r H2 sm hr2 => ?_⟩⟩
      have hp2 := sm _ _ hp
      refine ⟨_, rfl, r, _, _, rfl, hr2.choose_spec, ⟨p, dx, _, rfl, hp2⟩, r, .ref p, t', b', rfl, hr2, .inl ⟨t, b, .inl ⟨p, rfl, dx, hp2⟩, S, fun q H' sm' r' => k q H' (sm.trans sm') r'⟩⟩
    · exact ⟨_, rfl, v, rfl, .inr ⟨bd, k⟩⟩

/-! ### one-place -/
def spUn (C : Addr) (X : Int → Int) : Sp := fun vs H Q _ => ∃ p t b, vs = [.ref p] ∧ Rat C H p t b ∧ 0 < b ∧ Sm 1200 b ∧ ∀ r H', Same H H' → Rat C H' r (nt (X t) b) (nb (X t) b) → Q (.ref r) H'
theorem sm5 {x : Int} (h : Sm 1200 x) : Sm 5000 x := Nat.lt_of_lt_of_le h (Nat.pow_le_pow_right (by decide) (by decide))
theorem ok_neg {f : Addr} {fd : FuncData} (F : Fun K "__neg__" "Ratio.__neg__" (sRat 9) f fd) (T : Txt K mg C CI fCI CZ fCZ) (M : Mak P w K mg base C CI CZ) :
    FnOk P w K mg base (L2.CX P w) 5 f fd ["self"] (spUn C fun t => -t) := by
  obtain ⟨fI, fdI, ds, mk, GI, b3, d2, b2⟩ := M.ex
  have sc : FnScope ["self"] ["self"] (defScope (sRat 9)) := ⟨rfl, rfl, rfl, by decide +kernel, rfl, by decide +kernel, by decide +kernel⟩
  refine F.okX sc (fun vs H Q E h => ?_) (fun cdv A outer s H vs Q E hr h => ?_)
  · obtain ⟨p, t, b, rfl, _⟩ := h
    rfl
  · obtain ⟨p, t, b, rfl, ⟨dx, hp⟩, b0, b1, k⟩ := h
    refine ⟨_, pss_one (ps_ret (pe_make mk GI hr (by rfl) T.gC b3 .nil passL (pa_cons (pe_un un_neg (pe_fld (pv 0) rfl)) (pa_cons (pe_fld (pv 0) rfl) pa_nil)))), ?_⟩
    refine ⟨_, rfl, p, C, dx, _, _, rfl, hp, T.cl, T.nT, flds_top _ _, _, rfl, _, rfl, p, C, dx, _, _, rfl, hp, T.cl, T.nB, flds_bot _ _, ?_⟩
    exact mk_good (Int.ne_of_gt b0) (sm5 b1) k
theorem ok_abs {f : Addr} {fd : FuncData} (F : Fun K "__abs__" "Ratio.__abs__" (sRat 10) f fd) (T : Txt K mg C CI fCI CZ fCZ) (M : Mak P w K mg base C CI CZ) :
    FnOk P w K mg base (L2.CX P w) 5 f fd ["self"] (spUn C fun t => if t < 0 then -t else t) := by
  obtain ⟨fI, fdI, ds, mk, GI, b3, d2, b2⟩ := M.ex
  have sc : FnScope ["self"] ["self"] (defScope (sRat 10)) := ⟨rfl, rfl, rfl, by decide +kernel, rfl, by decide +kernel, by decide +kernel⟩
  refine F.okX sc (fun vs H Q E h => ?_) (fun cdv A outer s H vs Q E hr h => ?_)
  · obtain ⟨p, t, b, rfl, _⟩ := h
    rfl
  · obtain ⟨p, t, b, rfl, ⟨dx, hp⟩, b0, b1, k⟩ := h
    refine ⟨_, pss_one (ps_ret (pe_make mk GI hr (by rfl) T.gC b3 .nil passL (pa_cons (pe_callB call_abs (by rfl) T.abs (by decide +kernel) (pa_cons (pe_fld (pv 0) rfl) pa_nil)) (pa_cons (pe_fld (pv 0) rfl) pa_nil)))), ?_⟩
    refine ⟨_, rfl, p, C, dx, _, _, rfl, hp, T.cl, T.nT, flds_top _ _, _, rfl, _, rfl, p, C, dx, _, _, rfl, hp, T.cl, T.nB, flds_bot _ _, ?_⟩
    exact mk_good (Int.ne_of_gt b0) (sm5 b1) k
/-! ### __eq__, __ne__, __bool__ -/
def spEq (C : Addr) (neg : Bool) : Sp := fun vs H Q _ => ∃ p v t b, vs = [.ref p, v] ∧ Rat C H p t b ∧ ((∃ q t' b', v = .ref q ∧ Rat C H q t' b' ∧ Q (.bl (neg != (decide (t = t') && decide (b = b')))) H) ∨
  (∃ i, v = .int i ∧ Q (.bl (neg != (decide (b = 1) && decide (t = i)))) H) ∨ (Bd H v ∧ Q (.bl neg) H))
theorem dI (i j : Int) : decide (V.int i = V.int j) = decide (i = j) := by
  by_cases h : i = j
  · rw [decide_eq_true h, decide_eq_true (by rw [h])]
  · rw [decide_eq_false h, decide_eq_false (fun z => h (V.int.inj z))]
theorem ok_eq {f : Addr} {fd : FuncData} (F : Fun K "__eq__" "Ratio.__eq__" (sRat 11) f fd) (T : Txt K mg C CI fCI CZ fCZ) (GW : Glb P w K mg base "is_whole" 1 ["value"] (spWhole C)) :
    FnOk P w K mg base (L2.CX P w) 2 f fd ["self", "other"] (spEq C false) := by
  obtain ⟨fW, fdW, mW, kW, GW, bW⟩ := GW.ex
  have sc : FnScope ["self", "other"] ["self", "other"] (defScope (sRat 11)) := ⟨rfl, rfl, rfl, by decide +kernel, rfl, by decide +kernel, by decide +kernel⟩
  refine F.okX sc (fun vs H Q E h => ?_) (fun cdv A outer s H vs Q E hr h => ?_)
  · obtain ⟨p, v, t, b, rfl, _⟩ := h
    rfl
  · obtain ⟨p, v, t, b, rfl, ⟨dx, hp⟩, k⟩ := h
    refine ⟨_, pss_cons (ps_if (pt_val (pe_callB call_isi (by rfl) T.isi (by decide +kernel) (pa_cons (pv 1) (pa_cons (pe_glob (v := .ref C) (by rfl) T.gC rfl) pa_nil))))
        (pss_one (ps_ret (pe_and (pe_cmpR op_eq (pe_fld (pv 0) rfl) (pe_fld (pv 1) rfl) (nomark _)) (pe_one (pe_cmpR op_eq (pe_fld (pv 0) rfl) (pe_fld (pv 1) rfl) (nomark _)))))) pss_nil)
      (pss_one (ps_ret (pe_and (pe_call GW hr (by rfl) mW kW bW .nil passL (pa_cons (pv 1) pa_nil)) (pe_and (pe_cmpR op_eq (pe_fld (pv 0) rfl) pe_int (nomark _)) (pe_one (pe_cmpR op_eq (pe_fld (pv 0) rfl) (pv 1) (nomark _))))))), ?_⟩
    rcases k with ⟨q, t', b', rfl, ⟨dq, hq⟩, k⟩ | ⟨i, rfl, k⟩ | ⟨bd, k⟩
    · refine ⟨_, rfl, _, _, _, _, _, rfl, .own C, .base (.ins hq T.cl T.ha T.hn T.htk T.hm), T.kCC, _, rfl, iteT ?_⟩
      refine ⟨_, rfl, p, C, dx, _, _, rfl, hp, T.cl, T.nT, flds_top _ _, _, rfl, q, C, dq, _, _, rfl, hq, T.cl, T.nT, flds_top _ _, rfl, _, rfl, ?_⟩
      rw [dI]
      by_cases h : t = t'
      · rw [decide_eq_true h]
        refine iteT ⟨_, rfl, p, C, dx, _, _, rfl, hp, T.cl, T.nB, flds_bot _ _, _, rfl, q, C, dq, _, _, rfl, hq, T.cl, T.nB, flds_bot _ _, rfl, ?_⟩
        rw [dI]
        rw [decide_eq_true h] at k
        simpa using k
      · rw [decide_eq_false h]
        rw [decide_eq_false h] at k
        exact iteF (by simpa using k)
    · refine ⟨_, rfl, _, _, _, _, _, rfl, .own C, .base (.int i), T.kiC, _, rfl, iteF ?_⟩
      refine ⟨_, rfl, _, rfl, .int i, _, rfl, iteT ⟨_, rfl, p, C, dx, _, _, rfl, hp, T.cl, T.nB, flds_bot _ _, rfl, _, rfl, ?_⟩⟩
      rw [dI]
      by_cases h : b = 1
      · rw [decide_eq_true h]
        refine iteT ⟨_, rfl, p, C, dx, _, _, rfl, hp, T.cl, T.nT, flds_top _ _, _, rfl, rfl, ?_⟩
        rw [dI]
        rw [decide_eq_true h] at k
        simpa using k
      · rw [decide_eq_false h]
        rw [decide_eq_false h] at k
        exact iteF (by simpa using k)
    · cases bd with
      | bl b => exact ⟨_, rfl, _, _, _, _, _, rfl, .own C, .base (.bl b), T.kbC, _, rfl, iteF ⟨_, rfl, _, rfl, .bl b, _, rfl, iteF k⟩⟩
      | non => exact ⟨_, rfl, _, _, _, _, _, rfl, .own C, .base .non, T.knC, _, rfl, iteF ⟨_, rfl, _, rfl, .non, _, rfl, iteF k⟩⟩
      | str x => exact ⟨_, rfl, _, _, _, _, _, rfl, .own C, .base (.str x), T.ksC, _, rfl, iteF ⟨_, rfl, _, rfl, .str x, _, rfl, iteF k⟩⟩
      | lst e => exact ⟨_, rfl, _, _, _, _, _, rfl, .own C, .base (.lst e), T.klC, _, rfl, iteF ⟨_, rfl, _, rfl, .lst e, _, rfl, iteF k⟩⟩
      | tup e => exact ⟨_, rfl, _, _, _, _, _, rfl, .own C, .base (.tup e), T.ktC, _, rfl, iteF ⟨_, rfl, _, rfl, .tup e, _, rfl, iteF k⟩⟩
end
end R1
end

-- K01e
section
set_option Elab.async false
set_option linter.all false
set_option maxRecDepth 100000
set_option exponentiation.threshold 6000
namespace R1
open PySem L2 OwnOps RatM
def ts (i : Int) : Str := Str.ofString (toString i)
def strT (t b : Int) : Str := if b = 1 then ts t else Str.empty ++ ts t ++ ("/" : Str) ++ ts b
def reprT (t b : Int) : Str := Str.empty ++ ("Ratio(" : Str) ++ ts t ++ (", " : Str) ++ ts b ++ (")" : Str)
def Pr (i : Int) : Prop := i.natAbs.log2 < 1920
theorem ts_len {i : Int} (h : Pr i) : (ts i).length ≤ 1921 := PyProof.Rows.int_text_len_1921 h
theorem app_len (a b : Str) : (a ++ b).length = a.length + b.length := Str.length_append a b
theorem len1 : ("/" : Str).length = 1 := by decide +kernel
theorem len2 : ("Ratio(" : Str).length = 6 := by decide +kernel
theorem len3 : (", " : Str).length = 2 := by decide +kernel
theorem len4 : (")" : Str).length = 1 := by decide +kernel
theorem len0 : Str.empty.length = 0 := by decide +kernel
section
variable {P : Program} {w : World} {K : PySem.W.Frag} {mg : Str → Option Value} {base : Heap} {C CI fCI CZ fCZ : Addr}
theorem ok_ne {f : Addr} {fd : FuncData} (F : Fun K "__ne__" "Ratio.__ne__" (sRat 12) f fd) (Z : Tys K C) (D : Dun P w K mg base C (cmpInfo .Eq).2.1 2 ["self", "other"] (spEq C false)) :
    FnOk P w K mg base (L2.CX P w) 3 f fd ["self", "other"] (spEq C true) := by
  obtain ⟨g, gd, ga, gf, _, GD, gb⟩ := D.ex
  have sc : FnScope ["self", "other"] ["self", "other"] (defScope (sRat 12)) := ⟨rfl, rfl, rfl, by decide +kernel, rfl, by decide +kernel, by decide +kernel⟩
  refine F.okX sc (fun vs H Q E h => ?_) (fun cdv A outer s H vs Q E hr h => ?_)
  · obtain ⟨p, v, t, b, rfl, _⟩ := h
    rfl
  · obtain ⟨p, v, t, b, rfl, ⟨dx, hp⟩, k⟩ := h
    refine ⟨_, pss_one (ps_ret (pe_not (pe_cmpR (op := .Eq) (cmp_own (C := C) (E := E0) (R := RAny C) (fun _ _ => rfl) ga gf GD hr gb passL (looks_any Z)) (pv 0) (pv 1) (nomark _)))), ?_⟩
    rcases k with ⟨q, t', b', rfl, ⟨dq, hq⟩, k⟩ | ⟨i, rfl, k⟩ | ⟨bd, k⟩
    · exact ⟨_, rfl, _, rfl, p, dx, _, rfl, hp, .inl ⟨q, dq, _, rfl, hq⟩, p, .ref q, t, b, rfl, ⟨dx, hp⟩, .inl ⟨q, t', b', rfl, ⟨dq, hq⟩, _, rfl, by cases hx : (decide (t = t') && decide (b = b')) <;> rw [hx] at k <;> exact k⟩⟩
    · exact ⟨_, rfl, _, rfl, p, dx, _, rfl, hp, .inr (.inl ⟨i, rfl⟩), p, .int i, t, b, rfl, ⟨dx, hp⟩, .inr (.inl ⟨i, rfl, _, rfl, by cases hx : (decide (b = 1) && decide (t = i)) <;> rw [hx] at k <;> exact k⟩)⟩
    · exact ⟨_, rfl, _, rfl, p, dx, _, rfl, hp, .inr (.inr bd), p, v, t, b, rfl, ⟨dx, hp⟩, .inr (.inr ⟨bd, _, rfl, k⟩)⟩
def spBool (C : Addr) : Sp := fun vs H Q _ => ∃ p t b, vs = [.ref p] ∧ Rat C H p t b ∧ Q (.bl (!decide (t = 0))) H
theorem ok_bool {f : Addr} {fd : FuncData} (F : Fun K "__bool__" "Ratio.__bool__" (sRat 17) f fd) (T : Txt K mg C CI fCI CZ fCZ) :
    FnOk P w K mg base (L2.CX P w) 1 f fd ["self"] (spBool C) := by
  have sc : FnScope ["self"] ["self"] (defScope (sRat 17)) := ⟨rfl, rfl, rfl, by decide +kernel, rfl, by decide +kernel, by decide +kernel⟩
  refine F.okX sc (fun vs H Q E h => ?_) (fun cdv A outer s H vs Q E hr h => ?_)
  · obtain ⟨p, t, b, rfl, _⟩ := h
    rfl
  · obtain ⟨p, t, b, rfl, ⟨dx, hp⟩, k⟩ := h
    refine ⟨_, pss_one (ps_ret (pe_callTy call_bool1 (by rfl) T.bool (by decide +kernel) (pa_cons (pe_cmpR op_ne (pe_fld (pv 0) rfl) pe_int (nomark _)) pa_nil))), ?_⟩
    refine ⟨_, rfl, p, C, dx, _, _, rfl, hp, T.cl, T.nT, flds_top _ _, rfl, .inr ⟨_, rfl, ?_⟩⟩
    rw [dI]
    exact k
def spStr (C : Addr) (X : Int → Int → Str) : Sp := fun vs H Q _ => ∃ p t b, vs = [.ref p] ∧ Rat C H p t b ∧ Pr t ∧ Pr b ∧ Q (.str (X t b)) H
theorem ok_str {f : Addr} {fd : FuncData} (F : Fun K "__str__" "Ratio.__str__" (sRat 18) f fd) (T : Txt K mg C CI fCI CZ fCZ) :
    FnOk P w K mg base (L2.CX P w) 1 f fd ["self"] (spStr C strT) := by
  have sc : FnScope ["self"] ["self"] (defScope (sRat 18)) := ⟨rfl, rfl, rfl, by decide +kernel, rfl, by decide +kernel, by decide +kernel⟩
  refine F.okX sc (fun vs H Q E h => ?_) (fun cdv A outer s H vs Q E hr h => ?_)
  · obtain ⟨p, t, b, rfl, _⟩ := h
    rfl
  · obtain ⟨p, t, b, rfl, ⟨dx, hp⟩, pt, pb, k⟩ := h
    refine ⟨_, pss_cons (ps_if (pt_cmpR op_eq (pe_fld (pv 0) rfl) pe_int (nomark _)) (pss_one (ps_ret (pe_callTy call_str_int (by rfl) T.str (by decide +kernel) (pa_cons (pe_fld (pv 0) rfl) pa_nil)))) pss_nil)
      (pss_one (ps_ret (pe_joined (.cons (pe_fmt (pe_fld (pv 0) rfl)) (.cons pe_str (.cons (pe_fmt (pe_fld (pv 0) rfl)) .nil)))))), ?_⟩
    refine ⟨_, rfl, p, C, dx, _, _, rfl, hp, T.cl, T.nB, flds_bot _ _, rfl, _, rfl, ?_⟩
    rw [dI]
    have lt := ts_len pt
    have lb := ts_len pb
    have ez := sizeLine_eq
    by_cases h : b = 1
    · refine if_pos' (decide_eq_true h) ⟨_, rfl, p, C, dx, _, _, rfl, hp, T.cl, T.nT, flds_top _ _, _, rfl, pt, ?_⟩
      have e : strT t b = ts t := if_pos h
      rw [e] at k
      exact k
    · refine if_neg' (decide_eq_false h) ⟨_, rfl, p, C, dx, _, _, rfl, hp, T.cl, T.nT, flds_top _ _, .inr ⟨_, rfl, pt, ts t, rfl, ?_, ("/" : Str), rfl, ?_, _, rfl, p, C, dx, _, _, rfl, hp, T.cl, T.nB, flds_bot _ _, .inr ⟨_, rfl, pb, ts b, rfl, ?_, ?_⟩⟩⟩
      · rw [app_len, len0]; omega
      · rw [app_len, app_len, len0, len1]; omega
      · rw [app_len, app_len, app_len, len0, len1]; omega
      · have e : strT t b = Str.empty ++ ts t ++ ("/" : Str) ++ ts b := if_neg h
        rw [e] at k
        exact k
theorem ok_repr {f : Addr} {fd : FuncData} (F : Fun K "__repr__" "Ratio.__repr__" (sRat 19) f fd) (T : Txt K mg C CI fCI CZ fCZ) :
    FnOk P w K mg base (L2.CX P w) 1 f fd ["self"] (spStr C reprT) := by
  have sc : FnScope ["self"] ["self"] (defScope (sRat 19)) := ⟨rfl, rfl, rfl, by decide +kernel, rfl, by decide +kernel, by decide +kernel⟩
  refine F.okX sc (fun vs H Q E h => ?_) (fun cdv A outer s H vs Q E hr h => ?_)
  · obtain ⟨p, t, b, rfl, _⟩ := h
    rfl
  · obtain ⟨p, t, b, rfl, ⟨dx, hp⟩, pt, pb, k⟩ := h
    have lt := ts_len pt
    have lb := ts_len pb
    have ez := sizeLine_eq
    refine ⟨_, pss_one (ps_ret (pe_joined (.cons pe_str (.cons (pe_fmt (pe_fld (pv 0) rfl)) (.cons pe_str (.cons (pe_fmt (pe_fld (pv 0) rfl)) (.cons pe_str .nil))))))), ?_⟩
    refine ⟨("Ratio(" : Str), rfl, ?_, _, rfl, p, C, dx, _, _, rfl, hp, T.cl, T.nT, flds_top _ _, .inr ⟨_, rfl, pt, ts t, rfl, ?_, (", " : Str), rfl, ?_, _, rfl, p, C, dx, _, _, rfl, hp, T.cl, T.nB, flds_bot _ _, .inr ⟨_, rfl, pb, ts b, rfl, ?_, (")" : Str), rfl, ?_, k⟩⟩⟩
    · rw [app_len, len0, len2]; omega
    · rw [app_len, app_len, len0, len2]; omega
    · rw [app_len, app_len, app_len, len0, len2, len3]; omega
    · rw [app_len, app_len, app_len, app_len, len0, len2, len3]; omega
    · rw [app_len, app_len, app_len, app_len, app_len, len0, len2, len3, len4]; omega
end
end R1
end

-- K01f
section
set_option Elab.async false
set_option linter.all false
set_option maxRecDepth 100000
set_option exponentiation.threshold 6000
namespace R1
open PySem L2 OwnOps RatM
abbrev sDraws : Stmt := top 12
abbrev sDraw : Stmt := top 13
abbrev sNumber : Stmt := top 14
abbrev sDivisor : Stmt := top 15
structure Nms (mg : Str → Option Value) : Prop where
  len : mg "len" = none
  max : mg "max" = none
  min : mg "min" = none
  range : mg "range" = none
theorem dp_ints {K : PySem.W.Frag} {H : Hp} : ∀ ns : List Int, DpAll K H (ns.map V.int) (ns.map PyData.int)
  | [] => .nil
  | n :: r => .cons (.int n) (dp_ints r)
theorem atI_mod {ns : List Int} {k : Int} (h : ns ≠ []) : ∃ z, atI (ns.map V.int) (k % (ns.length : Int)) = some (.int z) := by
  have hl : 0 < ns.length := List.length_pos_iff.mpr h
  have h1 : 0 ≤ k % (ns.length : Int) := Int.emod_nonneg _ (by omega)
  have h2 : k % (ns.length : Int) < ns.length := Int.emod_lt_of_pos _ (by omega)
  obtain ⟨j, hj⟩ : ∃ j : Nat, k % (ns.length : Int) = j := ⟨_, (Int.toNat_of_nonneg h1).symm⟩
  have h3 : j < ns.length := by omega
  refine ⟨ns[j], at_of hj ?_⟩
  rw [List.getElem?_map, List.getElem?_eq_getElem h3]
  rfl
section
variable {P : Program} {w : World} {K : PySem.W.Frag} {mg : Str → Option Value} {base : Heap} {C CI fCI CZ fCZ : Addr}
/-! ### the law's draws -/
def spDraws (K : PySem.W.Frag) : Sp := fun vs H Q _ => ∃ (a : Addr) (ns : List Int) (k : Int), vs = [.ref a, .int k] ∧ SqL K H a (ns.map V.int) ∧
  ∀ p x y H', Same H H' → H' p = some (.lst [.int x, .int y]) → H p = none → Q (.ref p) H'
theorem ok_draws {f : Addr} {fd : FuncData} (F : Fun K "_law_draws" "_law_draws" sDraws f fd) (T : Txt K mg C CI fCI CZ fCZ) (N : Nms mg) :
    FnOk P w K mg base (L2.CX P w) 1 f fd ["_law_script", "_law_k"] (spDraws K) := by
  have sc : FnScope ["_law_script", "_law_k", "_law_cell", "_law_seed"] ["_law_script", "_law_k"] (defScope sDraws) := ⟨rfl, rfl, rfl, by decide +kernel, rfl, by decide +kernel, by decide +kernel⟩
  refine F.okX sc (fun vs H Q E h => ?_) (fun cdv A outer s H vs Q E hr h => ?_)
  · obtain ⟨a, ns, k, rfl, _⟩ := h
    rfl
  · obtain ⟨a, ns, k, rfl, hS, fin⟩ := h
    refine ⟨_, pss_cons (ps_set (i := 2) sc.nd rfl (Or.inl rfl) pe_int)
      (pss_cons (ps_if (pt_cmpR (op_neD hr.units) (pv 0) (pe_lst pa_nil) (nomark _))
        (pss_one (ps_set (i := 2) sc.nd rfl (Or.inl rfl) (pe_ix ix_list (pv 0) (pe_op op_mod (pe_callTy call_int1 (by rfl) T.int (by decide +kernel) (pa_cons (pv 1) pa_nil)) (pe_callB call_len_seq (by rfl) N.len PySem.boot_len (pa_cons (pv 0) pa_nil))) (fun _ _ => rfl)))) pss_nil)
      (pss_cons (ps_if (pt_cmpR op_ge (pv 1) (pe_callB call_len_seq (by rfl) N.len PySem.boot_len (pa_cons (pv 0) pa_nil)) (nomark _))
        (pss_one (ps_set (i := 2) sc.nd rfl (Or.inl rfl) (pe_op op_mod (pe_callTy call_int1 (by rfl) T.int (by decide +kernel) (pa_cons (pv 2) pa_nil)) pe_int))) pss_nil)
      (pss_cons (ps_set (i := 3) sc.nd rfl (Or.inl rfl) (pe_op op_mod (pe_op op_mul (pe_callTy call_int1 (by rfl) T.int (by decide +kernel) (pa_cons
          (pe_op op_add (pe_op op_add (pe_op op_mod (pe_callTy call_int1 (by rfl) T.int (by decide +kernel) (pa_cons (pv 2) pa_nil)) pe_int) (pe_op op_mul pe_int (pv 1))) pe_int) pa_nil)) pe_int) pe_int))
      (pss_one (ps_ret (pe_lst (pa_cons (pe_op op_mul (pv 2) (pe_callTy call_int1 (by rfl) T.int (by decide +kernel) (pa_cons (pe_cmpR op_ge (pv 2) (pe_op op_pow pe_int pe_int) (nomark _)) pa_nil))) (pa_cons (pv 3) pa_nil)))))))), ?_⟩
    refine ⟨_, rfl, (by show 0 ≤ sizeLine; exact Nat.zero_le _), fun p0 np0 => ?_⟩
    have s0 : Same H (upd H p0 (.lst [])) := same_upd np0
    have hS0 := s0.seq hS
    have e0 : (upd H p0 (.lst [])) p0 = some (.lst []) := upd_same
    generalize upd H p0 (.lst []) = H0 at s0 hS0 e0
    have el : (1000003 : Int) > 0 := by decide
    have bits : ∀ z : Int, -(2 ^ 64) < (if decide (z ≥ 10 ^ 18) = true then (1 : Int) else 0) ∧ (if decide (z ≥ 10 ^ 18) = true then (1 : Int) else 0) < 2 ^ 64 := fun z => by
      split <;> exact ⟨by decide, by decide⟩
    refine ⟨.list (ns.map PyData.int), .list [], .lst hS0 (dp_ints ns), .lst (SqL.of e0) .nil, PySem.W.ke_shaped_ints ns, by decide +kernel, _, rfl, ?_⟩
    by_cases hn : ns = []
    · subst hn
      refine iteF ?_
      refine ⟨_, rfl, _, rfl, a, _, rfl, .inl hS0, _, _, rfl, rfl, _, rfl, ?_⟩
      refine ite2 (fun _ => ⟨_, rfl, .inl ⟨_, rfl, _, _, rfl, rfl, (by show (0 : Int) < 1000003; decide), ?_⟩⟩) (fun _ => ?_)
      all_goals
        refine ⟨_, rfl, .inl ⟨_, rfl, _, _, rfl, rfl, (by show (0 : Int) < 2147483629; decide), _, rfl, _, _, rfl, rfl, .inl ⟨by decide, by decide⟩, _, _, rfl, rfl, _, _, rfl, rfl, .inl ⟨_, rfl, _, _, rfl, rfl, .inr ⟨by decide, by decide⟩, _, _, rfl, rfl, (by show (0 : Int) < 2147483647; decide), ?_⟩⟩⟩
        refine ⟨_, rfl, _, rfl, _, _, rfl, rfl, ⟨by decide, by decide, by decide +kernel⟩, _, _, rfl, rfl, .inr ⟨_, rfl, _, _, rfl, rfl, .inr (bits _), _, rfl, (by show 2 ≤ sizeLine; decide), fun p np => ?_⟩⟩
        exact fin p _ _ _ (s0.trans (same_upd np)) upd_same (s0.free np)
    · have ef : PyData.eqv (.list (ns.map PyData.int)) (.list []) = false := by
        cases ns with
        | nil => exact absurd rfl hn
        | cons _ _ => rfl
      rw [ef]
      obtain ⟨z, hz⟩ := atI_mod (k := k) hn
      refine iteT ⟨_, rfl, _, rfl, .inl ⟨_, rfl, _, rfl, a, _, rfl, .inl hS0, _, _, rfl, rfl, (by rw [List.length_map]; exact Int.natCast_pos.mpr (List.length_pos_iff.mpr hn)), a, _, _, _, rfl, rfl, hS0, (by rw [List.length_map]; exact hz), ?_⟩⟩
      refine ⟨_, rfl, _, rfl, a, _, rfl, .inl hS0, _, _, rfl, rfl, _, rfl, ?_⟩
      refine ite2 (fun _ => ⟨_, rfl, .inl ⟨_, rfl, _, _, rfl, rfl, (by show (0 : Int) < 1000003; decide), ?_⟩⟩) (fun _ => ?_)
      all_goals
        refine ⟨_, rfl, .inl ⟨_, rfl, _, _, rfl, rfl, (by show (0 : Int) < 2147483629; decide), _, rfl, _, _, rfl, rfl, .inl ⟨by decide, by decide⟩, _, _, rfl, rfl, _, _, rfl, rfl, .inl ⟨_, rfl, _, _, rfl, rfl, .inr ⟨by decide, by decide⟩, _, _, rfl, rfl, (by show (0 : Int) < 2147483647; decide), ?_⟩⟩⟩
        refine ⟨_, rfl, _, rfl, _, _, rfl, rfl, ⟨by decide, by decide, by decide +kernel⟩, _, _, rfl, rfl, .inr ⟨_, rfl, _, _, rfl, rfl, .inr (bits _), _, rfl, (by show 2 ≤ sizeLine; decide), fun p np => ?_⟩⟩
        exact fin p _ _ _ (s0.trans (same_upd np)) upd_same (s0.free np)
end
end R1
end

-- K01g
section
set_option Elab.async false
set_option linter.all false
set_option maxRecDepth 100000
set_option exponentiation.threshold 6000
namespace R1
open PySem L2 OwnOps RatM
section
variable {P : Program} {w : World} {K : PySem.W.Frag} {mg : Str → Option Value} {base : Heap} {C CI fCI CZ fCZ : Addr}
def spDraw : Sp := fun vs H Q _ => ∃ (l : Addr) (u x y : Int), vs = [.ref l, .int u] ∧ 0 < u ∧ u < 1073741824 ∧ H l = some (.lst [.int x, .int y]) ∧
  ∀ d x' y', 0 ≤ d → d < u → Q (.int d) (upd H l (.lst [.int x', .int y']))
theorem ok_draw {f : Addr} {fd : FuncData} (F : Fun K "_law_draw" "_law_draw" sDraw f fd) (T : Txt K mg C CI fCI CZ fCZ) :
    FnOk P w K mg base (L2.CX P w) 1 f fd ["_law_draws_here", "_law_upto"] spDraw := by
  have sc : FnScope ["_law_draws_here", "_law_upto", "_law_digit"] ["_law_draws_here", "_law_upto"] (defScope sDraw) := ⟨rfl, rfl, rfl, by decide +kernel, rfl, by decide +kernel, by decide +kernel⟩
  refine F.okX sc (fun vs H Q E h => ?_) (fun cdv A outer s H vs Q E hr h => ?_)
  · obtain ⟨l, u, x, y, rfl, _⟩ := h
    rfl
  · obtain ⟨l, u, x, y, rfl, u0, u1, hl, fin⟩ := h
    refine ⟨_, pss_cons (ps_if (pt_cmpR op_gt (pe_ix ix_list (pv 0) pe_int (fun _ _ => rfl)) pe_int (nomark _))
        (pss_cons (ps_set (i := 2) sc.nd rfl (Or.inl rfl) (pe_op op_mod (pe_callTy call_int1 (by rfl) T.int (by decide +kernel) (pa_cons (pe_ix ix_list (pv 0) pe_int (fun _ _ => rfl)) pa_nil)) (pv 1)))
        (pss_cons (ps_asg (pe_op op_fdiv (pe_ix ix_list (pv 0) pe_int (fun _ _ => rfl)) (pv 1)) (pg_sub (pv 0) pe_int set_list))
        (pss_one (ps_ret (pv 2))))) pss_nil)
      (pss_cons (ps_asg (pe_op op_mod (pe_callTy call_int1 (by rfl) T.int (by decide +kernel) (pa_cons (pe_op op_add (pe_op op_mul (pe_ix ix_list (pv 0) pe_int (fun _ _ => rfl)) pe_int) pe_int) pa_nil)) pe_int) (pg_sub (pv 0) pe_int set_list))
      (pss_one (ps_ret (pe_op op_mod (pe_callTy call_int1 (by rfl) T.int (by decide +kernel) (pa_cons (pe_op op_fdiv (pe_op op_mod (pe_callTy call_int1 (by rfl) T.int (by decide +kernel)
        (pa_cons (pe_op op_mul (pe_ix ix_list (pv 0) pe_int (fun _ _ => rfl)) (pe_ix ix_list (pv 0) pe_int (fun _ _ => rfl))) pa_nil)) pe_int) pe_int) pa_nil)) (pv 1))))), ?_⟩
    refine ⟨_, rfl, l, _, _, _, rfl, rfl, SqL.of hl, at_of (j := 0) rfl rfl, _, _, rfl, rfl, _, rfl, ?_⟩
    refine ite2 (fun _ => ?_) (fun _ => ?_)
    · refine ⟨_, rfl, l, _, _, _, rfl, rfl, SqL.of hl, at_of (j := 0) rfl rfl, .inl ⟨_, rfl, _, rfl, _, _, rfl, rfl, u0, ?_⟩⟩
      refine ⟨_, rfl, l, _, _, _, rfl, rfl, SqL.of hl, at_of (j := 0) rfl rfl, _, rfl, _, _, rfl, rfl, ⟨u0, u1⟩, _, rfl, l, _, _, 0, rfl, rfl, hl, rfl, _, rfl, ?_⟩
      exact fin _ _ _ (Int.emod_nonneg _ (Int.ne_of_gt u0)) (Int.emod_lt_of_pos _ u0)
    · refine ⟨_, rfl, l, _, _, _, rfl, rfl, SqL.of hl, at_of (j := 1) rfl rfl, _, _, rfl, rfl, .inr ⟨by decide, by decide⟩, _, _, rfl, rfl, .inl ⟨_, rfl, _, _, rfl, rfl, (by show (0 : Int) < 2147483647; decide), _, rfl, l, _, _, 1, rfl, rfl, hl, rfl, ?_⟩⟩
      have y0 : 0 ≤ (y * 48271 + 11) % 2147483647 := Int.emod_nonneg _ (by decide)
      have y1 : (y * 48271 + 11) % 2147483647 < 2147483647 := Int.emod_lt_of_pos _ (by decide)
      have hl2 : (upd H l (.lst [.int x, .int ((y * 48271 + 11) % 2147483647)])) l = some (.lst [.int x, .int ((y * 48271 + 11) % 2147483647)]) := upd_same
      refine ⟨_, rfl, l, _, _, .int ((y * 48271 + 11) % 2147483647), rfl, rfl, SqL.of hl2, at_of (j := 1) rfl rfl, _, rfl, l, _, _, .int ((y * 48271 + 11) % 2147483647), rfl, rfl, SqL.of hl2, at_of (j := 1) rfl rfl, _, _, rfl, rfl, .inl ⟨by omega, by omega⟩, .inl ⟨_, rfl, _, _, rfl, rfl, (by show (0 : Int) < 2147483629; decide), _, _, rfl, rfl, ⟨by decide, by decide⟩, .inl ⟨_, rfl, _, rfl, _, _, rfl, rfl, u0, ?_⟩⟩⟩
      exact fin _ _ _ (Int.emod_nonneg _ (Int.ne_of_gt u0)) (Int.emod_lt_of_pos _ u0)
def spNumber : Sp := fun vs H Q _ => ∃ (l : Addr) (x y : Int), vs = [.ref l] ∧ H l = some (.lst [.int x, .int y]) ∧ ∀ n x' y', Sm 200 n → Q (.int n) (upd H l (.lst [.int x', .int y']))
theorem ok_number {f : Addr} {fd : FuncData} (F : Fun K "_law_number" "_law_number" sNumber f fd) (GD : Glb P w K mg base "_law_draw" 1 ["_law_draws_here", "_law_upto"] spDraw) :
    FnOk P w K mg base (L2.CX P w) 2 f fd ["_law_draws_here"] spNumber := by
  obtain ⟨g, gd, mD, kD, GD, bD⟩ := GD.ex
  have sc : FnScope ["_law_draws_here", "_law_small"] ["_law_draws_here"] (defScope sNumber) := ⟨rfl, rfl, rfl, by decide +kernel, rfl, by decide +kernel, by decide +kernel⟩
  refine F.okX sc (fun vs H Q E h => ?_) (fun cdv A outer s H vs Q E hr h => ?_)
  · obtain ⟨l, x, y, rfl, _⟩ := h
    rfl
  · obtain ⟨l, x, y, rfl, hl, fin⟩ := h
    refine ⟨_, pss_cons (ps_set (i := 1) sc.nd rfl (Or.inl rfl) (pe_op op_sub (pe_call GD hr (by rfl) mD kD bD .nil passL (pa_cons (pv 0) (pa_cons pe_int pa_nil))) pe_int))
      (pss_cons (ps_if (pt_cmpR op_gt (pe_call GD hr (by rfl) mD kD bD .nil passL (pa_cons (pv 0) (pa_cons pe_int pa_nil))) pe_int (nomark _)) (pss_one (ps_ret (pv 1))) pss_nil)
      (pss_one (ps_ret (pe_op op_sub (pe_op op_add (pe_op op_mul (pv 1) (pe_op op_pow pe_int pe_int)) (pe_call GD hr (by rfl) mD kD bD .nil passL (pa_cons (pv 0) (pa_cons (pe_op op_pow pe_int pe_int) pa_nil)))) (pe_op op_mul pe_int (pe_op op_pow pe_int pe_int)))))), ?_⟩
    refine ⟨_, rfl, l, 41, x, y, rfl, by decide, by decide, hl, fun d x1 y1 d0 d1 => ⟨_, _, rfl, rfl, ?_⟩⟩
    have h1 : (upd H l (.lst [.int x1, .int y1])) l = some (.lst [.int x1, .int y1]) := upd_same
    refine ⟨_, rfl, l, 4, x1, y1, rfl, by decide, by decide, h1, fun e x2 y2 e0 e1 => ⟨_, _, rfl, rfl, _, rfl, ?_⟩⟩
    rw [upd_upd]
    have h2 : (upd H l (.lst [.int x2, .int y2])) l = some (.lst [.int x2, .int y2]) := upd_same
    have big : (2 : Nat) ^ 200 = 1606938044258990275541962092341162602522202993782792835301376 := by decide +kernel
    refine ite2 (fun _ => ⟨_, rfl, fin _ _ _ ?_⟩) (fun _ => ?_)
    · unfold Sm
      rw [big]
      omega
    · have p1 : ((10 : Int) ^ (9 : Int).toNat) = 1000000000 := by decide +kernel
      have p2 : ((10 : Int) ^ (8 : Int).toNat) = 100000000 := by decide +kernel
      have p3 : ((10 : Int) ^ (58 : Int).toNat) = 10000000000000000000000000000000000000000000000000000000000 := by decide +kernel
      refine ⟨_, rfl, _, _, rfl, rfl, ⟨by decide, by decide, by decide +kernel⟩, _, _, rfl, rfl, .inl ⟨by omega, by omega⟩, _, rfl, _, _, rfl, rfl, ⟨by decide, by decide, by decide +kernel⟩, l, _, x2, y2, rfl, (by rw [p1]; decide), (by rw [p1]; decide), h2, fun v x3 y3 v0 v1 => ?_⟩
      refine ⟨_, _, rfl, rfl, _, _, rfl, rfl, ⟨by decide, by decide, by decide +kernel⟩, _, _, rfl, rfl, .inl ⟨by decide, by decide⟩, _, _, rfl, rfl, ?_⟩
      rw [upd_upd]
      refine fin _ _ _ ?_
      rw [p1] at v1
      unfold Sm
      rw [big, p2, p3]
      omega
end
end R1
end

-- K01h
section
set_option Elab.async false
set_option linter.all false
set_option maxRecDepth 100000
set_option exponentiation.threshold 6000
namespace R1
open PySem L2 OwnOps RatM
abbrev sIs : Stmt := top 16
theorem passOwn {X : Cx} {K : Value → Shared → Prop} {E₁ : Value → Shared → Prop} (hx : X.xe = fun e s' => wpAny (model X.prog X.w) X.A (leaving X.env e) (fun _ s'' => K e s'') E₁ s' := by rfl) : PassesOwn (model X.prog X.w) X.A X.env X.xe := passes_of hx
/-- a text times 0 or 1 -/
theorem op_mulTxt {X : Cx} : OpR X (binaryOp .Mult) (fun x y H Q => ∃ (z : Str) (k : Bool), x = .str z ∧ y = .int (if k = true then 1 else 0) ∧ Q (.str (if k = true then z else Str.empty)) H) := by
  intro pins s σ H x y v u Q I rx ry h
  obtain ⟨z, k, rfl, rfl, q⟩ := h
  obtain ⟨t, rfl⟩ := (show ∃ t, v = Value.str z t from rx)
  cases k with
  | true =>
    obtain ⟨t', rfl⟩ := (show ∃ t', u = Value.int 1 t' from ry)
    refine P.mul_str (by decide) (fun _ h => absurd h (by simp)) (fun _ h => absurd h (by simp)) ?_
    rw [if_neg (by decide), if_pos (by simp)]
    exact ⟨.str z, H, I, ⟨t, rfl⟩, q⟩
  | false =>
    obtain ⟨t', rfl⟩ := (show ∃ t', u = Value.int 0 t' from ry)
    exact P.mul_str_none (by decide) (by decide) ⟨.str Str.empty, H, I.tok _, ⟨_, rfl⟩, q⟩
theorem reprT_eq (t b : Int) : reprT t b = ("Ratio(" : Str) ++ ts t ++ (", " : Str) ++ ts b ++ (")" : Str) := by
  unfold reprT
  rw [Str.empty_append]
theorem strT_eq (t b : Int) : strT t b = ts t ++ (if (!decide (b = 1)) = true then ("/" : Str) ++ ts b else Str.empty) := by
  unfold strT
  by_cases h : b = 1
  · rw [if_pos h, decide_eq_true h]
    exact (Str.append_empty _).symm
  · rw [if_neg h, decide_eq_false h, Str.empty_append, Str.append_assoc]
    rfl
theorem pr_of {x : Int} (h : Sm 1900 x) : Pr x := Nat.lt_of_lt_of_le (PySem.Flt.log2_lt_of (by decide) h) (by decide)
section
variable {P : Program} {w : World} {K : PySem.W.Frag} {mg : Str → Option Value} {base : Heap} {C CI fCI CZ fCZ : Addr}
/-! ### the law's own divisor -/
def spDivisor : Sp := fun vs H Q _ => ∃ a b : Int, vs = [.int a, .int b] ∧ Q (.int ((Nat.gcd a.natAbs b.natAbs : Nat) : Int)) H
theorem ok_divisor {f : Addr} {fd : FuncData} (F : Fun K "_law_divisor" "_law_divisor" sDivisor f fd) (T : Txt K mg C CI fCI CZ fCZ) :
    FnOk P w K mg base (L2.CX P w) 1 f fd ["_law_one", "_law_other"] spDivisor := by
  have sc : FnScope ["_law_one", "_law_other", "_law_left", "_law_right"] ["_law_one", "_law_other"] (defScope sDivisor) := ⟨rfl, rfl, rfl, by decide +kernel, rfl, by decide +kernel, by decide +kernel⟩
  refine F.okX sc (fun vs H Q E h => ?_) (fun cdv A outer s H vs Q E hr h => ?_)
  · obtain ⟨a, b, rfl, _⟩ := h
    rfl
  · obtain ⟨a, b, rfl, fin⟩ := h
    refine ⟨_, pss_cons (ps_par (i := 2) (j := 3) rfl sc.nd rfl rfl (by decide) rfl rfl (pa_cons (pe_callB call_abs (by rfl) T.abs (by decide +kernel) (pa_cons (pv 0) pa_nil)) (pa_cons (pe_callB call_abs (by rfl) T.abs (by decide +kernel) (pa_cons (pv 1) pa_nil)) pa_nil)) (by rfl))
      (pss_cons (ps_while passOwn (pt_cmpR op_ne (pv 3) pe_int (nomark _))
        (pss_one (ps_par (i := 2) (j := 3) rfl sc.nd rfl rfl (by decide) rfl rfl (pa_cons (pv 3) (pa_cons (pe_op op_mod (pe_callTy call_int1 (by rfl) T.int (by decide +kernel) (pa_cons (pv 2) pa_nil)) (pv 3)) pa_nil)) (by rfl))))
      (pss_one (ps_ret (pv 2)))), ?_⟩
    refine ⟨_, rfl, _, rfl, _, rfl, _, rfl, _, _, rfl, ?_⟩
    have na : ∀ x : Int, (if x < 0 then -x else x) = (x.natAbs : Int) := fun x => by split <;> omega
    refine while_by (fun σ H' => H' = H ∧ ∃ L R : Nat, σ = [some (.int a), some (.int b), some (.int (L : Int)), some (.int (R : Int))] ∧ Nat.gcd L R = Nat.gcd a.natAbs b.natAbs)
      (fun σ _ => match σ with | [_, _, _, some (.int r)] => r.natAbs | _ => 0) ⟨rfl, a.natAbs, b.natAbs, by rw [na, na]; rfl, rfl⟩ ?_ ?_
    · rintro σ H' ⟨rfl, L, R, rfl, hg⟩
      refine ⟨_, rfl, rfl, _, rfl, ?_⟩
      rw [dI]
      by_cases hR : (R : Int) = 0
      · refine if_neg' (by rw [decide_eq_true hR]; rfl) ⟨_, rfl, ?_⟩
        have hR0 : R = 0 := by omega
        rw [hR0, Nat.gcd_zero_right] at hg
        rw [hg]
        exact fin
      · have hp : 0 < R := by omega
        refine if_pos' (by rw [decide_eq_false hR]; rfl) ⟨_, rfl, _, rfl, .inl ⟨_, rfl, _, rfl, _, _, rfl, rfl, (by show (0 : Int) < (R : Int); omega), _, _, rfl, ⟨rfl, R, L % R, ?_, ?_⟩, ?_⟩⟩
        · rfl
        · rw [← hg, Nat.gcd_comm L R, Nat.gcd_rec R L, Nat.gcd_comm]
        · show ((L : Int) % (R : Int)).natAbs < ((R : Int)).natAbs
          rw [← Int.natCast_emod]
          exact Nat.mod_lt _ hp
    · rintro σ H' Q1 Q2 hq ⟨v, e, h1, h2, h3, h4⟩
      exact ⟨v, e, h1, h2, h3, hq _ _ h4⟩
end
end R1
end

-- K01i
section
set_option Elab.async false
set_option linter.all false
set_option maxRecDepth 100000
set_option exponentiation.threshold 6000
namespace R1
open PySem L2 OwnOps RatM
section
variable {P : Program} {w : World} {K : PySem.W.Frag} {mg : Str → Option Value} {base : Heap} {C CI fCI CZ fCZ : Addr}
/-! ### the law's look at a ratio -/
def spIs (C : Addr) : Sp := fun vs H Q _ => ∃ (p : Addr) (x y : Int), vs = [.ref p, .int x, .int y] ∧ Rat C H p (nt x y) (nb x y) ∧ y ≠ 0 ∧ Sm 1900 x ∧ Sm 1900 y ∧ ∀ H', Same H H' → Q (.bl true) H'
theorem val_eq {R : V → Hp → Prop} {a b : V} {H : Hp} (e : a = b) (h : R b H) : R a H := e ▸ h
theorem not_of_eq {a b : V} (h : a = b) : (!decide (a = b)) = false := by rw [decide_eq_true h]; rfl
theorem gen_H {G R : Hp → Prop} {H : Hp} (r : R H) (h : ∀ H0, R H0 → G H0) : G H := h H r
theorem by_eq {x y : Int} (hy : y ≠ 0) : ((Nat.gcd x.natAbs y.natAbs : Nat) : Int) * (1 - 2 * (if decide (y < 0) = true then (1 : Int) else 0)) = cmn x y := by
  unfold cmn
  by_cases h : y < 0
  · rw [decide_eq_true h, if_pos rfl, if_neg (by omega)]
    omega
  · rw [decide_eq_false h, if_neg Bool.false_ne_true, if_pos (by omega)]
    omega
theorem ok_is {f : Addr} {fd : FuncData} (F : Fun K "_law_is" "_law_is" sIs f fd) (T : Txt K mg C CI fCI CZ fCZ) (GD : Glb P w K mg base "_law_divisor" 1 ["_law_one", "_law_other"] spDivisor)
    (DS : Dun P w K mg base C "__str__" 1 ["self"] (spStr C strT)) (DR : Dun P w K mg base C "__repr__" 1 ["self"] (spStr C reprT)) :
    FnOk P w K mg base (L2.CX P w) 4 f fd ["_law_ratio", "_law_top", "_law_bottom"] (spIs C) := by
  obtain ⟨g, gd, mD, kD, GD, bD⟩ := GD.ex
  obtain ⟨f1, fd1, a1, i1, _, G1, b1⟩ := DS.ex
  obtain ⟨f2, fd2, a2, i2, _, G2, b2⟩ := DR.ex
  have sc : FnScope ["_law_ratio", "_law_top", "_law_bottom", "_law_by", "_law_due", "_law_text"] ["_law_ratio", "_law_top", "_law_bottom"] (defScope sIs) := ⟨rfl, rfl, rfl, by decide +kernel, rfl, by decide +kernel, by decide +kernel⟩
  refine F.okX sc (fun vs H Q E h => ?_) (fun cdv A outer s H vs Q E hr h => ?_)
  · obtain ⟨p, x, y, rfl, _⟩ := h
    rfl
  · obtain ⟨p, x, y, rfl, ⟨dx, hp⟩, y0, bx, by', fin⟩ := h
    refine ⟨_, pss_cons (ps_set (i := 3) sc.nd rfl (Or.inl rfl) (pe_op op_mul (pe_call GD (hr.mono (by decide)) (by rfl) mD kD bD .nil passL (pa_cons (pv 1) (pa_cons (pv 2) pa_nil)))
        (pe_op op_sub pe_int (pe_op op_mul pe_int (pe_callTy call_int1 (by rfl) T.int (by decide +kernel) (pa_cons (pe_cmpR op_lt (pv 2) pe_int (nomark _)) pa_nil))))))
      (pss_cons (ps_set (i := 4) sc.nd rfl (Or.inl rfl) (pe_tup (pa_cons (pe_op op_fdivG (pv 1) (pv 3)) (pa_cons (pe_op op_fdivG (pv 2) (pv 3)) pa_nil))))
      (pss_cons (ps_set (i := 5) sc.nd rfl (Or.inl rfl) (pe_op op_add_str (pe_callTy call_str_int (by rfl) T.str (by decide +kernel) (pa_cons (pe_ix ix_tup (pv 4) pe_int (fun _ _ => rfl)) pa_nil))
        (pe_op op_mulTxt (pe_op op_add_str pe_str (pe_callTy call_str_int (by rfl) T.str (by decide +kernel) (pa_cons (pe_ix ix_tup (pv 4) pe_int (fun _ _ => rfl)) pa_nil)))
          (pe_callTy call_int1 (by rfl) T.int (by decide +kernel) (pa_cons (pe_cmpR op_ne (pe_ix ix_tup (pv 4) pe_int (fun _ _ => rfl)) pe_int (nomark _)) pa_nil)))))
      (pss_cons (ps_if (pt_cmpR op_ne (pe_callB (call_reprO (E := E0) a2 i2 G2 (hr.mono (by decide)) b2 passL) (by rfl) T.repr (by decide +kernel) (pa_cons (pv 0) pa_nil))
          (pe_op op_add_str (pe_op op_add_str (pe_op op_add_str (pe_op op_add_str pe_str (pe_callTy call_str_int (by rfl) T.str (by decide +kernel) (pa_cons (pe_ix ix_tup (pv 4) pe_int (fun _ _ => rfl)) pa_nil))) pe_str)
            (pe_callTy call_str_int (by rfl) T.str (by decide +kernel) (pa_cons (pe_ix ix_tup (pv 4) pe_int (fun _ _ => rfl)) pa_nil))) pe_str) (nomark _)) (pss_one (ps_ret pe_bl)) pss_nil)
      (pss_cons (ps_if (pt_cmpR op_ne (pe_callTy (call_strO (E := E0) a1 i1 G1 (hr.mono (by decide)) b1 passL) (by rfl) T.str (by decide +kernel) (pa_cons (pv 0) pa_nil)) (pv 5) (nomark _)) (pss_one (ps_ret pe_bl)) pss_nil)
      (pss_cons (ps_if (pt_not (pt_cmpR (op_eqD hr.units) (pe_lst (pa_cons (pe_fld (pv 0) rfl) (pa_cons (pe_fld (pv 0) rfl) pa_nil))) (pe_lst (pa_cons (pe_ix ix_tup (pv 4) pe_int (fun _ _ => rfl)) (pa_cons (pe_ix ix_tup (pv 4) pe_int (fun _ _ => rfl)) pa_nil))) (nomark _)))
        (pss_one (ps_ret pe_bl)) pss_nil)
      (pss_one (ps_ret (pe_callB call_isi (by rfl) T.isi (by decide +kernel) (pa_cons (pe_fld (pv 0) rfl) (pa_cons (pe_bltn (v := .ty "int") (by rfl) T.int (by decide +kernel) rfl) pa_nil)))))))))), ?_⟩
    have hb2 : ∀ k : Bool, -(2 ^ 64) < (1 - 2 * (if k = true then (1 : Int) else 0)) ∧ (1 - 2 * (if k = true then (1 : Int) else 0)) < 2 ^ 64 := fun k => by cases k <;> exact ⟨by decide, by decide⟩
    refine ⟨_, rfl, _, rfl, x, y, rfl, _, rfl, _, _, rfl, rfl, .inr ⟨_, rfl, _, _, rfl, rfl, .inl ⟨by decide, by decide⟩, _, _, rfl, rfl, _, _, rfl, rfl, .inr (hb2 _), ?_⟩⟩
    have cb : (cmn x y).natAbs < 2 ^ 1900 := Nat.lt_of_le_of_lt (cmn_le y0) by'
    have dv : ∀ z, CDivG z (((Nat.gcd x.natAbs y.natAbs : Nat) : Int) * (1 - 2 * (if decide (y < 0) = true then (1 : Int) else 0))) := fun z => by
      rw [by_eq y0]
      exact wide_divG (cmn_ne y0) cb (by decide) (by decide)
    have tupe : (some (HO.tup [.int (x.fdiv (((Nat.gcd x.natAbs y.natAbs : Nat) : Int) * (1 - 2 * (if decide (y < 0) = true then (1 : Int) else 0)))), .int (y.fdiv (((Nat.gcd x.natAbs y.natAbs : Nat) : Int) * (1 - 2 * (if decide (y < 0) = true then (1 : Int) else 0))))]))
        = some (HO.tup [.int (nt x y), .int (nb x y)]) := by
      rw [by_eq y0]
      rfl
    refine ⟨_, rfl, _, rfl, _, _, rfl, rfl, dv x, _, rfl, _, rfl, _, _, rfl, rfl, dv y, (by show 2 ≤ sizeLine; decide), fun pd npd => ?_⟩
    refine gen_H (R := fun H0 => Same H H0 ∧ H0 pd = some (.tup [.int (nt x y), .int (nb x y)])) ⟨same_upd npd, upd_same.trans tupe⟩ fun H0 ⟨s1, ed⟩ => ?_
    have pt : Pr (nt x y) := pr_of (Nat.lt_of_le_of_lt (nt_le y0) bx)
    have pb : Pr (nb x y) := pr_of (Nat.lt_of_le_of_lt (nb_le y0) by')
    have hp0 := s1 _ _ hp
    have lt := ts_len pt
    have lb := ts_len pb
    have ez := sizeLine_eq
    have i0 : atI [V.int (nt x y), V.int (nb x y)] (0 : Int) = some (.int (nt x y)) := at_of (j := 0) rfl rfl
    have i1' : atI [V.int (nt x y), V.int (nb x y)] (1 : Int) = some (.int (nb x y)) := at_of (j := 1) rfl rfl
    have l1 : ("/" : Str).length + (ts (nb x y)).length ≤ sizeLine := by rw [len1]; omega
    refine ⟨_, rfl, pd, _, _, _, rfl, rfl, SqT.of ed, i0, _, rfl, pt, _, rfl, pd, _, _, _, rfl, rfl, SqT.of ed, i1', _, rfl, pb, _, _, rfl, rfl, l1, _, rfl, pd, _, _, _, rfl, rfl, SqT.of ed, i1', rfl, .inr ⟨_, rfl, _, _, rfl, rfl, _, _, rfl, rfl, ?_, ?_⟩⟩
    · show (ts (nt x y)).length + (if _ = true then _ else _ : Str).length ≤ sizeLine
      split
      · show (ts (nt x y)).length + (("/" : Str) ++ ts (nb x y)).length ≤ sizeLine
        rw [app_len, len1]
        omega
      · rw [len0]
        omega
    · have rp : (some (HO.ins C dx (flds (nt x y) (nb x y)))) = H0 p := hp0.symm
      have lr : (("Ratio(" : Str) ++ ts (nt x y)).length = 6 + (ts (nt x y)).length := by rw [app_len, len2]
      refine ⟨_, rfl, _, rfl, p, dx, _, rfl, hp0, p, _, _, rfl, ⟨dx, hp0⟩, pt, pb, ⟨_, rfl⟩, ?_⟩
      refine ⟨_, rfl, pd, _, _, _, rfl, rfl, SqT.of ed, i0, _, rfl, pt, _, _, rfl, rfl, ?_, _, _, rfl, rfl, ?_, _, rfl, pd, _, _, _, rfl, rfl, SqT.of ed, i1', _, rfl, pb, _, _, rfl, rfl, ?_, _, _, rfl, rfl, ?_, rfl, _, rfl, ?_⟩
      · show ("Ratio(" : Str).length + (ts (nt x y)).length ≤ sizeLine
        rw [len2]; omega
      · show (("Ratio(" : Str) ++ ts (nt x y)).length + (", " : Str).length ≤ sizeLine
        rw [app_len, len2, len3]; omega
      · show (("Ratio(" : Str) ++ ts (nt x y) ++ (", " : Str)).length + (ts (nb x y)).length ≤ sizeLine
        rw [app_len, app_len, len2, len3]; omega
      · show (("Ratio(" : Str) ++ ts (nt x y) ++ (", " : Str) ++ ts (nb x y)).length + (")" : Str).length ≤ sizeLine
        rw [app_len, app_len, app_len, len2, len3, len4]; omega
      · refine if_neg' (not_of_eq (congrArg V.str (reprT_eq (nt x y) (nb x y)))) ?_
        refine ⟨_, rfl, _, rfl, p, dx, _, rfl, hp0, p, _, _, rfl, ⟨dx, hp0⟩, pt, pb, ⟨_, rfl⟩, _, rfl, rfl, _, rfl, ?_⟩
        have st : V.str (strT (nt x y) (nb x y)) = V.str (ts (nt x y) ++ (if (!decide (V.int (nb x y) = V.int 1)) = true then ("/" : Str) ++ ts (nb x y) else Str.empty)) := by
          rw [dI, strT_eq]
        refine if_neg' (not_of_eq st) ?_
        refine ⟨_, rfl, p, C, dx, _, _, rfl, hp0, T.cl, T.nT, flds_top _ _, _, rfl, p, C, dx, _, _, rfl, hp0, T.cl, T.nB, flds_bot _ _, (by show 2 ≤ sizeLine; decide), fun l1 n1 => ?_⟩
        have s2 : Same H0 (upd H0 l1 (.lst [.int (nt x y), .int (nb x y)])) := same_upd n1
        have e1 : (upd H0 l1 (.lst [.int (nt x y), .int (nb x y)])) l1 = some (.lst [.int (nt x y), .int (nb x y)]) := upd_same
        have ed1 := s2 _ _ ed
        refine ⟨_, rfl, pd, _, _, _, rfl, rfl, SqT.of ed1, i0, _, rfl, pd, _, _, _, rfl, rfl, SqT.of ed1, i1', (by show 2 ≤ sizeLine; decide), fun l2 n2 => ?_⟩
        have s3 : Same (upd H0 l1 (.lst [.int (nt x y), .int (nb x y)])) (upd (upd H0 l1 (.lst [.int (nt x y), .int (nb x y)])) l2 (.lst [.int (nt x y), .int (nb x y)])) := same_upd n2
        have e2 : (upd (upd H0 l1 (.lst [.int (nt x y), .int (nb x y)])) l2 (.lst [.int (nt x y), .int (nb x y)])) l2 = some (.lst [.int (nt x y), .int (nb x y)]) := upd_same
        have e1' := s3 _ _ e1
        have hpF := s3 _ _ (s2 _ _ hp0)
        refine ⟨.list [.int (nt x y), .int (nb x y)], .list [.int (nt x y), .int (nb x y)], .lst (SqL.of e1') (dp_ints [nt x y, nb x y]), .lst (SqL.of e2) (dp_ints [nt x y, nb x y]), PySem.W.ke_shaped_ints [nt x y, nb x y], PySem.W.ke_shaped_ints [nt x y, nb x y], _, rfl, ?_⟩
        refine if_neg' (by simp [PyData.eqv, PyData.eqvAll]) ?_
        exact ⟨_, rfl, p, C, dx, _, _, rfl, hpF, T.cl, T.nT, flds_top _ _, _, _, _, _, _, rfl, .ty _, .base (.int _), kit_ty (r := true) (by decide +kernel), fin _ ((s1.trans s2).trans s3)⟩
end
end R1
end

-- K01j
section
set_option Elab.async false
set_option linter.all false
set_option maxRecDepth 100000
set_option exponentiation.threshold 6000
namespace R1
open PySem L2 OwnOps RatM
abbrev sComp : Stmt := top 18
/-- at least one of the two is an instance -/
def OneRef (x y : V) : Prop := (∃ a, x = .ref a) ∨ ∃ a, y = .ref a
def rCm (C : Addr) (G : Int → Int → Int → Int → Bool) : R2 := fun x y H Q => ∃ t b t' b', Num C H x t b ∧ Num C H y t' b' ∧ OneRef x y ∧ Small t b t' b' ∧ ∀ H', Same H H' → Q (.bl (G t b t' b')) H'
theorem Small.flip {t b t' b' : Int} (s : Small t b t' b') : Small t' b' t b := ⟨s.b0', s.b0, s.t1', s.b1', s.t1, s.b1⟩
theorem Num.any {C : Addr} {H : Hp} {y : V} {t b : Int} (h : Num C H y t b) : RAny C y H := by
  rcases h with ⟨q, rfl, dx, e⟩ | ⟨rfl, rfl⟩
  · exact .inl ⟨q, dx, _, rfl, e⟩
  · exact .inr (.inl ⟨_, rfl⟩)
theorem cmp_num {X : Cx} {op : CmpOp} {C CI : Addr} {G G' : Int → Int → Int → Int → Bool} (hop : ∀ a b, compareOp op a b = richCompare op a b) (dec : IntDec op) (Z : Tys X.K C)
    (D : Dun X.prog X.w X.K X.mg X.base C (cmpInfo op).2.1 6 ["self", "other"] (spCm C CI G)) (D' : Dun X.prog X.w X.K X.mg X.base C (cmpInfo op).2.2 6 ["self", "other"] (spCm C CI G'))
    (hG : ∀ t b t' b', G' t' b' t b = G t b t' b') (hr : Room 6 X.A) : OpR X (compareOp op) (rCm C G) := by
  obtain ⟨g, gd, ga, gf, _, GD, gb⟩ := D.ex
  obtain ⟨h, hd, ha, hf, _, HD, hb⟩ := D'.ex
  intro pins s σ H x y v u Q I rx ry q
  obtain ⟨t, b, t', b', n1, n2, one, S, fin⟩ := q
  rcases n1 with ⟨p, rfl, dx, e⟩ | ⟨rfl, rfl⟩
  · exact cmp_own (C := C) (E := E0) (R := RAny C) hop ga gf GD hr gb passL (looks_any Z) pins s σ H _ y v u Q I rx ry
      ⟨p, dx, _, rfl, e, n2.any, p, y, t, b, rfl, ⟨dx, e⟩, .inl ⟨t', b', n2, S, fin⟩⟩
  · rcases n2 with ⟨p, rfl, dx, e⟩ | ⟨rfl, rfl⟩
    · refine cmp_refl2 (C := C) (E := E0) hop dec ha hf Z.sI HD hr hb passL pins s σ H _ _ v u Q I rx ry ⟨t, p, dx, _, rfl, rfl, e, p, .int t, t', b', rfl, ⟨dx, e⟩, .inl ⟨t, 1, .inr ⟨rfl, rfl⟩, S.flip, fun H' sm => ?_⟩⟩
      rw [hG]
      exact fin H' sm
    · rcases one with ⟨a, z⟩ | ⟨a, z⟩ <;> cases z
theorem eq_num {X : Cx} {op : CmpOp} {C : Addr} {neg : Bool} {k : Nat} (hop : ∀ a b, compareOp op a b = richCompare op a b) (dec : IntDec op) (Z : Tys X.K C) (hsame : (cmpInfo op).2.2 = (cmpInfo op).2.1)
    (D : Dun X.prog X.w X.K X.mg X.base C (cmpInfo op).2.1 k ["self", "other"] (spEq C neg)) (hr : Room k X.A) :
    OpR X (compareOp op) (rCm C fun t b t' b' => neg != (decide (t = t') && decide (b = b'))) := by
  obtain ⟨g, gd, ga, gf, _, GD, gb⟩ := D.ex
  intro pins s σ H x y v u Q I rx ry q
  obtain ⟨t, b, t', b', n1, n2, one, S, fin⟩ := q
  have k0 := fin H (Same.refl H)
  rcases n1 with ⟨p, rfl, dx, e⟩ | ⟨rfl, rfl⟩
  · have an := n2.any
    refine cmp_own (C := C) (E := E0) (R := RAny C) hop ga gf GD hr gb passL (looks_any Z) pins s σ H _ y v u Q I rx ry ⟨p, dx, _, rfl, e, an, p, y, t, b, rfl, ⟨dx, e⟩, ?_⟩
    rcases n2 with ⟨q, rfl, r⟩ | ⟨rfl, rfl⟩
    · exact .inl ⟨q, t', b', rfl, r, k0⟩
    · refine .inr (.inl ⟨t', rfl, ?_⟩)
      have e1 : (decide (b = 1) && decide (t = t')) = (decide (t = t') && decide (b = 1)) := Bool.and_comm _ _
      rw [e1]
      exact k0
  · rcases n2 with ⟨p, rfl, dx, e⟩ | ⟨rfl, rfl⟩
    · refine cmp_refl2 (C := C) (E := E0) hop dec (by rw [hsame]; exact ga) gf Z.sI GD hr gb passL pins s σ H _ _ v u Q I rx ry ⟨t, p, dx, _, rfl, rfl, e, p, .int t, t', b', rfl, ⟨dx, e⟩, .inr (.inl ⟨t, rfl, ?_⟩)⟩
      have e1 : (decide (b' = 1) && decide (t' = t)) = (decide (t = t') && decide (1 = b')) := by
        rw [Bool.and_comm]
        congr 1 <;> (apply decide_eq_decide.mpr; exact ⟨Eq.symm, Eq.symm⟩)
      rw [e1]
      exact k0
    · rcases one with ⟨a, z⟩ | ⟨a, z⟩ <;> cases z
theorem bools_shaped : ∀ a b c : Bool, SeqAt.shaped (.list [.bool a, .bool b, .bool c]) = true := by decide +kernel
theorem bools_eqv : ∀ a b c a' b' c' : Bool, PyData.eqv (.list [.bool a, .bool b, .bool c]) (.list [.bool a', .bool b', .bool c']) = ((a == a') && ((b == b') && (c == c'))) := by
  intro a b c a' b' c'
  cases a <;> cases b <;> cases c <;> cases a' <;> cases b' <;> cases c' <;> rfl
theorem dp_bools {K : PySem.W.Frag} {H : Hp} (a b c : Bool) : DpAll K H [.bl a, .bl b, .bl c] [.bool a, .bool b, .bool c] := .cons (.bl a) (.cons (.bl b) (.cons (.bl c) .nil))
/-- the six comparisons of the class -/
structure Cmps (P : Program) (w : World) (K : PySem.W.Frag) (mg : Str → Option Value) (base : Heap) (C CI : Addr) : Prop where
  eq : Dun P w K mg base C (cmpInfo .Eq).2.1 2 ["self", "other"] (spEq C false)
  ne : Dun P w K mg base C (cmpInfo .NotEq).2.1 3 ["self", "other"] (spEq C true)
  lt : Dun P w K mg base C (cmpInfo .Lt).2.1 6 ["self", "other"] (spCm C CI (fun t b t' b' => decide (t * b' < t' * b)))
  le : Dun P w K mg base C (cmpInfo .LtE).2.1 6 ["self", "other"] (spCm C CI (fun t b t' b' => decide (t * b' ≤ t' * b)))
  gt : Dun P w K mg base C (cmpInfo .Gt).2.1 6 ["self", "other"] (spCm C CI (fun t b t' b' => decide (t' * b < t * b')))
  ge : Dun P w K mg base C (cmpInfo .GtE).2.1 6 ["self", "other"] (spCm C CI (fun t b t' b' => decide (t' * b ≤ t * b')))
section
variable {P : Program} {w : World} {K : PySem.W.Frag} {mg : Str → Option Value} {base : Heap} {C CI fCI CZ fCZ : Addr}
def spComp (C : Addr) : Sp := fun vs H Q _ => ∃ (x y : V) (l r t b t' b' : Int), vs = [x, y, .int l, .int r] ∧ Num C H x t b ∧ Num C H y t' b' ∧ OneRef x y ∧ Small t b t' b' ∧
  ((t = t' ∧ b = b') ↔ l = r) ∧ (t * b' < t' * b ↔ l < r) ∧ (t' * b < t * b' ↔ r < l) ∧ ∀ H', Same H H' → Q (.bl true) H'
theorem ok_comp {f : Addr} {fd : FuncData} (F : Fun K "_law_compared" "_law_compared" sComp f fd) (Z : Tys K C) (M : Cmps P w K mg base C CI) :
    FnOk P w K mg base (L2.CX P w) 7 f fd ["_law_one", "_law_other", "_law_left", "_law_right"] (spComp C) := by
  have sc : FnScope ["_law_one", "_law_other", "_law_left", "_law_right", "_law_rows"] ["_law_one", "_law_other", "_law_left", "_law_right"] (defScope sComp) := ⟨rfl, rfl, rfl, by decide +kernel, rfl, by decide +kernel, by decide +kernel⟩
  refine F.okX sc (fun vs H Q E h => ?_) (fun cdv A outer s H vs Q E hr h => ?_)
  · obtain ⟨x, y, l, r, t, b, t', b', rfl, _⟩ := h
    rfl
  · obtain ⟨x, y, l, r, t, b, t', b', rfl, n1, n2, one, S, ce, cl, cg, fin⟩ := h
    refine ⟨_, pss_cons (ps_set (i := 4) sc.nd rfl (Or.inl rfl) (pe_lst (pa_cons (pe_cmpR (op := .Eq) (eq_num (fun _ _ => rfl) dec_eq Z rfl M.eq (hr.mono (by decide))) (pv 0) (pv 1) (nomark _))
          (pa_cons (pe_cmpR (op := .NotEq) (eq_num (fun _ _ => rfl) dec_ne Z rfl M.ne (hr.mono (by decide))) (pv 0) (pv 1) (nomark _))
          (pa_cons (pe_cmpR (op := .Lt) (cmp_num (fun _ _ => rfl) dec_lt Z M.lt M.gt (fun _ _ _ _ => rfl) hr) (pv 0) (pv 1) (nomark _)) pa_nil)))))
      (pss_cons (ps_set (i := 4) sc.nd rfl (Or.inl rfl) (pe_op op_cat (pv 4) (pe_lst (pa_cons (pe_cmpR (op := .LtE) (cmp_num (fun _ _ => rfl) dec_le Z M.le M.ge (fun _ _ _ _ => rfl) hr) (pv 0) (pv 1) (nomark _))
          (pa_cons (pe_cmpR (op := .Gt) (cmp_num (fun _ _ => rfl) dec_gt Z M.gt M.lt (fun _ _ _ _ => rfl) hr) (pv 0) (pv 1) (nomark _))
          (pa_cons (pe_cmpR (op := .GtE) (cmp_num (fun _ _ => rfl) dec_ge Z M.ge M.le (fun _ _ _ _ => rfl) hr) (pv 0) (pv 1) (nomark _)) pa_nil))))))
      (pss_cons (ps_if (pt_cmpR (op_neD hr.units) (pe_slice sl_list (pv 4) po_none (po_some pe_int)) (pe_lst (pa_cons (pe_cmpR op_eq (pv 2) (pv 3) (nomark _)) (pa_cons (pe_cmpR op_ne (pv 2) (pv 3) (nomark _)) (pa_cons (pe_cmpR op_lt (pv 2) (pv 3) (nomark _)) pa_nil)))) (nomark _)) (pss_one (ps_ret pe_bl)) pss_nil)
      (pss_one (ps_ret (pe_cmpR (op_eqD hr.units) (pe_slice sl_list (pv 4) (po_some pe_int) po_none) (pe_lst (pa_cons (pe_cmpR op_le (pv 2) (pv 3) (nomark _)) (pa_cons (pe_cmpR op_gt (pv 2) (pv 3) (nomark _)) (pa_cons (pe_cmpR op_ge (pv 2) (pv 3) (nomark _)) pa_nil)))) (nomark _)))))), ?_⟩
    have three : 3 ≤ sizeLine := by decide
    -- the first list
    refine ⟨_, rfl, _, rfl, t, b, t', b', n1, n2, one, S, fun H1 s1 => ⟨_, rfl, _, rfl, t, b, t', b', n1.same s1, n2.same s1, one, S, fun H2 s2 => ⟨_, rfl, _, rfl, t, b, t', b', (n1.same s1).same s2, (n2.same s1).same s2, one, S, fun H3 s3 => ⟨three, fun p3 np3 => ?_⟩⟩⟩⟩
    have m3 := (s1.trans s2).trans s3
    have q1 : (false != (decide (t = t') && decide (b = b'))) = decide (V.int l = V.int r) := by
      rw [dI, ← Bool.decide_and, Bool.false_bne]
      exact decide_eq_decide.mpr ce
    have q2 : (true != (decide (t = t') && decide (b = b'))) = !decide (V.int l = V.int r) := by
      rw [dI, ← Bool.decide_and, Bool.true_bne]
      exact congrArg _ (decide_eq_decide.mpr ce)
    have q3 : decide (t * b' < t' * b) = decide (l < r) := decide_eq_decide.mpr cl
    have q4 : decide (t * b' ≤ t' * b) = decide (l ≤ r) := decide_eq_decide.mpr (by omega)
    have q5 : decide (t' * b < t * b') = decide (r < l) := decide_eq_decide.mpr cg
    have q6 : decide (t' * b ≤ t * b') = decide (r ≤ l) := decide_eq_decide.mpr (by omega)
    have sa := m3.trans (same_upd (o := .lst [V.bl (false != (decide (t = t') && decide (b = b'))), V.bl (true != (decide (t = t') && decide (b = b'))), V.bl (decide (t * b' < t' * b))]) np3)
    have ea : (upd H3 p3 (.lst [V.bl (false != (decide (t = t') && decide (b = b'))), V.bl (true != (decide (t = t') && decide (b = b'))), V.bl (decide (t * b' < t' * b))])) p3 = some (.lst [V.bl (false != (decide (t = t') && decide (b = b'))), V.bl (true != (decide (t = t') && decide (b = b'))), V.bl (decide (t * b' < t' * b))]) := upd_same
    generalize (upd H3 p3 (.lst [V.bl (false != (decide (t = t') && decide (b = b'))), V.bl (true != (decide (t = t') && decide (b = b'))), V.bl (decide (t * b' < t' * b))])) = Ha at sa ea
    refine ⟨_, rfl, _, rfl, _, rfl, t, b, t', b', n1.same sa, n2.same sa, one, S, fun H4 s4 => ⟨_, rfl, _, rfl, t, b, t', b', (n1.same sa).same s4, (n2.same sa).same s4, one, S, fun H5 s5 => ⟨_, rfl, _, rfl, t, b, t', b', ((n1.same sa).same s4).same s5, ((n2.same sa).same s4).same s5, one, S, fun H6 s6 => ⟨three, fun p6 np6 => ?_⟩⟩⟩⟩
    generalize (false != (decide (t = t') && decide (b = b'))) = v1 at ea q1
    generalize (true != (decide (t = t') && decide (b = b'))) = v2 at ea q2
    generalize (decide (t * b' < t' * b)) = v3 at ea q3
    have m6 := (s4.trans s5).trans s6
    have sb := m6.trans (same_upd (o := .lst [V.bl (decide (t * b' ≤ t' * b)), V.bl (decide (t' * b < t * b')), V.bl (decide (t' * b ≤ t * b'))]) np6)
    have eb : (upd H6 p6 (.lst [V.bl (decide (t * b' ≤ t' * b)), V.bl (decide (t' * b < t * b')), V.bl (decide (t' * b ≤ t * b'))])) p6 = some (.lst [V.bl (decide (t * b' ≤ t' * b)), V.bl (decide (t' * b < t * b')), V.bl (decide (t' * b ≤ t * b'))]) := upd_same
    generalize (upd H6 p6 (.lst [V.bl (decide (t * b' ≤ t' * b)), V.bl (decide (t' * b < t * b')), V.bl (decide (t' * b ≤ t * b'))])) = Hb at sb eb
    generalize (decide (t * b' ≤ t' * b)) = v4 at eb q4
    generalize (decide (t' * b < t * b')) = v5 at eb q5
    generalize (decide (t' * b ≤ t * b')) = v6 at eb q6
    refine ⟨_, _, _, _, rfl, rfl, sb _ _ ea, eb, (by show 3 + 3 ≤ sizeLine; decide), fun p7 np7 => ?_⟩
    have sc7 := (sa.trans sb).trans (same_upd (o := .lst ([V.bl v1, V.bl v2, V.bl v3] ++ [V.bl v4, V.bl v5, V.bl v6])) np7)
    have ec : (upd Hb p7 (.lst ([V.bl v1, V.bl v2, V.bl v3] ++ [V.bl v4, V.bl v5, V.bl v6]))) p7 = some (.lst [V.bl v1, V.bl v2, V.bl v3, V.bl v4, V.bl v5, V.bl v6]) := upd_same
    generalize (upd Hb p7 (.lst ([V.bl v1, V.bl v2, V.bl v3] ++ [V.bl v4, V.bl v5, V.bl v6]))) = Hc at sc7 ec
    refine ⟨_, rfl, _, rfl, p7, _, rfl, SqL.of ec, fun p8 np8 => ?_⟩
    have sd := sc7.trans (same_upd (o := .lst [V.bl v1, V.bl v2, V.bl v3]) np8)
    have ed : (upd Hc p8 (.lst [V.bl v1, V.bl v2, V.bl v3])) p8 = some (.lst [V.bl v1, V.bl v2, V.bl v3]) := upd_same
    have ed7 := same_upd (o := .lst [V.bl v1, V.bl v2, V.bl v3]) np8 _ _ ec
    refine ⟨_, rfl, _, rfl, rfl, _, rfl, _, rfl, rfl, _, rfl, _, rfl, _, _, rfl, rfl, three, fun p9 np9 => ?_⟩
    have se := sd.trans (same_upd (o := .lst [V.bl (decide (V.int l = V.int r)), V.bl (!decide (V.int l = V.int r)), V.bl (decide (l < r))]) np9)
    have ee : (upd (upd Hc p8 (.lst [V.bl v1, V.bl v2, V.bl v3])) p9 (.lst [V.bl (decide (V.int l = V.int r)), V.bl (!decide (V.int l = V.int r)), V.bl (decide (l < r))])) p9 = some (.lst [V.bl (decide (V.int l = V.int r)), V.bl (!decide (V.int l = V.int r)), V.bl (decide (l < r))]) := upd_same
    have ee8 := same_upd (o := .lst [V.bl (decide (V.int l = V.int r)), V.bl (!decide (V.int l = V.int r)), V.bl (decide (l < r))]) np9 _ _ ed
    have ee7 := same_upd (o := .lst [V.bl (decide (V.int l = V.int r)), V.bl (!decide (V.int l = V.int r)), V.bl (decide (l < r))]) np9 _ _ ed7
    refine ⟨_, _, .lst (SqL.of ee8) (dp_bools v1 v2 v3), .lst (SqL.of ee) (dp_bools _ _ _), bools_shaped _ _ _, bools_shaped _ _ _, _, rfl, ?_⟩
    refine if_neg' (by rw [bools_eqv, q1, q2, q3]; simp) ?_
    refine ⟨_, rfl, _, rfl, p7, _, rfl, SqL.of ee7, fun pa npa => ?_⟩
    have sf := se.trans (same_upd (o := .lst [V.bl v4, V.bl v5, V.bl v6]) npa)
    refine ⟨_, rfl, _, rfl, _, _, rfl, rfl, _, rfl, _, rfl, _, _, rfl, rfl, _, rfl, _, rfl, _, _, rfl, rfl, three, fun pb npb => ?_⟩
    have sg := sf.trans (same_upd (o := .lst [V.bl (decide (l ≤ r)), V.bl (decide (r < l)), V.bl (decide (r ≤ l))]) npb)
    refine ⟨.list [.bool v4, .bool v5, .bool v6], .list [.bool (decide (l ≤ r)), .bool (decide (r < l)), .bool (decide (r ≤ l))], .lst (SqL.of (same_upd npb _ _ upd_same)) (dp_bools v4 v5 v6), .lst (SqL.of upd_same) (dp_bools _ _ _), bools_shaped _ _ _, bools_shaped _ _ _, ?_⟩
    have ev : PyData.eqv (.list [.bool v4, .bool v5, .bool v6]) (.list [.bool (decide (l ≤ r)), .bool (decide (r < l)), .bool (decide (r ≤ l))]) = true := by
      rw [bools_eqv, q4, q5, q6]; simp
    rw [ev]
    exact fin _ sg
end
end R1
end

-- RatMath2
section
namespace RatM
theorem add_nrm {a b c d : Int} (hb : b ≠ 0) (hd : d ≠ 0) : nt (nt a b * nb c d + nt c d * nb a b) (nb a b * nb c d) = nt (a * d + c * b) (b * d) ∧ nb (nt a b * nb c d + nt c d * nb a b) (nb a b * nb c d) = nb (a * d + c * b) (b * d) := by
  have p1 := nb_pos (t := a) hb
  have p2 := nb_pos (t := c) hd
  have h1 := nt_mul (t := a) (b := b); have h2 := nb_mul (t := a) (b := b)
  have h3 := nt_mul (t := c) (b := d); have h4 := nb_mul (t := c) (b := d)
  have g1 := cmn_ne (t := a) hb; have g2 := cmn_ne (t := c) hd
  refine nrm_of (k := cmn a b * cmn c d) (k' := 1) (Int.mul_ne_zero (by omega) (by omega)) (Int.mul_ne_zero hb hd) (Int.mul_ne_zero g1 g2) (by decide) ?_ ?_
  · generalize nt a b = x at *; generalize nb a b = y at *; generalize cmn a b = g at *
    generalize nt c d = x' at *; generalize nb c d = y' at *; generalize cmn c d = h at *
    rw [← h1, ← h2, ← h3, ← h4, Int.mul_one, Int.add_mul]
    congr 1 <;> ac_rfl
  · generalize nt a b = x at *; generalize nb a b = y at *; generalize cmn a b = g at *
    generalize nt c d = x' at *; generalize nb c d = y' at *; generalize cmn c d = h at *
    rw [← h2, ← h4, Int.mul_one]
    ac_rfl
theorem sub_nrm {a b c d : Int} (hb : b ≠ 0) (hd : d ≠ 0) : nt (nt a b * nb c d - nt c d * nb a b) (nb a b * nb c d) = nt (a * d - c * b) (b * d) ∧ nb (nt a b * nb c d - nt c d * nb a b) (nb a b * nb c d) = nb (a * d - c * b) (b * d) := by
  have p1 := nb_pos (t := a) hb
  have p2 := nb_pos (t := c) hd
  have h1 := nt_mul (t := a) (b := b); have h2 := nb_mul (t := a) (b := b)
  have h3 := nt_mul (t := c) (b := d); have h4 := nb_mul (t := c) (b := d)
  have g1 := cmn_ne (t := a) hb; have g2 := cmn_ne (t := c) hd
  refine nrm_of (k := cmn a b * cmn c d) (k' := 1) (Int.mul_ne_zero (by omega) (by omega)) (Int.mul_ne_zero hb hd) (Int.mul_ne_zero g1 g2) (by decide) ?_ ?_
  · generalize nt a b = x at *; generalize nb a b = y at *; generalize cmn a b = g at *
    generalize nt c d = x' at *; generalize nb c d = y' at *; generalize cmn c d = h at *
    rw [← h1, ← h2, ← h3, ← h4, Int.mul_one, Int.sub_mul]
    congr 1 <;> ac_rfl
  · generalize nt a b = x at *; generalize nb a b = y at *; generalize cmn a b = g at *
    generalize nt c d = x' at *; generalize nb c d = y' at *; generalize cmn c d = h at *
    rw [← h2, ← h4, Int.mul_one]
    ac_rfl
theorem mul_nrm {a b c d : Int} (hb : b ≠ 0) (hd : d ≠ 0) : nt (nt a b * nt c d) (nb a b * nb c d) = nt (a * c) (b * d) ∧ nb (nt a b * nt c d) (nb a b * nb c d) = nb (a * c) (b * d) := by
  have p1 := nb_pos (t := a) hb
  have p2 := nb_pos (t := c) hd
  have h1 := nt_mul (t := a) (b := b); have h2 := nb_mul (t := a) (b := b)
  have h3 := nt_mul (t := c) (b := d); have h4 := nb_mul (t := c) (b := d)
  have g1 := cmn_ne (t := a) hb; have g2 := cmn_ne (t := c) hd
  refine nrm_of (k := cmn a b * cmn c d) (k' := 1) (Int.mul_ne_zero (by omega) (by omega)) (Int.mul_ne_zero hb hd) (Int.mul_ne_zero g1 g2) (by decide) ?_ ?_
  · generalize nt a b = x at *; generalize nb a b = y at *; generalize cmn a b = g at *
    generalize nt c d = x' at *; generalize nb c d = y' at *; generalize cmn c d = h at *
    rw [← h1, ← h3, Int.mul_one]
    ac_rfl
  · generalize nt a b = x at *; generalize nb a b = y at *; generalize cmn a b = g at *
    generalize nt c d = x' at *; generalize nb c d = y' at *; generalize cmn c d = h at *
    rw [← h2, ← h4, Int.mul_one]
    ac_rfl
theorem nt_ne {c d : Int} (hd : d ≠ 0) (hc : c ≠ 0) : nt c d ≠ 0 := fun z => by
  have h3 := nt_mul (t := c) (b := d)
  rw [z, Int.zero_mul] at h3
  exact hc h3.symm
theorem over_nrm {a b c d : Int} (hb : b ≠ 0) (hd : d ≠ 0) (hc : c ≠ 0) : nt (nt a b * nb c d) (nb a b * nt c d) = nt (a * d) (b * c) ∧ nb (nt a b * nb c d) (nb a b * nt c d) = nb (a * d) (b * c) := by
  have p1 := nb_pos (t := a) hb
  have p2 := nt_ne hd hc
  have h1 := nt_mul (t := a) (b := b); have h2 := nb_mul (t := a) (b := b)
  have h3 := nt_mul (t := c) (b := d); have h4 := nb_mul (t := c) (b := d)
  have g1 := cmn_ne (t := a) hb; have g2 := cmn_ne (t := c) hd
  refine nrm_of (k := cmn a b * cmn c d) (k' := 1) (Int.mul_ne_zero (by omega) p2) (Int.mul_ne_zero hb hc) (Int.mul_ne_zero g1 g2) (by decide) ?_ ?_
  · generalize nt a b = x at *; generalize nb a b = y at *; generalize cmn a b = g at *
    generalize nt c d = x' at *; generalize nb c d = y' at *; generalize cmn c d = h at *
    rw [← h1, ← h4, Int.mul_one]
    ac_rfl
  · generalize nt a b = x at *; generalize nb a b = y at *; generalize cmn a b = g at *
    generalize nt c d = x' at *; generalize nb c d = y' at *; generalize cmn c d = h at *
    rw [← h2, ← h3, Int.mul_one]
    ac_rfl
theorem eq_iff {a b c d : Int} (hb : b ≠ 0) (hd : d ≠ 0) : (nt a b = nt c d ∧ nb a b = nb c d) ↔ nt a b * nb c d = nt c d * nb a b := by
  constructor
  · rintro ⟨h1, h2⟩
    rw [h1, h2]
  · intro h
    have p1 := nb_pos (t := a) hb
    have p2 := nb_pos (t := c) hd
    have q := nrm_cross (by omega) (by omega) h
    rw [(nrm_id hb).1, (nrm_id hb).2, (nrm_id hd).1, (nrm_id hd).2] at q
    exact q
/-- the sign that makes cross products comparable -/
def sg (v : Int) : Int := 1 - 2 * (if decide (v < 0) = true then (1 : Int) else 0)
theorem sg_cases (v : Int) : (v < 0 ∧ sg v = -1) ∨ (0 ≤ v ∧ sg v = 1) := by
  unfold sg
  by_cases h : v < 0
  · exact .inl ⟨h, by rw [decide_eq_true h, if_pos rfl]; rfl⟩
  · exact .inr ⟨by omega, by rw [decide_eq_false h, if_neg Bool.false_ne_true]; rfl⟩
theorem sg_pos {v : Int} (h : v ≠ 0) : 0 < v * sg v := by
  rcases sg_cases v with ⟨h1, h2⟩ | ⟨h1, h2⟩ <;> rw [h2] <;> omega
theorem cmp_facts {a b c d : Int} (hb : b ≠ 0) (hd : d ≠ 0) : ∃ m : Int, 0 < m ∧ a * d * sg (b * d) = nt a b * nb c d * m ∧ c * b * sg (b * d) = nt c d * nb a b * m := by
  have p1 := nb_pos (t := a) hb
  have p2 := nb_pos (t := c) hd
  have h1 := nt_mul (t := a) (b := b); have h2 := nb_mul (t := a) (b := b)
  have h3 := nt_mul (t := c) (b := d); have h4 := nb_mul (t := c) (b := d)
  have hp := sg_pos (Int.mul_ne_zero hb hd)
  refine ⟨cmn a b * cmn c d * sg (b * d), ?_, ?_, ?_⟩
  · have e : b * d * sg (b * d) = (nb a b * nb c d) * (cmn a b * cmn c d * sg (b * d)) := by
      generalize sg (b * d) = s
      generalize nb a b = y at *; generalize cmn a b = g at *; generalize nb c d = y' at *; generalize cmn c d = h at *
      rw [← h2, ← h4]
      ac_rfl
    rw [e] at hp
    rcases Int.lt_trichotomy (cmn a b * cmn c d * sg (b * d)) 0 with z | z | z
    · have := Int.mul_neg_of_pos_of_neg (Int.mul_pos p1 p2) z; omega
    · rw [z, Int.mul_zero] at hp; omega
    · exact z
  · generalize sg (b * d) = s
    generalize nt a b = x at *; generalize cmn a b = g at *; generalize nb c d = y' at *; generalize cmn c d = h at *
    rw [← h1, ← h4]
    ac_rfl
  · generalize sg (b * d) = s
    generalize nb a b = y at *; generalize cmn a b = g at *; generalize nt c d = x' at *; generalize cmn c d = h at *
    rw [← h2, ← h3]
    ac_rfl
theorem cmp_all {a b c d : Int} (hb : b ≠ 0) (hd : d ≠ 0) :
    ((nt a b = nt c d ∧ nb a b = nb c d) ↔ a * d * sg (b * d) = c * b * sg (b * d)) ∧ (nt a b * nb c d < nt c d * nb a b ↔ a * d * sg (b * d) < c * b * sg (b * d)) ∧ (nt c d * nb a b < nt a b * nb c d ↔ c * b * sg (b * d) < a * d * sg (b * d)) := by
  obtain ⟨m, m0, e1, e2⟩ := cmp_facts (a := a) (c := c) hb hd
  rw [e1, e2, eq_iff hb hd]
  refine ⟨⟨fun h => by rw [h], fun h => Int.eq_of_mul_eq_mul_right (by omega) h⟩, ⟨fun h => Int.mul_lt_mul_of_pos_right h m0, fun h => Int.lt_of_mul_lt_mul_right h (by omega)⟩, ⟨fun h => Int.mul_lt_mul_of_pos_right h m0, fun h => Int.lt_of_mul_lt_mul_right h (by omega)⟩⟩
end RatM
end

-- K01k
section
set_option Elab.async false
set_option linter.all false
set_option maxRecDepth 100000
set_option exponentiation.threshold 6000
namespace R1
open PySem L2 OwnOps RatM
abbrev sPair : Stmt := top 19
abbrev sWholeR : Stmt := top 20
/-- the arithmetic of the class -/
structure Arith (P : Program) (w : World) (K : PySem.W.Frag) (mg : Str → Option Value) (base : Heap) (C CI CZ : Addr) : Prop where
  add : Dun P w K mg base C (PySem.dunder "add") 6 ["self", "other"] (spAr C CI (fun t b t' b' => t * b' + t' * b) (fun t b t' b' => b * b'))
  sub : Dun P w K mg base C (PySem.dunder "sub") 6 ["self", "other"] (spAr C CI (fun t b t' b' => t * b' - t' * b) (fun t b t' b' => b * b'))
  mul : Dun P w K mg base C (PySem.dunder "mul") 6 ["self", "other"] (spAr C CI (fun t b t' b' => t * t') (fun t b t' b' => b * b'))
  radd : Dun P w K mg base C (PySem.dunderR "add") 7 ["self", "other"] (spRf C (fun t b t' b' => t * b' + t' * b) (fun t b t' b' => b * b') CI)
  rsub : Dun P w K mg base C (PySem.dunderR "sub") 7 ["self", "other"] (spRf C (fun t b t' b' => t * b' - t' * b) (fun t b t' b' => b * b') CI)
  rmul : Dun P w K mg base C (PySem.dunderR "mul") 7 ["self", "other"] (spRf C (fun t b t' b' => t * t') (fun t b t' b' => b * b') CI)
  over : Dun P w K mg base C "over" 6 ["self", "other"] (spOver C CI CZ)
  neg : Dun P w K mg base C "__neg__" 5 ["self"] (spUn C fun t => -t)
  abs : Dun P w K mg base C "__abs__" 5 ["self"] (spUn C fun t => if t < 0 then -t else t)
  bool : Dun P w K mg base C "__bool__" 1 ["self"] (spBool C)
  rAdd : ∃ rc, PySem.W.findIn K (.ref C) (PySem.dunderR "add") = some rc ∧ (rc = none ∨ ∃ q : Addr, rc = some (.ref q))
  rSub : ∃ rc, PySem.W.findIn K (.ref C) (PySem.dunderR "sub") = some rc ∧ (rc = none ∨ ∃ q : Addr, rc = some (.ref q))
  rMul : ∃ rc, PySem.W.findIn K (.ref C) (PySem.dunderR "mul") = some rc ∧ (rc = none ∨ ∃ q : Addr, rc = some (.ref q))
theorem Sm.up {n m : Nat} {x : Int} (h : Sm n x) (le : n ≤ m) : Sm m x := Nat.lt_of_lt_of_le h (Nat.pow_le_pow_right (by decide) le)
theorem Sm.mul {x y : Int} (h : Sm 200 x) (h' : Sm 200 y) : Sm 400 (x * y) := wide_lt h h'
theorem Sm.add {n : Nat} {x y : Int} (h : Sm n x) (h' : Sm n y) : Sm (n + 1) (x + y) := by
  unfold Sm at *
  rw [Nat.pow_succ]
  omega
theorem Sm.sub {n : Nat} {x y : Int} (h : Sm n x) (h' : Sm n y) : Sm (n + 1) (x - y) := by
  unfold Sm at *
  rw [Nat.pow_succ]
  omega
theorem Sm.sg {x v : Int} {n : Nat} (h : Sm n x) : Sm n (x * sg v) := by
  unfold Sm at *
  rcases sg_cases v with ⟨_, e⟩ | ⟨_, e⟩ <;> rw [e] <;> omega
theorem m2 {x y : Int} (h : Sm 200 x) (h' : Sm 200 y) : CMulW x y := wide_mul h h' (by decide) (by decide) (by decide)
theorem small_of {a b c d : Int} (hb : b ≠ 0) (hd : d ≠ 0) (ba : Sm 200 a) (bb : Sm 200 b) (bc : Sm 200 c) (bd : Sm 200 d) : Small (nt a b) (nb a b) (nt c d) (nb c d) :=
  ⟨nb_pos hb, nb_pos hd, Sm.up (Nat.lt_of_le_of_lt (nt_le hb) ba) (by decide), Sm.up (Nat.lt_of_le_of_lt (nb_le hb) bb) (by decide), Sm.up (Nat.lt_of_le_of_lt (nt_le hd) bc) (by decide), Sm.up (Nat.lt_of_le_of_lt (nb_le hd) bd) (by decide)⟩
theorem make_vars {C CI CZ : Addr} {σ : L2.St} {H : Hp} {Q : VK} {E : XK} {i j : Nat} {t b : Int} (hi : σ[i]? = some (some (.int t))) (hj : σ[j]? = some (some (.int b))) (hb : b ≠ 0) (bs : Sm 5000 b)
    (k : ∀ p H', Same H H' → Rat C H' p (nt t b) (nb t b) → Q (.ref p) H') : tMake C (spInit C CI CZ) [] E (tCons (tVar i) (tCons (tVar j) tNil)) σ H Q :=
  ⟨_, hi, _, hj, mk_good hb bs k⟩
theorem two_makes {C CI CZ : Addr} {σ : L2.St} {H : Hp} {D : _} {u : TS} {E E' : XK} {i j i1 j1 i2 j2 : Nat} {a b c d : Int} (hi : σ[i1]? = some (some (.int a))) (hj : σ[j1]? = some (some (.int b))) (hi2 : σ[i2]? = some (some (.int c))) (hj2 : σ[j2]? = some (some (.int d))) (hb : b ≠ 0) (hd : d ≠ 0) (bs : Sm 5000 b) (ds : Sm 5000 d)
    (k : ∀ p q H', Same H H' → Rat C H' p (nt a b) (nb a b) → Rat C H' q (nt c d) (nb c d) → u D ((σ.set i (some (.ref p))).set j (some (.ref q))) H') :
    tSeq (tPar i j (tCons (tMake C (spInit C CI CZ) [] E (tCons (tVar i1) (tCons (tVar j1) tNil))) (tCons (tMake C (spInit C CI CZ) [] E' (tCons (tVar i2) (tCons (tVar j2) tNil))) tNil))) u D σ H := by
  have h2 : ∀ p1 H1, Same H H1 → Rat C H1 p1 (nt a b) (nb a b) → tMake C (spInit C CI CZ) [] E' (tCons (tVar i2) (tCons (tVar j2) tNil)) σ H1 (fun y H2 => u D ((σ.set i (some (.ref p1))).set j (some y)) H2) :=
    fun p1 H1 s1 r1 => make_vars hi2 hj2 hd ds fun p2 H2 s2 r2 => k p1 p2 H2 (s1.trans s2) (r1.same s2) r2
  have h1 : tMake C (spInit C CI CZ) [] E (tCons (tVar i1) (tCons (tVar j1) tNil)) σ H (fun x H1 => ∃ p1, x = .ref p1 ∧ Same H H1 ∧ Rat C H1 p1 (nt a b) (nb a b)) :=
    make_vars hi hj hb bs fun p1 H1 s1 r1 => ⟨p1, rfl, s1, r1⟩
  show tMake C (spInit C CI CZ) [] E (tCons (tVar i1) (tCons (tVar j1) tNil)) σ H (fun x H1 => tMake C (spInit C CI CZ) [] E' (tCons (tVar i2) (tCons (tVar j2) tNil)) σ H1 (fun y H2 => ∃ v w, [x, y] = [v, w] ∧ u D ((σ.set i (some v)).set j (some w)) H2))
  refine make_vars hi hj hb bs fun p1 H1 s1 r1 => ?_
  refine make_vars hi2 hj2 hd ds fun p2 H2 s2 r2 => ?_
  exact ⟨_, _, rfl, k p1 p2 H2 (s1.trans s2) (r1.same s2) r2⟩
theorem guard_go {u : TT} {x rest : TS} {D : _} {σ : L2.St} {H : Hp} {i : Nat} {c : Int} (hi : σ[i]? = some (some (.int c))) (R : Hp → Prop) (r : R H)
    (h : c ≠ 0 → ∀ Q' : Bool → Hp → Prop, (∀ H', R H' → Q' true H') → u σ H Q') (k : ∀ H', R H' → rest D σ H') : tSeq (tIfS (tAnd (tTest (tOp rNe (tVar i) (tC (.int 0)))) (tNot u)) x tNext) rest D σ H := by
  refine ⟨_, hi, rfl, _, rfl, ?_⟩
  by_cases z : c = 0
  · refine if_neg' (by rw [z]; rfl) (if_neg' rfl ?_)
    exact k H r
  · refine if_pos' (by simp [z]) ?_
    exact h z _ fun H' r' => if_neg' rfl (k H' r')
section
variable {P : Program} {w : World} {K : PySem.W.Frag} {mg : Str → Option Value} {base : Heap} {C CI fCI CZ fCZ : Addr}

def spPair : Sp := fun vs H Q _ => ∃ a b c d : Int, vs = [.int a, .int b, .int c, .int d] ∧ b ≠ 0 ∧ d ≠ 0 ∧ Sm 200 a ∧ Sm 200 b ∧ Sm 200 c ∧ Sm 200 d ∧ ∀ H', Same H H' → Q (.bl true) H'
theorem ok_pair {f : Addr} {fd : FuncData} (F : Fun K "_law_pair_right" "_law_pair_right" sPair f fd) (T : Txt K mg C CI fCI CZ fCZ) (Z : Tys K C) (M : Mak P w K mg base C CI CZ) (AR : Arith P w K mg base C CI CZ)
    (GI : Glb P w K mg base "_law_is" 4 ["_law_ratio", "_law_top", "_law_bottom"] (spIs C)) (GC : Glb P w K mg base "_law_compared" 7 ["_law_one", "_law_other", "_law_left", "_law_right"] (spComp C)) :
    FnOk P w K mg base (L2.CX P w) 8 f fd ["_law_a", "_law_b", "_law_c", "_law_d"] spPair := by
  obtain ⟨fN, fdN, ds, mk, GN, b3, d2, b2⟩ := M.ex
  obtain ⟨iF, iD, mI, kI, GI, bI⟩ := GI.ex
  obtain ⟨cF, cD, mC, kC, GC, bC⟩ := GC.ex
  obtain ⟨gaddr, gad, ada, adf, _, adG, adb⟩ := AR.add.ex
  obtain ⟨gsub, gsd, sua, suf, _, suG, sub⟩ := AR.sub.ex
  obtain ⟨gmul, gmd, mua, muf, _, muG, mub⟩ := AR.mul.ex
  obtain ⟨gov, god, ova, ovf, ovk, ovG, ovb⟩ := AR.over.ex
  have sc : FnScope ["_law_a", "_law_b", "_law_c", "_law_d", "_law_one", "_law_other", "_law_sign"] ["_law_a", "_law_b", "_law_c", "_law_d"] (defScope sPair) := ⟨rfl, rfl, rfl, by decide +kernel, rfl, by decide +kernel, by decide +kernel⟩
  refine F.okX sc (fun vs H Q E h => ?_) (fun cdv A outer s H vs Q E hr h => ?_)
  · obtain ⟨a, b, c, d, rfl, _⟩ := h
    rfl
  · obtain ⟨a, b, c, d, rfl, hb, hd, ba, bb, bc, bd, fin⟩ := h
    refine ⟨_, pss_cons (ps_par (i := 4) (j := 5) rfl sc.nd rfl rfl (by decide) rfl rfl (pa_cons (pe_make mk GN (hr.mono (by decide)) (by rfl) T.gC b3 .nil passL (pa_cons (pv 0) (pa_cons (pv 1) pa_nil))) (pa_cons (pe_make mk GN (hr.mono (by decide)) (by rfl) T.gC b3 .nil passL (pa_cons (pv 2) (pa_cons (pv 3) pa_nil))) pa_nil)) (by rfl))
      (pss_cons (ps_if (PW.pt (pw_or (pt_not (pt_val (pe_call GI (hr.mono (by decide)) (by rfl) mI kI bI .nil passL (pa_cons (pv 4) (pa_cons (pv 0) (pa_cons (pv 1) pa_nil)))))) (pw_or1 (pt_not (pt_val (pe_call GI (hr.mono (by decide)) (by rfl) mI kI bI .nil passL (pa_cons (pe_op (op := .Add) (op_ins (C := C) (E := E0) (op := .Add) ⟨ada, AR.rAdd, adf, Z.sf⟩ adG (hr.mono (by decide)) adb passL) (pv 4) (pv 5)) (pa_cons (pe_op op_add (pe_op op_mulW (pv 0) (pv 3)) (pe_op op_mulW (pv 2) (pv 1))) (pa_cons (pe_op op_mulW (pv 1) (pv 3)) pa_nil))))))))) (pss_one (ps_ret pe_bl)) pss_nil)
      (pss_cons (ps_if (pt_not (pt_val (pe_call GI (hr.mono (by decide)) (by rfl) mI kI bI .nil passL (pa_cons (pe_op (op := .Sub) (op_ins (C := C) (E := E0) (op := .Sub) ⟨sua, AR.rSub, suf, Z.sf⟩ suG (hr.mono (by decide)) sub passL) (pv 4) (pv 5)) (pa_cons (pe_op op_sub (pe_op op_mulW (pv 0) (pv 3)) (pe_op op_mulW (pv 2) (pv 1))) (pa_cons (pe_op op_mulW (pv 1) (pv 3)) pa_nil)))))) (pss_one (ps_ret pe_bl)) pss_nil)
      (pss_cons (ps_if (pt_not (pt_val (pe_call GI (hr.mono (by decide)) (by rfl) mI kI bI .nil passL (pa_cons (pe_op (op := .Mult) (op_ins (C := C) (E := E0) (op := .Mult) ⟨mua, AR.rMul, muf, Z.sf⟩ muG (hr.mono (by decide)) mub passL) (pv 4) (pv 5)) (pa_cons (pe_op op_mulW (pv 0) (pv 2)) (pa_cons (pe_op op_mulW (pv 1) (pv 3)) pa_nil)))))) (pss_one (ps_ret pe_bl)) pss_nil)
      (pss_cons (ps_if (PW.pt (pw_and (pt_cmpR op_ne (pv 2) pe_int (nomark _)) (pw_and1 (pt_not (pt_val (pe_call GI (hr.mono (by decide)) (by rfl) mI kI bI .nil passL (pa_cons (pe_meth (pv 4) T.cl ⟨ova, ovf, ovk⟩ ovG (hr.mono (by decide)) ovb .nil passL (pa_cons (pv 5) pa_nil)) (pa_cons (pe_op op_mulW (pv 0) (pv 3)) (pa_cons (pe_op op_mulW (pv 1) (pv 2)) pa_nil))))))))) (pss_one (ps_ret pe_bl)) pss_nil)
      (pss_cons (ps_set (i := 6) sc.nd rfl (Or.inl rfl) (pe_op op_sub pe_int (pe_op op_mul pe_int (pe_callTy call_int1 (by rfl) T.int (by decide +kernel) (pa_cons (pe_cmpR op_lt (pe_op op_mulW (pv 1) (pv 3)) pe_int (nomark _)) pa_nil)))))
      (pss_one (ps_ret (pe_call GC hr (by rfl) mC kC bC .nil passL (pa_cons (pv 4) (pa_cons (pv 5) (pa_cons (pe_op op_mul (pe_op op_mulW (pv 0) (pv 3)) (pv 6)) (pa_cons (pe_op op_mul (pe_op op_mulW (pv 2) (pv 1)) (pv 6)) pa_nil)))))))))))), ?_⟩
    have S := small_of hb hd ba bb bc bd
    have hbd : b * d ≠ 0 := Int.mul_ne_zero hb hd
    have k1 : Sm 1900 (b * d) := (bb.mul bd).up (by decide)
    -- the two ratios
    refine two_makes (a := a) (b := b) (c := c) (d := d) rfl rfl rfl rfl hb hd (bb.up (by decide)) (bd.up (by decide)) fun p1 p2 H2 m2' q1 r2 => ?_
    -- one, one + other
    refine ⟨_, rfl, _, rfl, _, rfl, p1, a, b, rfl, q1, hb, ba.up (by decide), bb.up (by decide), fun H3 s3 => ⟨_, rfl, iteF ?_⟩⟩
    have q3 := q1.same s3; have r3 := r2.same s3
    refine ⟨_, rfl, _, rfl, p1, _, _, rfl, q3.choose_spec, ⟨p2, _, _, rfl, r3.choose_spec⟩, p1, .ref p2, _, _, rfl, q3, .inl ⟨_, _, .inl ⟨p2, rfl, r3⟩, S, fun r H4 s4 rr => ?_⟩⟩
    have an := add_nrm (a := a) (c := c) hb hd
    refine ⟨_, rfl, _, rfl, _, _, rfl, rfl, m2 ba bd, _, rfl, _, rfl, _, _, rfl, rfl, m2 bc bb, _, _, rfl, rfl, _, rfl, _, rfl, _, _, rfl, rfl, m2 bb bd, r, a * d + c * b, b * d, rfl, ?_, hbd, ((ba.mul bd).add (bc.mul bb)).up (by decide), k1, fun H5 s5 => ⟨_, rfl, iteF ?_⟩⟩
    · rw [← an.1, ← an.2]; exact rr
    have q5 := (q3.same s4).same s5; have r5 := (r3.same s4).same s5
    have m5 := ((m2'.trans s3).trans s4).trans s5
    -- one - other
    refine ⟨_, rfl, _, rfl, p1, _, _, rfl, q5.choose_spec, ⟨p2, _, _, rfl, r5.choose_spec⟩, p1, .ref p2, _, _, rfl, q5, .inl ⟨_, _, .inl ⟨p2, rfl, r5⟩, S, fun r H6 s6 rr => ?_⟩⟩
    have sn := sub_nrm (a := a) (c := c) hb hd
    refine ⟨_, rfl, _, rfl, _, _, rfl, rfl, m2 ba bd, _, rfl, _, rfl, _, _, rfl, rfl, m2 bc bb, _, _, rfl, rfl, _, rfl, _, rfl, _, _, rfl, rfl, m2 bb bd, r, a * d - c * b, b * d, rfl, ?_, hbd, ((ba.mul bd).sub (bc.mul bb)).up (by decide), k1, fun H7 s7 => ⟨_, rfl, iteF ?_⟩⟩
    · rw [← sn.1, ← sn.2]; exact rr
    have q7 := (q5.same s6).same s7; have r7 := (r5.same s6).same s7
    have m7 := (m5.trans s6).trans s7
    -- one * other
    refine ⟨_, rfl, _, rfl, p1, _, _, rfl, q7.choose_spec, ⟨p2, _, _, rfl, r7.choose_spec⟩, p1, .ref p2, _, _, rfl, q7, .inl ⟨_, _, .inl ⟨p2, rfl, r7⟩, S, fun r H8 s8 rr => ?_⟩⟩
    have mn := mul_nrm (a := a) (c := c) hb hd
    refine ⟨_, rfl, _, rfl, _, _, rfl, rfl, m2 ba bc, _, rfl, _, rfl, _, _, rfl, rfl, m2 bb bd, r, a * c, b * d, rfl, ?_, hbd, (ba.mul bc).up (by decide), k1, fun H9 s9 => ⟨_, rfl, iteF ?_⟩⟩
    · rw [← mn.1, ← mn.2]; exact rr
    have q9 := (q7.same s8).same s9; have r9 := (r7.same s8).same s9
    have m9 := (m7.trans s8).trans s9
    -- one.over(other)
    have ca := cmp_all (a := a) (c := c) hb hd
    refine guard_go (c := c) rfl (fun H0 => Same H H0 ∧ Rat C H0 p1 (nt a b) (nb a b) ∧ Rat C H0 p2 (nt c d) (nb c d)) ⟨m9, q9, r9⟩ (fun hc Q' kk => ?_) (fun H10 ⟨m10, q10, r10⟩ => ?_)
    · have on := over_nrm (a := a) (c := c) hb hd hc
      have hbc : b * c ≠ 0 := Int.mul_ne_zero hb hc
      refine ⟨_, rfl, p1, _, _, rfl, q9.choose_spec, (by rfl), _, rfl, p1, .ref p2, _, _, rfl, q9, .inl ⟨_, _, .inl ⟨p2, rfl, r9⟩, S, .inr ⟨nt_ne hd hc, fun r H10 s10 rr => ?_⟩⟩⟩
      refine ⟨_, rfl, _, rfl, _, _, rfl, rfl, m2 ba bd, _, rfl, _, rfl, _, _, rfl, rfl, m2 bb bc, r, a * d, b * c, rfl, ?_, hbc, (ba.mul bd).up (by decide), (bb.mul bc).up (by decide), fun H11 s11 => ⟨_, rfl, kk _ ⟨(m9.trans s10).trans s11, (q9.same s10).same s11, (r9.same s10).same s11⟩⟩⟩
      rw [← on.1, ← on.2]; exact rr
    · have hb2 : -(2 ^ 64) < sg (b * d) ∧ sg (b * d) < 2 ^ 64 := by
        rcases sg_cases (b * d) with ⟨_, e⟩ | ⟨_, e⟩ <;> rw [e] <;> decide
      refine ⟨_, rfl, _, rfl, _, _, rfl, rfl, m2 bb bd, _, _, rfl, rfl, .inr ⟨_, rfl, _, _, rfl, rfl, .inl ⟨by decide, by decide⟩, _, _, rfl, rfl, ?_⟩⟩
      refine ⟨_, rfl, _, rfl, _, rfl, _, rfl, _, _, rfl, rfl, m2 ba bd, _, rfl, _, _, rfl, rfl, .inr hb2, _, rfl, _, rfl, _, _, rfl, rfl, m2 bc bb, _, rfl, _, _, rfl, rfl, .inr hb2, .ref p1, .ref p2, _, _, _, _, _, _, rfl, .inl ⟨p1, rfl, q10⟩, .inl ⟨p2, rfl, r10⟩, .inl ⟨p1, rfl⟩, S, ca.1, ca.2.1, ca.2.2, fun H' s' => fin H' (m10.trans s')⟩
end
end R1
end

-- K01l
section
set_option Elab.async false
set_option linter.all false
set_option maxRecDepth 100000
set_option exponentiation.threshold 6000
namespace R1
open PySem L2 OwnOps RatM
/-- truth of an instance, told by its own def -/
def IsBl : V → Prop := fun z => ∃ y, z = .bl y
theorem call_boolO {X : Cx} {CX : CXT} {C g : Addr} {k : Nat} {fd : FuncData} {ps : List Str} {sp : Sp} {E : XK} (hs : PySem.W.findIn X.K (.ref C) "__bool__" = some (some (.ref g))) (hf : PySem.W.isFn X.K (.ref g) = true)
    (F : FnOk X.prog X.w X.K X.mg X.base CX k g fd ps sp) (hr : Room (k + 2) X.A) (hb : L2.Binds X.K fd ps []) (hx : Passes CX X E) : CallR X (.type "bool") (fun xs H Q => ∃ x, xs = [x] ∧ rOwn1 C sp E IsBl x H Q) := by
  intro pins s σ H xs us Q I rx h
  obtain ⟨x, rfl, a, dx, fs, rfl, ha, q⟩ := h
  obtain ⟨u, rfl, ru⟩ := vals1 rx
  cases (show u = Value.ref a from ru)
  obtain ⟨od, J⟩ := inst_at I ha
  obtain ⟨m, hF⟩ := I.fr
  refine bool_K hF I.ok.mod.kin J hs hf ?_
  refine wpAny_mono (run_any (us := [.ref a]) (vs := [.ref a]) F (room2 hr) I.env0.in1.in1 hb hx I (.cons rfl .nil) q) (fun w s' z => ?_) fun _ _ e => e
  obtain ⟨z', H', I', rz, hz, qz⟩ := z
  obtain ⟨y, rfl⟩ := hz
  cases (show w = Value.bool y from rz)
  exact ⟨.bl y, H', I', rfl, qz⟩
theorem hRInt {y : V} {H : Hp} {u : Value} (h : RInt y H) (ry : RelV y u) : typeOf u = pure (.type "int") := by
  obtain ⟨i, rfl⟩ := h
  obtain ⟨t, rfl⟩ := (show ∃ t, u = Value.int i t from ry)
  rfl
abbrev ab (t : Int) : Int := if t < 0 then -t else t
theorem ab_sm {n : Nat} {t : Int} (h : Sm n t) : Sm n (ab t) := by
  unfold Sm at *
  unfold ab
  split <;> omega
theorem ab_ne {t : Int} (h : t ≠ 0) : ab t ≠ 0 := by
  unfold ab
  split <;> omega
theorem ab_abs (t : Int) : ab t = (t.natAbs : Int) := by
  unfold ab
  split <;> omega
theorem neg_nrm {a b : Int} (hb : b ≠ 0) : nt (-(nt a b)) (nb a b) = nt (0 - a) b ∧ nb (-(nt a b)) (nb a b) = nb (0 - a) b := by
  have p := nb_pos (t := a) hb
  refine nrm_of (k := cmn a b) (k' := 1) (by omega) hb (cmn_ne hb) (by decide) ?_ ?_
  · rw [Int.neg_mul, nt_mul]
    omega
  · rw [nb_mul, Int.mul_one]
theorem abs_nrm {a b : Int} (hb : b ≠ 0) : nt (ab (nt a b)) (nb a b) = nt (ab a) (ab b) ∧ nb (ab (nt a b)) (nb a b) = nb (ab a) (ab b) := by
  have p := nb_pos (t := a) hb
  refine nrm_of (k := ab (cmn a b)) (k' := 1) (by omega) (ab_ne hb) (ab_ne (cmn_ne hb)) (by decide) ?_ ?_
  · rw [ab_abs, ab_abs, ab_abs, Int.mul_one, ← Int.natCast_mul, ← Int.natAbs_mul, nt_mul]
  · rw [ab_abs, ab_abs, Int.mul_one]
    have e : nb a b = ((nb a b).natAbs : Int) := by omega
    rw [e, ← Int.natCast_mul, ← Int.natAbs_mul, nb_mul]
theorem bool_nrm {a b : Int} (hb : b ≠ 0) : decide (nt a b = 0) = decide (a = 0) := by
  refine decide_eq_decide.mpr ⟨fun z => ?_, fun z => ?_⟩
  · have e := nt_mul (t := a) (b := b)
    rw [z, Int.zero_mul] at e
    exact e.symm
  · rw [z]
    have e := nt_mul (t := 0) (b := b)
    rcases Int.mul_eq_zero.mp e with y | y
    · exact y
    · exact absurd y (cmn_ne hb)
/-- what is known of the integers beside the class -/
structure Ints (K : PySem.W.Frag) (C : Addr) : Prop where
  add : Ty2 K C "add" "int"
  sub : Ty2 K C "sub" "int"
  mul : Ty2 K C "mul" "int"
theorem small_n {a b n : Int} (hb : b ≠ 0) (ba : Sm 200 a) (bb : Sm 200 b) (bn : Sm 200 n) : Small (nt a b) (nb a b) n 1 := by
  have h := small_of hb (show (1 : Int) ≠ 0 by decide) ba bb bn (show Sm 200 1 by unfold Sm; decide)
  rwa [(nt_one n).1, (nt_one n).2] at h
theorem cmp_n {a b n : Int} (hb : b ≠ 0) :
    ((nt a b = n ∧ nb a b = 1) ↔ a * sg b = n * b * sg b) ∧ (nt a b * 1 < n * nb a b ↔ a * sg b < n * b * sg b) ∧ (n * nb a b < nt a b * 1 ↔ n * b * sg b < a * sg b) := by
  have h := cmp_all (a := a) (c := n) hb (show (1 : Int) ≠ 0 by decide)
  rwa [(nt_one n).1, (nt_one n).2, Int.mul_one b, Int.mul_one a] at h
theorem one_make {C CI CZ : Addr} {σ : L2.St} {H : Hp} {D : _} {u : TS} {E : XK} {i i1 j1 : Nat} {a b : Int} (hi : σ[i1]? = some (some (.int a))) (hj : σ[j1]? = some (some (.int b))) (hb : b ≠ 0) (bs : Sm 5000 b)
    (k : ∀ p H', Same H H' → Rat C H' p (nt a b) (nb a b) → u D (σ.set i (some (.ref p))) H') :
    tSeq (tAsg (tMake C (spInit C CI CZ) [] E (tCons (tVar i1) (tCons (tVar j1) tNil))) (gName i)) u D σ H := by
  show tMake C (spInit C CI CZ) [] E (tCons (tVar i1) (tCons (tVar j1) tNil)) σ H (fun x H1 => u D (σ.set i (some x)) H1)
  refine make_vars hi hj hb bs fun p1 H1 s1 r1 => ?_
  exact k p1 H1 s1 r1
section
variable {P : Program} {w : World} {K : PySem.W.Frag} {mg : Str → Option Value} {base : Heap} {C CI fCI CZ fCZ : Addr}

def spWhR : Sp := fun vs H Q _ => ∃ a b n : Int, vs = [.int a, .int b, .int n] ∧ b ≠ 0 ∧ Sm 200 a ∧ Sm 200 b ∧ Sm 200 n ∧ ∀ H', Same H H' → Q (.bl true) H'
theorem ok_whR {f : Addr} {fd : FuncData} (F : Fun K "_law_whole_right" "_law_whole_right" sWholeR f fd) (T : Txt K mg C CI fCI CZ fCZ) (Z : Tys K C) (NN : Ints K C) (M : Mak P w K mg base C CI CZ) (AR : Arith P w K mg base C CI CZ)
    (GI : Glb P w K mg base "_law_is" 4 ["_law_ratio", "_law_top", "_law_bottom"] (spIs C)) (GC : Glb P w K mg base "_law_compared" 7 ["_law_one", "_law_other", "_law_left", "_law_right"] (spComp C)) :
    FnOk P w K mg base (L2.CX P w) 8 f fd ["_law_a", "_law_b", "_law_n"] spWhR := by
  obtain ⟨fN, fdN, ds, mk, GN, b3, d2, b2⟩ := M.ex
  obtain ⟨iF, iD, mI, kI, GI, bI⟩ := GI.ex
  obtain ⟨cF, cD, mC, kC, GC, bC⟩ := GC.ex
  obtain ⟨gaddr, gad, ada, adf, _, adG, adb⟩ := AR.add.ex
  obtain ⟨gsub, gsd, sua, suf, _, suG, sub⟩ := AR.sub.ex
  obtain ⟨gmul, gmd, mua, muf, _, muG, mub⟩ := AR.mul.ex
  obtain ⟨_, _, rada, radf, _, radG, radb⟩ := AR.radd.ex
  obtain ⟨_, _, rsua, rsuf, _, rsuG, rsub⟩ := AR.rsub.ex
  obtain ⟨_, _, rmua, rmuf, _, rmuG, rmub⟩ := AR.rmul.ex
  obtain ⟨gov, god, ova, ovf, ovk, ovG, ovb⟩ := AR.over.ex
  obtain ⟨_, _, nea, nef, _, neG, neb⟩ := AR.neg.ex
  obtain ⟨_, _, aba, abf, _, abG, abb⟩ := AR.abs.ex
  obtain ⟨_, _, boa, bof, _, boG, bob⟩ := AR.bool.ex
  have sc : FnScope ["_law_a", "_law_b", "_law_n", "_law_one", "_law_sign"] ["_law_a", "_law_b", "_law_n"] (defScope sWholeR) := ⟨rfl, rfl, rfl, by decide +kernel, rfl, by decide +kernel, by decide +kernel⟩
  refine F.okX sc (fun vs H Q E h => ?_) (fun cdv A outer s H vs Q E hr h => ?_)
  · obtain ⟨a, b, n, rfl, _⟩ := h
    rfl
  · obtain ⟨a, b, n, rfl, hb, ba, bb, bn, fin⟩ := h
    refine ⟨_, pss_cons (ps_set (i := 3) sc.nd rfl (Or.inl rfl) (pe_make mk GN (hr.mono (by decide)) (by rfl) T.gC b3 .nil passL (pa_cons (pv 0) (pa_cons (pv 1) pa_nil))))
      (pss_cons (ps_if (pt_not (pt_val (pe_call GI (hr.mono (by decide)) (by rfl) mI kI bI .nil passL (pa_cons (pe_op (op := .Add) (op_val (C := C) (T := "int") (E := E0) (op := .Add) ⟨ada, AR.rAdd, adf, Z.sf⟩ NN.add adG (hr.mono (by decide)) adb passL (R := RInt) hRInt) (pv 3) (pv 2)) (pa_cons (pe_op op_add (pv 0) (pe_op op_mulW (pv 2) (pv 1))) (pa_cons (pv 1) pa_nil)))))) (pss_one (ps_ret pe_bl)) pss_nil)
      (pss_cons (ps_if (pt_not (pt_val (pe_call GI (hr.mono (by decide)) (by rfl) mI kI bI .nil passL (pa_cons (pe_op (op := .Add) (op_refl (C := C) (E := E0) (op := .Add) (nm := "add") rfl ⟨ada, AR.rAdd, adf, Z.sf⟩ rada radf rfl Z.sI dec_add radG (hr.mono (by decide)) radb passL) (pv 2) (pv 3)) (pa_cons (pe_op op_add (pv 0) (pe_op op_mulW (pv 2) (pv 1))) (pa_cons (pv 1) pa_nil)))))) (pss_one (ps_ret pe_bl)) pss_nil)
      (pss_cons (ps_if (pt_not (pt_val (pe_call GI (hr.mono (by decide)) (by rfl) mI kI bI .nil passL (pa_cons (pe_op (op := .Sub) (op_refl (C := C) (E := E0) (op := .Sub) (nm := "sub") rfl ⟨sua, AR.rSub, suf, Z.sf⟩ rsua rsuf rfl Z.sI dec_sub rsuG (hr.mono (by decide)) rsub passL) (pv 2) (pv 3)) (pa_cons (pe_op op_sub (pe_op op_mulW (pv 2) (pv 1)) (pv 0)) (pa_cons (pv 1) pa_nil)))))) (pss_one (ps_ret pe_bl)) pss_nil)
      (pss_cons (ps_if (pt_not (pt_val (pe_call GI (hr.mono (by decide)) (by rfl) mI kI bI .nil passL (pa_cons (pe_op (op := .Sub) (op_val (C := C) (T := "int") (E := E0) (op := .Sub) ⟨sua, AR.rSub, suf, Z.sf⟩ NN.sub suG (hr.mono (by decide)) sub passL (R := RInt) hRInt) (pv 3) (pv 2)) (pa_cons (pe_op op_sub (pv 0) (pe_op op_mulW (pv 2) (pv 1))) (pa_cons (pv 1) pa_nil)))))) (pss_one (ps_ret pe_bl)) pss_nil)
      (pss_cons (ps_if (PW.pt (pw_or (pt_not (pt_val (pe_call GI (hr.mono (by decide)) (by rfl) mI kI bI .nil passL (pa_cons (pe_op (op := .Mult) (op_refl (C := C) (E := E0) (op := .Mult) (nm := "mul") rfl ⟨mua, AR.rMul, muf, Z.sf⟩ rmua rmuf rfl Z.sI dec_mul rmuG (hr.mono (by decide)) rmub passL) (pv 2) (pv 3)) (pa_cons (pe_op op_mulW (pv 0) (pv 2)) (pa_cons (pv 1) pa_nil)))))) (pw_or1 (pt_not (pt_val (pe_call GI (hr.mono (by decide)) (by rfl) mI kI bI .nil passL (pa_cons (pe_op (op := .Mult) (op_val (C := C) (T := "int") (E := E0) (op := .Mult) ⟨mua, AR.rMul, muf, Z.sf⟩ NN.mul muG (hr.mono (by decide)) mub passL (R := RInt) hRInt) (pv 3) (pv 2)) (pa_cons (pe_op op_mulW (pv 0) (pv 2)) (pa_cons (pv 1) pa_nil))))))))) (pss_one (ps_ret pe_bl)) pss_nil)
      (pss_cons (ps_if (PW.pt (pw_and (pt_cmpR op_ne (pv 2) pe_int (nomark _)) (pw_and1 (pt_not (pt_val (pe_call GI (hr.mono (by decide)) (by rfl) mI kI bI .nil passL (pa_cons (pe_meth (pv 3) T.cl ⟨ova, ovf, ovk⟩ ovG (hr.mono (by decide)) ovb .nil passL (pa_cons (pv 2) pa_nil)) (pa_cons (pv 0) (pa_cons (pe_op op_mulW (pv 1) (pv 2)) pa_nil))))))))) (pss_one (ps_ret pe_bl)) pss_nil)
      (pss_cons (ps_if (pt_not (pt_val (pe_call GI (hr.mono (by decide)) (by rfl) mI kI bI .nil passL (pa_cons (pe_un (neg_own (E := E0) nea nef neG (hr.mono (by decide)) neb passL) (pv 3)) (pa_cons (pe_op op_sub pe_int (pv 0)) (pa_cons (pv 1) pa_nil)))))) (pss_one (ps_ret pe_bl)) pss_nil)
      (pss_cons (ps_if (PW.pt (pw_or (pt_not (pt_val (pe_call GI (hr.mono (by decide)) (by rfl) mI kI bI .nil passL (pa_cons (pe_callB (call_absO (E := E0) aba abf abG (hr.mono (by decide)) abb passL) (by rfl) T.abs (by decide +kernel) (pa_cons (pv 3) pa_nil)) (pa_cons (pe_callB call_abs (by rfl) T.abs (by decide +kernel) (pa_cons (pv 0) pa_nil)) (pa_cons (pe_callB call_abs (by rfl) T.abs (by decide +kernel) (pa_cons (pv 1) pa_nil)) pa_nil)))))) (pw_or1 (pt_cmpR op_ne (pe_callTy (call_boolO (E := E0) boa bof boG (hr.mono (by decide)) bob passL) (by rfl) T.bool (by decide +kernel) (pa_cons (pv 3) pa_nil)) (pe_cmpR op_ne (pv 0) pe_int (nomark _)) (nomark _))))) (pss_one (ps_ret pe_bl)) pss_nil)
      (pss_cons (ps_set (i := 4) sc.nd rfl (Or.inl rfl) (pe_op op_sub pe_int (pe_op op_mul pe_int (pe_callTy call_int1 (by rfl) T.int (by decide +kernel) (pa_cons (pe_cmpR op_lt (pv 1) pe_int (nomark _)) pa_nil)))))
      (pss_cons (ps_if (pt_not (pt_val (pe_call GC hr (by rfl) mC kC bC .nil passL (pa_cons (pv 3) (pa_cons (pv 2) (pa_cons (pe_op op_mul (pv 0) (pv 4)) (pa_cons (pe_op op_mul (pe_op op_mulW (pv 2) (pv 1)) (pv 4)) pa_nil))))))) (pss_one (ps_ret pe_bl)) pss_nil)
      (pss_one (ps_ret (pe_call GC hr (by rfl) mC kC bC .nil passL (pa_cons (pv 2) (pa_cons (pv 3) (pa_cons (pe_op op_mul (pe_op op_mulW (pv 2) (pv 1)) (pv 4)) (pa_cons (pe_op op_mul (pv 0) (pv 4)) pa_nil))))))))))))))))), ?_⟩
    have S := small_n hb ba bb bn
    have S' := S.flip
    have one1 : (1 : Int) ≠ 0 := by decide
    have k1 : Sm 1900 b := bb.up (by decide)
    refine one_make (a := a) (b := b) rfl rfl hb (bb.up (by decide)) fun p1 H1 s1 q1 => ?_
    -- one + n
    refine ⟨_, rfl, _, rfl, p1, _, _, rfl, q1.choose_spec, ⟨n, rfl⟩, p1, .int n, _, _, rfl, q1, .inl ⟨_, _, .inr ⟨rfl, rfl⟩, S, fun r H4 s4 rr => ?_⟩⟩
    have an := add_nrm (a := a) (c := n) hb one1
    rw [(nt_one n).1, (nt_one n).2, Int.mul_one a, Int.mul_one b] at an
    refine ⟨_, rfl, _, rfl, _, rfl, _, _, rfl, rfl, m2 bn bb, _, _, rfl, rfl, _, rfl, r, a + n * b, b, rfl, ?_, hb, ((ba.up (by decide)).add (bn.mul bb)).up (by decide), k1, fun H5 s5 => ⟨_, rfl, iteF ?_⟩⟩
    · rw [← an.1, ← an.2]; exact rr
    have q5 := (q1.same s4).same s5
    have m5 := (s1.trans s4).trans s5
    -- n + one
    refine ⟨_, rfl, _, rfl, n, p1, _, _, rfl, rfl, q5.choose_spec, p1, .int n, _, _, rfl, q5, .inl ⟨_, _, .inr ⟨rfl, rfl⟩, S', fun r V2 t2 rr => ?_⟩⟩
    have e2 := add_nrm (a := n) (c := a) one1 hb
    rw [(nt_one n).1, (nt_one n).2, Int.one_mul b, Int.mul_one a, Int.add_comm (n * b) a] at e2
    refine ⟨_, rfl, _, rfl, _, rfl, _, _, rfl, rfl, m2 bn bb, _, _, rfl, rfl, _, rfl, r, a + n * b, b, rfl, ?_, hb, ((ba.up (by decide)).add (bn.mul bb)).up (by decide), k1, fun U2 u2 => ⟨_, rfl, iteF ?_⟩⟩
    · rw [← e2.1, ← e2.2]; exact rr
    have qq2 := (q5.same t2).same u2
    have mm2 := (m5.trans t2).trans u2
    -- n - one
    refine ⟨_, rfl, _, rfl, n, p1, _, _, rfl, rfl, qq2.choose_spec, p1, .int n, _, _, rfl, qq2, .inl ⟨_, _, .inr ⟨rfl, rfl⟩, S', fun r V3 t3 rr => ?_⟩⟩
    have e3 := sub_nrm (a := n) (c := a) one1 hb
    rw [(nt_one n).1, (nt_one n).2, Int.one_mul b, Int.mul_one a] at e3
    refine ⟨_, rfl, _, rfl, _, _, rfl, rfl, m2 bn bb, _, rfl, _, _, rfl, rfl, _, rfl, r, n * b - a, b, rfl, ?_, hb, ((bn.mul bb).sub (ba.up (by decide))).up (by decide), k1, fun U3 u3 => ⟨_, rfl, iteF ?_⟩⟩
    · rw [← e3.1, ← e3.2]; exact rr
    have qq3 := (qq2.same t3).same u3
    have mm3 := (mm2.trans t3).trans u3
    -- one - n
    refine ⟨_, rfl, _, rfl, p1, _, _, rfl, qq3.choose_spec, ⟨n, rfl⟩, p1, .int n, _, _, rfl, qq3, .inl ⟨_, _, .inr ⟨rfl, rfl⟩, S, fun r V4 t4 rr => ?_⟩⟩
    have e4 := sub_nrm (a := a) (c := n) hb one1
    rw [(nt_one n).1, (nt_one n).2, Int.mul_one b, Int.mul_one a] at e4
    refine ⟨_, rfl, _, rfl, _, rfl, _, _, rfl, rfl, m2 bn bb, _, _, rfl, rfl, _, rfl, r, a - n * b, b, rfl, ?_, hb, ((ba.up (by decide)).sub (bn.mul bb)).up (by decide), k1, fun U4 u4 => ⟨_, rfl, iteF ?_⟩⟩
    · rw [← e4.1, ← e4.2]; exact rr
    have qq4 := (qq3.same t4).same u4
    have mm4 := (mm3.trans t4).trans u4
    -- n * one
    refine ⟨_, rfl, _, rfl, n, p1, _, _, rfl, rfl, qq4.choose_spec, p1, .int n, _, _, rfl, qq4, .inl ⟨_, _, .inr ⟨rfl, rfl⟩, S', fun r V5 t5 rr => ?_⟩⟩
    have e5 := mul_nrm (a := n) (c := a) one1 hb
    rw [(nt_one n).1, (nt_one n).2, Int.one_mul b, Int.mul_comm n a] at e5
    refine ⟨_, rfl, _, rfl, _, _, rfl, rfl, m2 ba bn, _, rfl, r, a * n, b, rfl, ?_, hb, (ba.mul bn).up (by decide), k1, fun U5 u5 => ⟨_, rfl, iteF ?_⟩⟩
    · rw [← e5.1, ← e5.2]; exact rr
    have qq5 := (qq4.same t5).same u5
    have mm5 := (mm4.trans t5).trans u5
    -- one * n
    refine ⟨_, rfl, _, rfl, p1, _, _, rfl, qq5.choose_spec, ⟨n, rfl⟩, p1, .int n, _, _, rfl, qq5, .inl ⟨_, _, .inr ⟨rfl, rfl⟩, S, fun r V6 t6 rr => ?_⟩⟩
    have e6 := mul_nrm (a := a) (c := n) hb one1
    rw [(nt_one n).1, (nt_one n).2, Int.mul_one b] at e6
    refine ⟨_, rfl, _, rfl, _, _, rfl, rfl, m2 ba bn, _, rfl, r, a * n, b, rfl, ?_, hb, (ba.mul bn).up (by decide), k1, fun U6 u6 => ⟨_, rfl, iteF ?_⟩⟩
    · rw [← e6.1, ← e6.2]; exact rr
    have qq6 := (qq5.same t6).same u6
    have mm6 := (mm5.trans t6).trans u6
    -- one.over(n)
    refine guard_go (c := n) rfl (fun H0 => Same H H0 ∧ Rat C H0 p1 (nt a b) (nb a b)) ⟨mm6, qq6⟩ (fun hn Q' kk => ?_) (fun H7 ⟨m7, q7⟩ => ?_)
    · have e7 := over_nrm (a := a) (c := n) hb one1 hn
      rw [(nt_one n).1, (nt_one n).2, Int.mul_one a] at e7
      refine ⟨_, rfl, p1, _, _, rfl, qq6.choose_spec, (by rfl), _, rfl, p1, .int n, _, _, rfl, qq6, .inl ⟨_, _, .inr ⟨rfl, rfl⟩, S, .inr ⟨hn, fun r V7 t7 rr => ?_⟩⟩⟩
      refine ⟨_, rfl, _, rfl, _, rfl, _, _, rfl, rfl, m2 bb bn, r, a, b * n, rfl, ?_, Int.mul_ne_zero hb hn, ba.up (by decide), (bb.mul bn).up (by decide), fun U7 u7 => ⟨_, rfl, kk _ ⟨(mm6.trans t7).trans u7, (qq6.same t7).same u7⟩⟩⟩
      rw [← e7.1, ← e7.2]; exact rr
    · -- -one
      refine ⟨_, rfl, p1, _, _, rfl, q7.choose_spec, p1, _, _, rfl, q7, nb_pos hb, S.b1, fun r V8 t8 rr => ⟨trivial, ?_⟩⟩
      have e8 := neg_nrm (a := a) hb
      refine ⟨_, rfl, _, _, rfl, rfl, _, rfl, r, 0 - a, b, rfl, ?_, hb, ?_, k1, fun U8 u8 => ⟨_, rfl, iteF ?_⟩⟩
      · rw [← e8.1, ← e8.2]; exact rr
      · rw [Int.zero_sub]; unfold Sm; rw [Int.natAbs_neg]; exact ba.up (by decide)
      have q8 := (q7.same t8).same u8
      have m8 := (m7.trans t8).trans u8
      -- abs(one)
      refine ⟨_, rfl, _, rfl, p1, _, _, rfl, q8.choose_spec, p1, _, _, rfl, q8, nb_pos hb, S.b1, fun r V9 t9 rr => ⟨trivial, ?_⟩⟩
      have e9 := abs_nrm (a := a) hb
      refine ⟨_, rfl, _, rfl, _, rfl, _, rfl, r, ab a, ab b, rfl, ?_, ab_ne hb, (ab_sm ba).up (by decide), (ab_sm bb).up (by decide), fun U9 u9 => ⟨_, rfl, iteF ?_⟩⟩
      · rw [← e9.1, ← e9.2]; exact rr
      have q9 := (q8.same t9).same u9
      have m9 := (m8.trans t9).trans u9
      -- bool(one)
      refine ⟨_, rfl, _, rfl, p1, _, _, rfl, q9.choose_spec, p1, _, _, rfl, q9, ⟨_, rfl⟩, _, rfl, rfl, rfl, _, rfl, if_neg' (by rw [dI, bool_nrm hb]; simp) ?_⟩
      have hb2 : -(2 ^ 64) < sg b ∧ sg b < 2 ^ 64 := by
        rcases sg_cases b with ⟨_, e⟩ | ⟨_, e⟩ <;> rw [e] <;> decide
      have ca := cmp_n (a := a) (n := n) hb
      refine ⟨_, rfl, _, _, rfl, rfl, .inr ⟨_, rfl, _, _, rfl, rfl, .inl ⟨by decide, by decide⟩, _, _, rfl, rfl, ?_⟩⟩
      refine ⟨_, rfl, _, rfl, _, rfl, _, rfl, _, _, rfl, rfl, .inr hb2, _, rfl, _, rfl, _, _, rfl, rfl, m2 bn bb, _, rfl, _, _, rfl, rfl, .inr hb2, .ref p1, .int n, _, _, _, _, _, _, rfl, .inl ⟨p1, rfl, q9⟩, .inr ⟨rfl, rfl⟩, .inl ⟨p1, rfl⟩, S, ca.1, ca.2.1, ca.2.2, fun Ha sa => ⟨_, rfl, iteF ?_⟩⟩
      refine ⟨_, rfl, _, rfl, _, rfl, _, rfl, _, _, rfl, rfl, m2 bn bb, _, rfl, _, _, rfl, rfl, .inr hb2, _, rfl, _, rfl, _, _, rfl, rfl, .inr hb2, .int n, .ref p1, _, _, _, _, _, _, rfl, .inr ⟨rfl, rfl⟩, .inl ⟨p1, rfl, q9.same sa⟩, .inr ⟨p1, rfl⟩, S', ⟨fun z => (ca.1.mp ⟨z.1.symm, z.2.symm⟩).symm, fun z => ⟨(ca.1.mpr z.symm).1.symm, (ca.1.mpr z.symm).2.symm⟩⟩, ca.2.2, ca.2.1, fun H' s' => fin H' ((m9.trans sa).trans s')⟩
end
end R1
end

-- K01m
section
set_option Elab.async false
set_option linter.all false
set_option maxRecDepth 100000
set_option exponentiation.threshold 6000
namespace R1
open PySem L2 OwnOps RatM
/-- the built-in types beside the class, for one operator -/
structure Bads (K : PySem.W.Frag) (C : Addr) (nm : String) : Prop where
  b : Ty2 K C nm "bool"
  n : Ty2 K C nm "NoneType"
  s : Ty2 K C nm "str"
  l : Ty2 K C nm "list"
  t : Ty2 K C nm "tuple"
theorem looks_bd {X : Cx} {C : Addr} {nm : String} (Y : Bads X.K C nm) {y : V} {H : Hp} {u : Value} {pins : List (Addr × Obj)} {σ : L2.St} {s : Shared} (I : L2.Inv X pins σ H s) (h : Bd H y) (ry : RelV y u) :
    ∃ T, PySem.W.Looks (model X.prog X.w) s.heap (typeOf u) (.type T) ∧ Ty2 X.K C nm T := by
  cases h with
  | bl b => cases (show u = Value.bool b from ry); exact ⟨_, PySem.W.Looks.of_pure rfl, Y.b⟩
  | non => cases (show u = Value.none from ry); exact ⟨_, PySem.W.Looks.of_pure rfl, Y.n⟩
  | str x => obtain ⟨t, rfl⟩ := (show ∃ t, u = Value.str x t from ry); exact ⟨_, PySem.W.Looks.of_pure rfl, Y.s⟩
  | lst e =>
    cases (show u = Value.ref _ from ry)
    obtain ⟨_, _, n, _, h1⟩ := (show ObjOk X.prog X.w H s.heap _ (.lst _) from I.hok _ _ e)
    exact ⟨"list", fun A Q E s' k q => wpAny_typeOf_ref (k _ _ h1) q, Y.l⟩
  | tup e =>
    cases (show u = Value.ref _ from ry)
    obtain ⟨_, _, _, o, h1, h2, _⟩ := (show ObjOk X.prog X.w H s.heap _ (.tup _) from I.hok _ _ e)
    exact ⟨"tuple", fun A Q E s' k q => wpAny_typeOf_ref (k _ _ h1) (by rw [h2]; exact q), Y.t⟩
/-- x op y, y no number -/
theorem op_bad {X : Cx} {CX : CXT} {C g : Addr} {k : Nat} {fd : FuncData} {ps : List Str} {sp : Sp} {E : XK} {op : Operator} {nm : String} (hnm : op.info.2 = nm) (O : Op2 X.K C g nm) (Y : Bads X.K C nm)
    (F : FnOk X.prog X.w X.K X.mg X.base CX k g fd ps sp) (hr : Room k X.A) (hb : L2.Binds X.K fd ps []) (hx : Passes CX X E) : OpR X (binaryOp op) (rOwn2 C (fun y H => Bd H y) sp E) := by
  subst hnm
  intro pins s σ H x y v u Q I rx ry h
  obtain ⟨a, dx, fs, rfl, ha, hy, q⟩ := h
  cases (show v = Value.ref a from rx)
  obtain ⟨od, J⟩ := inst_at I ha
  obtain ⟨T, hT, Ty⟩ := looks_bd Y I hy ry
  obtain ⟨fo, hfo⟩ := Ty.lf
  obtain ⟨ro, hro⟩ := Ty.rt
  obtain ⟨rc, hrc, hp⟩ := O.rf
  refine left_K I.kIn J hT O.first O.at_ O.fn hrc hp hfo hro Ty.sub ?_
  refine wpAny_mono (run_any (us := [.ref a, u]) (vs := [.ref a, y]) F hr I.env0 hb hx I (.cons rfl (.cons ry .nil)) q) (fun w s' z => ?_) fun _ _ e => e
  obtain ⟨z', H', I', rz, qz⟩ := id z
  exact back_of rz z
/-- the values that are no numbers and stand on the left of * -/
inductive Bd4 (H : Hp) : V → Prop
  | bl (b : Bool) : Bd4 H (.bl b)
  | non : Bd4 H .non
  | str (x : Str) : Bd4 H (.str x)
  | lst {a : Addr} {xs : List V} (e : H a = some (.lst xs)) : Bd4 H (.ref a)
theorem Bd4.bd {H : Hp} {v : V} (h : Bd4 H v) : Bd H v := by
  cases h with
  | bl b => exact .bl b
  | non => exact .non
  | str x => exact .str x
  | lst e => exact .lst e
/-- the class is none of these types -/
structure Subs (K : PySem.W.Frag) (C : Addr) : Prop where
  b : PySem.W.subIn K (.ref C) (.type "bool") = some false
  n : PySem.W.subIn K (.ref C) (.type "NoneType") = some false
  s : PySem.W.subIn K (.ref C) (.type "str") = some false
  l : PySem.W.subIn K (.ref C) (.type "list") = some false
def rRefB (C : Addr) (sp : Sp) (E : XK) : R2 := fun x y H Q => ∃ (b dy : Addr) (fs : List (Str × V)), Bd4 H x ∧ y = .ref b ∧ H b = some (.ins C dy fs) ∧ sp [y, x] H Q E
theorem noMul_none : fillsNumberSlot (.type "NoneType") "mul" = pure false := rfl
theorem noMul_str : fillsNumberSlot (.type "str") "mul" = pure false := rfl
theorem noMul_list : fillsNumberSlot (.type "list") "mul" = pure false := rfl
theorem isMul_bool : fillsNumberSlot (.type "bool") "mul" = pure true := rfl
/-- x * y by y's def, x no number -/
theorem mul_reflB {X : Cx} {CX : CXT} {C f g : Addr} {k : Nat} {fd : FuncData} {ps : List Str} {sp : Sp} {E : XK} (O : Op2 X.K C f "mul") (hrf : PySem.W.findIn X.K (.ref C) (PySem.dunderR "mul") = some (some (.ref g))) (hg : PySem.W.isFn X.K (.ref g) = true)
    (S : Subs X.K C) (F : FnOk X.prog X.w X.K X.mg X.base CX k g fd ps sp) (hr : Room k X.A) (hb : L2.Binds X.K fd ps []) (hx : Passes CX X E) : OpR X (binaryOp .Mult) (rRefB C sp E) := by
  intro pins s σ H x y v u Q I rx ry h
  obtain ⟨b, dy, fs, hx4, rfl, hb', q⟩ := h
  cases (show u = Value.ref b from ry)
  obtain ⟨od, J⟩ := inst_at I hb'
  have fin : wpAny (model X.prog X.w) X.A (call (.ref g) [.ref b, v]) (PySem.W.CmpBack (EP X pins σ Q)) X.xe s := by
    refine wpAny_mono (run_any (us := [.ref b, v]) (vs := [.ref b, x]) F hr I.env0 hb hx I (.cons rfl (.cons rx .nil)) q) (fun w s' z => ?_) fun _ _ e => e
    obtain ⟨z', H', I', rz, qz⟩ := id z
    exact back_of rz z
  cases hx4 with
  | bl c =>
    cases (show v = Value.bool c from rx)
    refine refl_K (T := "bool") (op := .Mult) I.kIn J (PySem.W.Looks.of_pure rfl) O.first O.at_ hrf hg (PySem.W.Looks.of_pure isMul_bool) S.b (fun _ Q' q' => ?_) fin
    have hc : wpAny (model X.prog X.w) X.A (call (.builtin "int.__mul__") [.bool c, .ref b]) (fun v s' => v = .notImplemented ∧ Q' none s') X.xe s := bool_call_mul J.at_ rfl ⟨rfl, q'⟩
    exact wpAny_tryMethod_declines (name := PySem.dunder "mul") (id := "int.__mul__") (typeIs_bool s c) PySem.F.slot_bool_mul hc
  | non =>
    cases (show v = Value.none from rx)
    exact refl_K (T := "NoneType") (op := .Mult) I.kIn J (PySem.W.Looks.of_pure rfl) O.first O.at_ hrf hg (PySem.W.Looks.of_pure noMul_none) S.n (fun z => nomatch z) fin
  | str c =>
    obtain ⟨t, rfl⟩ := (show ∃ t, v = Value.str c t from rx)
    exact refl_K (T := "str") (op := .Mult) I.kIn J (PySem.W.Looks.of_pure rfl) O.first O.at_ hrf hg (PySem.W.Looks.of_pure noMul_str) S.s (fun z => nomatch z) fin
  | lst e =>
    cases (show v = Value.ref _ from rx)
    obtain ⟨_, _, n, _, h1⟩ := (show ObjOk X.prog X.w H s.heap _ (.lst _) from I.hok _ _ e)
    exact refl_K (T := "list") (op := .Mult) I.kIn J (fun A Q E s' k q => wpAny_typeOf_ref (k _ _ h1) q) O.first O.at_ hrf hg (PySem.W.Looks.of_pure noMul_list) S.l (fun z => nomatch z) fin
end R1
end

-- K01n
section
set_option Elab.async false
set_option linter.all false
set_option maxRecDepth 100000
set_option exponentiation.threshold 6000
namespace R1
open PySem L2 OwnOps RatM TryAs
abbrev sErr : Stmt := top 17
/-- an exception wished for at every state of n slots -/
def EN (n : Nat) (W : WX) : XK := fun cls d H' => ∀ t : L2.St, t.length = n → W cls d t H'
theorem pass_n {X : Cx} {W : WX} {n : Nat} (hn : X.N.length = n) (tk : Takes X W) : Passes (L2.CX X.prog X.w) X (EN n W) := by
  subst hn
  exact pass_all tk
theorem dn {i j : Int} (h : i ≠ j) : decide (V.int i = V.int j) = false := by
  rw [dI]
  exact decide_eq_false h
theorem set4 {t : L2.St} (h : t.length = 5) (v : Option V) : (t.set 4 v)[4]? = some v := by
  rw [List.getElem?_set_self (by omega)]
def BdI (C : Addr) (H : Hp) (v : V) : Prop := Bd H v ∨ ∃ a dx fs, v = .ref a ∧ H a = some (.ins C dx fs)
def spErr (C CI CZ : Addr) : Sp := fun vs H Q _ => ∃ (x y : V) (way : Int) (word : Str) (g : V), vs = [x, y, .int way] ∧ (∀ l H', Same H H' → H' l = some (.lst [.str word, g]) → Q (.ref l) H') ∧
  ((way = 0 ∧ word = "number" ∧ g = x ∧ y = .int 2 ∧ BdI C H x) ∨ (way = 0 ∧ word = "number" ∧ g = y ∧ x = .int 1 ∧ BdI C H y) ∨ (way = 0 ∧ word = "zero" ∧ g = x ∧ (∃ t, x = .int t) ∧ y = .int 0) ∨
    (way = 1 ∧ word = "zero" ∧ g = y ∧ ∃ p t b b', x = .ref p ∧ Rat C H p t b ∧ Num C H y 0 b' ∧ Small t b 0 b') ∨ (1 ≤ way ∧ way ≤ 8 ∧ word = "number" ∧ g = y ∧ Bd4 H y ∧ ∃ p t b, x = .ref p ∧ Rat C H p t b))
section
variable {C CI CZ : Addr} {H : Hp} {R : Addr → Addr → VK} {E : XK}
theorem bdI_no {v : V} (kd : BdI C H v) : isW v = false := by
  rcases kd with h | ⟨a, _, _, rfl, _⟩
  · exact h.w
  · rfl
theorem bdI_kd {v : V} (kd : BdI C H v) : Kd C H v := by
  rcases kd with h | ⟨a, _, _, rfl, e⟩
  · exact h.kd
  · exact .ins e
theorem bad1 {v u : V} (kd : BdI C H v) (k : Raise1 CI H v E) :
    ∀ x dx, H x = none → H dx = none → dx ≠ x → spInit C CI CZ [.ref x, v, u] (upd (upd H dx (.own x)) x (.ins C dx [])) (R x dx) E := by
  intro x dx hx hd ne
  have nw := bdI_no kd
  refine ⟨x, dx, v, u, rfl, upd_same, (bdI_kd kd).same (same_new hx hd), fun y => absurd y (by rw [nw]; decide), .inl ⟨nw, fun d hdn => ?_⟩⟩
  refine k d _ (fun c o e => ?_) upd_same
  have e2 := same_new (C := C) hx hd c o e
  rw [upd_ne (ne_of_none e2 hdn)]
  exact e2
theorem bad2 {t : Int} {v : V} (kd : BdI C H v) (k : Raise1 CI H v E) :
    ∀ x dx, H x = none → H dx = none → dx ≠ x → spInit C CI CZ [.ref x, .int t, v] (upd (upd H dx (.own x)) x (.ins C dx [])) (R x dx) E := by
  intro x dx hx hd ne
  have nw := bdI_no kd
  refine ⟨x, dx, .int t, v, rfl, upd_same, .int t, fun _ => (bdI_kd kd).same (same_new hx hd), .inr (.inl ⟨rfl, nw, fun d hdn => ?_⟩)⟩
  refine k d _ (fun c o e => ?_) upd_same
  have e2 := same_new (C := C) hx hd c o e
  rw [upd_ne (ne_of_none e2 hdn)]
  exact e2
theorem bad0 {t : Int} (k : ∀ d H', Same H H' → H' d = some (xd (.int t)) → E (.ref CZ) (some d) H') :
    ∀ x dx, H x = none → H dx = none → dx ≠ x → spInit C CI CZ [.ref x, .int t, .int 0] (upd (upd H dx (.own x)) x (.ins C dx [])) (R x dx) E := by
  intro x dx hx hd ne
  refine ⟨x, dx, .int t, .int 0, rfl, upd_same, .int t, fun _ => .int 0, .inr (.inr ⟨t, 0, rfl, rfl, .inl ⟨rfl, fun d hdn => ?_⟩⟩)⟩
  refine k d _ (fun c o e => ?_) upd_same
  have e2 := same_new (C := C) hx hd c o e
  rw [upd_ne (ne_of_none e2 hdn)]
  exact e2
end
section
variable {P : Program} {w : World} {K : PySem.W.Frag} {mg : Str → Option Value} {base : Heap} {C CI fCI CZ fCZ : Addr}

theorem ok_error {f : Addr} {fd : FuncData} (F : Fun K "_law_error" "_law_error" sErr f fd) (T : Txt K mg C CI fCI CZ fCZ) (Z : Tys K C) (M : Mak P w K mg base C CI CZ) (AR : Arith P w K mg base C CI CZ) (CP : Cmps P w K mg base C CI)
    (Badd : Bads K C "add") (Bsub : Bads K C "sub") (SU : Subs K C) (ZI : PySem.W.exmOne K (.ref CZ) (.ref CI) = some false) :
    FnOk P w K mg base (L2.CX P w) 8 f fd ["_law_one", "_law_other", "_law_way"] (spErr C CI CZ) := by
  obtain ⟨fN, fdN, ds, mk, GN, b3, d2, b2⟩ := M.ex
  obtain ⟨_, _, ada, adf, _, adG, adb⟩ := AR.add.ex
  obtain ⟨_, _, sua, suf, _, suG, sub⟩ := AR.sub.ex
  obtain ⟨_, _, mua, muf, _, muG, mub⟩ := AR.mul.ex
  obtain ⟨_, _, rmua, rmuf, _, rmuG, rmub⟩ := AR.rmul.ex
  obtain ⟨_, _, ova, ovf, ovk, ovG, ovb⟩ := AR.over.ex
  obtain ⟨_, _, lta, ltf, _, ltG, ltb⟩ := CP.lt.ex
  obtain ⟨_, _, lea, lef, _, leG, leb⟩ := CP.le.ex
  obtain ⟨_, _, gta, gtf, _, gtG, gtb⟩ := CP.gt.ex
  obtain ⟨_, _, gea, gef, _, geG, geb⟩ := CP.ge.ex
  have sc : FnScope ["_law_one", "_law_other", "_law_way", "_law_found", "e"] ["_law_one", "_law_other", "_law_way"] (defScope sErr) := ⟨rfl, rfl, rfl, by decide +kernel, rfl, by decide +kernel, by decide +kernel⟩
  refine F.okX sc (fun vs H Q E h => ?_) (fun cdv A outer s H vs Q E hr h => ?_)
  · obtain ⟨x, y, way, word, g, rfl, _⟩ := h
    rfl
  · obtain ⟨x, y, way, word, g, rfl, fin, k⟩ := h
    refine ⟨_, pss_cons (ps_try_all rfl rfl sc.nd (takes_of rfl rfl rfl rfl) (fun W pn xe tk _ => (pss_one (ps_if (pt_cmpR op_eq (pv 2) pe_int (nomark _))
          (pss_one (ps_expr (pe_make (E := EN 5 W) mk GN (hr.mono (by decide)) (by rfl) T.gC b3 .nil (pass_n rfl tk) (pa_cons (pv 0) (pa_cons (pv 1) pa_nil)))))
          (pss_one (ps_if (pt_cmpR op_eq (pv 2) pe_int (nomark _))
          (pss_one (ps_expr (pe_meth (E := EN 5 W) (pv 0) T.cl ⟨ova, ovf, ovk⟩ ovG (hr.mono (by decide)) ovb .nil (pass_n rfl tk) (pa_cons (pv 1) pa_nil))))
          (pss_one (ps_if (pt_cmpR op_eq (pv 2) pe_int (nomark _))
          (pss_one (ps_set (i := 3) sc.nd rfl (Or.inl rfl) (pe_op (op := .Add) (op_bad (C := C) (E := EN 5 W) (op := .Add) (nm := "add") rfl ⟨ada, AR.rAdd, adf, Z.sf⟩ Badd adG (hr.mono (by decide)) adb (pass_n rfl tk)) (pv 0) (pv 1))))
          (pss_one (ps_if (pt_cmpR op_eq (pv 2) pe_int (nomark _))
          (pss_one (ps_set (i := 3) sc.nd rfl (Or.inl rfl) (pe_op (op := .Mult) (mul_reflB (C := C) (E := EN 5 W) ⟨mua, AR.rMul, muf, Z.sf⟩ rmua rmuf SU rmuG (hr.mono (by decide)) rmub (pass_n rfl tk)) (pv 1) (pv 0))))
          (pss_one (ps_if (pt_cmpR op_eq (pv 2) pe_int (nomark _))
          (pss_one (ps_set (i := 3) sc.nd rfl (Or.inl rfl) (pe_cmpR (op := .Lt) (cmp_own (C := C) (E := EN 5 W) (R := RAny C) (fun _ _ => rfl) lta ltf ltG (hr.mono (by decide)) ltb (pass_n rfl tk) (looks_any Z)) (pv 0) (pv 1) (nomark _))))
          (pss_one (ps_if (pt_cmpR op_lt (pv 2) pe_int (nomark _))
          (pss_one (ps_set (i := 3) sc.nd rfl (Or.inl rfl) (pe_ifExp (pt_cmpR op_eq (pv 2) pe_int (nomark _)) (pe_cmpR (op := .LtE) (cmp_own (C := C) (E := EN 5 W) (R := RAny C) (fun _ _ => rfl) lea lef leG (hr.mono (by decide)) leb (pass_n rfl tk) (looks_any Z)) (pv 0) (pv 1) (nomark _)) (pe_cmpR (op := .Gt) (cmp_own (C := C) (E := EN 5 W) (R := RAny C) (fun _ _ => rfl) gta gtf gtG (hr.mono (by decide)) gtb (pass_n rfl tk) (looks_any Z)) (pv 0) (pv 1) (nomark _)))))
          (pss_one (ps_set (i := 3) sc.nd rfl (Or.inl rfl) (pe_ifExp (pt_cmpR op_eq (pv 2) pe_int (nomark _)) (pe_op (op := .Sub) (op_bad (C := C) (E := EN 5 W) (op := .Sub) (nm := "sub") rfl ⟨sua, AR.rSub, suf, Z.sf⟩ Bsub suG (hr.mono (by decide)) sub (pass_n rfl tk)) (pv 0) (pv 1)) (pe_cmpR (op := .GtE) (cmp_own (C := C) (E := EN 5 W) (R := RAny C) (fun _ _ => rfl) gea gef geG (hr.mono (by decide)) geb (pass_n rfl tk) (looks_any Z)) (pv 0) (pv 1) (nomark _))))))))))))))))))
        (Clauses.cons (i := 4) rfl rfl ⟨rfl, by decide, .inl T.eI.gC⟩ (fun a oe cls d pn hz hf => pss_one (ps_ret (pe_lst (pa_cons pe_str (pa_cons (pe_byGiv T.eI hz hf (pv 4)) pa_nil))))) (Clauses.cons (i := 4) rfl rfl ⟨rfl, by decide, .inl T.eZ.gC⟩ (fun a oe cls d pn hz hf => pss_one (ps_ret (pe_lst (pa_cons pe_str (pa_cons (pe_byGiv T.eZ hz hf (pv 4)) pa_nil))))) Clauses.nil)))
      (pss_one (ps_ret (pe_lst (pa_cons pe_str pa_nil)))), ?_⟩
    have two : 2 ≤ sizeLine := by decide
    rcases k with ⟨rfl, rfl, rfl, rfl, kd⟩ | ⟨rfl, rfl, rfl, rfl, kd⟩ | ⟨rfl, rfl, rfl, ⟨t, rfl⟩, rfl⟩ | ⟨rfl, rfl, rfl, p, t, b, b', rfl, ⟨dx, e⟩, nm, S⟩ | ⟨w1, w2, rfl, rfl, b4, p, t, b, rfl, ⟨dx, e⟩⟩
    · exact ⟨_, rfl, rfl, _, rfl, if_pos' (decide_eq_true rfl) ⟨_, rfl, _, rfl, bad1 kd (fun d H1 sm hd t0 ht => ⟨true, T.eI.te, fun _ a ha => ⟨_, set4 ht _, rfl, rfl, d, _, rfl, hd, two, fun l nl => fin l _ (sm.trans (same_upd nl)) upd_same⟩, fun z => nomatch z⟩)⟩⟩
    · exact ⟨_, rfl, rfl, _, rfl, if_pos' (decide_eq_true rfl) ⟨_, rfl, _, rfl, bad2 kd (fun d H1 sm hd t0 ht => ⟨true, T.eI.te, fun _ a ha => ⟨_, set4 ht _, rfl, rfl, d, _, rfl, hd, two, fun l nl => fin l _ (sm.trans (same_upd nl)) upd_same⟩, fun z => nomatch z⟩)⟩⟩
    · exact ⟨_, rfl, rfl, _, rfl, if_pos' (decide_eq_true rfl) ⟨_, rfl, _, rfl, bad0 (fun d H1 sm hd t0 ht => ⟨false, ZI, (fun z => nomatch z), fun _ => ⟨true, T.eZ.te, fun _ a ha => ⟨_, set4 ht _, rfl, rfl, d, _, rfl, hd, two, fun l nl => fin l _ (sm.trans (same_upd nl)) upd_same⟩, fun z => nomatch z⟩⟩)⟩⟩
    · exact ⟨_, rfl, rfl, _, rfl, if_neg' (dn (by decide)) ⟨_, rfl, rfl, _, rfl, if_pos' (decide_eq_true rfl) ⟨_, rfl, p, dx, _, rfl, e, (by rfl), _, rfl, p, _, t, b, rfl, ⟨dx, e⟩, .inl ⟨0, b', nm, S, .inl ⟨rfl, (fun d H1 sm hd t0 ht => ⟨false, ZI, (fun z => nomatch z), fun _ => ⟨true, T.eZ.te, fun _ a ha => ⟨_, set4 ht _, rfl, rfl, d, _, rfl, hd, two, fun l nl => fin l _ (sm.trans (same_upd nl)) upd_same⟩, fun z => nomatch z⟩⟩)⟩⟩⟩⟩⟩
    · have bd := b4.bd
      have ws : way = 1 ∨ way = 2 ∨ way = 3 ∨ way = 4 ∨ way = 5 ∨ way = 6 ∨ way = 7 ∨ way = 8 := by omega
      rcases ws with rfl | rfl | rfl | rfl | rfl | rfl | rfl | rfl
      · exact ⟨_, rfl, rfl, _, rfl, if_neg' (dn (by decide)) ⟨_, rfl, rfl, _, rfl, if_pos' (decide_eq_true rfl) ⟨_, rfl, p, dx, _, rfl, e, (by rfl), _, rfl, p, _, t, b, rfl, ⟨dx, e⟩, .inr ⟨bd, (fun d H1 sm hd t0 ht => ⟨true, T.eI.te, fun _ a ha => ⟨_, set4 ht _, rfl, rfl, d, _, rfl, hd, two, fun l nl => fin l _ (sm.trans (same_upd nl)) upd_same⟩, fun z => nomatch z⟩)⟩⟩⟩⟩
      · exact ⟨_, rfl, rfl, _, rfl, if_neg' (dn (by decide)) ⟨_, rfl, rfl, _, rfl, if_neg' (dn (by decide)) ⟨_, rfl, rfl, _, rfl, if_pos' (decide_eq_true rfl) ⟨_, rfl, _, rfl, p, dx, _, rfl, e, bd, p, _, t, b, rfl, ⟨dx, e⟩, .inr ⟨bd, (fun d H1 sm hd t0 ht => ⟨true, T.eI.te, fun _ a ha => ⟨_, set4 ht _, rfl, rfl, d, _, rfl, hd, two, fun l nl => fin l _ (sm.trans (same_upd nl)) upd_same⟩, fun z => nomatch z⟩)⟩⟩⟩⟩⟩
      · exact ⟨_, rfl, rfl, _, rfl, if_neg' (dn (by decide)) ⟨_, rfl, rfl, _, rfl, if_neg' (dn (by decide)) ⟨_, rfl, rfl, _, rfl, if_neg' (dn (by decide)) ⟨_, rfl, rfl, _, rfl, if_pos' (decide_eq_true rfl) ⟨_, rfl, _, rfl, p, dx, _, b4, rfl, e, p, _, t, b, rfl, ⟨dx, e⟩, .inr ⟨bd, (fun d H1 sm hd t0 ht => ⟨true, T.eI.te, fun _ a ha => ⟨_, set4 ht _, rfl, rfl, d, _, rfl, hd, two, fun l nl => fin l _ (sm.trans (same_upd nl)) upd_same⟩, fun z => nomatch z⟩)⟩⟩⟩⟩⟩⟩
      · exact ⟨_, rfl, rfl, _, rfl, if_neg' (dn (by decide)) ⟨_, rfl, rfl, _, rfl, if_neg' (dn (by decide)) ⟨_, rfl, rfl, _, rfl, if_neg' (dn (by decide)) ⟨_, rfl, rfl, _, rfl, if_neg' (dn (by decide)) ⟨_, rfl, rfl, _, rfl, if_pos' (decide_eq_true rfl) ⟨_, rfl, _, rfl, p, dx, _, rfl, e, .inr (.inr bd), p, _, t, b, rfl, ⟨dx, e⟩, .inr ⟨bd, (fun d H1 sm hd t0 ht => ⟨true, T.eI.te, fun _ a ha => ⟨_, set4 ht _, rfl, rfl, d, _, rfl, hd, two, fun l nl => fin l _ (sm.trans (same_upd nl)) upd_same⟩, fun z => nomatch z⟩)⟩⟩⟩⟩⟩⟩⟩
      · exact ⟨_, rfl, rfl, _, rfl, if_neg' (dn (by decide)) ⟨_, rfl, rfl, _, rfl, if_neg' (dn (by decide)) ⟨_, rfl, rfl, _, rfl, if_neg' (dn (by decide)) ⟨_, rfl, rfl, _, rfl, if_neg' (dn (by decide)) ⟨_, rfl, rfl, _, rfl, if_neg' (dn (by decide)) ⟨_, rfl, _, _, rfl, rfl, _, rfl, if_pos' (by decide) ⟨_, rfl, rfl, _, rfl, if_pos' (decide_eq_true rfl) ⟨_, rfl, _, rfl, p, dx, _, rfl, e, .inr (.inr bd), p, _, t, b, rfl, ⟨dx, e⟩, .inr ⟨bd, (fun d H1 sm hd t0 ht => ⟨true, T.eI.te, fun _ a ha => ⟨_, set4 ht _, rfl, rfl, d, _, rfl, hd, two, fun l nl => fin l _ (sm.trans (same_upd nl)) upd_same⟩, fun z => nomatch z⟩)⟩⟩⟩⟩⟩⟩⟩⟩⟩
      · exact ⟨_, rfl, rfl, _, rfl, if_neg' (dn (by decide)) ⟨_, rfl, rfl, _, rfl, if_neg' (dn (by decide)) ⟨_, rfl, rfl, _, rfl, if_neg' (dn (by decide)) ⟨_, rfl, rfl, _, rfl, if_neg' (dn (by decide)) ⟨_, rfl, rfl, _, rfl, if_neg' (dn (by decide)) ⟨_, rfl, _, _, rfl, rfl, _, rfl, if_pos' (by decide) ⟨_, rfl, rfl, _, rfl, if_neg' (dn (by decide)) ⟨_, rfl, _, rfl, p, dx, _, rfl, e, .inr (.inr bd), p, _, t, b, rfl, ⟨dx, e⟩, .inr ⟨bd, (fun d H1 sm hd t0 ht => ⟨true, T.eI.te, fun _ a ha => ⟨_, set4 ht _, rfl, rfl, d, _, rfl, hd, two, fun l nl => fin l _ (sm.trans (same_upd nl)) upd_same⟩, fun z => nomatch z⟩)⟩⟩⟩⟩⟩⟩⟩⟩⟩
      · exact ⟨_, rfl, rfl, _, rfl, if_neg' (dn (by decide)) ⟨_, rfl, rfl, _, rfl, if_neg' (dn (by decide)) ⟨_, rfl, rfl, _, rfl, if_neg' (dn (by decide)) ⟨_, rfl, rfl, _, rfl, if_neg' (dn (by decide)) ⟨_, rfl, rfl, _, rfl, if_neg' (dn (by decide)) ⟨_, rfl, _, _, rfl, rfl, _, rfl, if_neg' (by decide) ⟨_, rfl, rfl, _, rfl, if_pos' (decide_eq_true rfl) ⟨_, rfl, _, rfl, p, dx, _, rfl, e, bd, p, _, t, b, rfl, ⟨dx, e⟩, .inr ⟨bd, (fun d H1 sm hd t0 ht => ⟨true, T.eI.te, fun _ a ha => ⟨_, set4 ht _, rfl, rfl, d, _, rfl, hd, two, fun l nl => fin l _ (sm.trans (same_upd nl)) upd_same⟩, fun z => nomatch z⟩)⟩⟩⟩⟩⟩⟩⟩⟩⟩
      · exact ⟨_, rfl, rfl, _, rfl, if_neg' (dn (by decide)) ⟨_, rfl, rfl, _, rfl, if_neg' (dn (by decide)) ⟨_, rfl, rfl, _, rfl, if_neg' (dn (by decide)) ⟨_, rfl, rfl, _, rfl, if_neg' (dn (by decide)) ⟨_, rfl, rfl, _, rfl, if_neg' (dn (by decide)) ⟨_, rfl, _, _, rfl, rfl, _, rfl, if_neg' (by decide) ⟨_, rfl, rfl, _, rfl, if_neg' (dn (by decide)) ⟨_, rfl, _, rfl, p, dx, _, rfl, e, .inr (.inr bd), p, _, t, b, rfl, ⟨dx, e⟩, .inr ⟨bd, (fun d H1 sm hd t0 ht => ⟨true, T.eI.te, fun _ a ha => ⟨_, set4 ht _, rfl, rfl, d, _, rfl, hd, two, fun l nl => fin l _ (sm.trans (same_upd nl)) upd_same⟩, fun z => nomatch z⟩)⟩⟩⟩⟩⟩⟩⟩⟩⟩
end
end R1
end

-- K01o
section
set_option Elab.async false
set_option linter.all false
set_option maxRecDepth 100000
set_option exponentiation.threshold 6000
namespace R1
open PySem L2 OwnOps RatM OwnNe
abbrev sLaw : Stmt := top 21
/-- a new one is made, whatever is wished of it -/
theorem good_at {C CI CZ : Addr} {H : Hp} {x dx : Addr} {T : VK} {E : XK} {t b : Int} (hx : H x = none) (hd : H dx = none) (hb : b ≠ 0) (bs : Sm 5000 b) (k : ∀ H', Same H H' → Rat C H' x (nt t b) (nb t b) → T .non H') :
    spInit C CI CZ [.ref x, .int t, .int b] (upd (upd H dx (.own x)) x (.ins C dx [])) T E := by
  refine ⟨x, dx, .int t, .int b, rfl, upd_same, .int t, fun _ => .int b, .inr (.inr ⟨t, b, rfl, rfl, .inr ⟨hb, bs, ?_⟩⟩)⟩
  refine k _ (fun c o e => ?_) ⟨dx, upd_same⟩
  rw [upd_ne (ne_of_none e hx)]
  exact same_new hx hd c o e
section
variable {H : Hp}
/-- the cases in which _law_error tells an error -/
def ErrC (C : Addr) (H : Hp) (x y : V) (way : Int) (word : Str) (g : V) : Prop :=
  ((way = 0 ∧ word = "number" ∧ g = x ∧ y = .int 2 ∧ BdI C H x) ∨ (way = 0 ∧ word = "number" ∧ g = y ∧ x = .int 1 ∧ BdI C H y) ∨ (way = 0 ∧ word = "zero" ∧ g = x ∧ (∃ t, x = .int t) ∧ y = .int 0) ∨
    (way = 1 ∧ word = "zero" ∧ g = y ∧ ∃ p t b b', x = .ref p ∧ Rat C H p t b ∧ Num C H y 0 b' ∧ Small t b 0 b') ∨ (1 ≤ way ∧ way ≤ 8 ∧ word = "number" ∧ g = y ∧ Bd4 H y ∧ ∃ p t b, x = .ref p ∧ Rat C H p t b))
abbrev tChk (C CI CZ : Addr) (D : Eqv) (args : TA) (word : Str) (tg : TE) : TT := tTest (tOp (rNeG D) (tCall (spErr C CI CZ) [] E0 args) (tLst (tCons (tC (.str word)) (tCons tg tNil))))
theorem flat_str (z : Str) : DFlat (.str z) (.str z) H := ⟨rfl, rfl, by simp [eqV]⟩
theorem err_ok {C CI CZ : Addr} {D : Eqv} {args : TA} {tg : TE} {σ : L2.St} {H : Hp} {Q : Bool → Hp → Prop} {x y : V} {way : Int} {word : Str} {g : V} (hD : ∀ z H', D (.str z) (.str z) H') (ha : ∀ Q' : List V → Hp → Prop, Q' [x, y, .int way] H → args σ H Q')
    (hg : ∀ (H' : Hp) (Q' : VK), Same H H' → Q' g H' → tg σ H' Q') (c : ErrC C H x y way word g) (gr : ∀ H', Same H H' → D g g H') (k : ∀ H', Same H H' → Q false H') : tChk C CI CZ D args word tg σ H Q := by
  refine ha _ ⟨x, y, way, word, g, rfl, fun l H1 s1 hl => ?_, c⟩
  refine hg _ _ s1 ⟨(by show 2 ≤ sizeLine; decide), fun l2 n2 => ?_⟩
  have s2 := same_upd (o := .lst [.str word, g]) n2
  refine ⟨⟨l, l2, _, _, rfl, rfl, s2 _ _ hl, upd_same, Prs.cons (hD word _) (Prs.cons (gr _ (s1.trans s2)) Prs.nil)⟩, fun H2 e2 => ⟨_, rfl, ?_⟩⟩
  exact k H2 ((s1.trans s2).trans e2)
theorem chk_one {C CI CZ : Addr} {D : Eqv} {args : TA} {tg : TE} {σ : L2.St} {H : Hp} {u : TS} {Dn : _} {x y : V} {way : Int} {word : Str} {g : V} (hD : ∀ z H', D (.str z) (.str z) H') (ha : ∀ Q' : List V → Hp → Prop, Q' [x, y, .int way] H → args σ H Q')
    (hg : ∀ (H' : Hp) (Q' : VK), Same H H' → Q' g H' → tg σ H' Q') (c : ErrC C H x y way word g) (gr : ∀ H', Same H H' → D g g H') (k : ∀ H', Same H H' → Dn.nx σ H') : tIfS (tChk C CI CZ D args word tg) u tNext Dn σ H :=
  err_ok hD ha hg c gr fun H' s' => iteF (k H' s')
theorem chk_go {C CI CZ : Addr} {D : Eqv} {args : TA} {tg : TE} {σ : L2.St} {H : Hp} {u rest : TS} {Dn : _} {x y : V} {way : Int} {word : Str} {g : V} (hD : ∀ z H', D (.str z) (.str z) H') (ha : ∀ Q' : List V → Hp → Prop, Q' [x, y, .int way] H → args σ H Q')
    (hg : ∀ (H' : Hp) (Q' : VK), Same H H' → Q' g H' → tg σ H' Q') (c : ErrC C H x y way word g) (gr : ∀ H', Same H H' → D g g H') (k : ∀ H', Same H H' → rest Dn σ H') : tSeq (tIfS (tChk C CI CZ D args word tg) u tNext) rest Dn σ H :=
  err_ok hD ha hg c gr fun H' s' => iteF (k H' s')
theorem chk2 {C CI CZ : Addr} {D : Eqv} {args1 args2 : TA} {tg1 tg2 : TE} {σ : L2.St} {H : Hp} {u rest : TS} {Dn : _} {x1 y1 x2 y2 : V} {way1 way2 : Int} {w1 w2 : Str} {g1 g2 : V} (hD : ∀ z H', D (.str z) (.str z) H')
    (ha : ∀ Q' : List V → Hp → Prop, Q' [x1, y1, .int way1] H → args1 σ H Q') (hg : ∀ (H' : Hp) (Q' : VK), Same H H' → Q' g1 H' → tg1 σ H' Q') (c : ErrC C H x1 y1 way1 w1 g1) (gr : ∀ H', Same H H' → D g1 g1 H')
    (ha2 : ∀ (H1 : Hp) (Q' : List V → Hp → Prop), Q' [x2, y2, .int way2] H1 → args2 σ H1 Q') (hg2 : ∀ (H1 H' : Hp) (Q' : VK), Same H1 H' → Q' g2 H' → tg2 σ H' Q') (c2 : ∀ H1, Same H H1 → ErrC C H1 x2 y2 way2 w2 g2) (gr2 : ∀ H', Same H H' → D g2 g2 H')
    (k : ∀ H', Same H H' → rest Dn σ H') : tSeq (tIfS (tOr (tChk C CI CZ D args1 w1 tg1) (tChk C CI CZ D args2 w2 tg2)) u tNext) rest Dn σ H :=
  err_ok hD ha hg c gr fun H1 s1 => iteF (err_ok hD (ha2 H1) (hg2 H1) (c2 H1 s1) (fun H' s' => gr2 H' (s1.trans s')) fun H2 s2 => iteF (k H2 (s1.trans s2)))
end
theorem two_nums {K : PySem.W.Frag} {σ : L2.St} {H : Hp} {rest : TS} {Dn : _} {E1 E2 : XK} {i j : Nat} {p : Addr} {x y d e : Int} (h4 : σ[4]? = some (some (.ref p))) (hp : H p = some (.lst [.int x, .int y])) (hd : d ≠ 0) (he : e ≠ 0) (sd : Sm 200 d) (se : Sm 200 e)
    (k : ∀ (b1 b2 : Int) (H' : Hp), b1 ≠ 0 → b2 ≠ 0 → Sm 200 b1 → Sm 200 b2 → (∀ c o, c ≠ p → H c = some o → H' c = some o) → rest Dn ((σ.set i (some (.int b1))).set j (some (.int b2))) H') :
    tSeq (tPar i j (tCons (tOrT K (tCall spNumber [] E1 (tCons (tVar 4) tNil)) (tC (.int d))) (tCons (tOrT K (tCall spNumber [] E2 (tCons (tVar 4) tNil)) (tC (.int e))) tNil))) rest Dn σ H := by
  have one : ∀ {H : Hp} {x y d : Int} {E1 : XK} {Q : VK}, H p = some (.lst [.int x, .int y]) → d ≠ 0 → Sm 200 d → (∀ b u v, b ≠ 0 → Sm 200 b → Q (.int b) (upd H p (.lst [.int u, .int v]))) →
      tOrT K (tCall spNumber [] E1 (tCons (tVar 4) tNil)) (tC (.int d)) σ H Q := fun {H x y d E1 Q} hp hd sd k => by
    refine ⟨_, h4, p, x, y, rfl, hp, fun n u v b => ⟨_, rfl, ?_⟩⟩
    by_cases z : n = 0
    · exact if_neg' (by rw [z]; rfl) (k d u v hd sd)
    · exact if_pos' (by simp [z]) (k n u v z b)
  show tOrT K (tCall spNumber [] E1 (tCons (tVar 4) tNil)) (tC (.int d)) σ H (fun z1 H1 => tOrT K (tCall spNumber [] E2 (tCons (tVar 4) tNil)) (tC (.int e)) σ H1 (fun z2 H2 => ∃ v w, [z1, z2] = [v, w] ∧ rest Dn ((σ.set i (some v)).set j (some w)) H2))
  refine one hp hd sd fun b1 u1 v1 n1 s1 => ?_
  refine one upd_same he se fun b2 u2 v2 n2 s2 => ?_
  exact ⟨_, _, rfl, k b1 b2 _ n1 n2 s1 s2 fun c o nc h => by rw [upd_ne nc, upd_ne nc]; exact h⟩
theorem nx_go {E : Ends} {σ : L2.St} {H : Hp} (h : E.nx σ H) : tNext E σ H := h
theorem yes_go {σ : L2.St} {H : Hp} {Q : Bool → Hp → Prop} (h : Q true H) : tYes σ H Q := h
abbrev DA : Eqv := fun x y H => DFlat x y H ∨ DSame x y H
theorem mon_DA : Mon DA := mon_flat.or mon_same
theorem eqG_DA {X : Cx} : EqG X 0 DA := eqG_flat.or eqG_same
/-- two ratios of the same top and bottom -/
def RRat (C : Addr) (a b : Addr) (H : Hp) : Prop := ∃ t d, Rat C H a t d ∧ Rat C H b t d
abbrev DR (C : Addr) : Eqv := fun x y H => DFlat x y H ∨ DIns C (RRat C) x y H
theorem mon_DR {C : Addr} : Mon (DR C) := mon_flat.or (mon_ins fun a b H H' e ⟨t, d, h1, h2⟩ => ⟨t, d, h1.same e, h2.same e⟩)
theorem eqG_DR {X : Cx} {C f : Addr} {fd : FuncData} (hs : PySem.W.findIn X.K (.ref C) "__eq__" = some (some (.ref f))) (hf : PySem.W.isFn X.K (.ref f) = true)
    (F : FnOk X.prog X.w X.K X.mg X.base (L2.CX X.prog X.w) 2 f fd ["self", "other"] (R1.spEq C false)) (hb : L2.Binds X.K fd ["self", "other"] []) : EqG X 2 (DR C) := by
  have F' : FnOk X.prog X.w X.K X.mg X.base (L2.CX X.prog X.w) 2 f fd ["self", "other"] (L2.spEq (RRat C)) := F.imp fun vs H Q E ⟨a, b, e, ⟨t, d, r1, r2⟩, k⟩ =>
    ⟨a, .ref b, t, d, e, r1, .inl ⟨b, t, d, rfl, r2, by
      have q := k H Ext.rfl'
      rw [decide_eq_true (rfl : t = t), decide_eq_true (rfl : d = d)]
      exact q⟩⟩
  exact (eqG_flat.mono (by decide)).or (eqG_ins F' hs hf hb (E := E0) passL)
section
variable {P : Program} {w : World} {K : PySem.W.Frag} {mg : Str → Option Value} {base : Heap} {C CI fCI CZ fCZ : Addr}

abbrev NL : List Str := ["_law_script", "_law_half", "_law_value", "_law_k", "_law_draws_here", "_law_a", "_law_c", "_law_n", "_law_b", "_law_d", "_law_way"]
def spLaw (K : PySem.W.Frag) : Sp := fun vs H Q _ => ∃ (a : Addr) (ns : List Int), vs = [.ref a] ∧ SqL K H a (ns.map V.int) ∧ ns.length ≤ 63 ∧ ∀ H', Q (.bl true) H'
theorem ok_law {f : Addr} {fd : FuncData} (F : Fun K "law" "law" sLaw f fd) (T : Txt K mg C CI fCI CZ fCZ) (N : Nms mg) (Z : Tys K C) (M : Mak P w K mg base C CI CZ) (CP : Cmps P w K mg base C CI)
    (GE : Glb P w K mg base "_law_error" 8 ["_law_one", "_law_other", "_law_way"] (spErr C CI CZ)) (GD : Glb P w K mg base "_law_draws" 1 ["_law_script", "_law_k"] (spDraws K)) (GNu : Glb P w K mg base "_law_number" 2 ["_law_draws_here"] spNumber)
    (GP : Glb P w K mg base "_law_pair_right" 8 ["_law_a", "_law_b", "_law_c", "_law_d"] spPair) (GW : Glb P w K mg base "_law_whole_right" 8 ["_law_a", "_law_b", "_law_n"] spWhR) (GI : Glb P w K mg base "_law_is" 4 ["_law_ratio", "_law_top", "_law_bottom"] (spIs C)) :
    FnOk P w K mg base (L2.CX P w) 9 f fd ["_law_script"] (spLaw K) := by
  obtain ⟨fN, fdN, ds, mk, GN, b3, d2, b2⟩ := M.ex
  obtain ⟨_, _, mE, kE, GE, bE⟩ := GE.ex
  obtain ⟨_, _, mD, kD, GD, bD⟩ := GD.ex
  obtain ⟨_, _, mNu, kNu, GNu, bNu⟩ := GNu.ex
  obtain ⟨_, _, mP, kP, GP, bP⟩ := GP.ex
  obtain ⟨_, _, mW, kW, GW, bW⟩ := GW.ex
  obtain ⟨_, _, mI, kI, GI, bI⟩ := GI.ex
  obtain ⟨_, _, eqa, eqf, _, eqG, eqb⟩ := CP.eq.ex
  obtain ⟨_, _, nea, nef, _, neG, neb⟩ := CP.ne.ex
  have sc : FnScope NL ["_law_script"] (defScope sLaw) := ⟨rfl, rfl, rfl, by decide +kernel, rfl, by decide +kernel, by decide +kernel⟩
  refine F.okX sc (fun vs H Q E h => ?_) (fun cdv A outer s H vs Q E hr h => ?_)
  · obtain ⟨a, ns, rfl, _⟩ := h
    rfl
  · obtain ⟨a, ns, rfl, hS, hlen, fin⟩ := h
    refine ⟨_, (pss_cons (ps_set (i := 1) sc.nd rfl (Or.inr rfl) (pe_make mk GN (hr.mono (by decide)) (by rfl) T.gC b3 .nil passL (pa_cons pe_int (pa_cons pe_int pa_nil))))
      (pss_cons (ps_for passOwn rfl (pi_list (pe_lst (pa_cons pe_non (pa_cons pe_bl (pa_cons pe_str (pa_cons (pe_lst (pa_cons pe_int pa_nil)) (pa_cons (pe_tup (pa_cons pe_int (pa_cons pe_int pa_nil))) (pa_cons (pv 1) pa_nil)))))))) (pg_name (i := 2) sc.nd rfl (Or.inr rfl)) (pss_cons (ps_if (pt_cmpR (op_neG (n := 0) mon_DA eqG_DA (hr.mono (by decide))) (pe_call GE hr (by rfl) mE kE bE .nil passL (pa_cons (pv 2) (pa_cons pe_int (pa_cons pe_int pa_nil)))) (pe_lst (pa_cons pe_str (pa_cons (pv 2) pa_nil))) (nomark _))
          (pss_one (ps_ret pe_bl)) pss_nil)
      (pss_one (ps_if (pt_cmpR (op_neG (n := 0) mon_DA eqG_DA (hr.mono (by decide))) (pe_call GE hr (by rfl) mE kE bE .nil passL (pa_cons pe_int (pa_cons (pv 2) (pa_cons pe_int pa_nil)))) (pe_lst (pa_cons pe_str (pa_cons (pv 2) pa_nil))) (nomark _))
          (pss_one (ps_ret pe_bl)) pss_nil))))
      (pss_cons (ps_for passOwn rfl (pi_list (pe_lst (pa_cons pe_non (pa_cons pe_bl (pa_cons pe_str (pa_cons (pe_lst (pa_cons pe_int pa_nil)) pa_nil)))))) (pg_name (i := 2) sc.nd rfl (Or.inr rfl)) (pss_cons (ps_if (pt_cmpR (op_neG (n := 1) (mon_list mon_DA) (eqG_list mon_DA eqG_DA) (hr.mono (by decide))) (pe_lc (own := [("_law_way", 10)]) (g := gName 10) (tt := tYes) rfl sc.nd (pi_range2 rfl N.range (pa_cons pe_int (pa_cons pe_int pa_nil))) (blkOk_by (N := NL) (sc := defScope sLaw) (by decide +kernel)) (fun _ _ _ _ _ => pg_name (i := 10) sc.nd rfl (Or.inl rfl)) (fun _ _ _ _ _ => pts_nil) (fun _ _ _ _ _ => (pe_call GE hr (by rfl) mE kE bE .nil passL (pa_cons (pv 1) (pa_cons (pv 2) (pa_cons (pv 10) pa_nil)))))) (pe_op op_rep (pe_lst (pa_cons (pe_lst (pa_cons pe_str (pa_cons (pv 2) pa_nil))) pa_nil)) pe_int) (nomark _))
          (pss_one (ps_ret pe_bl)) pss_nil)
      (pss_one (ps_if (pt_cmpR (op := .Eq) (cmp_own (C := C) (E := E0) (R := RAny C) (fun _ _ => rfl) eqa eqf eqG (hr.mono (by decide)) eqb passL (looks_any Z)) (pv 1) (pv 2) (nomark _))
          (pss_one (ps_ret pe_bl)) pss_nil))))
      (pss_cons (ps_if (PW.pt (pw_or (pt_cmpR (op := .Eq) (cmp_own (C := C) (E := E0) (R := RAny C) (fun _ _ => rfl) eqa eqf eqG (hr.mono (by decide)) eqb passL (looks_any Z)) (pe_make mk GN (hr.mono (by decide)) (by rfl) T.gC b2 d2 passL (pa_cons pe_int pa_nil)) pe_bl (nomark _)) (pw_or1 (pt_cmpR (op := .Eq) (cmp_own (C := C) (E := E0) (R := RAny C) (fun _ _ => rfl) eqa eqf eqG (hr.mono (by decide)) eqb passL (looks_any Z)) (pe_make mk GN (hr.mono (by decide)) (by rfl) T.gC b2 d2 passL (pa_cons pe_int pa_nil)) pe_bl (nomark _)))))
          (pss_one (ps_ret pe_bl)) pss_nil)
      (pss_cons (ps_if (PW.pt (pw_or (pt_not (pt_cmpR (op := .NotEq) (cmp_own (C := C) (E := E0) (R := RAny C) (fun _ _ => rfl) nea nef neG (hr.mono (by decide)) neb passL (looks_any Z)) (pe_make mk GN (hr.mono (by decide)) (by rfl) T.gC b2 d2 passL (pa_cons pe_int pa_nil)) pe_bl (nomark _))) (pw_or (pt_cmpR (op := .NotEq) (cmp_own (C := C) (E := E0) (R := RAny C) (fun _ _ => rfl) nea nef neG (hr.mono (by decide)) neb passL (looks_any Z)) (pe_make mk GN (hr.mono (by decide)) (by rfl) T.gC b2 d2 passL (pa_cons pe_int pa_nil)) pe_int (nomark _)) (pw_or1 (pt_cmpR (op := .NotEq) (cmp_own (C := C) (E := E0) (R := RAny C) (fun _ _ => rfl) nea nef neG (hr.mono (by decide)) neb passL (looks_any Z)) (pe_make mk GN (hr.mono (by decide)) (by rfl) T.gC b2 d2 passL (pa_cons pe_int pa_nil)) pe_int (nomark _))))))
          (pss_one (ps_ret pe_bl)) pss_nil)
      (pss_cons (ps_if (PW.pt (pw_or (pt_cmpR (op_neG (n := 0) mon_DA eqG_DA (hr.mono (by decide))) (pe_call GE hr (by rfl) mE kE bE .nil passL (pa_cons pe_int (pa_cons pe_int (pa_cons pe_int pa_nil)))) (pe_lst (pa_cons pe_str (pa_cons pe_int pa_nil))) (nomark _)) (pw_or1 (pt_cmpR (op_neG (n := 0) mon_DA eqG_DA (hr.mono (by decide))) (pe_call GE hr (by rfl) mE kE bE .nil passL (pa_cons (pv 1) (pa_cons pe_int (pa_cons pe_int pa_nil)))) (pe_lst (pa_cons pe_str (pa_cons pe_int pa_nil))) (nomark _)))))
          (pss_one (ps_ret pe_bl)) pss_nil)
      (pss_cons (ps_if (pt_cmpR (op_neG (n := 2) (mon_DR (C := C)) (eqG_DR eqa eqf eqG eqb) (hr.mono (by decide))) (pe_call GE hr (by rfl) mE kE bE .nil passL (pa_cons (pv 1) (pa_cons (pe_make mk GN (hr.mono (by decide)) (by rfl) T.gC b2 d2 passL (pa_cons pe_int pa_nil)) (pa_cons pe_int pa_nil)))) (pe_lst (pa_cons pe_str (pa_cons (pe_make mk GN (hr.mono (by decide)) (by rfl) T.gC b2 d2 passL (pa_cons pe_int pa_nil)) pa_nil))) (nomark _))
          (pss_one (ps_ret pe_bl)) pss_nil)
      (pss_cons (ps_for passOwn rfl (pi_range1 rfl N.range (pa_cons (pe_callB (call_max2 rfl) (by rfl) N.max (by decide +kernel) (pa_cons pe_int (pa_cons (pe_callB (call_min2 rfl) (by rfl) N.min (by decide +kernel) (pa_cons pe_int (pa_cons (pe_callB call_len_seq (by rfl) N.len PySem.boot_len (pa_cons (pv 0) pa_nil)) pa_nil))) pa_nil))) pa_nil)) (pg_name (i := 3) sc.nd rfl (Or.inl rfl)) (pss_cons (ps_set (i := 4) sc.nd rfl (Or.inl rfl) (pe_call GD (hr.mono (by decide)) (by rfl) mD kD bD .nil passL (pa_cons (pv 0) (pa_cons (pv 3) pa_nil))))
      (pss_cons (ps_par (i := 5) (j := 6) rfl sc.nd rfl rfl (by decide) rfl rfl (pa_cons (pe_call GNu (hr.mono (by decide)) (by rfl) mNu kNu bNu .nil passL (pa_cons (pv 4) pa_nil)) (pa_cons (pe_call GNu (hr.mono (by decide)) (by rfl) mNu kNu bNu .nil passL (pa_cons (pv 4) pa_nil)) pa_nil)) (by rfl))
      (pss_cons (ps_set (i := 7) sc.nd rfl (Or.inl rfl) (pe_call GNu (hr.mono (by decide)) (by rfl) mNu kNu bNu .nil passL (pa_cons (pv 4) pa_nil)))
      (pss_cons (ps_par (i := 8) (j := 9) rfl sc.nd rfl rfl (by decide) rfl rfl (pa_cons (pe_orT (pe_call GNu (hr.mono (by decide)) (by rfl) mNu kNu bNu .nil passL (pa_cons (pv 4) pa_nil)) (pe_one pe_int)) (pa_cons (pe_orT (pe_call GNu (hr.mono (by decide)) (by rfl) mNu kNu bNu .nil passL (pa_cons (pv 4) pa_nil)) (pe_one pe_int)) pa_nil)) (by rfl))
      (pss_cons (ps_if (pt_not (pt_val (pe_call GP hr (by rfl) mP kP bP .nil passL (pa_cons (pv 5) (pa_cons (pv 8) (pa_cons (pv 6) (pa_cons (pv 9) pa_nil)))))))
          (pss_one (ps_ret pe_bl)) pss_nil)
      (pss_one (ps_if (PW.pt (pw_or (pt_not (pt_val (pe_call GW hr (by rfl) mW kW bW .nil passL (pa_cons (pv 5) (pa_cons (pv 8) (pa_cons (pv 7) pa_nil)))))) (pw_or1 (pt_not (pt_val (pe_call GI (hr.mono (by decide)) (by rfl) mI kI bI .nil passL (pa_cons (pe_make mk GN (hr.mono (by decide)) (by rfl) T.gC b2 d2 passL (pa_cons (pv 7) pa_nil)) (pa_cons (pv 7) (pa_cons pe_int pa_nil)))))))))
          (pss_one (ps_ret pe_bl)) pss_nil))))))))
      (pss_one (ps_ret pe_bl)))))))))), ?_⟩
    have one : 1 ≤ sizeLine := by decide
    have two : 2 ≤ sizeLine := by decide
    have six : 6 ≤ sizeLine := by decide
    have four : 4 ≤ sizeLine := by decide
    have s200 : ∀ z : Int, z.natAbs < 100 → Sm 200 z := fun z h => Nat.lt_of_lt_of_le h (by decide)
    -- half
    intro p1 dx1 np1 nd1 ne1
    refine good_at np1 nd1 (by decide) (show (4 : Int).natAbs < 2 ^ 5000 by decide +kernel) fun H1 s1 r1 => ⟨rfl, ?_⟩
    -- the first loop
    refine ⟨one, fun l1 n1 => ⟨two, fun t1 nt1 => ⟨_, rfl, six, fun L nL => ⟨L, rfl, ⟨_, SqL.of upd_same⟩, ?_⟩⟩⟩⟩
    have sa := ((same_upd (o := .lst [V.int 1]) n1).trans (same_upd (o := .tup [V.int 1, V.int 2]) nt1)).trans (same_upd (o := .lst [V.non, V.bl true, V.str "1", V.ref l1, V.ref t1, V.ref p1]) nL)
    have el := (same_upd (o := .lst [V.non, V.bl true, V.str "1", V.ref l1, V.ref t1, V.ref p1]) nL) _ _ ((same_upd (o := .tup [V.int 1, V.int 2]) nt1) _ _ (upd_same (H := H1) (a := l1) (o := .lst [V.int 1])))
    have et := (same_upd (o := .lst [V.non, V.bl true, V.str "1", V.ref l1, V.ref t1, V.ref p1]) nL) _ _ (upd_same (H := upd H1 l1 (.lst [V.int 1])) (a := t1) (o := .tup [V.int 1, V.int 2]))
    have eL : (upd (upd (upd H1 l1 (.lst [V.int 1])) t1 (.tup [V.int 1, V.int 2])) L (.lst [V.non, V.bl true, V.str "1", V.ref l1, V.ref t1, V.ref p1])) L = some (.lst [V.non, V.bl true, V.str "1", V.ref l1, V.ref t1, V.ref p1]) := upd_same
    generalize (upd (upd (upd H1 l1 (.lst [V.int 1])) t1 (.tup [V.int 1, V.int 2])) L (.lst [V.non, V.bl true, V.str "1", V.ref l1, V.ref t1, V.ref p1])) = H2 at sa el et eL ⊢
    have r2 := r1.same sa
    refine for_list (K := K) (a := L) (xs := [V.non, V.bl true, V.str "1", V.ref l1, V.ref t1, V.ref p1]) (fun i σ H' => (∃ v, σ = [some (.ref a), some (.ref p1), v, none, none, none, none, none, none, none, none]) ∧ Same H2 H') ⟨⟨none, rfl⟩, Same.refl _⟩ (fun i σ H' _ ⟨_, sm⟩ => SqL.of (sm _ _ eL)) ?_ ?_
    · rintro i y σ H' hi ⟨⟨v, rfl⟩, sm⟩
      have my : (BdI C H' y ∧ ∀ H'', DA y y H'') := by
        have mem := List.mem_of_getElem? hi
        simp only [List.mem_cons, List.not_mem_nil, or_false] at mem
        rcases mem with rfl | rfl | rfl | rfl | rfl | rfl
        · exact ⟨.inl .non, fun _ => .inl ⟨rfl, rfl, rfl⟩⟩
        · exact ⟨.inl (.bl _), fun _ => .inl ⟨rfl, rfl, rfl⟩⟩
        · exact ⟨.inl (.str _), fun _ => .inl (flat_str _)⟩
        · exact ⟨.inl (.lst (sm _ _ el)), fun _ => .inr ⟨rfl, _, rfl⟩⟩
        · exact ⟨.inl (.tup (sm _ _ et)), fun _ => .inr ⟨rfl, _, rfl⟩⟩
        · obtain ⟨dz, hz⟩ := r2
          exact ⟨.inr ⟨_, _, _, rfl, sm _ _ hz⟩, fun _ => .inr ⟨rfl, _, rfl⟩⟩
      obtain ⟨by1, dy⟩ := my
      refine chk_go (x := y) (y := .int 2) (way := 0) (g := y) (fun z H' => .inl (flat_str z)) (fun _ q => ⟨_, rfl, q⟩) (fun _ _ _ q => ⟨_, rfl, q⟩) (.inl ⟨rfl, rfl, rfl, rfl, by1⟩) (fun H'' _ => dy H'') fun H3 s3 => ?_
      have by2 : BdI C H3 y := by
        rcases by1 with h | ⟨q, d, fs, e, h⟩
        · exact .inl (h.same s3)
        · exact .inr ⟨q, d, fs, e, s3 _ _ h⟩
      exact chk_one (x := .int 1) (y := y) (way := 0) (g := y) (fun z H' => .inl (flat_str z)) (fun _ q => ⟨_, rfl, q⟩) (fun _ _ _ q => ⟨_, rfl, q⟩) (.inr (.inl ⟨rfl, rfl, rfl, rfl, by2⟩)) (fun H'' _ => dy H'') fun H4 s4 => ⟨⟨_, rfl⟩, (sm.trans s3).trans s4⟩
    · rintro σ H3 ⟨⟨v, rfl⟩, s3⟩
      have r3 := r2.same s3
      have s13 := (s1.trans sa).trans s3
      clear sa s3 r2 el et eL nL nt1 n1 r1 s1
      clear l1 t1 L H2 H1
      -- the second loop
      refine ⟨one, fun l1 n1 => ⟨four, fun L nL => ⟨L, rfl, ⟨_, SqL.of upd_same⟩, ?_⟩⟩⟩
      have sa := (same_upd (o := .lst [V.int 1]) n1).trans (same_upd (o := .lst [V.non, V.bl true, V.str "1", V.ref l1]) nL)
      have el := (same_upd (o := .lst [V.non, V.bl true, V.str "1", V.ref l1]) nL) _ _ (upd_same (H := H3) (a := l1) (o := .lst [V.int 1]))
      have eL : (upd (upd H3 l1 (.lst [V.int 1])) L (.lst [V.non, V.bl true, V.str "1", V.ref l1])) L = some (.lst [V.non, V.bl true, V.str "1", V.ref l1]) := upd_same
      generalize (upd (upd H3 l1 (.lst [V.int 1])) L (.lst [V.non, V.bl true, V.str "1", V.ref l1])) = H2 at sa el eL ⊢
      have r2 := r3.same sa
      refine for_list (K := K) (a := L) (xs := [V.non, V.bl true, V.str "1", V.ref l1]) (fun i σ H' => (∃ v, σ = [some (.ref a), some (.ref p1), v, none, none, none, none, none, none, none, none]) ∧ Same H2 H') ⟨⟨_, rfl⟩, Same.refl _⟩ (fun i σ H' _ ⟨_, sm⟩ => SqL.of (sm _ _ eL)) ?_ ?_
      · rintro i y σ H' hi ⟨⟨v, rfl⟩, sm⟩
        have my : ((∀ H'', Same H' H'' → Bd4 H'' y) ∧ ∀ H'', DA y y H'') := by
          have mem := List.mem_of_getElem? hi
          simp only [List.mem_cons, List.not_mem_nil, or_false] at mem
          rcases mem with rfl | rfl | rfl | rfl
          · exact ⟨fun _ _ => .non, fun _ => .inl ⟨rfl, rfl, rfl⟩⟩
          · exact ⟨fun _ _ => .bl _, fun _ => .inl ⟨rfl, rfl, rfl⟩⟩
          · exact ⟨fun _ _ => .str _, fun _ => .inl (flat_str _)⟩
          · exact ⟨fun H'' s'' => .lst (s'' _ _ (sm _ _ el)), fun _ => .inr ⟨rfl, _, rfl⟩⟩
        obtain ⟨by4, dy⟩ := my
        have rh := r2.same sm
        refine ⟨1, 9, rfl, ⟨by decide, by decide, by decide, by decide⟩, fun Dl nD => ?_⟩
        refine lc_range (lo := 1) (n := 8) (fun i H'' => Same H' H'' ∧ ∃ acc, H'' Dl = some (.lst acc) ∧ acc.length = i ∧ ∀ z ∈ acc, ∃ l, z = .ref l ∧ H'' l = some (.lst [.str "number", y]) ∧ l ≠ Dl)
          ⟨same_upd nD, [], upd_same, rfl, fun z hz => absurd hz (List.not_mem_nil)⟩ (fun i H4 hi4 ⟨s4, acc, hD, hn, hall⟩ => ⟨rfl, yes_go ?_⟩) (fun H4 ⟨s4, acc, hD, hn, hall⟩ => ?_)
        · refine iteT ?_
          refine ⟨_, rfl, _, rfl, _, rfl, .ref p1, y, 1 + (i : Int), "number", y, rfl, fun l H5 s5 hl => ⟨acc, s5 _ _ hD, ?_, ?_⟩, .inr (.inr (.inr (.inr ⟨by omega, by omega, rfl, rfl, by4 _ s4, p1, _, _, rfl, rh.same s4⟩)))⟩
          · rw [hn]
            have := sizeLine_eq
            omega
          · have nl : l ≠ Dl := fun h => by
              subst h
              have e := (s5 _ _ hD).symm.trans hl
              have e2 : acc = [.str "number", y] := by injection e with e; injection e
              obtain ⟨_, e3, _⟩ := hall (.str "number") (by rw [e2]; exact List.mem_cons_self)
              cases e3
            refine ⟨fun c o e => ?_, acc ++ [V.ref l], upd_same, by rw [List.length_append, hn]; rfl, fun z hz => ?_⟩
            · rw [upd_ne (ne_of_none e nD)]
              exact s5 _ _ (s4 _ _ e)
            · rcases List.mem_append.mp hz with hz | hz
              · obtain ⟨l', e1, e2, e3⟩ := hall z hz
                exact ⟨l', e1, (upd_ne e3).trans (s5 _ _ e2), e3⟩
              · rw [List.mem_singleton] at hz
                exact ⟨l, hz, (upd_ne nl).trans hl, nl⟩
        · refine ⟨_, rfl, two, fun r nr => ⟨one, fun o no => ⟨o, 8, [.ref r], rfl, rfl, upd_same, by decide, by decide, (by show 1 * 8 ≤ sizeLine; decide), fun q nq => ?_⟩⟩⟩
          have z1 := same_upd (o := .lst [V.str "number", y]) nr
          have z2 := (same_upd (o := .lst [V.ref r]) no).trans (same_upd (o := .lst (List.replicate (8 : Int).toNat [V.ref r]).flatten) nq)
          refine ⟨⟨Dl, q, acc, _, rfl, rfl, z2 _ _ (z1 _ _ hD), upd_same, ⟨hn, fun j x z h1 h2 => ?_⟩⟩, fun H5 e5 => ⟨_, rfl, iteF ?_⟩⟩
          · obtain ⟨l, rfl, hl, _⟩ := hall x (List.mem_of_getElem? h1)
            have hz : z = .ref r := by
              have mem := List.mem_of_getElem? h2
              simp only [List.mem_flatten, List.mem_replicate] at mem
              obtain ⟨w, ⟨_, rfl⟩, hw⟩ := mem
              exact List.mem_singleton.mp hw
            subst hz
            exact ⟨l, r, _, _, rfl, rfl, z2 _ _ (z1 _ _ hl), z2 _ _ upd_same, Prs.cons (.inl (flat_str _)) (Prs.cons (dy _) Prs.nil)⟩
          · have s5 := ((s4.trans z1).trans z2).trans e5
            obtain ⟨dz, hz⟩ := id (rh.same s5)
            have bd := (by4 _ s5).bd
            exact ⟨_, rfl, _, rfl, p1, dz, _, rfl, hz, .inr (.inr bd), p1, y, _, _, rfl, ⟨dz, hz⟩, .inr (.inr ⟨bd, _, rfl, iteF ⟨⟨_, rfl⟩, sm.trans s5⟩⟩)⟩
      · rintro σ H4 ⟨⟨v, rfl⟩, s4⟩
        have r4 := r2.same s4
        have s14 := (s13.trans sa).trans s4
        clear sa s4 r2 el eL nL n1 r3 s13
        clear l1 L H2 H3
        have sm1 : Sm 5000 1 := (show (1 : Int).natAbs < 2 ^ 5000 by decide +kernel)
        -- Ratio(1) == True or Ratio(0) == False
        intro x1 d1 nx1 nd1 ne1
        refine good_at nx1 nd1 (by decide) sm1 fun G1 g1 q1 => ⟨rfl, ?_⟩
        rw [(nt_one 1).1, (nt_one 1).2] at q1
        obtain ⟨dz1, hz1⟩ := id q1
        refine ⟨x1, dz1, _, rfl, hz1, .inr (.inr (.bl true)), x1, .bl true, 1, 1, rfl, q1, .inr (.inr ⟨.bl true, _, rfl, iteF ?_⟩)⟩
        intro x2 d2 nx2 nd2 ne2
        refine good_at nx2 nd2 (by decide) sm1 fun G2 g2 q2 => ⟨rfl, ?_⟩
        rw [(nt_one 0).1, (nt_one 0).2] at q2
        obtain ⟨dz2, hz2⟩ := id q2
        refine ⟨x2, dz2, _, rfl, hz2, .inr (.inr (.bl false)), x2, .bl false, 0, 1, rfl, q2, .inr (.inr ⟨.bl false, _, rfl, iteF ?_⟩)⟩
        -- not Ratio(1) != True or Ratio(1) != 1 or Ratio(0) != 0
        intro x3 d3 nx3 nd3 ne3
        refine good_at nx3 nd3 (by decide) sm1 fun G3 g3 q3 => ⟨rfl, ?_⟩
        rw [(nt_one 1).1, (nt_one 1).2] at q3
        obtain ⟨dz3, hz3⟩ := id q3
        refine ⟨x3, dz3, _, rfl, hz3, .inr (.inr (.bl true)), x3, .bl true, 1, 1, rfl, q3, .inr (.inr ⟨.bl true, _, rfl, iteF ?_⟩)⟩
        intro x4 d4 nx4 nd4 ne4
        refine good_at nx4 nd4 (by decide) sm1 fun G4 g4 q4 => ⟨rfl, ?_⟩
        rw [(nt_one 1).1, (nt_one 1).2] at q4
        obtain ⟨dz4, hz4⟩ := id q4
        refine ⟨x4, dz4, _, rfl, hz4, .inr (.inl ⟨1, rfl⟩), x4, .int 1, 1, 1, rfl, q4, .inr (.inl ⟨1, rfl, _, rfl, if_neg' (by decide) ?_⟩)⟩
        intro x5 d5 nx5 nd5 ne5
        refine good_at nx5 nd5 (by decide) sm1 fun G5 g5 q5 => ⟨rfl, ?_⟩
        rw [(nt_one 0).1, (nt_one 0).2] at q5
        obtain ⟨dz5, hz5⟩ := id q5
        refine ⟨x5, dz5, _, rfl, hz5, .inr (.inl ⟨0, rfl⟩), x5, .int 0, 0, 1, rfl, q5, .inr (.inl ⟨0, rfl, _, rfl, if_neg' (by decide) ?_⟩)⟩
        have r5 := ((((r4.same g1).same g2).same g3).same g4).same g5
        have s15 := ((((s14.trans g1).trans g2).trans g3).trans g4).trans g5
        have S0 : Small (nt 2 4) (nb 2 4) 0 1 := small_n (by decide) (s200 2 (by decide)) (s200 4 (by decide)) (s200 0 (by decide))
        -- _law_error(7, 0, 0), _law_error(half, 0, 1)
        refine nx_go ?_
        dsimp only
        refine chk2 (x1 := .int 7) (y1 := .int 0) (way1 := 0) (g1 := .int 7) (x2 := .ref p1) (y2 := .int 0) (way2 := 1) (g2 := .int 0) (fun z H' => .inl (flat_str z)) (fun _ q => q) (fun _ _ _ q => q) (.inr (.inr (.inl ⟨rfl, rfl, rfl, ⟨7, rfl⟩, rfl⟩))) (fun _ _ => .inl ⟨rfl, rfl, rfl⟩)
          (fun _ _ q => ⟨_, rfl, q⟩) (fun _ _ _ _ q => q) (fun H6 s6 => .inr (.inr (.inr (.inl ⟨rfl, rfl, rfl, p1, _, _, 1, rfl, r5.same s6, .inr ⟨rfl, rfl⟩, S0⟩)))) (fun _ _ => .inl ⟨rfl, rfl, rfl⟩) fun H6 s6 => ?_
        have r6 := r5.same s6
        have s16 := s15.trans s6
        clear s6 r5 s15 r4 s14
        -- _law_error(half, Ratio(0), 1)
        refine ⟨_, rfl, ?_⟩
        intro x6 d6 nx6 nd6 ne6
        refine good_at nx6 nd6 (by decide) sm1 fun G6 g6 q6 => ⟨rfl, ?_⟩
        rw [(nt_one 0).1, (nt_one 0).2] at q6
        obtain ⟨dz6, hz6⟩ := id q6
        refine ⟨.ref p1, .ref x6, 1, "zero", .ref x6, rfl, fun l H7 s7 hl => ?_, .inr (.inr (.inr (.inl ⟨rfl, rfl, rfl, p1, _, _, 1, rfl, r6.same g6, .inl ⟨x6, rfl, q6⟩, S0⟩)))⟩
        intro x7 d7 nx7 nd7 ne7
        refine good_at nx7 nd7 (by decide) sm1 fun G7 g7 q7 => ⟨rfl, ?_⟩
        rw [(nt_one 0).1, (nt_one 0).2] at q7
        obtain ⟨dz7, hz7⟩ := id q7
        refine ⟨two, fun l2 n2 => ?_⟩
        have z2 := same_upd (o := .lst [V.str "zero", V.ref x7]) n2
        refine ⟨⟨l, l2, _, _, rfl, rfl, z2 _ _ (g7 _ _ hl), upd_same, Prs.cons (.inl (flat_str _)) (Prs.cons (.inr ⟨x6, x7, _, _, _, _, rfl, rfl, z2 _ _ (g7 _ _ (s7 _ _ hz6)), z2 _ _ hz7, ⟨_, _, ((q6.same s7).same g7).same z2, q7.same z2⟩⟩) Prs.nil)⟩, fun H8 e8 => ⟨_, rfl, iteF ?_⟩⟩
        have s18 := ((((s16.trans g6).trans s7).trans g7).trans z2).trans e8
        have hS8 := s18.seq hS
        -- the cells
        refine ⟨_, rfl, a, _, rfl, .inl hS8, _, _, rfl, _, _, rfl, _, rfl, ?_, ?_, for_range (fun k σ H' => (∃ o1 o2 o3 o4 o5 o6 o7 o8 o9 o10, σ = [some (.ref a), o1, o2, o3, o4, o5, o6, o7, o8, o9, o10]) ∧ Same H8 H') ⟨⟨_, _, _, _, _, _, _, _, _, _, rfl⟩, Same.refl _⟩ ?_ ?_⟩
        · rw [List.length_map]
          split <;> (try split) <;> omega
        · rw [List.length_map]
          split <;> (try split) <;> omega
        · rintro i σ H' hi ⟨⟨o1, o2, o3, o4, o5, o6, o7, o8, o9, o10, rfl⟩, sm⟩
          refine ⟨_, rfl, _, rfl, a, ns, _, rfl, sm.seq hS8, fun p x y H9 s9 hp np => ?_⟩
          refine ⟨_, rfl, p, x, y, rfl, hp, fun n1 u1 v1 b1 => ⟨_, rfl, p, u1, v1, rfl, upd_same, fun n2 u2 v2 b2 => ⟨_, _, rfl, ?_⟩⟩⟩
          refine ⟨_, rfl, p, u2, v2, rfl, upd_same, fun n3 u3 v3 b3 => ?_⟩
          refine two_nums (p := p) (x := u3) (y := v3) rfl upd_same (by decide) (by decide) (s200 1 (by decide)) (s200 7 (by decide)) fun b d HA hb hd bb bd keep => ?_
          have sA : Same H' HA := fun c o e => by
            have nc : c ≠ p := ne_of_none e np
            refine keep c o nc ?_
            rw [upd_ne nc, upd_ne nc, upd_ne nc]
            exact s9 c o e
          refine ⟨_, rfl, _, rfl, _, rfl, _, rfl, n1, b, n2, d, rfl, hb, hd, b1, bb, b2, bd, fun HB sB => ⟨_, rfl, iteF ?_⟩⟩
          refine ⟨_, rfl, _, rfl, _, rfl, n1, b, n3, rfl, hb, b1, bb, b3, fun HC sC => ⟨_, rfl, iteF ?_⟩⟩
          refine ⟨_, rfl, ?_⟩
          intro xx dd nxx ndd nee
          refine good_at nxx ndd (by decide) sm1 fun HD sD qD => ⟨rfl, ?_⟩
          exact ⟨_, rfl, xx, n3, 1, rfl, qD, by decide, b3.up (by decide), (s200 1 (by decide)).up (by decide), fun HE sE => ⟨_, rfl, iteF ⟨⟨_, _, _, _, _, _, _, _, _, _, rfl⟩, ((((sm.trans sA).trans sB).trans sC).trans sD).trans sE⟩⟩⟩
        · rintro σ H' _
          exact fin H'
end
end R1
end

-- K01p
section
set_option Elab.async false
set_option linter.all false
set_option maxRecDepth 100000
set_option exponentiation.threshold 6000
namespace R1
open PySem L2 OwnOps RatM OwnNe
/-- a def of the top -/
structure DefG (K : PySem.W.Frag) (x : Str) (st : Stmt) (f : Addr) : Prop where
  here : PySem.W.nsIn K mainGlobals x = some (some (.ref f))
  fn : ∃ fd, Fun K x x st f fd
theorem defG_mk {K : PySem.W.Frag} {x : Str} {st : Stmt} {f : Addr} {oc kV doc pm cdv ct : Value} {od an : Option Addr} {osl : Array (Option Value)} (a : PySem.W.nsIn K mainGlobals x = some (some (.ref f)))
    (l : K.lookup f = some ⟨oc, od, .func (PySem.W.fnOf x x (defArgs st) (defBody st) (defScope st) .none kV doc pm an cdv ct), osl⟩) (c : PySem.W.codeIn K cdv x = true) (k : PySem.W.keepIn K (.ref f) = true) : DefG K x st f := ⟨a, _, fun_mk l c k⟩
/-- a def of the class -/
structure DefM (K : PySem.W.Frag) (C : Addr) (x qual : Str) (st : Stmt) (f : Addr) : Prop where
  here : PySem.W.findIn K (.ref C) x = some (some (.ref f))
  is : PySem.W.isFn K (.ref f) = true
  kp : PySem.W.keepIn K (.ref f) = true
  fn : ∃ fd, Fun K x qual st f fd
theorem defM_mk {K : PySem.W.Frag} {C : Addr} {x qual : Str} {st : Stmt} {f : Addr} {oc kV doc pm cdv ct : Value} {od an : Option Addr} {osl : Array (Option Value)} (a : PySem.W.findIn K (.ref C) x = some (some (.ref f))) (i : PySem.W.isFn K (.ref f) = true)
    (l : K.lookup f = some ⟨oc, od, .func (PySem.W.fnOf x qual (defArgs st) (defBody st) (defScope st) .none kV doc pm an cdv ct), osl⟩) (c : PySem.W.codeIn K cdv qual = true) (k : PySem.W.keepIn K (.ref f) = true) : DefM K C x qual st f := ⟨a, i, k, _, fun_mk l c k⟩
/-- the class's __init__, with its default -/
structure DefI (K : PySem.W.Frag) (C : Addr) (f : Addr) : Prop where
  here : PySem.W.findIn K (.ref C) "__init__" = some (some (.ref f))
  is : PySem.W.isFn K (.ref f) = true
  fn : ∃ fd, InitD K f fd
theorem defI_mk {K : PySem.W.Frag} {C f Td : Addr} {oc kV doc pm cdv ct tc : Value} {od an td : Option Addr} {osl tsl : Array (Option Value)} {tk : Tok} {n : Nat} (a : PySem.W.findIn K (.ref C) "__init__" = some (some (.ref f))) (i : PySem.W.isFn K (.ref f) = true)
    (l : K.lookup f = some ⟨oc, od, .func (PySem.W.fnOf "__init__" "Ratio.__init__" (defArgs (sRat 0)) (defBody (sRat 0)) (defScope (sRat 0)) (.ref Td) kV doc pm an cdv ct), osl⟩) (t : K.lookup Td = some ⟨tc, td, .seq #[.int 1 tk] n, tsl⟩)
    (c : PySem.W.codeIn K cdv "Ratio.__init__" = true) (k : PySem.W.keepIn K (.ref f) = true) : DefI K C f :=
  ⟨a, i, _, ⟨oc, od, .ref Td, kV, doc, pm, an, cdv, ct, osl, rfl, l, c, .inr ⟨by simp, Td, _, [.int 1 tk], n, rfl, t, rfl, .cons ⟨tk, rfl⟩ .nil⟩, .inl rfl⟩, k⟩
section
variable {P : Program} {w : World} {K : PySem.W.Frag} {h base : Heap} {mg : Str → Option Value} {C : Addr}
theorem glb {x : Str} {st : Stmt} {f : Addr} {k : Nat} {ps : List Str} {sp : Sp} (X : K.In h) (G : h.Ns mainGlobals mg) (d : DefG K x st f) (ok : ∀ fd, Fun K x x st f fd → FnOk P w K mg base (L2.CX P w) k f fd ps sp)
    (b : ∀ fd, Fun K x x st f fd → L2.Binds K fd ps []) : Glb P w K mg base x k ps sp :=
  let ⟨fd, F⟩ := d.fn
  ⟨f, fd, PySem.W.mg_of X G d.here, F.kp, ok fd F, b fd F⟩
theorem dun {nm x qual : Str} {st : Stmt} {f : Addr} {k : Nat} {ps : List Str} {sp : Sp} (hn : nm = x) (d : DefM K C x qual st f) (ok : ∀ fd, Fun K x qual st f fd → FnOk P w K mg base (L2.CX P w) k f fd ps sp)
    (b : ∀ fd, Fun K x qual st f fd → L2.Binds K fd ps []) : Dun P w K mg base C nm k ps sp := by
  subst hn
  obtain ⟨fd, F⟩ := d.fn
  exact ⟨f, fd, d.here, d.is, d.kp, ok fd F, b fd F⟩
theorem kit_rt {T : String} {b : Bool} (m : PySem.W.kitMeta T = true) (e : PySem.W.subIn K (.ref C) (.type T) = some b) : PySem.W.kitOne K (.ref C) (.type T) = some b := by
  show (if (Value.ref C == Value.type T) = true then some true else if PySem.W.kitMeta T = true then PySem.W.subIn K (.ref C) (.type T) else none) = some b
  rw [if_neg (fun q => by cases beq_iff_eq.mp q), if_pos m, e]
theorem kit_tr {T : String} {b : Bool} (i : PySem.W.isClsIn K C = true) (t : PySem.W.typeIn K (.ref C) = some (.type "type")) (e : PySem.W.subIn K (.type T) (.ref C) = some b) : PySem.W.kitOne K (.type T) (.ref C) = some b := by
  have q : ((PySem.W.clsIn K C).isSome && PySem.W.typeIn K (.ref C) == some (.type "type")) = true := by
    rw [show (PySem.W.clsIn K C).isSome = true from i, t]
    rfl
  show (if (Value.type T == Value.ref C) = true then some true else if ((PySem.W.clsIn K C).isSome && PySem.W.typeIn K (.ref C) == some (.type "type")) = true then PySem.W.subIn K (.type T) (.ref C) else none) = some b
  rw [if_neg (fun q => by cases beq_iff_eq.mp q), if_pos q, e]
theorem kit_rr : PySem.W.kitOne K (.ref C) (.ref C) = some true := by
  show (if (Value.ref C == Value.ref C) = true then some true else _) = some true
  rw [if_pos (beq_self_eq_true _)]
/-- the error classes, as the top has made them -/
structure DefE (K : PySem.W.Frag) (cn qn : Str) (newId : String) (bt : List Value) (E fE : Addr) : Prop where
  here : PySem.W.nsIn K mainGlobals cn = some (some (.ref E))
  txt : ∀ mg : Str → Option Value, mg cn = some (.ref E) → PySem.Giv.ErrTxt K mg cn qn newId bt E fE
  ty : PySem.W.typeIn K (.ref E) = some (.type "type")
  ex : PySem.W.subIn K (.ref E) (.type "BaseException") = some true
  hd : PySem.W.hasDictIn K E = true
theorem defE_mk {cn qn : Str} {newId : String} {bt bm : List Value} {E fE N : Addr} {nm q : Str} {bs : List Value} {sn : List Str} {sub : List Value} {ab : Bool} {col : Option Bool} {dd an od : Option Addr} {k0 k1 k2 k3 k5 : Option Value} {oc doc pm cdv ct : Value} {osl : Array (Option Value)} {p1 p2 q1 q2 q3 q4 : Pos}
    (a : PySem.W.nsIn K mainGlobals cn = some (some (.ref E))) (xL : K.lookup E = some (PySem.excClassObj nm q E N bs bm true sn sub ab col dd k0 k1 k2 k3 k5 newId)) (tl : PySem.Giv.tailIs bt bm = true)
    (sa : PySem.W.findIn K (.ref E) "__setattr__" = some (some (.builtin "object.__setattr__"))) (ga : PySem.W.findIn K (.ref E) "__getattribute__" = some (some (.builtin "BaseException.__getattribute__"))) (gg : PySem.W.findIn K (.ref E) "__getattr__" = some none)
    (no : PySem.W.findIn K (.ref E) "given" = some none) (iC : PySem.W.findIn K (.ref E) "__init__" = some (some (.ref fE))) (tC : PySem.W.typeIn K (.ref fE) = some (.type "function"))
    (l : K.lookup fE = some ⟨oc, od, .func (PySem.W.fnOf "__init__" qn (PySem.Giv.gA p1 p2) (PySem.Giv.gB q1 q2 q3 q4) PySem.Giv.gS .none .none doc pm an cdv ct), osl⟩) (c : PySem.W.codeIn K cdv qn = true)
    (kC : PySem.W.keepIn K (.ref E) = true) (ex : PySem.W.subIn K (.ref E) (.type "BaseException") = some true) (ty : PySem.W.typeIn K (.ref E) = some (.type "type")) (hd : PySem.W.hasDictIn K E = true) (ss : PySem.W.subIn K (.ref E) (.ref E) = some true) : DefE K cn qn newId bt E fE :=
  ⟨a, fun mg hg => { gC := hg, cls := ⟨nm, q, N, bs, bm, sn, sub, ab, col, dd, k0, k1, k2, k3, k5, xL, tl⟩, sa := sa, ga := ga, gg := gg, noN := no, iC := iC, tC := tC, kC := kC, exC := ex, tyC := ty, hdC := hd, te := (PySem.W.exm_ref ex hd ty ss), fn := ⟨oc, od, doc, pm, an, cdv, ct, osl, p1, p2, q1, q2, q3, q4, l, c⟩ }, ty, ex, hd⟩
/-- the class itself -/
structure DefC (K : PySem.W.Frag) (C : Addr) : Prop where
  here : PySem.W.nsIn K mainGlobals "Ratio" = some (some (.ref C))
  cl : Cls K C
  nT : NoAttr K C "top"
  nB : NoAttr K C "bottom"
  ha : PySem.W.findIn K (.ref C) "__class__" = some (some (.builtin "object.__class__"))
  hn : PySem.W.specialIn K (.builtin "object.__class__") "__get__" = some (some (.builtin "getset_descriptor.__get__"))
  htk : PySem.W.takesIn K (.builtin "object.__class__") = some true
  hm : PySem.W.mroIn K C (.type "object") = some true
  mks : PySem.W.makesIn K C = true
  kp : PySem.W.keepIn K (.ref C) = true
  ic : PySem.W.isClsIn K C = true
  ty : PySem.W.typeIn K (.ref C) = some (.type "type")
  sf : PySem.W.selfFirst K C = true
  nCC : PySem.W.notFirst K C (.ref C) = true
/-- the class beside the built-in types -/
structure DefT (K : PySem.W.Frag) (C : Addr) (T : String) : Prop where
  nf : PySem.W.notFirst K C (.type T) = true
  tr : PySem.W.subIn K (.type T) (.ref C) = some false
  rt : PySem.W.subIn K (.ref C) (.type T) = some false
end

theorem all_mk {l : PySem.W.OpenLaw} {w : World} {K : PySem.W.Frag} {h : Heap} {mg : Str → Option Value} {fa C fI CI fCI CZ fCZ a0 a1 a2 a3 a4 a5 a6 a7 a8 a9 a10 a11 b0 b1 b2 b3 b4 b5 b6 b7 b8 b9 b10 b11 b12 b13 b14 b15 b16 b17 : Addr} (X : K.In h) (G : h.Ns mainGlobals mg) (hfa : mg "law" = some (.ref fa))
    (dC : DefC K C)
    (dI : DefI K C fI)
    (eI : DefE K "InvalidNumber" "InvalidNumber.__init__" "ValueError.__new__" veT CI fCI)
    (eZ : DefE K "NoDivision" "NoDivision.__init__" "ZeroDivisionError.__new__" zdT CZ fCZ)
    (zi : PySem.W.subIn K (.ref CZ) (.ref CI) = some false)
    (gc : PySem.W.nsIn K mainGlobals "gcd" = some (some (.builtin "math.gcd")))
    (fg0 : DefG K "is_whole" sWhole a0)
    (fg1 : DefG K "_as_ratio" sAs a1)
    (fg2 : DefG K "_law_draws" sDraws a2)
    (fg3 : DefG K "_law_draw" sDraw a3)
    (fg4 : DefG K "_law_number" sNumber a4)
    (fg5 : DefG K "_law_divisor" sDivisor a5)
    (fg6 : DefG K "_law_is" sIs a6)
    (fg7 : DefG K "_law_error" sErr a7)
    (fg8 : DefG K "_law_compared" sComp a8)
    (fg9 : DefG K "_law_pair_right" sPair a9)
    (fg10 : DefG K "_law_whole_right" sWholeR a10)
    (fg11 : DefG K "law" sLaw a11)
    (fm0 : DefM K C "over" "Ratio.over" (sRat 2) b0)
    (fm1 : DefM K C "__add__" "Ratio.__add__" (sRat 3) b1)
    (fm2 : DefM K C "__radd__" "Ratio.__radd__" (sRat 4) b2)
    (fm3 : DefM K C "__sub__" "Ratio.__sub__" (sRat 5) b3)
    (fm4 : DefM K C "__rsub__" "Ratio.__rsub__" (sRat 6) b4)
    (fm5 : DefM K C "__mul__" "Ratio.__mul__" (sRat 7) b5)
    (fm6 : DefM K C "__rmul__" "Ratio.__rmul__" (sRat 8) b6)
    (fm7 : DefM K C "__neg__" "Ratio.__neg__" (sRat 9) b7)
    (fm8 : DefM K C "__abs__" "Ratio.__abs__" (sRat 10) b8)
    (fm9 : DefM K C "__eq__" "Ratio.__eq__" (sRat 11) b9)
    (fm10 : DefM K C "__ne__" "Ratio.__ne__" (sRat 12) b10)
    (fm11 : DefM K C "__lt__" "Ratio.__lt__" (sRat 13) b11)
    (fm12 : DefM K C "__le__" "Ratio.__le__" (sRat 14) b12)
    (fm13 : DefM K C "__gt__" "Ratio.__gt__" (sRat 15) b13)
    (fm14 : DefM K C "__ge__" "Ratio.__ge__" (sRat 16) b14)
    (fm15 : DefM K C "__bool__" "Ratio.__bool__" (sRat 17) b15)
    (fm16 : DefM K C "__str__" "Ratio.__str__" (sRat 18) b16)
    (fm17 : DefM K C "__repr__" "Ratio.__repr__" (sRat 19) b17)
    (tint : DefT K C "int")
    (tbool : DefT K C "bool")
    (tNoneType : DefT K C "NoneType")
    (tstr : DefT K C "str")
    (tlist : DefT K C "list")
    (ttuple : DefT K C "tuple")
    (nisinstance : PySem.W.nsIn K mainGlobals "isinstance" = some none)
    (nint : PySem.W.nsIn K mainGlobals "int" = some none)
    (nbool : PySem.W.nsIn K mainGlobals "bool" = some none)
    (nabs : PySem.W.nsIn K mainGlobals "abs" = some none)
    (nstr : PySem.W.nsIn K mainGlobals "str" = some none)
    (nrepr : PySem.W.nsIn K mainGlobals "repr" = some none)
    (nlen : PySem.W.nsIn K mainGlobals "len" = some none)
    (nmax : PySem.W.nsIn K mainGlobals "max" = some none)
    (nmin : PySem.W.nsIn K mainGlobals "min" = some none)
    (nrange : PySem.W.nsIn K mainGlobals "range" = some none) :
    ∃ fd : FuncData, (∀ (s : Shared) (v : Value), BindsTo s fd ⟨[v], []⟩ [("_law_script", v)]) ∧ ∀ base : Heap, K.In base → base.Ns mainGlobals mg → FnOk l.prog w K mg base (L2.CX l.prog w) 9 fa fd ["_law_script"] (spLaw K) := by
  have e := hfa.symm.trans (PySem.W.mg_of X G fg11.here)
  cases e
  obtain ⟨fdL, FL⟩ := fg11.fn
  refine ⟨fdL, fun s v => ?_, fun base KX KG => ?_⟩
  · obtain ⟨oc, od, kV, doc, pm, an, cdv, ct, osl, rfl, _, _⟩ := FL.ex
    exact .of_eq rfl
  have T : Txt K mg C CI fCI CZ fCZ :=
    { cl := dC.cl, nT := dC.nT, nB := dC.nB, gC := PySem.W.mg_of KX KG dC.here, eI := eI.txt mg (PySem.W.mg_of KX KG eI.here), eZ := eZ.txt mg (PySem.W.mg_of KX KG eZ.here), ha := dC.ha, hn := dC.hn, htk := dC.htk, hm := dC.hm,
      kCC := kit_rr, kCi := kit_rt (by decide +kernel) tint.rt, kiC := kit_tr dC.ic dC.ty tint.tr, kbC := kit_tr dC.ic dC.ty tbool.tr, knC := kit_tr dC.ic dC.ty tNoneType.tr, ksC := kit_tr dC.ic dC.ty tstr.tr, klC := kit_tr dC.ic dC.ty tlist.tr, ktC := kit_tr dC.ic dC.ty ttuple.tr,
      isi := PySem.W.mg_none_of KX KG nisinstance, int := PySem.W.mg_none_of KX KG nint, bool := PySem.W.mg_none_of KX KG nbool, abs := PySem.W.mg_none_of KX KG nabs, str := PySem.W.mg_none_of KX KG nstr, repr := PySem.W.mg_none_of KX KG nrepr, gcd := PySem.W.mg_of KX KG gc }
  have N : Nms mg := ⟨PySem.W.mg_none_of KX KG nlen, PySem.W.mg_none_of KX KG nmax, PySem.W.mg_none_of KX KG nmin, PySem.W.mg_none_of KX KG nrange⟩
  have Z : Tys K C := ⟨dC.sf, dC.nCC, tint.nf, tbool.nf, tNoneType.nf, tstr.nf, tlist.nf, ttuple.nf, tint.rt⟩
  have NI : Ints K C := ⟨⟨⟨_, rfl⟩, ⟨_, rfl⟩, tint.tr⟩, ⟨⟨_, rfl⟩, ⟨_, rfl⟩, tint.tr⟩, ⟨⟨_, rfl⟩, ⟨_, rfl⟩, tint.tr⟩⟩
  have BA : Bads K C "add" := ⟨⟨⟨_, rfl⟩, ⟨_, rfl⟩, tbool.tr⟩, ⟨⟨_, rfl⟩, ⟨_, rfl⟩, tNoneType.tr⟩, ⟨⟨_, rfl⟩, ⟨_, rfl⟩, tstr.tr⟩, ⟨⟨_, rfl⟩, ⟨_, rfl⟩, tlist.tr⟩, ⟨⟨_, rfl⟩, ⟨_, rfl⟩, ttuple.tr⟩⟩
  have BS : Bads K C "sub" := ⟨⟨⟨_, rfl⟩, ⟨_, rfl⟩, tbool.tr⟩, ⟨⟨_, rfl⟩, ⟨_, rfl⟩, tNoneType.tr⟩, ⟨⟨_, rfl⟩, ⟨_, rfl⟩, tstr.tr⟩, ⟨⟨_, rfl⟩, ⟨_, rfl⟩, tlist.tr⟩, ⟨⟨_, rfl⟩, ⟨_, rfl⟩, ttuple.tr⟩⟩
  have SU : Subs K C := ⟨tbool.rt, tNoneType.rt, tstr.rt, tlist.rt⟩
  have ZI : PySem.W.exmOne K (.ref CZ) (.ref CI) = some false := PySem.W.exm_ref eI.ex eI.hd eI.ty zi
  have GW : Glb l.prog w K mg base "is_whole" 1 ["value"] (spWhole C) := glb KX KG fg0 (fun fd F => ok_whole F T) (fun fd F => F.binds (ps := ["value"]) fun _ _ _ _ _ _ us hl => match us, hl with | [_], _ => rfl)
  obtain ⟨fdI, FI⟩ := dI.fn
  have M : Mak l.prog w K mg base C CI CZ := by
    obtain ⟨fW, fdW, mW, kW, okW, bW⟩ := GW.ex
    obtain ⟨ds3, v3, b3⟩ := FI.binds1 (ps := ["self", "top", "bottom"]) 3 1 (by simp) rfl fun _ _ _ _ _ _ _ us its hu hi => match us, its, hu, hi with | [_, _, _], [_], _, _ => ⟨_, rfl, rfl⟩
    obtain ⟨ds2, v2, b2⟩ := FI.binds1 (ps := ["self", "top", "bottom"]) 2 0 (by simp) rfl fun _ _ _ _ _ _ _ us its hu hi => match us, its, hu, hi with | [_, _], [_], _, _ => ⟨_, rfl, rfl⟩
    cases v3
    exact ⟨fI, fdI, ds2, ⟨dC.mks, dI.here, dI.is, dC.kp⟩, ok_init FI T okW mW kW bW, b3, v2, b2⟩
  have GA : Glb l.prog w K mg base "_as_ratio" 5 ["value"] (spAs C CI) := glb KX KG fg1 (fun fd F => ok_as F T M) (fun fd F => F.binds (ps := ["value"]) fun _ _ _ _ _ _ us hl => match us, hl with | [_], _ => rfl)
  have Dadd : Dun l.prog w K mg base C (PySem.dunder "add") 6 ["self", "other"] (spAr C CI (fun t b t' b' => t * b' + t' * b) (fun t b t' b' => b * b')) := dun rfl fm1 (fun fd F => ok_add F T M GA) (fun fd F => F.binds (ps := ["self", "other"]) fun _ _ _ _ _ _ us hl => match us, hl with | [_, _], _ => rfl)
  have Dsub : Dun l.prog w K mg base C (PySem.dunder "sub") 6 ["self", "other"] (spAr C CI (fun t b t' b' => t * b' - t' * b) (fun t b t' b' => b * b')) := dun rfl fm3 (fun fd F => ok_sub F T M GA) (fun fd F => F.binds (ps := ["self", "other"]) fun _ _ _ _ _ _ us hl => match us, hl with | [_, _], _ => rfl)
  have Dmul : Dun l.prog w K mg base C (PySem.dunder "mul") 6 ["self", "other"] (spAr C CI (fun t b t' b' => t * t') (fun t b t' b' => b * b')) := dun rfl fm5 (fun fd F => ok_mul F T M GA) (fun fd F => F.binds (ps := ["self", "other"]) fun _ _ _ _ _ _ us hl => match us, hl with | [_, _], _ => rfl)
  have Radd : ∃ rc, PySem.W.findIn K (.ref C) (PySem.dunderR "add") = some rc ∧ (rc = none ∨ ∃ q : Addr, rc = some (.ref q)) := ⟨_, fm2.here, .inr ⟨_, rfl⟩⟩
  have Rsub : ∃ rc, PySem.W.findIn K (.ref C) (PySem.dunderR "sub") = some rc ∧ (rc = none ∨ ∃ q : Addr, rc = some (.ref q)) := ⟨_, fm4.here, .inr ⟨_, rfl⟩⟩
  have Rmul : ∃ rc, PySem.W.findIn K (.ref C) (PySem.dunderR "mul") = some rc ∧ (rc = none ∨ ∃ q : Addr, rc = some (.ref q)) := ⟨_, fm6.here, .inr ⟨_, rfl⟩⟩
  have AR : Arith l.prog w K mg base C CI CZ :=
    { add := Dadd, sub := Dsub, mul := Dmul, rAdd := Radd, rSub := Rsub, rMul := Rmul,
      radd := dun rfl fm2 (fun fd F => ok_radd F Z GA Dadd Radd) (fun fd F => F.binds (ps := ["self", "other"]) fun _ _ _ _ _ _ us hl => match us, hl with | [_, _], _ => rfl),
      rsub := dun rfl fm4 (fun fd F => ok_rsub F Z GA Dsub Rsub) (fun fd F => F.binds (ps := ["self", "other"]) fun _ _ _ _ _ _ us hl => match us, hl with | [_, _], _ => rfl),
      rmul := dun rfl fm6 (fun fd F => ok_rmul F Z GA Dmul Rmul) (fun fd F => F.binds (ps := ["self", "other"]) fun _ _ _ _ _ _ us hl => match us, hl with | [_, _], _ => rfl),
      over := dun rfl fm0 (fun fd F => ok_over F T M GA) (fun fd F => F.binds (ps := ["self", "other"]) fun _ _ _ _ _ _ us hl => match us, hl with | [_, _], _ => rfl),
      neg := dun rfl fm7 (fun fd F => ok_neg F T M) (fun fd F => F.binds (ps := ["self"]) fun _ _ _ _ _ _ us hl => match us, hl with | [_], _ => rfl),
      abs := dun rfl fm8 (fun fd F => ok_abs F T M) (fun fd F => F.binds (ps := ["self"]) fun _ _ _ _ _ _ us hl => match us, hl with | [_], _ => rfl),
      bool := dun rfl fm15 (fun fd F => ok_bool F T) (fun fd F => F.binds (ps := ["self"]) fun _ _ _ _ _ _ us hl => match us, hl with | [_], _ => rfl) }
  have Deq : Dun l.prog w K mg base C (cmpInfo .Eq).2.1 2 ["self", "other"] (R1.spEq C false) := dun rfl fm9 (fun fd F => ok_eq F T GW) (fun fd F => F.binds (ps := ["self", "other"]) fun _ _ _ _ _ _ us hl => match us, hl with | [_, _], _ => rfl)
  have CP : Cmps l.prog w K mg base C CI :=
    { eq := Deq,
      ne := dun rfl fm10 (fun fd F => ok_ne F Z Deq) (fun fd F => F.binds (ps := ["self", "other"]) fun _ _ _ _ _ _ us hl => match us, hl with | [_, _], _ => rfl),
      lt := dun rfl fm11 (fun fd F => ok_lt F T GA) (fun fd F => F.binds (ps := ["self", "other"]) fun _ _ _ _ _ _ us hl => match us, hl with | [_, _], _ => rfl),
      le := dun rfl fm12 (fun fd F => ok_le F T GA) (fun fd F => F.binds (ps := ["self", "other"]) fun _ _ _ _ _ _ us hl => match us, hl with | [_, _], _ => rfl),
      gt := dun rfl fm13 (fun fd F => ok_gt F T GA) (fun fd F => F.binds (ps := ["self", "other"]) fun _ _ _ _ _ _ us hl => match us, hl with | [_, _], _ => rfl),
      ge := dun rfl fm14 (fun fd F => ok_ge F T GA) (fun fd F => F.binds (ps := ["self", "other"]) fun _ _ _ _ _ _ us hl => match us, hl with | [_, _], _ => rfl) }
  have GDs : Glb l.prog w K mg base "_law_draws" 1 ["_law_script", "_law_k"] (spDraws K) := glb KX KG fg2 (fun fd F => ok_draws F T N) (fun fd F => F.binds (ps := ["_law_script", "_law_k"]) fun _ _ _ _ _ _ us hl => match us, hl with | [_, _], _ => rfl)
  have GDr : Glb l.prog w K mg base "_law_draw" 1 ["_law_draws_here", "_law_upto"] spDraw := glb KX KG fg3 (fun fd F => ok_draw F T) (fun fd F => F.binds (ps := ["_law_draws_here", "_law_upto"]) fun _ _ _ _ _ _ us hl => match us, hl with | [_, _], _ => rfl)
  have GNu : Glb l.prog w K mg base "_law_number" 2 ["_law_draws_here"] spNumber := glb KX KG fg4 (fun fd F => ok_number F GDr) (fun fd F => F.binds (ps := ["_law_draws_here"]) fun _ _ _ _ _ _ us hl => match us, hl with | [_], _ => rfl)
  have GDi : Glb l.prog w K mg base "_law_divisor" 1 ["_law_one", "_law_other"] spDivisor := glb KX KG fg5 (fun fd F => ok_divisor F T) (fun fd F => F.binds (ps := ["_law_one", "_law_other"]) fun _ _ _ _ _ _ us hl => match us, hl with | [_, _], _ => rfl)
  have GI : Glb l.prog w K mg base "_law_is" 4 ["_law_ratio", "_law_top", "_law_bottom"] (spIs C) := glb KX KG fg6 (fun fd F => ok_is F T GDi (dun rfl fm16 (fun fd F => ok_str F T) (fun fd F => F.binds (ps := ["self"]) fun _ _ _ _ _ _ us hl => match us, hl with | [_], _ => rfl)) (dun rfl fm17 (fun fd F => ok_repr F T) (fun fd F => F.binds (ps := ["self"]) fun _ _ _ _ _ _ us hl => match us, hl with | [_], _ => rfl))) (fun fd F => F.binds (ps := ["_law_ratio", "_law_top", "_law_bottom"]) fun _ _ _ _ _ _ us hl => match us, hl with | [_, _, _], _ => rfl)
  have GE : Glb l.prog w K mg base "_law_error" 8 ["_law_one", "_law_other", "_law_way"] (spErr C CI CZ) := glb KX KG fg7 (fun fd F => ok_error F T Z M AR CP BA BS SU ZI) (fun fd F => F.binds (ps := ["_law_one", "_law_other", "_law_way"]) fun _ _ _ _ _ _ us hl => match us, hl with | [_, _, _], _ => rfl)
  have GC : Glb l.prog w K mg base "_law_compared" 7 ["_law_one", "_law_other", "_law_left", "_law_right"] (spComp C) := glb KX KG fg8 (fun fd F => ok_comp F Z CP) (fun fd F => F.binds (ps := ["_law_one", "_law_other", "_law_left", "_law_right"]) fun _ _ _ _ _ _ us hl => match us, hl with | [_, _, _, _], _ => rfl)
  have GP : Glb l.prog w K mg base "_law_pair_right" 8 ["_law_a", "_law_b", "_law_c", "_law_d"] spPair := glb KX KG fg9 (fun fd F => ok_pair F T Z M AR GI GC) (fun fd F => F.binds (ps := ["_law_a", "_law_b", "_law_c", "_law_d"]) fun _ _ _ _ _ _ us hl => match us, hl with | [_, _, _, _], _ => rfl)
  have GWr : Glb l.prog w K mg base "_law_whole_right" 8 ["_law_a", "_law_b", "_law_n"] spWhR := glb KX KG fg10 (fun fd F => ok_whR F T Z NI M AR GI GC) (fun fd F => F.binds (ps := ["_law_a", "_law_b", "_law_n"]) fun _ _ _ _ _ _ us hl => match us, hl with | [_, _, _], _ => rfl)
  exact ok_law FL T N Z M CP GE GDs GNu GP GWr GI

theorem walk {l : PySem.W.OpenLaw} {q : Program} {loose : List Str} {XP : (Str → Option Value) → Heap → Prop} {YP : World → Heap → Prop} {d : DefRec} {K : Params → PySem.W.Frag} (hn : l.most = some 63) (hdf : d.params.defaults = [])
    (hY : ∀ (w : World) (h : Heap), YP w h → (K w.params).In h)
    (F : ∀ (w : World) (mg : Str → Option Value) (fa : Addr) (h : Heap), (K w.params).In h → h.Ns mainGlobals mg → mg d.name = some (.ref fa) →
      ∃ fd : FuncData, (∀ (s : Shared) (u : Value), BindsTo s fd ⟨[u], []⟩ [("_law_script", u)]) ∧ ∀ base : Heap, (K w.params).In base → base.Ns mainGlobals mg → FnOk l.prog w (K w.params) mg base (L2.CX l.prog w) 9 fa fd ["_law_script"] (spLaw (K w.params))) :
    PySem.W.WalkO q loose XP YP l.row.toRowW d [] (fun f vs => PySem.call f vs) :=
  L2.walk_of (n := 63) (k := 9) (x := "_law_script") (CX := fun w => L2.CX l.prog w) (sp := fun w => spLaw (K w.params)) hn (by decide) hdf ⟨rfl, by decide, by decide⟩ hY F (fun _ _ a ns hl _ hS => ⟨a, ns, rfl, hS, hl, fun _ => rfl⟩) fun w H s e s' z => by
    obtain ⟨_, _, _, _, _, _, _, _, _, _, _, _, z⟩ := z
    exact z
end R1
end

-- K01q
section
set_option Elab.async false
set_option linter.all false
open PySem PySem.W PyProof.Rows
set_option maxRecDepth 100000 in
set_option maxHeartbeats 0 in
theorem PySem.Challenge.cw_wishedwires_k01_ratios_reckoned_holds : PySem.Challenge.rw_wishedwires_k01_ratios_reckoned.Holds := by
  w_on; o_law; k_head; (case hw => w_witness2)
  k_fill
  refine R1.walk (l := PySem.Challenge.rw_wishedwires_k01_ratios_reckoned) rfl rfl (fun w h Y => PySem.W.kIn_of Y) ?F
  case F =>
    intro w mg fa h KX G hmg
    refine' R1.all_mk KX G hmg ?dC ?dI ?eI ?eZ ?zi ?gc ?fg0 ?fg1 ?fg2 ?fg3 ?fg4 ?fg5 ?fg6 ?fg7 ?fg8 ?fg9 ?fg10 ?fg11 ?fm0 ?fm1 ?fm2 ?fm3 ?fm4 ?fm5 ?fm6 ?fm7 ?fm8 ?fm9 ?fm10 ?fm11 ?fm12 ?fm13 ?fm14 ?fm15 ?fm16 ?fm17 ?tint ?tbool ?tNoneType ?tstr ?tlist ?ttuple ?nisinstance ?nint ?nbool ?nabs ?nstr ?nrepr ?nlen ?nmax ?nmin ?nrange
    case dC => (refine' ⟨?here, ⟨?pg, ?hd, ?po, ?sa⟩, ?nT, ?nB, ?ha, ?hn, ?htk, ?hm, ?mks, ?kp, ?ic, ?ty, ?sf, ?nCC⟩); (case here => k_is); (case pg => k_is); (case hd => k_is); (case po => k_is); (case sa => k_is); (case nT => unfold L2.NoAttr; k_is); (case nB => unfold L2.NoAttr; k_is); (case ha => k_is); (case hn => k_is); (case htk => k_is); (case hm => k_is); (case mks => k_is); (case kp => k_is); (case ic => k_is); (case ty => k_is); (case sf => k_is); (case nCC => k_is)
    case dI => (refine' R1.defI_mk ?a ?i ?l ?t ?c ?k); (case a => k_is); (case i => k_is); (case l => k_is); (case t => k_is); (case c => k_is); (case k => k_is)
    case eI => (refine' R1.defE_mk ?a ?xL ?tl ?sa ?ga ?gg ?no ?iC ?tC ?l ?c ?kC ?ex ?ty ?hd ?ss); (case a => k_is); (case xL => k_is); (case tl => decide +kernel); (case sa => k_is); (case ga => k_is); (case gg => k_is); (case no => k_is); (case iC => k_is); (case tC => k_is); (case l => k_is); (case c => k_is); (case kC => k_is); (case ex => k_is); (case ty => k_is); (case hd => k_is); (case ss => first | rfl | k_is)
    case eZ => (refine' R1.defE_mk ?a ?xL ?tl ?sa ?ga ?gg ?no ?iC ?tC ?l ?c ?kC ?ex ?ty ?hd ?ss); (case a => k_is); (case xL => k_is); (case tl => decide +kernel); (case sa => k_is); (case ga => k_is); (case gg => k_is); (case no => k_is); (case iC => k_is); (case tC => k_is); (case l => k_is); (case c => k_is); (case kC => k_is); (case ex => k_is); (case ty => k_is); (case hd => k_is); (case ss => first | rfl | k_is)
    case zi => k_is
    case gc => k_is
    case fg0 => (refine' R1.defG_mk ?a ?l ?c ?k); (case a => k_is); (case l => k_is); (case c => k_is); (case k => k_is)
    case fg1 => (refine' R1.defG_mk ?a ?l ?c ?k); (case a => k_is); (case l => k_is); (case c => k_is); (case k => k_is)
    case fg2 => (refine' R1.defG_mk ?a ?l ?c ?k); (case a => k_is); (case l => k_is); (case c => k_is); (case k => k_is)
    case fg3 => (refine' R1.defG_mk ?a ?l ?c ?k); (case a => k_is); (case l => k_is); (case c => k_is); (case k => k_is)
    case fg4 => (refine' R1.defG_mk ?a ?l ?c ?k); (case a => k_is); (case l => k_is); (case c => k_is); (case k => k_is)
    case fg5 => (refine' R1.defG_mk ?a ?l ?c ?k); (case a => k_is); (case l => k_is); (case c => k_is); (case k => k_is)
    case fg6 => (refine' R1.defG_mk ?a ?l ?c ?k); (case a => k_is); (case l => k_is); (case c => k_is); (case k => k_is)
    case fg7 => (refine' R1.defG_mk ?a ?l ?c ?k); (case a => k_is); (case l => k_is); (case c => k_is); (case k => k_is)
    case fg8 => (refine' R1.defG_mk ?a ?l ?c ?k); (case a => k_is); (case l => k_is); (case c => k_is); (case k => k_is)
    case fg9 => (refine' R1.defG_mk ?a ?l ?c ?k); (case a => k_is); (case l => k_is); (case c => k_is); (case k => k_is)
    case fg10 => (refine' R1.defG_mk ?a ?l ?c ?k); (case a => k_is); (case l => k_is); (case c => k_is); (case k => k_is)
    case fg11 => (refine' R1.defG_mk ?a ?l ?c ?k); (case a => k_is); (case l => k_is); (case c => k_is); (case k => k_is)
    case fm0 => (refine' R1.defM_mk ?a ?i ?l ?c ?k); (case a => k_is); (case i => k_is); (case l => k_is); (case c => k_is); (case k => k_is)
    case fm1 => (refine' R1.defM_mk ?a ?i ?l ?c ?k); (case a => k_is); (case i => k_is); (case l => k_is); (case c => k_is); (case k => k_is)
    case fm2 => (refine' R1.defM_mk ?a ?i ?l ?c ?k); (case a => k_is); (case i => k_is); (case l => k_is); (case c => k_is); (case k => k_is)
    case fm3 => (refine' R1.defM_mk ?a ?i ?l ?c ?k); (case a => k_is); (case i => k_is); (case l => k_is); (case c => k_is); (case k => k_is)
    case fm4 => (refine' R1.defM_mk ?a ?i ?l ?c ?k); (case a => k_is); (case i => k_is); (case l => k_is); (case c => k_is); (case k => k_is)
    case fm5 => (refine' R1.defM_mk ?a ?i ?l ?c ?k); (case a => k_is); (case i => k_is); (case l => k_is); (case c => k_is); (case k => k_is)
    case fm6 => (refine' R1.defM_mk ?a ?i ?l ?c ?k); (case a => k_is); (case i => k_is); (case l => k_is); (case c => k_is); (case k => k_is)
    case fm7 => (refine' R1.defM_mk ?a ?i ?l ?c ?k); (case a => k_is); (case i => k_is); (case l => k_is); (case c => k_is); (case k => k_is)
    case fm8 => (refine' R1.defM_mk ?a ?i ?l ?c ?k); (case a => k_is); (case i => k_is); (case l => k_is); (case c => k_is); (case k => k_is)
    case fm9 => (refine' R1.defM_mk ?a ?i ?l ?c ?k); (case a => k_is); (case i => k_is); (case l => k_is); (case c => k_is); (case k => k_is)
    case fm10 => (refine' R1.defM_mk ?a ?i ?l ?c ?k); (case a => k_is); (case i => k_is); (case l => k_is); (case c => k_is); (case k => k_is)
    case fm11 => (refine' R1.defM_mk ?a ?i ?l ?c ?k); (case a => k_is); (case i => k_is); (case l => k_is); (case c => k_is); (case k => k_is)
    case fm12 => (refine' R1.defM_mk ?a ?i ?l ?c ?k); (case a => k_is); (case i => k_is); (case l => k_is); (case c => k_is); (case k => k_is)
    case fm13 => (refine' R1.defM_mk ?a ?i ?l ?c ?k); (case a => k_is); (case i => k_is); (case l => k_is); (case c => k_is); (case k => k_is)
    case fm14 => (refine' R1.defM_mk ?a ?i ?l ?c ?k); (case a => k_is); (case i => k_is); (case l => k_is); (case c => k_is); (case k => k_is)
    case fm15 => (refine' R1.defM_mk ?a ?i ?l ?c ?k); (case a => k_is); (case i => k_is); (case l => k_is); (case c => k_is); (case k => k_is)
    case fm16 => (refine' R1.defM_mk ?a ?i ?l ?c ?k); (case a => k_is); (case i => k_is); (case l => k_is); (case c => k_is); (case k => k_is)
    case fm17 => (refine' R1.defM_mk ?a ?i ?l ?c ?k); (case a => k_is); (case i => k_is); (case l => k_is); (case c => k_is); (case k => k_is)
    case tint => (refine' ⟨?nf, ?tr, ?rt⟩); (case nf => k_is); (case tr => k_is); (case rt => k_is)
    case tbool => (refine' ⟨?nf, ?tr, ?rt⟩); (case nf => k_is); (case tr => k_is); (case rt => k_is)
    case tNoneType => (refine' ⟨?nf, ?tr, ?rt⟩); (case nf => k_is); (case tr => k_is); (case rt => k_is)
    case tstr => (refine' ⟨?nf, ?tr, ?rt⟩); (case nf => k_is); (case tr => k_is); (case rt => k_is)
    case tlist => (refine' ⟨?nf, ?tr, ?rt⟩); (case nf => k_is); (case tr => k_is); (case rt => k_is)
    case ttuple => (refine' ⟨?nf, ?tr, ?rt⟩); (case nf => k_is); (case tr => k_is); (case rt => k_is)
    case nisinstance => k_is
    case nint => k_is
    case nbool => k_is
    case nabs => k_is
    case nstr => k_is
    case nrepr => k_is
    case nlen => k_is
    case nmax => k_is
    case nmin => k_is
    case nrange => k_is
#print axioms PySem.Challenge.cw_wishedwires_k01_ratios_reckoned_holds
end
