import PyProof.Rows.All
import Wide.All
import OpenK.AllK
import Wide.FinOn
import HandS.ForExc
import KE.KOpsOwn
import KE.KCallOwn
import HandS.OwnEq
import KE.KExcInit
import HandS.ExcOwn
import HandS.TryMany
import HandS.Wide
import HandS.Gcd
import HandS.IsInst
import HandS.Defaults
import HandS.FStr
import HandS.Flow
import PyProof.NeKinds
import HandS.Property
import HandS.MakeKwOnly
import HandS.ExcValue
import KE.KExcIs
import HandS.Comp
import KE.KEqSeq
import HandS.Small
import HandS.Steps
import HandS.List
import PyProof.ReprNest
import HandS.Style
import HandS.ExcIs
import PySem.Challenge.RW_wishedwires_k73_cost_of_deeds
-- OwnOps
section
set_option Elab.async false
set_option linter.all false
set_option maxRecDepth 100000
/-! Operators of own classes, as rules over values: by this text's own hand. -/
namespace OwnOps
open PySem L2

section
variable {X : Cx} {pins : List (Addr × Obj)} {σ : St} {H : Hp} {s : Shared} {a b C dx dy g : Addr} {fs fs' : List (Str × V)}

theorem inst_at (I : Inv X pins σ H s) (e : H a = some (.ins C dx fs)) : ∃ od, PySem.W.InstAt s.heap a (PySem.W.instObj C dx) C (some od) := by
  obtain ⟨mA, O, _⟩ := ins_get I.hok e
  obtain ⟨od, J, _⟩ := O.look
  exact ⟨od, J⟩

theorem back_of {Q : Value → Shared → Prop} {s' : Shared} {v : V} {u : Value} (r : RelV v u) (q : Q u s') : PySem.W.CmpBack Q u s' := by
  cases v with
  | non => cases (show u = Value.none from r); exact q
  | bl b => cases (show u = Value.bool b from r); exact q
  | int i => obtain ⟨t, rfl⟩ := (show ∃ t, u = Value.int i t from r); exact q
  | str y => obtain ⟨t, rfl⟩ := (show ∃ t, u = Value.str y t from r); exact q
  | byt y => obtain ⟨t, rfl⟩ := (show ∃ t, u = Value.bytes y t from r); exact q
  | flt y => obtain ⟨t, rfl⟩ := (show ∃ t, u = Value.float y t from r); exact q
  | ref c => cases (show u = Value.ref c from r); exact q
  | ty n => cases (show u = Value.type n from r); exact q

variable {CX : CXT} {k : Nat} {fd : FuncData} {ps : List Str} {sp : Sp} {E : XK} {A : Around}

/-- a def's call wherever the builtins around it stand -/
theorem run_any {Q : VK} {us : List Value} {vs : List V} (F : FnOk X.prog X.w X.K X.mg X.base CX k g fd ps sp) (hr : Room k A) (e0 : Env0 X.prog X.w X.K X.mg X.base A X.stack s H)
    (hb : Binds X.K fd ps []) (hx : Passes CX X E) (I : Inv X pins σ H s) (r : Vals vs us) (h : sp vs H Q E) :
    wpAny (model X.prog X.w) A (call (.ref g) us) (EP X pins σ Q) X.xe s := by
  have hl : (us ++ []).length = ps.length := by rw [List.append_nil, ← r.length]; exact F.len _ _ _ _ h
  have hb' := hb s us I.kIn hl
  rw [List.append_nil] at hb'
  refine wpAny_call (codeAny_mono (F.run A X.stack s H ⟨us, []⟩ us vs Q E hr e0 hb' r h) fun res s' hq => ?_)
  cases res with
  | error e => exact hx pins σ H s e s' I hq
  | ok fl =>
    cases fl with
    | ret u => exact I.after hq
    | next => exact False.elim hq
    | brk => exact False.elim hq
    | cont => exact False.elim hq
end

/-- what an own class says of a two-place operator: its def, of this class -/
structure Op2 (K : PySem.W.Frag) (C g : Addr) (nm : String) : Prop where
  at_ : PySem.W.findIn K (.ref C) (PySem.dunder nm) = some (some (.ref g))
  rf : ∃ rc, PySem.W.findIn K (.ref C) (PySem.dunderR nm) = some rc ∧ (rc = none ∨ ∃ q : Addr, rc = some (.ref q))
  fn : PySem.W.isFn K (.ref g) = true
  first : PySem.W.selfFirst K C = true
/-- what is known of a built-in type beside the class at C, for the operator -/
structure Ty2 (K : PySem.W.Frag) (C : Addr) (nm T : String) : Prop where
  lf : ∃ fo, PySem.W.findIn K (.type T) (PySem.dunder nm) = some fo
  rt : ∃ ro, PySem.W.findIn K (.type T) (PySem.dunderR nm) = some ro
  sub : PySem.W.subIn K (.type T) (.ref C) = some false

/-- the reading of x op y by x's own def -/
def rOwn2 (C : Addr) (R : V → Hp → Prop) (sp : Sp) (E : XK) : R2 := fun x y H Q => ∃ a dx fs, x = .ref a ∧ H a = some (.ins C dx fs) ∧ R y H ∧ sp [x, y] H Q E
def RIns (C : Addr) : V → Hp → Prop := fun y H => ∃ b dy fs, y = .ref b ∧ H b = some (.ins C dy fs)
def RInt : V → Hp → Prop := fun y _ => ∃ i, y = .int i

section
variable {X : Cx} {CX : CXT} {C g : Addr} {k : Nat} {fd : FuncData} {ps : List Str} {sp : Sp} {E : XK} {op : Operator} {T : String}

/-- x op y, both of the class at C -/
theorem op_ins (O : Op2 X.K C g op.info.2) (F : FnOk X.prog X.w X.K X.mg X.base CX k g fd ps sp) (hr : Room k X.A) (hb : Binds X.K fd ps []) (hx : Passes CX X E) :
    OpR X (binaryOp op) (rOwn2 C (RIns C) sp E) := by
  intro pins s σ H x y v u Q I rx ry h
  obtain ⟨a, dx, fs, rfl, ha, ⟨b, dy, fs', rfl, hb'⟩, q⟩ := h
  cases (show v = Value.ref a from rx)
  cases (show u = Value.ref b from ry)
  obtain ⟨od, J⟩ := inst_at I ha
  obtain ⟨od', J'⟩ := inst_at I hb'
  obtain ⟨m, hF⟩ := I.fr
  refine PySem.W.binop_K hF I.ok.mod.kin J J'.type O.first O.at_ O.fn ?_
  refine wpAny_mono (run_any (us := [.ref a, .ref b]) (vs := [.ref a, .ref b]) F hr I.env0 hb hx I (.cons rfl (.cons rfl .nil)) q) (fun w s' z => ?_) fun _ _ e => e
  obtain ⟨z', H', I', rz, qz⟩ := id z
  exact back_of rz z

/-- x op y, y of a built-in type that tells its type at once -/
theorem op_val (O : Op2 X.K C g op.info.2) (Y : Ty2 X.K C op.info.2 T) (F : FnOk X.prog X.w X.K X.mg X.base CX k g fd ps sp) (hr : Room k X.A) (hb : Binds X.K fd ps []) (hx : Passes CX X E)
    {R : V → Hp → Prop} (hR : ∀ {y : V} {H : Hp} {u : Value}, R y H → RelV y u → typeOf u = pure (.type T)) :
    OpR X (binaryOp op) (rOwn2 C R sp E) := by
  intro pins s σ H x y v u Q I rx ry h
  obtain ⟨a, dx, fs, rfl, ha, hy, q⟩ := h
  cases (show v = Value.ref a from rx)
  obtain ⟨od, J⟩ := inst_at I ha
  obtain ⟨m, hF⟩ := I.fr
  obtain ⟨fo, hfo⟩ := Y.lf
  obtain ⟨ro, hro⟩ := Y.rt
  obtain ⟨rc, hrc, hp⟩ := O.rf
  refine PySem.W.ksp_binT hF I.ok.mod.kin J (hR hy ry) O.first O.at_ O.fn hrc hp hfo hro Y.sub ?_
  refine wpAny_mono (run_any (us := [.ref a, u]) (vs := [.ref a, y]) F hr I.env0 hb hx I (.cons rfl (.cons ry .nil)) q) (fun w s' z => ?_) fun _ _ e => e
  obtain ⟨z', H', I', rz, qz⟩ := id z
  exact back_of rz z
end
end OwnOps
end

-- OwnOps2
section
set_option Elab.async false
set_option linter.all false
set_option maxRecDepth 100000
namespace OwnOps
open PySem L2

section
variable {prog : Program} {w : World} {A : Around} {E : Value → Shared → Prop} {s : Shared} {K : PySem.W.Frag} {y C f g : Addr} {oy : Obj} {od : Option Obj} {u : Value} {T : String}

/-- u op y by y's reflected def: u's own type has no slot for it, or declines -/
theorem refl_K {op : Operator} {left : Bool} {Q : Value → Shared → Prop} (Y : K.In s.heap) (I : PySem.W.InstAt s.heap y oy C od)
    (ht : PySem.W.Looks (model prog w) s.heap (typeOf u) (.type T)) (hc : PySem.W.selfFirst K C = true)
    (hs : PySem.W.findIn K (.ref C) (PySem.dunder op.info.2) = some (some (.ref f))) (hr : PySem.W.findIn K (.ref C) (PySem.dunderR op.info.2) = some (some (.ref g)))
    (hg : PySem.W.isFn K (.ref g) = true) (hl : PySem.W.Looks (model prog w) s.heap (fillsNumberSlot (.type T) op.info.2) left)
    (hsub : PySem.W.subIn K (.ref C) (.type T) = some false)
    (hd : left = true → ∀ {Q : Option Value → Shared → Prop}, Q none s → wpAny (model prog w) A (tryMethod u (PySem.dunder op.info.2) (.ref y)) Q E s)
    (h : wpAny (model prog w) A (call (.ref g) [.ref y, u]) (PySem.W.CmpBack Q) E s) : wpAny (model prog w) A (binaryOp op u (.ref y)) Q E s := by
  obtain ⟨cd, rest, hcd, hm⟩ := PySem.W.ksp_first hc
  rcases hi : op.info with ⟨sym, nm⟩
  rw [hi] at hs hr hl hd
  dsimp only at hs hr hl hd
  have one := PySem.W.ksp_try Y I hr hg h
  obtain ⟨hh, gg, d, tt, os⟩ := s
  have L1 : PySem.W.Looks (model prog w) hh (typeOf (.ref y)) (.ref C) := I.type
  have L3 : PySem.W.Looks (model prog w) hh (fillsNumberSlot (.ref C) nm) true := PySem.W.fills_K Y hcd hm hs
  have L5 : PySem.W.Looks (model prog w) hh (isSubtype (.ref C) (.type T)) false := PySem.W.looks_subIn Y hsub
  have L7 : PySem.W.Looks (model prog w) hh (numberSlotInPython (.type T) nm) false := PySem.W.Looks.of_pure rfl
  have hne : (Value.type T == Value.ref C) = false := Bool.eq_false_iff.mpr fun q => by cases beq_iff_eq.mp q
  simp only [binaryOp, hi]
  refine wpAny_holding (wpAny_bind ?_)
  unfold binaryOp1
  refine wpAny_bind (ht.at (wpAny_bind (L1.at (wpAny_bind (hl.at ?_)))))
  simp only [hne, Bool.false_eq_true, if_false]
  cases left with
  | false =>
    ksp_lk
    refine wpAny_mono one (fun r s' hr' => ?_) fun _ _ e => e
    obtain ⟨v, rfl, hq⟩ := hr'
    ksp_lk
    exact hq
  | true =>
    ksp_lk
    refine hd rfl ?_
    ksp_lk
    refine wpAny_mono one (fun r s' hr' => ?_) fun _ _ e => e
    obtain ⟨v, rfl, hq⟩ := hr'
    ksp_lk
    exact hq
end
end OwnOps
end

-- OwnOps3
section
set_option Elab.async false
set_option linter.all false
set_option maxRecDepth 100000
namespace OwnOps
open PySem L2

section
variable {prog : Program} {w : World} {A : Around} {E : Value → Shared → Prop} {s : Shared} {K : PySem.W.Frag} {y C f g : Addr} {oy : Obj} {od : Option Obj} {n : Int} {t : Tok}
open MeetsSeq MeetsSeq2 MeetsSeq3 SeqRoads2 AutoSeq1
theorem int_call_add {Q : Value → Shared → Prop} (hy : s.heap.get? y = some oy) (hp : oy.data = .plain) (h : Q .notImplemented s) :
    wpAny (model prog w) A (call (.builtin "int.__add__") [.int n t, .ref y]) Q E s := by
  refine GQ.call_here F.slot_int_add (typeIs_int s n t) F.entry_int_add (F.args_int_add_2 _ _) ?_
  obtain ⟨c, dd, dt, sl⟩ := oy
  cases hp
  obtain ⟨hh, gg, d, tt, os⟩ := s
  wp_walk using wpAny_loadPart' hy
  exact h
theorem int_call_sub {Q : Value → Shared → Prop} (hy : s.heap.get? y = some oy) (hp : oy.data = .plain) (h : Q .notImplemented s) :
    wpAny (model prog w) A (call (.builtin "int.__sub__") [.int n t, .ref y]) Q E s := by
  refine GQ.call_here F.slot_int_sub (typeIs_int s n t) F.entry_int_sub (F.args_int_sub_2 _ _) ?_
  obtain ⟨c, dd, dt, sl⟩ := oy
  cases hp
  obtain ⟨hh, gg, d, tt, os⟩ := s
  wp_walk using wpAny_loadPart' hy
  exact h
theorem int_call_mul {Q : Value → Shared → Prop} (hy : s.heap.get? y = some oy) (hp : oy.data = .plain) (h : Q .notImplemented s) :
    wpAny (model prog w) A (call (.builtin "int.__mul__") [.int n t, .ref y]) Q E s := by
  refine GQ.call_here F.slot_int_mul (typeIs_int s n t) F.entry_int_mul (F.args_int_mul_2 _ _) ?_
  obtain ⟨c, dd, dt, sl⟩ := oy
  cases hp
  obtain ⟨hh, gg, d, tt, os⟩ := s
  wp_walk using wpAny_loadPart' hy
  exact h
theorem bool_call_mul {k : Bool} {Q : Value → Shared → Prop} (hy : s.heap.get? y = some oy) (hp : oy.data = .plain) (h : Q .notImplemented s) :
    wpAny (model prog w) A (call (.builtin "int.__mul__") [.bool k, .ref y]) Q E s := by
  refine GQ.call_here F.slot_bool_mul (typeIs_bool s k) F.entry_int_mul (F.args_int_mul_2 _ _) ?_
  obtain ⟨c, dd, dt, sl⟩ := oy
  cases hp
  obtain ⟨hh, gg, d, tt, os⟩ := s
  wp_walk using wpAny_loadPart' hy
  exact h
/-- how an int meets an instance of no built-in kind -/
theorem int_cmp_eq {Q : Value → Shared → Prop} (hy : s.heap.get? y = some oy) (hp : oy.data = .plain) (h : Q .notImplemented s) :
    wpAny (model prog w) A (call (.builtin "int.__eq__") [.int n t, .ref y]) Q E s := by
  refine GQ.call_here F.slot_int_eq (typeIs_int s n t) F.entry_int_eq (F.args_int_eq_2 _ _) ?_
  obtain ⟨c, dd, dt, sl⟩ := oy
  cases hp
  obtain ⟨hh, gg, d, tt, os⟩ := s
  wp_walk using wpAny_loadPart' hy
  exact h
theorem int_cmp_ne {Q : Value → Shared → Prop} (hy : s.heap.get? y = some oy) (hp : oy.data = .plain) (h : Q .notImplemented s) :
    wpAny (model prog w) A (call (.builtin "int.__ne__") [.int n t, .ref y]) Q E s := by
  refine GQ.call_here F.slot_int_ne (typeIs_int s n t) F.entry_int_ne (F.args_int_ne_2 _ _) ?_
  obtain ⟨c, dd, dt, sl⟩ := oy
  cases hp
  obtain ⟨hh, gg, d, tt, os⟩ := s
  wp_walk using wpAny_loadPart' hy
  exact h
theorem int_cmp_lt {Q : Value → Shared → Prop} (hy : s.heap.get? y = some oy) (hp : oy.data = .plain) (h : Q .notImplemented s) :
    wpAny (model prog w) A (call (.builtin "int.__lt__") [.int n t, .ref y]) Q E s := by
  refine GQ.call_here F.slot_int_lt (typeIs_int s n t) F.entry_int_lt (F.args_int_lt_2 _ _) ?_
  obtain ⟨c, dd, dt, sl⟩ := oy
  cases hp
  obtain ⟨hh, gg, d, tt, os⟩ := s
  wp_walk using wpAny_loadPart' hy
  exact h
theorem int_cmp_le {Q : Value → Shared → Prop} (hy : s.heap.get? y = some oy) (hp : oy.data = .plain) (h : Q .notImplemented s) :
    wpAny (model prog w) A (call (.builtin "int.__le__") [.int n t, .ref y]) Q E s := by
  refine GQ.call_here F.slot_int_le (typeIs_int s n t) F.entry_int_le (F.args_int_le_2 _ _) ?_
  obtain ⟨c, dd, dt, sl⟩ := oy
  cases hp
  obtain ⟨hh, gg, d, tt, os⟩ := s
  wp_walk using wpAny_loadPart' hy
  exact h
theorem int_cmp_gt {Q : Value → Shared → Prop} (hy : s.heap.get? y = some oy) (hp : oy.data = .plain) (h : Q .notImplemented s) :
    wpAny (model prog w) A (call (.builtin "int.__gt__") [.int n t, .ref y]) Q E s := by
  refine GQ.call_here F.slot_int_gt (typeIs_int s n t) F.entry_int_gt (F.args_int_gt_2 _ _) ?_
  obtain ⟨c, dd, dt, sl⟩ := oy
  cases hp
  obtain ⟨hh, gg, d, tt, os⟩ := s
  wp_walk using wpAny_loadPart' hy
  exact h
theorem int_cmp_ge {Q : Value → Shared → Prop} (hy : s.heap.get? y = some oy) (hp : oy.data = .plain) (h : Q .notImplemented s) :
    wpAny (model prog w) A (call (.builtin "int.__ge__") [.int n t, .ref y]) Q E s := by
  refine GQ.call_here F.slot_int_ge (typeIs_int s n t) F.entry_int_ge (F.args_int_ge_2 _ _) ?_
  obtain ⟨c, dd, dt, sl⟩ := oy
  cases hp
  obtain ⟨hh, gg, d, tt, os⟩ := s
  wp_walk using wpAny_loadPart' hy
  exact h
end
/-- int op instance, declined -/
def IntDec (op : CmpOp) : Prop := ∀ {prog : Program} {w : World} {A : Around} {E : Value → Shared → Prop} {s : Shared} {y : Addr} {oy : Obj} {n : Int} {t : Tok} {Q : Option Value → Shared → Prop}, s.heap.get? y = some oy → oy.data = .plain → Q none s →
  wpAny (model prog w) A (tryCompare (.int n t) (cmpInfo op).2.1 (.ref y)) Q E s
theorem dec_eq : IntDec .Eq := fun hy hp h => wpAny_tryCompare_declines (typeIs_int _ _ _) F.slot_int_eq (int_cmp_eq hy hp ⟨rfl, h⟩)
theorem dec_ne : IntDec .NotEq := fun hy hp h => wpAny_tryCompare_declines (typeIs_int _ _ _) F.slot_int_ne (int_cmp_ne hy hp ⟨rfl, h⟩)
theorem dec_lt : IntDec .Lt := fun hy hp h => wpAny_tryCompare_declines (typeIs_int _ _ _) F.slot_int_lt (int_cmp_lt hy hp ⟨rfl, h⟩)
theorem dec_le : IntDec .LtE := fun hy hp h => wpAny_tryCompare_declines (typeIs_int _ _ _) F.slot_int_le (int_cmp_le hy hp ⟨rfl, h⟩)
theorem dec_gt : IntDec .Gt := fun hy hp h => wpAny_tryCompare_declines (typeIs_int _ _ _) F.slot_int_gt (int_cmp_gt hy hp ⟨rfl, h⟩)
theorem dec_ge : IntDec .GtE := fun hy hp h => wpAny_tryCompare_declines (typeIs_int _ _ _) F.slot_int_ge (int_cmp_ge hy hp ⟨rfl, h⟩)
def IntDecB (op : Operator) : Prop := ∀ {prog : Program} {w : World} {A : Around} {E : Value → Shared → Prop} {s : Shared} {y : Addr} {oy : Obj} {n : Int} {t : Tok} {Q : Option Value → Shared → Prop}, s.heap.get? y = some oy → oy.data = .plain → Q none s →
  wpAny (model prog w) A (tryMethod (.int n t) (PySem.dunder op.info.2) (.ref y)) Q E s
theorem dec_add : IntDecB .Add := by
  intro prog w A E s y oy n t Q hy hp h
  show wpAny (model prog w) A (tryMethod (.int n t) (PySem.dunder "add") (.ref y)) Q E s
  have hc : wpAny (model prog w) A (call (.builtin "int.__add__") [.int n t, .ref y]) (fun v s' => v = .notImplemented ∧ Q none s') E s := int_call_add hy hp ⟨rfl, h⟩
  exact wpAny_tryMethod_declines (name := PySem.dunder "add") (id := "int.__add__") (typeIs_int s n t) F.slot_int_add hc
theorem dec_sub : IntDecB .Sub := by
  intro prog w A E s y oy n t Q hy hp h
  show wpAny (model prog w) A (tryMethod (.int n t) (PySem.dunder "sub") (.ref y)) Q E s
  have hc : wpAny (model prog w) A (call (.builtin "int.__sub__") [.int n t, .ref y]) (fun v s' => v = .notImplemented ∧ Q none s') E s := int_call_sub hy hp ⟨rfl, h⟩
  exact wpAny_tryMethod_declines (name := PySem.dunder "sub") (id := "int.__sub__") (typeIs_int s n t) F.slot_int_sub hc
theorem dec_mul : IntDecB .Mult := by
  intro prog w A E s y oy n t Q hy hp h
  show wpAny (model prog w) A (tryMethod (.int n t) (PySem.dunder "mul") (.ref y)) Q E s
  have hc : wpAny (model prog w) A (call (.builtin "int.__mul__") [.int n t, .ref y]) (fun v s' => v = .notImplemented ∧ Q none s') E s := int_call_mul hy hp ⟨rfl, h⟩
  exact wpAny_tryMethod_declines (name := PySem.dunder "mul") (id := "int.__mul__") (typeIs_int s n t) F.slot_int_mul hc

section
variable {prog : Program} {w : World} {A : Around} {E : Value → Shared → Prop} {s : Shared} {K : PySem.W.Frag} {y C f g : Addr} {oy : Obj} {od : Option Obj} {n : Int} {t : Tok}
/-- n op y by y's def for the comparison turned round -/
theorem cmp_refl {op : CmpOp} {Q : Value → Shared → Prop} (hu : A.units < cLine) (Y : K.In s.heap) (I : PySem.W.InstAt s.heap y oy C od) (hp : oy.data = .plain) (dec : IntDec op)
    (hsub : PySem.W.subIn K (.ref C) (.type "int") = some false) (hr : PySem.W.findIn K (.ref C) (cmpInfo op).2.2 = some (some (.ref g))) (hg : PySem.W.isFn K (.ref g) = true)
    (h : wpAny (model prog w) A (call (.ref g) [.ref y, .int n t]) (PySem.W.CmpBack Q) E s) : wpAny (model prog w) A (richCompare op (.int n t) (.ref y)) Q E s := by
  have one : wpAny (model prog w) A (tryCompare (.ref y) (cmpInfo op).2.2 (.int n t)) (fun r s' => ∃ v, r = some v ∧ Q v s') E s := by
    unfold tryCompare
    refine wpAny_bind (PySem.W.ifBound_K Y I hr hg (wpAny_mono h (fun v s' hv => ?_) fun _ _ e => e))
    cases v <;> first | exact hv.elim | exact wpAny_pure ⟨_, rfl, hv⟩
  have h1 : oneThing? op (.int n t) (.ref y) = none := rfl
  have hne : (Value.type "int" != Value.ref C) = true := rfl
  unfold richCompare
  simp only [h1]
  refine wpAny_holding (wpAny_bind (wpAny_cRoomFor hu ?_))
  refine wpAny_bind ((PySem.W.Looks.of_pure rfl : PySem.W.Looks (model prog w) s.heap (typeOf (.int n t)) (.type "int")).here (wpAny_bind (I.type.here ?_)))
  rw [hne]
  simp only [if_true]
  refine wpAny_bind ((PySem.W.looks_subIn Y hsub).here ?_)
  simp only [Bool.false_eq_true, if_false]
  refine wpAny_bind (dec I.at_ hp ?_)
  simp only [Bool.not_false, if_true]
  refine wpAny_bind (wpAny_mono one (fun r s' z => ?_) fun _ _ e => e)
  obtain ⟨v, rfl, hq⟩ := z
  exact wpAny_pure hq
end
end OwnOps
end

-- OwnOps4
section
set_option Elab.async false
set_option linter.all false
set_option maxRecDepth 100000
namespace OwnOps
open PySem L2

section
variable {X : Cx} {CX : CXT} {C g f : Addr} {k : Nat} {fd : FuncData} {ps : List Str} {sp : Sp} {E : XK} {op : Operator} {T : String}

/-- the reading of n op y by y's def -/
def rRef2 (C : Addr) (sp : Sp) (E : XK) : R2 := fun x y H Q => ∃ (i : Int) (b dy : Addr) (fs : List (Str × V)), x = .int i ∧ y = .ref b ∧ H b = some (.ins C dy fs) ∧ sp [y, x] H Q E

theorem op_refl {nm : String} (hnm : op.info.2 = nm) (O : Op2 X.K C f nm) (hrf : PySem.W.findIn X.K (.ref C) (PySem.dunderR nm) = some (some (.ref g))) (hg : PySem.W.isFn X.K (.ref g) = true) (hl : fillsNumberSlot (.type "int") nm = pure true)
    (hsub : PySem.W.subIn X.K (.ref C) (.type "int") = some false) (dec : IntDecB op)
    (F : FnOk X.prog X.w X.K X.mg X.base CX k g fd ps sp) (hr : Room k X.A) (hb : Binds X.K fd ps []) (hx : Passes CX X E) : OpR X (binaryOp op) (rRef2 C sp E) := by
  subst hnm
  intro pins s σ H x y v u Q I rx ry h
  obtain ⟨i, b, dy, fs, rfl, rfl, hb', q⟩ := h
  obtain ⟨t, rfl⟩ := (show ∃ t, v = Value.int i t from rx)
  cases (show u = Value.ref b from ry)
  obtain ⟨od, J⟩ := inst_at I hb'
  refine refl_K I.kIn J (PySem.W.Looks.of_pure rfl) O.first O.at_ hrf hg (PySem.W.Looks.of_pure hl) hsub (fun _ Q' q' => dec J.at_ rfl q') ?_
  refine wpAny_mono (run_any (us := [.ref b, .int i t]) (vs := [.ref b, .int i]) F hr I.env0 hb hx I (.cons rfl (.cons ⟨t, rfl⟩ .nil)) q) (fun w s' z => ?_) fun _ _ e => e
  obtain ⟨z', H', I', rz, qz⟩ := id z
  exact back_of rz z

/-- x op y (a comparison), x of the class at C -/
theorem cmp_own {op : CmpOp} (hop : ∀ a b, compareOp op a b = richCompare op a b) (hs : PySem.W.findIn X.K (.ref C) (cmpInfo op).2.1 = some (some (.ref g))) (hf : PySem.W.isFn X.K (.ref g) = true)
    (F : FnOk X.prog X.w X.K X.mg X.base CX k g fd ps sp) (hr : Room k X.A) (hb : Binds X.K fd ps []) (hx : Passes CX X E)
    {R : V → Hp → Prop} (hR : ∀ {y : V} {H : Hp} {u : Value} {pins : List (Addr × Obj)} {σ : St} {s : Shared}, L2.Inv X pins σ H s → R y H → RelV y u → ∃ tb, PySem.W.Looks (model X.prog X.w) s.heap (typeOf u) tb ∧ PySem.W.notFirst X.K C tb = true) :
    OpR X (compareOp op) (rOwn2 C R sp E) := by
  intro pins s σ H x y v u Q I rx ry h
  obtain ⟨a, dx, fs, rfl, ha, hy, q⟩ := h
  cases (show v = Value.ref a from rx)
  obtain ⟨od, J⟩ := inst_at I ha
  obtain ⟨m, hF⟩ := I.fr
  obtain ⟨tb, ht, hn⟩ := hR I hy ry
  rw [hop]
  refine PySem.W.cmp_K (op := op) hr.units0 hF I.ok.mod.kin J ht hn hs hf ?_
  refine wpAny_mono (run_any (us := [.ref a, u]) (vs := [.ref a, y]) F hr I.env0 hb hx I (.cons rfl (.cons ry .nil)) q) (fun w s' z => ?_) fun _ _ e => e
  obtain ⟨z', H', I', rz, qz⟩ := id z
  exact back_of rz z
theorem looks_ins (hsame : PySem.W.notFirst X.K C (.ref C) = true) {y : V} {H : Hp} {u : Value} {pins : List (Addr × Obj)} {σ : St} {s : Shared} (I : L2.Inv X pins σ H s) (h : RIns C y H) (ry : RelV y u) :
    ∃ tb, PySem.W.Looks (model X.prog X.w) s.heap (typeOf u) tb ∧ PySem.W.notFirst X.K C tb = true := by
  obtain ⟨b, dy, fs, rfl, hb⟩ := h
  cases (show u = Value.ref b from ry)
  obtain ⟨od, J⟩ := inst_at I hb
  exact ⟨_, J.type, hsame⟩
theorem looks_int (hi : PySem.W.notFirst X.K C (.type "int") = true) {y : V} {H : Hp} {u : Value} {pins : List (Addr × Obj)} {σ : St} {s : Shared} (I : L2.Inv X pins σ H s) (h : RInt y H) (ry : RelV y u) :
    ∃ tb, PySem.W.Looks (model X.prog X.w) s.heap (typeOf u) tb ∧ PySem.W.notFirst X.K C tb = true := by
  obtain ⟨i, rfl⟩ := h
  obtain ⟨t, rfl⟩ := (show ∃ t, u = Value.int i t from ry)
  exact ⟨_, PySem.W.Looks.of_pure rfl, hi⟩

theorem cmp_refl2 {op : CmpOp} (hop : ∀ a b, compareOp op a b = richCompare op a b) (dec : IntDec op) (hs : PySem.W.findIn X.K (.ref C) (cmpInfo op).2.2 = some (some (.ref g))) (hf : PySem.W.isFn X.K (.ref g) = true)
    (hsub : PySem.W.subIn X.K (.ref C) (.type "int") = some false)
    (F : FnOk X.prog X.w X.K X.mg X.base CX k g fd ps sp) (hr : Room k X.A) (hb : Binds X.K fd ps []) (hx : Passes CX X E) : OpR X (compareOp op) (rRef2 C sp E) := by
  intro pins s σ H x y v u Q I rx ry h
  obtain ⟨i, b, dy, fs, rfl, rfl, hb', q⟩ := h
  obtain ⟨t, rfl⟩ := (show ∃ t, v = Value.int i t from rx)
  cases (show u = Value.ref b from ry)
  obtain ⟨od, J⟩ := inst_at I hb'
  rw [hop]
  refine cmp_refl hr.units0 I.kIn J rfl dec hsub hs hf ?_
  refine wpAny_mono (run_any (us := [.ref b, .int i t]) (vs := [.ref b, .int i]) F hr I.env0 hb hx I (.cons rfl (.cons ⟨t, rfl⟩ .nil)) q) (fun w s' z => ?_) fun _ _ e => e
  obtain ⟨z', H', I', rz, qz⟩ := id z
  exact back_of rz z

/-- one-place: what x's own def hands back -/
def rOwn1 (C : Addr) (sp : Sp) (E : XK) (R : V → Prop) : V → Hp → VK → Prop := fun x H Q => ∃ a dx fs, x = .ref a ∧ H a = some (.ins C dx fs) ∧ sp [x] H (fun z H' => R z ∧ Q z H') E
theorem neg_own (hs : PySem.W.findIn X.K (.ref C) "__neg__" = some (some (.ref g))) (hf : PySem.W.isFn X.K (.ref g) = true)
    (F : FnOk X.prog X.w X.K X.mg X.base CX k g fd ps sp) (hr : Room k X.A) (hb : Binds X.K fd ps []) (hx : Passes CX X E) : UnR X (unaryOp .USub) (rOwn1 C sp E fun _ => True) := by
  intro pins s σ H x v Q I rx h
  obtain ⟨a, dx, fs, rfl, ha, q⟩ := h
  cases (show v = Value.ref a from rx)
  obtain ⟨od, J⟩ := inst_at I ha
  obtain ⟨m, hF⟩ := I.fr
  refine PySem.W.ksp_neg hF I.ok.mod.kin J hs hf ?_
  refine wpAny_mono (run_any (us := [.ref a]) (vs := [.ref a]) F hr I.env0 hb hx I (.cons rfl .nil) q) (fun w s' z => ?_) fun _ _ e => e
  obtain ⟨z', H', I', rz, _, qz⟩ := z
  exact ⟨z', H', I', rz, qz⟩

open Builtin in
theorem abs_K {prog : Program} {w : World} {A : Around} {E : Value → Shared → Prop} {s : Shared} {K : PySem.W.Frag} {x C f : Addr} {ox : Obj} {od : Option Obj} {Q : Value → Shared → Prop} (Y : K.In s.heap) (I : PySem.W.InstAt s.heap x ox C od)
    (hs : PySem.W.findIn K (.ref C) "__abs__" = some (some (.ref f))) (hf : PySem.W.isFn K (.ref f) = true)
    (h : wpAny (model prog w) A.in1 (call (.ref f) [.ref x]) Q E s) : wpAny (model prog w) A (call (.builtin "abs") [.ref x]) Q E s := by
  refine Calls.call_function_entry PyProof.Rows.kind_abs PyProof.Rows.plain_abs PyProof.Rows.entry_abs (PyProof.Rows.args_abs _) ?_
  unfold Builtin.«abs»
  refine wpAny_bind (m := oneArg "abs" _) (wpAny_pure ?_)
  refine wpAny_bind (m := callSpecial? (.ref x) (Str.ofString "__abs__")) (PySem.W.special_fn Y I hs (beq_iff_eq.mp hf) (wpAny_mono h (fun r s' z => ?_) fun _ _ e => e))
  exact wpAny_pure ⟨_, rfl, z⟩

theorem room2 {k : Nat} {A : Around} (r : Room (k + 2) A) : Room k A.in1.in1 := (Room.in1 (r.in1))

theorem call_absO (hs : PySem.W.findIn X.K (.ref C) "__abs__" = some (some (.ref g))) (hf : PySem.W.isFn X.K (.ref g) = true)
    (F : FnOk X.prog X.w X.K X.mg X.base CX k g fd ps sp) (hr : Room (k + 1) X.A) (hb : Binds X.K fd ps []) (hx : Passes CX X E) : CallR X (.builtin "abs") (fun xs H Q => ∃ x, xs = [x] ∧ rOwn1 C sp E (fun _ => True) x H Q) := by
  intro pins s σ H xs us Q I rx h
  obtain ⟨x, rfl, a, dx, fs, rfl, ha, q⟩ := h
  obtain ⟨u, rfl, ru⟩ := vals1 rx
  cases (show u = Value.ref a from ru)
  obtain ⟨od, J⟩ := inst_at I ha
  refine abs_K I.kIn J hs hf ?_
  refine wpAny_mono (run_any (us := [.ref a]) (vs := [.ref a]) F hr.in1 I.env0.in1 hb hx I (.cons rfl .nil) q) (fun w s' z => ?_) fun _ _ e => e
  obtain ⟨z', H', I', rz, _, qz⟩ := z
  exact ⟨z', H', I', rz, qz⟩

def IsStr : V → Prop := fun z => ∃ y, z = .str y
theorem strback {Q : Value → Shared → Prop} {z : V} {u : Value} {s' : Shared} (hz : IsStr z) (r : RelV z u) (q : Q u s') : PySem.W.StrBack Q u s' := by
  obtain ⟨y, rfl⟩ := hz
  obtain ⟨t, rfl⟩ := (show ∃ t, u = Value.str y t from r)
  exact q
theorem call_reprO (hs : PySem.W.findIn X.K (.ref C) "__repr__" = some (some (.ref g))) (hf : PySem.W.isFn X.K (.ref g) = true)
    (F : FnOk X.prog X.w X.K X.mg X.base CX k g fd ps sp) (hr : Room (k + 1) X.A) (hb : Binds X.K fd ps []) (hx : Passes CX X E) : CallR X (.builtin "repr") (fun xs H Q => ∃ x, xs = [x] ∧ rOwn1 C sp E IsStr x H Q) := by
  intro pins s σ H xs us Q I rx h
  obtain ⟨x, rfl, a, dx, fs, rfl, ha, q⟩ := h
  obtain ⟨u, rfl, ru⟩ := vals1 rx
  cases (show u = Value.ref a from ru)
  obtain ⟨od, J⟩ := inst_at I ha
  obtain ⟨m, hF⟩ := I.fr
  refine PySem.W.repr_K hr.in1.units0 hF I.ok.mod.kin J hs hf ?_
  refine wpAny_mono (run_any (us := [.ref a]) (vs := [.ref a]) F hr.in1 I.env0.in1 hb hx I (.cons rfl .nil) q) (fun w s' z => ?_) fun _ _ e => e
  obtain ⟨z', H', I', rz, hz, qz⟩ := z
  exact strback hz rz ⟨z', H', I', rz, qz⟩
theorem call_strO (hs : PySem.W.findIn X.K (.ref C) "__str__" = some (some (.ref g))) (hf : PySem.W.isFn X.K (.ref g) = true)
    (F : FnOk X.prog X.w X.K X.mg X.base CX k g fd ps sp) (hr : Room (k + 2) X.A) (hb : Binds X.K fd ps []) (hx : Passes CX X E) : CallR X (.type "str") (fun xs H Q => ∃ x, xs = [x] ∧ rOwn1 C sp E IsStr x H Q) := by
  intro pins s σ H xs us Q I rx h
  obtain ⟨x, rfl, a, dx, fs, rfl, ha, q⟩ := h
  obtain ⟨u, rfl, ru⟩ := vals1 rx
  cases (show u = Value.ref a from ru)
  obtain ⟨od, J⟩ := inst_at I ha
  refine PySem.W.kso_call (room2 hr).units0 I.kIn J hs hf ?_
  refine wpAny_mono (run_any (us := [.ref a]) (vs := [.ref a]) F (room2 hr) I.env0.in1.in1 hb hx I (.cons rfl .nil) q) (fun w s' z => ?_) fun _ _ e => e
  obtain ⟨z', H', I', rz, hz, qz⟩ := z
  exact strback hz rz ⟨z', H', I', rz, qz⟩

open Builtin in
theorem bool_K {prog : Program} {w : World} {A : Around} {E : Value → Shared → Prop} {s : Shared} {K : PySem.W.Frag} {x C f : Addr} {ox : Obj} {od : Option Obj} {Q : Value → Shared → Prop} {m : Str → Option Value} {h₀ : Heap} {L : Addr} (F : PyProof.Rows.Fr h₀ L s.heap m) (Y : K.In h₀) (I : PySem.W.InstAt s.heap x ox C od)
    (hs : PySem.W.findIn K (.ref C) "__bool__" = some (some (.ref f))) (hf : PySem.W.isFn K (.ref f) = true)
    (h : wpAny (model prog w) A.in1.in1 (call (.ref f) [.ref x]) (PySem.W.BoolBack fun b s' => Q (.bool b) s') E s) : wpAny (model prog w) A (call (.type "bool") [.ref x]) Q E s := by
  refine callType_codes (T := "bool") (Bi := Builtin.«object.__init__») (Q₁ := fun r s₁ => ∃ y, r = .bool y ∧ Q r s₁) PySem.F.called_bool (PySem.F.typeCall_bool_1 _) PySem.F.entry_object_init ?_ ?_
  · refine codeAny_of_tree ?_
    show wpAny _ A.in1.in1 (do checkBuiltinCall "bool.__new__" ⟨[.type "bool", .ref x], []⟩; again (.builtin "bool.__new__" ⟨[.type "bool", .ref x], []⟩)) _ _ s
    refine wpAny_bind (wpAny_of_eq (PySem.F.newCall_bool_1 _) (wpAny_pure ⟨plainId_quiet (by decide +kernel) _, codeAny_builtin PySem.F.entry_bool_new ?_⟩))
    rw [Around.under_plainId (by decide +kernel) _]
    have key : wpAny (model prog w) A.in1.in1 (truthy (.ref x)) (fun b s₁ => Q (.bool b) s₁) E s := PySem.W.truthy_K F Y I hs hf h
    have f1 := PySem.F.conv_sub_bool
    obtain ⟨hp, gg, d, tk, os⟩ := s
    repeat (any_goals (first | assumption | (with_reducible refine wpAny_bind (wpAny_mono key (fun b s1 z => ?_) fun _ _ e => e)) | wp_step))
    all_goals first | exact ⟨_, rfl, z⟩ | exact ⟨_, rfl, _, rfl, z⟩ | skip
  · rintro obj s₁ ⟨y, rfl, hq⟩
    exact ⟨typeIs_bool _ _, PySem.F.args_object_init_2 _ _, object_init_meets PySem.F.called_bool.init.lookup PySem.F.called_bool.made (by decide) prog w A.in1 _ s₁ ⟨typeIs_bool _ _, rfl, hq⟩⟩
end
end OwnOps
end

-- GivErr
section
set_option Elab.async false
set_option linter.all false
set_option maxRecDepth 100000
set_option maxHeartbeats 2000000
/-! An own error class, over any of three built-in ones, that keeps its one argument in the field `given`. -/
namespace PySem
namespace Giv
open PySem.W PySem.Calls PyProof.Rows PySem.HandSPX Builtin Builtin.ObjectAttr
/-- own classes, then the given tail -/
def tailIs (bt : List Value) : List Value → Bool
  | .ref _ :: r => tailIs bt r
  | l => l == bt
theorem tail_cases (bt : List Value) : ∀ l : List Value, tailIs bt l = true → (∃ c r, l = .ref c :: r ∧ tailIs bt r = true) ∨ l = bt := fun l e => by
  cases l with
  | nil => exact .inr (beq_iff_eq.mp e)
  | cons a r => cases a <;> first | exact .inl ⟨_, _, rfl, e⟩ | exact .inr (beq_iff_eq.mp e)
theorem tail_pass {bt : List Value} (hb : ∀ self, refuseLoop self "__setattr__" bt = pure ()) (self : Value) : ∀ l : List Value, tailIs bt l = true → refuseLoop self "__setattr__" l = pure () := fun l => by
  induction l with
  | nil => intro e; rcases tail_cases bt _ e with ⟨_, _, q, _⟩ | q; cases q; rw [q]; exact hb self
  | cons a r ih =>
    intro e
    rcases tail_cases bt (a :: r) e with ⟨c, r', q, h⟩ | q
    · cases q; rw [refuseLoop_ref]; exact ih h
    · rw [q]; exact hb self
theorem tail_has {bt : List Value} (Y : String) : ∀ l : List Value, tailIs bt l = true → l.contains (.type Y) = bt.contains (.type Y) := fun l => by
  induction l with
  | nil => intro e; rcases tail_cases bt _ e with ⟨_, _, q, _⟩ | q; cases q; rw [q]
  | cons a r ih =>
    intro e
    rcases tail_cases bt (a :: r) e with ⟨c, r', q, h⟩ | q
    · cases q; rw [List.contains_cons, ih h]; rfl
    · rw [q]
/-- what is used of the built-in base -/
structure BaseOk (B newId initId : String) (bt : List Value) : Prop where
  facts : ExcBaseFacts B newId initId bt
  pass : ∀ self, refuseLoop self "__setattr__" bt = pure ()
  obj : bt.contains (.type "object") = true
theorem ok_VE : BaseOk "ValueError" "ValueError.__new__" "ValueError.__init__" [.type "ValueError", .type "Exception", .type "BaseException", .type "object"] :=
  ⟨F.excBase_ValueError, fun self => F.store_ValueError.passes self, by decide +kernel⟩
theorem ok_ZD : BaseOk "ZeroDivisionError" "ZeroDivisionError.__new__" "ZeroDivisionError.__init__" [.type "ZeroDivisionError", .type "ArithmeticError", .type "Exception", .type "BaseException", .type "object"] :=
  ⟨F.excBase_ZeroDivisionError, fun self => F.store_ZeroDivisionError.passes self, by decide +kernel⟩

section
variable {prog : Program} {w : World} {A : Around} {E : Value → Shared → Prop} {R : Result → Shared → Prop} {hp : Heap} {g : Array GenState} {d : Drawn} {t : Nat} {os : OsState}
/-- self.name = v on a new exception -/
theorem osa_giv {K : W.Frag} {name : Str} {tk : Tok} {v : Value} {x C : Addr} {fv : Array Value} {cd : ClassData} {bt bm : List Value} (hb : ∀ self, refuseLoop self "__setattr__" bt = pure ()) (hbo : bt.contains (.type "object") = true)
    (Y : K.In hp) (hx : hp.get? x = some { cls := .ref C, data := .fields fv }) (hcd : W.clsIn K C = some cd) (hm : cd.mro = .ref C :: bm) (htl : tailIs bt bm = true) (hh : cd.hasDict = true) (hno : W.findIn K (.ref C) name = some none)
    (fin : ∀ h' tk' dx, (∀ b o, b ≠ x → hp.get? b = some o → h'.get? b = some o) → hp.objs.size ≤ dx → dx ≠ x → h'.get? x = some { cls := .ref C, dict := some dx, data := .fields fv } →
      h'.Ns1 dx (fun y => if y = name then some v else none) → R (.ok (.ret .none)) ⟨h', g, d, tk', os⟩) :
    codeAny (model prog w) A (.call (.builtin "object.__setattr__") ⟨[.ref x, .str name tk, v], []⟩) R ⟨hp, g, d, t, os⟩ := by
  have J : W.InstAt hp x { cls := .ref C, data := .fields fv } C none := ⟨hx, rfl, rfl, trivial⟩
  have SO := F.store_object
  have htail : tailIs bt cd.mro = true := by rw [hm]; exact htl
  have hob2 : cd.mro.contains (.type "object") = true := by rw [tail_has "object" _ htail]; exact hbo
  have hemp : cd.mro.isEmpty = false := by rw [hm]; rfl
  have apart : x ≠ hp.objs.size := Nat.ne_of_lt (Heap.lt_size hx)
  have Lsub : W.Looks (model prog w) hp (isInstance (.ref x) (.type "object")) true :=
    J.type.andThen (W.looks_mroIn Y (by unfold W.mroIn; rw [hcd, Option.bind_some, if_neg (by rw [hemp]; decide), hob2]))
  refine codeAny_call_builtin SO.slot.plain SO.entry (@W.check_slot (model prog w) _ _ ⟨hp, g, d, t, os⟩ "object.__setattr__" "object" "__setattr__" (.ref x)
    [.str name tk, v] [] _ SO.kind SO.split Lsub (SO.args (.ref x) (.str name tk) v) ?_)
  have Lmro : W.Looks (model prog w) hp (mroOf (.ref C)) cd.mro := (W.looks_clsIn Y hcd).andThen .now
  have Lno : W.Looks (model prog w) hp (storeTaker? none) none := .now
  have Lcd : W.Looks (model prog w) hp (classData C) cd := W.looks_clsIn Y hcd
  rw [W.osa_eq, refuse_eq]
  refine wpAny_bind (wpAny_bind (J.type.at (wpAny_bind (Lmro.at ?_))))
  rw [tail_pass hb _ _ htail]
  refine wpAny_pure (wpAny_bind (J.type.at (wpAny_bind ((W.looks_findIn Y hno).at (wpAny_bind (Lno.at ?_))))))
  show wpAny _ _ (storeInOwnDict (.ref x) (.ref C) (.str name tk) name v false) _ _ _
  obtain ⟨c1, c2, c3, c4, c5, c6, c7, c8, c9, c10, c11⟩ := cd
  dsimp only at hh
  subst hh
  unfold storeInOwnDict ownDictForStores
  repeat (first | (with_reducible refine store_in_new ?_ ?_) | (with_reducible refine wpAny_loadPart_at hx ?_) | (with_reducible refine Lcd.at ?_) | wp_step)
  · exact ⟨_, #[], _, (Heap.get?_update_ne _ _ _ _ apart.symm).trans (Heap.get?_push_at rfl rfl), rfl, fun e he => absurd he (by simp), fun _ => rfl⟩
  · intro h' tk' hn' hs
    have hx1 : (hp.push { cls := .type "dict", data := .dict #[] }).get? x = some { cls := .ref C, data := .fields fv } := Heap.get?_push_of_some _ hx
    refine fin h' tk' hp.objs.size (fun b o hb ho => ?_) (Nat.le_refl _) apart.symm ?_ hn'
    · exact (hs.2 b (Nat.ne_of_lt (Heap.lt_size ho))).trans ((Heap.get?_update_ne _ _ _ _ hb).trans (Heap.get?_push_of_some _ ho))
    · exact (hs.2 x apart).trans (Heap.get?_update_self _ hx1 rfl)
end

/-! ### the text of __init__ -/
def gA (p1 p2 : Pos) : Arguments := { posonlyargs := [], args := [{ arg := "self", annotation := none, pos := p1 }, { arg := "given", annotation := none, pos := p2 }], vararg := none, kwonlyargs := [], kw_defaults := [], kwarg := none, defaults := [] }
def gB (q1 q2 q3 q4 : Pos) : List Stmt := [.Assign [.Attribute (.Name "self" q1) "given" q2] (.Name "given" q3) q4]
def gS : Scope := { kind := .function, names := [(PySem.Str.ofString "self", .local), (PySem.Str.ofString "given", .local)], isGenerator := false, isCoroutine := false, more := [] }
/-- what the written part says of the class called cn, at C, and of its __init__, at fI -/
structure ErrTxt (K : Frag) (mg : Str → Option Value) (cn qn : Str) (newId : String) (bt : List Value) (C fI : Addr) : Prop where
  gC : mg cn = some (.ref C)
  cls : ∃ nm q N bs bm sn sub ab col dd k0 k1 k2 k3 k5, K.lookup C = some (excClassObj nm q C N bs bm true sn sub ab col dd k0 k1 k2 k3 k5 newId) ∧ tailIs bt bm = true
  sa : findIn K (.ref C) "__setattr__" = some (some (.builtin "object.__setattr__"))
  ga : findIn K (.ref C) "__getattribute__" = some (some (.builtin "BaseException.__getattribute__"))
  gg : findIn K (.ref C) "__getattr__" = some none
  noN : findIn K (.ref C) "given" = some none
  iC : findIn K (.ref C) "__init__" = some (some (.ref fI))
  tC : typeIn K (.ref fI) = some (.type "function")
  kC : keepIn K (.ref C) = true
  exC : subIn K (.ref C) (.type "BaseException") = some true
  tyC : typeIn K (.ref C) = some (.type "type")
  hdC : hasDictIn K C = true
  te : exmOne K (.ref C) (.ref C) = some true
  fn : ∃ (oc : Value) (od : Option Addr) (doc pm : Value) (an : Option Addr) (cdv ct : Value) (osl : Array (Option Value)) (p1 p2 q1 q2 q3 q4 : Pos),
    K.lookup fI = some ⟨oc, od, .func (fnOf "__init__" qn (gA p1 p2) (gB q1 q2 q3 q4) gS .none .none doc pm an cdv ct), osl⟩ ∧ codeIn K cdv qn = true
theorem one_fits (v : Value) : [v].length ≤ sizeLine := by
  rw [sizeLine_eq]
  exact (by decide : 1 ≤ 16777216)
theorem ldG {M : Model} {s : Shared} {name : Str} {scope : Scope} {L a : Addr} {cd : Value} {m : Str → Option Value} {x : Str} {pos : Pos} {v : Value} {Q : Value → Shared → Prop} {A : Around} {E : Value → Shared → Prop} (hn : s.heap.Ns L m) (hv : m x = some v) (h : Q v s)
    (hk : scope.kind = .function := by rfl) (hl : (envOfC name scope L a cd).kindOf x = some .local := by rfl) (hd : (x == ("__debug__" : Str)) = false := by decide) :
    wpAny M A (eval (.Name x pos) (envOfC name scope L a cd)) Q E s := wpAny_Name (wpAny_loadName_local hk hl hn hv h) hd
/-- what __init__ leaves -/
structure GivEnd (h h' : Heap) (x C dx t1 : Addr) (v : Value) : Prop where
  keep : ∀ b o, b ≠ x → h.get? b = some o → h'.get? b = some o
  obj : h'.get? x = some { cls := .ref C, dict := some dx, data := .fields #[.ref t1, .none, .none, .none, .bool false, .none] }
  dbig : h.objs.size ≤ dx
  dne : dx ≠ x
  ns : h'.Ns1 dx (fun y => if y = "given" then some v else none)
/-- a made one -/
structure GivMade (h h' : Heap) (e C d : Addr) (v : Value) : Prop where
  keep : ∀ b o, h.get? b = some o → h'.get? b = some o
  new : h.objs.size ≤ e
  obj : ∃ oe vs, h'.get? e = some oe ∧ oe.cls = .ref C ∧ oe.dict = some d ∧ oe.data = .fields vs ∧ vs[1]? = some .none
  dbig : h.objs.size ≤ d
  dne : d ≠ e
  ns : h'.Ns1 d (fun y => if y = "given" then some v else none)
section
variable {prog : Program} {w : World} {A : Around} {E : Value → Shared → Prop} {R : Result → Shared → Prop} {s : Shared} {K : Frag} {mg : Str → Option Value} {C fI : Addr} {cn qn : Str} {B newId initId : String} {bt : List Value}
theorem giv_init (Z : BaseOk B newId initId bt) (T : ErrTxt K mg cn qn newId bt C fI) {x t0 : Addr} {v : Value} (X : K.In s.heap) (hlim : s.heap.NoLimit) (hx : s.heap.get? x = some (excO C t0)) (hroom : A.depth < recursionLimit)
    (hq : ∀ h' tk dx, GivEnd s.heap h' x C dx t0 v → R (.ok (.ret .none)) { s with heap := h', toks := tk }) :
    codeAny (model prog w) A (.call (.ref fI) ⟨[.ref x, v], []⟩) R s := by
  obtain ⟨oc, od, doc, pm, an, cdv, ct, osl, p1, p2, q1, q2, q3, q4, ho, hcd⟩ := T.fn
  obtain ⟨nm, q, N, bs, bm, sn, sub, ab, col, dd, k0, k1, k2, k3, k5, hC, hbm⟩ := T.cls
  have hcl : clsIn K C = some { name := nm, bases := bs, mro := .ref C :: bm, ns := N, qualname := q, hasDict := true, slotNames := sn, subclasses := sub, abstract := ab, collection := col, hasDel := false } := by unfold clsIn; rw [hC] <;> rfl
  refine Att.call_fn (binds := [("self", .ref x), ("given", v)]) X hlim ho hcd hroom (BindsTo.of_eq (by first | rfl | with_unfolding_all rfl)) (by first | rfl | decide | with_unfolding_all rfl) (fun s₁ IC => ?_) rfl rfl rfl
  obtain ⟨h₁, tk₁, rfl⟩ := IC.toInCall.same
  have k : ∀ b o, s.heap.get? b = some o → h₁.get? b = some o := IC.toInCall.keep
  have hn := IC.toInCall.ns
  have X₁ : K.In h₁ := X.keeps k
  have hx₁ := k _ _ hx
  show wpAny _ _ (execs _ _) _ _ _
  refine wpAny_execs_cons (plainObj_wpAny_Assign_Attribute ?_)
  refine ldG (v := v) hn (by first | rfl | with_unfolding_all rfl | kernel_rfl) (ldG (v := .ref x) hn (by first | rfl | with_unfolding_all rfl | kernel_rfl) ?_)
  refine set_plain X₁ (ox := excO C t0) (od := none) ⟨hx₁, rfl, rfl, trivial⟩ T.sa ?_
  refine osa_giv Z.pass Z.obj X₁ hx₁ hcl rfl hbm rfl T.noN (fun h₃ tk₃ dx k₃ dn dne hx₃ hn₃ => ?_)
  show wpAny _ _ (execs _ _) _ _ _
  have z : s.heap.objs.size < h₁.objs.size := hn.lt
  exact wpAny_execs_nil (hq h₃ tk₃ dx ⟨fun b o hb e => k₃ b o hb (k b o e), hx₃, Nat.le_of_lt (Nat.lt_of_lt_of_le z dn), dne, hn₃⟩)
theorem giv_made (Z : BaseOk B newId initId bt) (T : ErrTxt K mg cn qn newId bt C fI) {v : Value} (X : K.In s.heap) (hlim : s.heap.NoLimit) (hroom : A.depth + 1 < recursionLimit)
    (hq : ∀ h' tk e d, GivMade s.heap h' e C d v → R (.ok (.ret (.ref e))) { s with heap := h', toks := tk }) :
    codeAny (model prog w) A (.call (.ref C) ⟨[v], []⟩) R s := by
  obtain ⟨nm, q, N, bs, bm, sn, sub, ab, col, dd, k0, k1, k2, k3, k5, hC, hbm⟩ := T.cls
  obtain ⟨hp, g, dr, tk, os⟩ := s
  have k : ∀ b o, hp.get? b = some o → ((hp.push (kdv_tup [v])).push (excO C hp.objs.size)).get? b = some o := fun b o e => Heap.get?_push_of_some _ (Heap.get?_push_of_some _ e)
  have hget : ((hp.push (kdv_tup [v])).push (excO C hp.objs.size)).get? (hp.objs.size + 1) = some (excO C hp.objs.size) := by heap_get
  refine call_own Z.facts (fun X => tail_has X bm hbm) (X _ _ hC) (looks_findIn X T.iC) (fun self => bind_fn X self T.tC) (one_fits v) ?_
  refine giv_init (s := ⟨(hp.push (kdv_tup [v])).push (excO C hp.objs.size), g, dr, tk, os⟩) Z T (X.keeps k) (hlim.keeps k) hget ?_ fun h' tk' dx ⟨k', hx, dn, dne, hns⟩ => ?_
  · show A.depth + 1 < recursionLimit
    exact hroom
  · have old : ∀ b o, hp.get? b = some o → h'.get? b = some o := fun b o e => k' b o (Nat.ne_of_lt (Nat.lt_succ_of_lt (Heap.lt_size e))) (k b o e)
    have z : hp.objs.size + 1 + 1 ≤ dx := by
      first
        | (simpa only [Heap.size_push] using dn)
        | exact dn
        | (have q := dn; rw [Heap.size_push, Heap.size_push] at q; exact q)
    exact ⟨rfl, hq h' tk' (hp.objs.size + 1) dx ⟨old, Nat.le_succ _, ⟨_, _, hx, rfl, rfl, rfl, rfl⟩, Nat.le_trans (Nat.le_trans (Nat.le_succ _) (Nat.le_succ _)) z, dne, hns⟩⟩
end
end Giv
end PySem
end

-- GivErr2
section
set_option Elab.async false
set_option linter.all false
set_option maxRecDepth 100000
set_option maxHeartbeats 2000000
namespace L2
open PySem PySem.Spec PyProof.Rows
theorem relO_giv {v : V} {v' : Value} (r : RelV v v') (f : Str) : RelO (List.lookup f [(("given" : Str), v)]) (if f = "given" then some v' else none) := by
  by_cases hw : f = "given"
  · subst hw
    rw [if_pos rfl]
    have q : List.lookup ("given" : Str) [(("given" : Str), v)] = some v := by simp [List.lookup]
    rw [q]
    exact r
  · rw [if_neg hw]
    have qw : (f == ("given" : Str)) = false := by simpa using hw
    have q2 : List.lookup f [(("given" : Str), v)] = none := by simp [List.lookup, qw]
    rw [q2]
    trivial
section
variable {X : Cx} {C fI : Addr} {cn qn : Str} {B newId initId : String} {bt : List Value}
/-- Err(e) -/
def tMkGiv (C : Addr) (ta : TA) : L2.St → Hp → XK → Prop := fun σ H Q => ta σ H fun vs H1 => ∃ v, vs = [v] ∧ ∀ d, H1 d = none → Q (.ref C) (some d) (upd H1 d (.xd [(("given" : Str), v)]))
theorem pmk_giv {a : Expr} {ta : TA} {p pos : Pos} {k : Nat} (Z : PySem.Giv.BaseOk B newId initId bt) (T : PySem.Giv.ErrTxt X.K X.mg cn qn newId bt C fI) (hr : Room k X.A) (ha : PA X [a] ta) (hg : Gl X cn) (hdb : (cn == ("__debug__" : Str)) = false)
    (he : starEach (a :: []) X.env = (false, eval a X.env) :: starEach [] X.env := by rfl) (hpl : (backTo pos (starEach [] X.env)).any (·.1) = false := by rfl) :
    PMk X (.Call (.Name cn p) [a] [] pos) (tMkGiv C ta) := by
  intro pins s σ H Q I h
  refine wpAny_Call_Name_kw (ld_glob I hg T.gC ?_ hdb)
  refine PySem.W.callWith_K (h₀ := X.base) I.ok.mod.kin T.kC (thn (ha.run pos pins s σ H _ I h) fun us s1 hh => ?_) he hpl
  obtain ⟨vs, H1, I1, r1, v, ev, q1⟩ := hh
  subst ev
  refine ⟨I1.kIn, ?_⟩
  cases r1 with
  | cons rv rn =>
    rename_i v' us'
    cases rn
    show wpAny _ _ (call (.ref C) [v']) _ _ _
    have hlim := I1.nolimit
    obtain ⟨hp, g, dr, tk, os⟩ := s1
    refine wpAny_call (PySem.Giv.giv_made Z T I1.kIn hlim (by have := hr.dp; omega) fun h' tk' e d M => ?_)
    show MkP X pins σ Q (.ref e) ⟨h', g, dr, tk', os⟩
    obtain ⟨oe, fv, hoe, hc, hd, hdat, h1⟩ := M.obj
    have hns := M.ns
    obtain ⟨G', g1, g2⟩ := restrict h' fun b => decide (b ≠ e)
    have gk : ∀ b, b ≠ e → G'.get? b = h'.get? b := fun b hb => g1 b (decide_eq_true hb)
    have ge : G'.get? e = none := g2 e (by simp)
    have old : ∀ b o, hp.get? b = some o → G'.get? b = some o := fun b o q => (gk b (Nat.ne_of_lt (Nat.lt_of_lt_of_le (Heap.lt_size q) M.new))).trans (M.keep b o q)
    have ob : ObjOk X.prog X.w (upd H1 d (.xd [(("given" : Str), v)])) G' d (.xd [(("given" : Str), v)]) :=
      ⟨_, hns.at (fun o q => (gk d M.dne).trans q), fun f => relO_giv rv f⟩
    have J : L2.Inv X pins σ (upd H1 d (.xd [(("given" : Str), v)])) ⟨G', g, dr, tk', os⟩ := I1.laid (t' := tk') old M.dbig ob
    refine ⟨e, oe, fv, ⟨G', g, dr, tk', os⟩, _, .ref C, some d, rfl, J, fun b o q => ?_, ge, hoe, ⟨hc, hd⟩, hdat, h1, ?_, rfl, I1.bare, raises_own T.exC T.tyC, q1 d (I1.hok.fresh M.dbig)⟩
    · by_cases hb : b = e
      · have q' : G'.get? b = some o := q
        rw [hb, ge] at q'; cases q'
      · exact (gk b hb).symm.trans q
    · rw [upd_ne (Ne.symm M.dne)]
      exact I1.hok.fresh M.new
/-- raise Err(e) -/
def tRaiseGiv (C : Addr) (W : WX) (ta : TA) : TS := fun _ σ H => tMkGiv C ta σ H fun cls d H' => W cls d σ H'
theorem ps_raiseGiv {a : Expr} {ta : TA} {W : WX} {p pos pos2 : Pos} {k : Nat} (hc : X.calm = true) (Z : PySem.Giv.BaseOk B newId initId bt) (T : PySem.Giv.ErrTxt X.K X.mg cn qn newId bt C fI) (hr : Room k X.A) (tk : Takes X W) (ha : PA X [a] ta) (hg : Gl X cn) (hdb : (cn == ("__debug__" : Str)) = false := by decide)
    (he : starEach (a :: []) X.env = (false, eval a X.env) :: starEach [] X.env := by rfl) (hpl : (backTo pos (starEach [] X.env)).any (·.1) = false := by rfl) :
    PS X (.Raise (some (.Call (.Name cn p) [a] [] pos)) none pos2) (tRaiseGiv C W ta) := ps_raise hc tk (pmk_giv Z T hr ha hg hdb he hpl)
/-- err.given, err the exception that the suite holds (at a; its class cls, its dict d) -/
def tByGiv (C : Addr) (a : Addr) (cls : Value) (d : Option Addr) (te : TE) : TE := fun σ H Q => te σ H fun x H1 => x = .ref a ∧ cls = .ref C ∧ ∃ (dd : Addr) (v : V), d = some dd ∧ H1 dd = some (.xd [(("given" : Str), v)]) ∧ Q v H1
theorem pe_byGiv {a : Addr} {oe : Obj} {cls : Value} {d : Option Addr} {pn : List (Addr × Obj)} {e : Expr} {te : TE} {pos : Pos} (T : PySem.Giv.ErrTxt X.K X.mg cn qn newId bt C fI) (hz : Zc cls d oe) (hf : ∃ vs, oe.data = .fields vs) (he : PE (X.suite a ((a, oe) :: pn)) e te)
    (hb : attributeBase e "given" X.env (eval e X.env) = eval e X.env := by rfl) :
    PE (X.suite a ((a, oe) :: pn)) (.Attribute e "given" pos) (tByGiv C a cls d te) := by
  refine ⟨fun pins s σ H Q I h => ?_⟩
  refine attr_of hb (thn (he.run pins s σ H _ I h) fun u s1 hh => ?_)
  obtain ⟨x, H1, I1, rx, ex, ec, dd, v, ed, ea, q⟩ := hh
  subst ex
  obtain rfl : u = Value.ref a := rx
  subst ec
  subst ed
  obtain ⟨ha, _⟩ := I1.pin (a, oe) (List.mem_append_left _ List.mem_cons_self)
  obtain ⟨vs, hd⟩ := hf
  have hx : ObjOk X.prog X.w H1 s1.heap dd (.xd [(("given" : Str), v)]) := I1.hok dd _ ea
  obtain ⟨mA, hns, hr⟩ := hx
  obtain ⟨od, ho, hl⟩ := lookIn_ns hns
  have l : List.lookup ("given" : Str) [(("given" : Str), v)] = some v := by simp [List.lookup]
  obtain ⟨u, hu, ru⟩ := RelO.some_of (v := v) (o := mA "given") (by rw [← l]; exact hr "given")
  have J : PySem.W.InstAt s1.heap a oe C (some od) := ⟨ha, hz.1, by unfold PySem.W.notCls; rw [hd] <;> rfl, by rw [hz.2]; exact ho⟩
  exact HandSPX.exc_get I1.kIn J T.ga T.gg T.exC (PySem.W.findObj_own T.hdC T.noN rfl (by rw [hl, hu])) (handed_of ru) ⟨v, H1, I1.tok _, ru, q⟩
end
end L2
end

-- TryAs
section
set_option Elab.async false
set_option linter.all false
set_option maxRecDepth 100000
/-! try: with several clauses «except X as n». -/
namespace TryAs
open PySem L2
/-- the ends of a clause's suite: slot i is emptied on every way out -/
def endsAs (D : Ends) (i : Nat) : Ends where
  nx := fun t K => D.nx (t.set i none) K
  rt := D.rt
  bk := fun t K => D.bk (t.set i none) K
  ct := fun t K => D.ct (t.set i none) K
abbrev Cl := Value × Nat × (Addr → Value → Option Addr → TS)
def wAll (K : PySem.W.Frag) (Wout : WX) (D : Ends) : List Cl → WX
  | [] => Wout
  | (c, i, ts) :: r => fun cls d σ H => ∃ b, PySem.W.exmOne K cls c = some b ∧
      (b = true → ∀ a, H a = none → ts a cls d (endsAs D i) (σ.set i (some (.ref a))) H) ∧ (b = false → wAll K Wout D r cls d σ H)
inductive Clauses (X : Cx) : List ExceptHandler → List Cl → Prop
  | nil : Clauses X [] []
  | cons {x n : Str} {c : Value} {i : Nat} {ts : Addr → Value → Option Addr → TS} {fst : Stmt} {suite : List Stmt} {np hpos : Pos} {hds : List ExceptHandler} {l : List Cl}
      (at_ : X.N[i]? = some n) (loc : X.env.kindOf n = some .local) (nam : Names X x c)
      (run : ∀ (a : Addr) (oe : Obj) (cls : Value) (d : Option Addr) (pn : List (Addr × Obj)), Zc cls d oe → (∃ vs, oe.data = .fields vs) → PSs (X.suite a ((a, oe) :: pn)) (fst :: suite) (ts a cls d))
      (more : Clauses X hds l) : Clauses X (.ExceptHandler (some (.Name x np)) (some n) (fst :: suite) hpos :: hds) ((c, i, ts) :: l)
section
variable {X : Cx} {body : List Stmt} {hd0 : ExceptHandler} {hds : List ExceptHandler} {l : List Cl} {pos : Pos} {tb : WX → TS} {Wout : WX}
theorem ps_try_all (stk : X.stack = X.env :: X.outer) (frm : X.env.frame = some X.env.locals) (nod : X.N.Nodup) (tk : Takes X Wout)
    (hb : ∀ (W : WX) (pn : List (Addr × Obj)) (xe : Value → Shared → Prop), Takes (X.tr pn xe) W → PassesOwn (model X.prog X.w) X.A X.env xe → PSs (X.tr pn xe) body (tb W))
    (cl : Clauses X (hd0 :: hds) l) : PS X (.Try body (hd0 :: hds) [] [] pos) (fun D σ H => tb (wAll X.K Wout D l) D σ H) := by
  constructor
  intro pins s σ H D I h
  have okX := I.ok
  have frs2 : X.A.frames = some (X.env :: X.outer) := by rw [okX.frames, stk]
  refine wpAny_Try_except ?_
  refine wpAny_mono ((hb (wAll X.K Wout D l) (X.pn ++ pins)
    (fun e s₁ => wpAny (model X.prog X.w) X.A (noteFrame e X.env)
      (fun _ s₂ => wpAny (model X.prog X.w) X.A (setFlight e none)
        (fun _ s₃ => wpAny (model X.prog X.w) X.A (handleBy e X.env (hd0 :: hds)) (SP X pins D) X.xe s₃) X.xe s₂) X.xe s₁)
    (fun u s' xx => ?_) PassesOwn.looking).run [] s σ H D (I.toTry _) h) (fun f s1 hsp => ?_) (fun e s1 he => he)
  · obtain ⟨a, B, sI, pins1, σ1, H1, cls, d, rfl, J0, nb, up, sky, na, os, ag, w⟩ := xx
    have J1 : L2.Inv X pins σ1 H1 sI := J0.ofTry okX
    have sky1 : Sky B (X.env :: X.outer) a (Zc cls d) X.env.locals s'.heap := by rw [← stk]; exact sky
    show wpAny (model X.prog X.w) X.A (noteFrame (.ref a) X.env) _ _ _
    refine Sky.land Zc.steady frs2 frm sky1 fun h3 fl3 up3 => ?_
    have J3 : L2.Inv X pins σ1 H1 { s' with heap := h3 } := J1.landed nb fl3.1 (up.trans up3) os ag
    obtain ⟨oe3, vs3, he3, hz3, hd3⟩ := fl3.there
    have apart : a ∉ frs (X.env :: X.outer) := fun hm => by
      obtain ⟨_, o', e', hnf⟩ := fl3.2.2.1.mem hm
      have q : some o' = some oe3 := e'.symm.trans he3
      cases q
      exact hnf _ hd3
    have notL : a ≠ X.env.locals := fun z => apart (List.mem_filterMap.mpr ⟨X.env, List.mem_cons_self, by rw [frm, z]⟩)
    have notF : a ∉ X.fs := fun hm => by
      obtain ⟨e, he, q⟩ := List.mem_filterMap.mp hm
      exact apart (List.mem_filterMap.mpr ⟨e, List.mem_cons_of_mem _ he, q⟩)
    have S3 := J3.suite he3 hd3 na notL notF
    have go : ∀ {hs2 : List ExceptHandler} {l2 : List Cl}, Clauses X hs2 l2 → wAll X.K Wout D l2 cls d σ1 H1 →
        wpAny (model X.prog X.w) X.A (handleBy (.ref a) X.env hs2) (SP X pins D) X.xe { s' with heap := h3 } := by
      intro hs2 l2 hk
      induction hk with
      | nil =>
        intro w
        refine wpAny_handleBy_nil ?_
        obtain ⟨k1, k2, k3, oe, vs, T, oT, ts', he, hz, hd, h1, hr⟩ := id fl3
        unfold PySem.passOn
        refine wpAny_bind (wpAny_field he hd h1 ?_)
        have tn : ¬ ((Value.ref T == Value.none) = true) := by simp
        rw [if_neg tn]
        have fin : wpAny (model X.prog X.w) X.A (setFlight (.ref a) X.env.frame) (fun _ s4 => wpAny (model X.prog X.w) X.A (throw (.ref a) : Sem Flow) (SP X pins D) X.xe s4) X.xe { s' with heap := h3 } := by
          rw [frm]
          refine HandSPX.setFlight_upZ fl3 fun h4 hh4 up4 => wpAny_throw (tk _ _ ?_)
          exact ⟨a, B, sI, pins, σ1, H1, cls, d, rfl, J1, nb, (up.trans up3).trans up4, .inr (.inr (by rw [stk]; exact hh4)), na, os, ag, w⟩
        first | exact (wpAny_bind (wpAny_pure (wpAny_bind fin))) | exact (wpAny_bind fin)
      | @cons x n c i ts fst suite np hpos hs3 l3 at_ loc nam run more ih =>
        intro w
        obtain ⟨b, hb1, yes, no⟩ := w
        have slot : Loc X.env.scope n := .inl loc
        refine wpAny_handleBy_cons (codeAny_handlers_test ?_) (by intro q; cases q)
        have Lty : PySem.W.Looks (model X.prog X.w) h3 (typeOf (.ref a)) cls := fun A Q E s k q => wpAny_typeOf_ref (k _ _ he3) (by rw [hz3.1]; exact q)
        have Lex := PySem.W.exm_one (M := model X.prog X.w) (J3.kIn) Lty hb1
        have tst : ∀ {Q : Value → Shared → Prop} {E : Value → Shared → Prop}, Q c { s' with heap := h3 } → wpAny (model X.prog X.w) (X.A.mark (some (.ref a))) (eval (.Name x np) X.env) Q E { s' with heap := h3 } := fun {Q E} q => by
          obtain ⟨hg, ndb, hm | ⟨hm, hv, nn⟩⟩ := nam
          · exact (ld_glob (X := X.suite a ((a, oe3) :: (X.pn ++ pins))) S3 hg hm q ndb)
          · exact (ld_blt (X := X.suite a ((a, oe3) :: (X.pn ++ pins))) S3 hg hm hv q nn ndb)
        refine tst (Lex.here ?_)
        cases b with
        | true =>
          refine codeAny_handlers_suite_as ?_
          refine HandSPX.lands_againZ fl3 fun h4 fl4 up4 => ?_
          have J4 : L2.Inv X pins σ1 H1 { s' with heap := h4 } := J1.landed nb fl4.1 ((up.trans up3).trans up4) os ag
          obtain ⟨oe4, vs4, he4, hz4, hd4⟩ := fl4.there
          have S4 := J4.suite he4 hd4 na notL notF
          refine store_ok (X := X.suite a ((a, oe4) :: (X.pn ++ pins))) (v := .ref a) S4 nod at_ slot rfl (fun s5 S5 => ?_) (.inr loc)
          refine wpAny_mono ((run a oe4 cls d (X.pn ++ pins) hz4 ⟨_, hd4⟩).run [] s5 _ H1 _ S5 (yes rfl a na)) (fun f s6 hsp => ?_) (fun _ _ z => False.elim z)
          have wipe : ∀ {t6 : L2.St} {K6 : Hp} {Q : Shared → Prop}, L2.Inv (X.suite a ((a, oe4) :: (X.pn ++ pins))) [] t6 K6 s6 → (∀ s7, L2.Inv X pins (t6.set i none) K6 s7 → Q s7) →
              wpAny (model X.prog X.w) X.A (do bindName X.env n .none; unbindBehindTheSuite X.env n hpos) (fun _ s7 => Q s7) X.xe s6 := fun {t6 K6 Q} S6 hq => gone_ok (S6.unsuite okX) nod at_ loc hq
          cases f with
          | next =>
            obtain ⟨t6, K6, S6, q6⟩ := hsp
            exact (wipe S6 fun s7 J7 => ⟨_, _, J7, q6⟩)
          | brk =>
            obtain ⟨t6, K6, S6, q6⟩ := hsp
            exact (wipe S6 fun s7 J7 => ⟨_, _, J7, q6⟩)
          | cont =>
            obtain ⟨t6, K6, S6, q6⟩ := hsp
            exact (wipe S6 fun s7 J7 => ⟨_, _, J7, q6⟩)
          | ret u =>
            obtain ⟨v6, t6, K6, S6, r6, q6⟩ := hsp
            exact (wipe S6 fun s7 J7 => ⟨_, _, _, J7, r6, q6⟩)
        | false =>
          show wpAny _ X.A (handleBy (.ref a) X.env hs3) _ _ _
          exact ih (no rfl)
    exact go cl w
  · cases f with
    | next =>
      obtain ⟨t1, K1, J1, q⟩ := hsp
      exact wpAny_execs_nil ⟨t1, K1, J1.ofTry okX, q⟩
    | brk =>
      obtain ⟨t1, K1, J1, q⟩ := hsp
      exact ⟨t1, K1, J1.ofTry okX, q⟩
    | cont =>
      obtain ⟨t1, K1, J1, q⟩ := hsp
      exact ⟨t1, K1, J1.ofTry okX, q⟩
    | ret u =>
      obtain ⟨v1, t1, K1, J1, r, q⟩ := hsp
      exact ⟨v1, t1, K1, J1.ofTry okX, r, q⟩
/-- an exception of a callee, wished for at every state of the slots that fits -/
def EAll (X : Cx) (W : WX) : XK := fun cls d H' => ∀ t : L2.St, t.length = X.N.length → W cls d t H'
theorem pass_all {W : WX} (tk : Takes X W) : Passes (L2.CX X.prog X.w) X (EAll X W) := fun _ _ _ _ _ _ I c =>
  tk _ _ (XE.of_call I (fun _ _ _ z => z _ I.len) c)
end
end TryAs
end

-- RatMath
section
namespace RatM
/-- the divisor that Ratio's __init__ takes: the gcd with the bottom's sign -/
def cmn (t b : Int) : Int := if b > 0 then (Nat.gcd t.natAbs b.natAbs : Int) else -(Nat.gcd t.natAbs b.natAbs : Int)
def nt (t b : Int) : Int := t.fdiv (cmn t b)
def nb (t b : Int) : Int := b.fdiv (cmn t b)

theorem gpos {t b : Int} (h : b ≠ 0) : 0 < Nat.gcd t.natAbs b.natAbs := Nat.gcd_pos_of_pos_right _ (by omega)
theorem cmn_ne {t b : Int} (h : b ≠ 0) : cmn t b ≠ 0 := by
  have := gpos (t := t) h
  unfold cmn
  split <;> omega
theorem cmn_scale {t b k : Int} (hb : b ≠ 0) (hk : k ≠ 0) : cmn (t * k) (b * k) = cmn t b * k := by
  unfold cmn
  rw [Int.natAbs_mul, Int.natAbs_mul, Nat.gcd_mul_right, Int.natCast_mul]
  rcases Int.lt_or_gt_of_ne hk with h | h
  · have e : ((k.natAbs : Nat) : Int) = -k := by omega
    rw [e]
    rcases Int.lt_or_gt_of_ne hb with h2 | h2
    · rw [if_pos (show b * k > 0 from Int.mul_pos_of_neg_of_neg h2 h), if_neg (show ¬ b > 0 by omega), Int.mul_neg, Int.neg_mul]
    · rw [if_neg (show ¬ b * k > 0 from by have := Int.mul_neg_of_pos_of_neg h2 h; omega), if_pos (show b > 0 by omega), Int.mul_neg, Int.neg_neg]
  · have e : ((k.natAbs : Nat) : Int) = k := by omega
    rw [e]
    rcases Int.lt_or_gt_of_ne hb with h2 | h2
    · rw [if_neg (show ¬ b * k > 0 from by have := Int.mul_neg_of_neg_of_pos h2 h; omega), if_neg (show ¬ b > 0 by omega), Int.neg_mul]
    · rw [if_pos (show b * k > 0 from Int.mul_pos h2 h), if_pos (show b > 0 by omega)]
theorem cmn_dvd_t (t b : Int) : cmn t b ∣ t := by
  have h : ((Nat.gcd t.natAbs b.natAbs : Nat) : Int) ∣ t := Int.dvd_natAbs.mp (Int.natCast_dvd_natCast.mpr (Nat.gcd_dvd_left _ _))
  unfold cmn
  split
  · exact h
  · exact Int.neg_dvd.mpr h
theorem cmn_dvd_b (t b : Int) : cmn t b ∣ b := by
  have h : ((Nat.gcd t.natAbs b.natAbs : Nat) : Int) ∣ b := Int.dvd_natAbs.mp (Int.natCast_dvd_natCast.mpr (Nat.gcd_dvd_right _ _))
  unfold cmn
  split
  · exact h
  · exact Int.neg_dvd.mpr h
theorem nt_mul {t b : Int} : nt t b * cmn t b = t := Int.fdiv_mul_cancel (cmn_dvd_t t b)
theorem nb_mul {t b : Int} : nb t b * cmn t b = b := Int.fdiv_mul_cancel (cmn_dvd_b t b)
theorem nb_pos {t b : Int} (h : b ≠ 0) : 0 < nb t b := by
  have e := nb_mul (t := t) (b := b)
  have g := gpos (t := t) h
  have hc : cmn t b = if b > 0 then (Nat.gcd t.natAbs b.natAbs : Int) else -(Nat.gcd t.natAbs b.natAbs : Int) := rfl
  rcases Int.lt_trichotomy (nb t b) 0 with h1 | h1 | h1
  · exfalso
    split at hc
    · have := Int.mul_neg_of_neg_of_pos h1 (show 0 < cmn t b by omega); omega
    · have := Int.mul_pos_of_neg_of_neg h1 (show cmn t b < 0 by omega); omega
  · rw [h1, Int.zero_mul] at e; omega
  · exact h1
theorem nt_scale {t b k : Int} (hb : b ≠ 0) (hk : k ≠ 0) : nt (t * k) (b * k) = nt t b := by
  have e : t * k = nt t b * (cmn t b * k) := by rw [← Int.mul_assoc, nt_mul]
  show (t * k).fdiv (cmn (t * k) (b * k)) = nt t b
  rw [cmn_scale hb hk, e]
  exact Int.mul_fdiv_cancel _ (Int.mul_ne_zero (cmn_ne hb) hk)
theorem nb_scale {t b k : Int} (hb : b ≠ 0) (hk : k ≠ 0) : nb (t * k) (b * k) = nb t b := by
  have e : b * k = nb t b * (cmn t b * k) := by rw [← Int.mul_assoc, nb_mul]
  show (b * k).fdiv (cmn (t * k) (b * k)) = nb t b
  rw [cmn_scale hb hk, e]
  exact Int.mul_fdiv_cancel _ (Int.mul_ne_zero (cmn_ne hb) hk)
/-- pairs that are in proportion have one normal form -/
theorem nrm_of {t b t' b' k k' : Int} (hb : b ≠ 0) (hb' : b' ≠ 0) (hk : k ≠ 0) (hk' : k' ≠ 0) (e1 : t * k = t' * k') (e2 : b * k = b' * k') : nt t b = nt t' b' ∧ nb t b = nb t' b' := by
  refine ⟨?_, ?_⟩
  · rw [← nt_scale hb hk, e1, e2, nt_scale hb' hk']
  · rw [← nb_scale hb hk, e1, e2, nb_scale hb' hk']
theorem nrm_cross {t b t' b' : Int} (hb : b ≠ 0) (hb' : b' ≠ 0) (e : t * b' = t' * b) : nt t b = nt t' b' ∧ nb t b = nb t' b' :=
  nrm_of hb hb' hb' hb e (Int.mul_comm b b')
theorem nrm_id {t b : Int} (hb : b ≠ 0) : nt (nt t b) (nb t b) = nt t b ∧ nb (nt t b) (nb t b) = nb t b := by
  have p := nb_pos (t := t) hb
  have h := nrm_of (t := nt t b) (b := nb t b) (t' := t) (b' := b) (k := cmn t b) (k' := 1) (by omega) hb (cmn_ne hb) (by decide) (by rw [nt_mul, Int.mul_one]) (by rw [nb_mul, Int.mul_one])
  exact h
/-- equal normal forms are pairs in proportion -/
theorem cross_of {t b t' b' : Int} (e1 : nt t b = nt t' b') (e2 : nb t b = nb t' b') : t * b' = t' * b := by
  have a := nt_mul (t := t) (b := b); have c := nb_mul (t := t) (b := b)
  have a' := nt_mul (t := t') (b := b'); have c' := nb_mul (t := t') (b := b')
  rw [e1] at a
  rw [e2] at c
  generalize nt t' b' = x at a a'
  generalize nb t' b' = y at c c'
  generalize cmn t b = g at a c
  generalize cmn t' b' = g' at a' c'
  rw [← a, ← c', ← a', ← c]
  simp only [Int.mul_assoc, Int.mul_left_comm, Int.mul_comm]
theorem natAbs_le_mul {x y : Int} (hy : y ≠ 0) : x.natAbs ≤ (x * y).natAbs := by
  rw [Int.natAbs_mul]
  exact Nat.le_mul_of_pos_right _ (by omega)
theorem nt_le {t b : Int} (hb : b ≠ 0) : (nt t b).natAbs ≤ t.natAbs := by
  have h := natAbs_le_mul (x := nt t b) (cmn_ne (t := t) hb)
  rwa [nt_mul] at h
theorem nb_le {t b : Int} (hb : b ≠ 0) : (nb t b).natAbs ≤ b.natAbs := by
  have h := natAbs_le_mul (x := nb t b) (cmn_ne (t := t) hb)
  rwa [nb_mul] at h
theorem cmn_le {t b : Int} (hb : b ≠ 0) : (cmn t b).natAbs ≤ b.natAbs := by
  have p := nb_pos (t := t) hb
  have h := natAbs_le_mul (x := cmn t b) (y := nb t b) (by omega)
  rwa [Int.mul_comm, nb_mul] at h
theorem nt_one (t : Int) : nt t 1 = t ∧ nb t 1 = 1 := by
  have c : cmn t 1 = 1 := by
    unfold cmn
    rw [if_pos (by decide), show (1 : Int).natAbs = 1 from rfl, Nat.gcd_one_right]
    rfl
  exact ⟨by show t.fdiv (cmn t 1) = t; rw [c, Int.fdiv_one], by show (1 : Int).fdiv (cmn t 1) = 1; rw [c, Int.fdiv_one]⟩
end RatM
end

-- U7a
section
set_option Elab.async false
set_option linter.all false
set_option maxRecDepth 100000
namespace R1
open PySem L2 OwnOps RatM
/-! ### 1. the text by places -/
def top (i : Nat) : Stmt := PySem.Challenge.pw_wishedwires_k73_cost_of_deeds.main.body.getD i (.Pass ⟨0, 0, 0, 0⟩)
abbrev sWhole : Stmt := top 3
abbrev sRat (j : Nat) : Stmt := inClass (top 10) j
abbrev sAs : Stmt := top 11
/-! ### 2. what the written part holds -/
abbrev veT : List Value := [.type "ValueError", .type "Exception", .type "BaseException", .type "object"]
abbrev zdT : List Value := [.type "ZeroDivisionError", .type "ArithmeticError", .type "Exception", .type "BaseException", .type "object"]
structure Txt (K : PySem.W.Frag) (mg : Str → Option Value) (C CI fCI CZ fCZ : Addr) : Prop where
  cl : Cls K C
  nT : NoAttr K C "top"
  nB : NoAttr K C "bottom"
  gC : mg "Ratio" = some (.ref C)
  eI : PySem.Giv.ErrTxt K mg "InvalidNumber" "InvalidNumber.__init__" "ValueError.__new__" veT CI fCI
  eZ : PySem.Giv.ErrTxt K mg "NoDivision" "NoDivision.__init__" "ZeroDivisionError.__new__" zdT CZ fCZ
  ha : PySem.W.findIn K (.ref C) "__class__" = some (some (.builtin "object.__class__"))
  hn : PySem.W.specialIn K (.builtin "object.__class__") "__get__" = some (some (.builtin "getset_descriptor.__get__"))
  htk : PySem.W.takesIn K (.builtin "object.__class__") = some true
  hm : PySem.W.mroIn K C (.type "object") = some true
  kCC : PySem.W.kitOne K (.ref C) (.ref C) = some true
  kCi : PySem.W.kitOne K (.ref C) (.type "int") = some false
  kiC : PySem.W.kitOne K (.type "int") (.ref C) = some false
  kbC : PySem.W.kitOne K (.type "bool") (.ref C) = some false
  knC : PySem.W.kitOne K (.type "NoneType") (.ref C) = some false
  ksC : PySem.W.kitOne K (.type "str") (.ref C) = some false
  klC : PySem.W.kitOne K (.type "list") (.ref C) = some false
  ktC : PySem.W.kitOne K (.type "tuple") (.ref C) = some false
  isi : mg "isinstance" = none
  int : mg "int" = none
  bool : mg "bool" = none
  abs : mg "abs" = none
  str : mg "str" = none
  repr : mg "repr" = none
  gcd : mg "gcd" = some (.builtin "math.gcd")
/-- the values that are met where a number is wanted -/
inductive Kd (C : Addr) (H : Hp) : V → Prop
  | int (i : Int) : Kd C H (.int i)
  | bl (b : Bool) : Kd C H (.bl b)
  | non : Kd C H .non
  | str (x : Str) : Kd C H (.str x)
  | ins {a dx : Addr} {fs : List (Str × V)} (e : H a = some (.ins C dx fs)) : Kd C H (.ref a)
  | lst {a : Addr} {xs : List V} (e : H a = some (.lst xs)) : Kd C H (.ref a)
  | tup {a : Addr} {xs : List V} (e : H a = some (.tup xs)) : Kd C H (.ref a)
def isW : V → Bool
  | .int _ => true
  | _ => false
/-- an instance of Ratio with these two -/
def flds (t b : Int) : List (Str × V) := putF "bottom" (.int b) (putF "top" (.int t) [])
theorem tb : ¬ (("top" : Str) = "bottom") := by decide +kernel
theorem flds_eq (t b : Int) : flds t b = ([("top", V.int t), ("bottom", V.int b)] : List (Str × V)) := by
  show (if ("top" : Str) = "bottom" then [(("top" : Str), V.int b)] else (("top" : Str), V.int t) :: putF "bottom" (V.int b) []) = ([("top", V.int t), ("bottom", V.int b)] : List (Str × V))
  rw [if_neg tb]
  all_goals rfl
theorem flds_top (t b : Int) : (flds t b).lookup ("top" : Str) = some (.int t) := by
  unfold flds
  rw [lookup_putF, if_neg tb, lookup_putF, if_pos rfl]
theorem flds_bot (t b : Int) : (flds t b).lookup ("bottom" : Str) = some (.int b) := by
  unfold flds
  rw [lookup_putF, if_pos rfl]
theorem flds_no (t b : Int) {m : Str} (h1 : ¬ m = "bottom") (h2 : ¬ m = "top") : (flds t b).lookup m = none := by
  unfold flds
  rw [lookup_putF, if_neg h1, lookup_putF, if_neg h2]
  all_goals rfl
def Rat (C : Addr) (H : Hp) (p : Addr) (t b : Int) : Prop := ∃ dx, H p = some (.ins C dx (flds t b))
theorem Rat.same {C : Addr} {H H' : Hp} {p : Addr} {t b : Int} (r : Rat C H p t b) (e : Same H H') : Rat C H' p t b := let ⟨dx, h⟩ := r; ⟨dx, e _ _ h⟩
/-- what may be told of a number -/
def Sm (n : Nat) (x : Int) : Prop := x.natAbs < 2 ^ n

section
variable {P : Program} {w : World} {K : PySem.W.Frag} {mg : Str → Option Value} {base : Heap} {C CI fCI CZ fCZ : Addr}
/-! ### 3. is_whole -/
def spWhole (C : Addr) : Sp := fun vs H Q _ => ∃ v, vs = [v] ∧ Kd C H v ∧ Q (.bl (isW v)) H
theorem scW : FnScope ["value"] ["value"] (defScope sWhole) := ⟨rfl, rfl, rfl, by decide +kernel, rfl, by decide +kernel, by decide +kernel⟩
theorem ok_whole {f : Addr} {fd : FuncData} (F : Fun K "is_whole" "is_whole" sWhole f fd) (T : Txt K mg C CI fCI CZ fCZ) : FnOk P w K mg base (L2.CX P w) 1 f fd ["value"] (spWhole C) := by
  refine F.okX scW (fun vs H Q E h => ?_) (fun cdv A outer s H vs Q E hr h => ?_)
  · obtain ⟨v, rfl, _⟩ := h
    rfl
  · obtain ⟨v, rfl, kd, k⟩ := h
    refine ⟨_, pss_one (ps_ret (pe_and (pe_callB call_isi (by rfl) T.isi (by decide +kernel) (pa_cons (pv 0) (pa_cons (pe_bltn (v := .ty "int") (by rfl) T.int (by decide +kernel) rfl) pa_nil)))
      (pe_one (pe_not (pe_callB call_isi (by rfl) T.isi (by decide +kernel) (pa_cons (pv 0) (pa_cons (pe_bltn (v := .ty "bool") (by rfl) T.bool (by decide +kernel) rfl) pa_nil))))))), ?_⟩
    cases kd with
    | int i => exact ⟨_, rfl, _, _, _, _, _, rfl, .ty _, .base (.int i), kit_ty (by decide +kernel), _, rfl, iteT ⟨_, rfl, _, _, _, _, _, rfl, .ty _, .base (.int i), kit_ty (r := false) (by decide +kernel), _, rfl, k⟩⟩
    | bl b => exact ⟨_, rfl, _, _, _, _, _, rfl, .ty _, .base (.bl b), kit_ty (by decide +kernel), _, rfl, iteT ⟨_, rfl, _, _, _, _, _, rfl, .ty _, .base (.bl b), kit_ty (r := true) (by decide +kernel), _, rfl, k⟩⟩
    | non => exact ⟨_, rfl, _, _, _, _, _, rfl, .ty _, .base .non, kit_ty (by decide +kernel), _, rfl, iteF k⟩
    | str x => exact ⟨_, rfl, _, _, _, _, _, rfl, .ty _, .base (.str x), kit_ty (by decide +kernel), _, rfl, iteF k⟩
    | ins e => exact ⟨_, rfl, _, _, _, _, _, rfl, .ty _, .base (.ins e T.cl T.ha T.hn T.htk T.hm), T.kCi, _, rfl, iteF k⟩
    | lst e => exact ⟨_, rfl, _, _, _, _, _, rfl, .ty _, .base (.lst e), kit_ty (by decide +kernel), _, rfl, iteF k⟩
    | tup e => exact ⟨_, rfl, _, _, _, _, _, rfl, .ty _, .base (.tup e), kit_ty (by decide +kernel), _, rfl, iteF k⟩

theorem if_pos' {c : Bool} {A B : Prop} (hc : c = true) (h : A) : if c = true then A else B := by
  rw [if_pos hc]
  exact h
theorem if_neg' {c : Bool} {A B : Prop} (hc : c = false) (h : B) : if c = true then A else B := by
  rw [hc, if_neg Bool.false_ne_true]
  exact h
/-! ### 4. __init__ -/
def CDivG (_ j : Int) : Prop := j ≠ 0 ∧ j.natAbs.log2 < 9000
theorem op_fdivG {X : Cx} : OpR X (binaryOp .FloorDiv) (rI CDivG fun i j => .int (i.fdiv j)) := opI fun i j _ _ _ _ _ hc q =>
  PyProof.Rows.floordiv_int hc.1 q (.inl (PyProof.noPylong_of_log2 hc.2))
theorem wide_divG {i j : Int} {n : Nat} (h : j ≠ 0) (hb : j.natAbs < 2 ^ n) (h0 : 0 < n) (h9 : n ≤ 9000) : CDivG i j := ⟨h, Nat.lt_of_lt_of_le (PySem.Flt.log2_lt_of h0 hb) h9⟩
abbrev xd (v : V) : HO := .xd [(("given" : Str), v)]
def spInit (C CI CZ : Addr) : Sp := fun vs H Q E => ∃ (p dx : Addr) (vt vb : V), vs = [.ref p, vt, vb] ∧ H p = some (.ins C dx []) ∧ Kd C H vt ∧ (isW vt = true → Kd C H vb) ∧
  ((isW vt = false ∧ ∀ d, H d = none → E (.ref CI) (some d) (upd H d (xd vt))) ∨
   (isW vt = true ∧ isW vb = false ∧ ∀ d, H d = none → E (.ref CI) (some d) (upd H d (xd vb))) ∨
   (∃ t b, vt = .int t ∧ vb = .int b ∧ ((b = 0 ∧ ∀ d, H d = none → E (.ref CZ) (some d) (upd H d (xd vt))) ∨
     (b ≠ 0 ∧ Sm 5000 b ∧ Q .non (upd H p (.ins C dx (flds (nt t b) (nb t b))))))))
theorem scI : FnScope ["self", "top", "bottom", "common"] ["self", "top", "bottom"] (defScope (sRat 0)) := ⟨rfl, rfl, rfl, by decide +kernel, rfl, by decide +kernel, by decide +kernel⟩
theorem Kd.whole {C : Addr} {H : Hp} {v : V} (k : Kd C H v) (h : isW v = true) : ∃ i, v = .int i := by
  cases k <;> first | exact ⟨_, rfl⟩ | exact absurd h (by simp [isW])
abbrev InitD (K : PySem.W.Frag) (f : Addr) (fd : FuncData) := FunD K "__init__" "Ratio.__init__" (defArgs (sRat 0)) (defBody (sRat 0)) (defScope (sRat 0)) [.int 1] [] f fd
theorem ok_init {f fW : Addr} {fd fdW : FuncData} (F : InitD K f fd) (T : Txt K mg C CI fCI CZ fCZ)
    (GW : FnOk P w K mg base (L2.CX P w) 1 fW fdW ["value"] (spWhole C)) (mW : mg "is_whole" = some (.ref fW)) (kW : PySem.W.keepIn K (.ref fW) = true) (bW : L2.Binds K fdW ["value"] []) :
    FnOk P w K mg base (L2.CX P w) 3 f fd ["self", "top", "bottom"] (spInit C CI CZ) := by
  refine F.ok scI (fun vs H Q E h => ?_) (fun cdv A outer s H vs Q E hr h => ?_)
  · obtain ⟨p, dx, vt, vb, rfl, _⟩ := h
    rfl
  · obtain ⟨p, dx, vt, vb, rfl, hp, kt, kb, k⟩ := h
    have hr1 : Room 1 _ := hr.mono (by decide)
    refine ⟨_, pss_cons (ps_if (pt_not (pt_val (pe_call GW hr1 (by rfl) mW kW bW .nil passL (pa_cons (pv 1) pa_nil)))) (pss_one (ps_raiseGiv rfl PySem.Giv.ok_VE T.eI hr (takes_of rfl rfl rfl rfl) (pa_cons (pv 1) pa_nil) (by rfl))) pss_nil)
      (pss_cons (ps_if (pt_not (pt_val (pe_call GW hr1 (by rfl) mW kW bW .nil passL (pa_cons (pv 2) pa_nil)))) (pss_one (ps_raiseGiv rfl PySem.Giv.ok_VE T.eI hr (takes_of rfl rfl rfl rfl) (pa_cons (pv 2) pa_nil) (by rfl))) pss_nil)
      (pss_cons (ps_if (pt_cmpR op_eq (pv 2) pe_int (nomark _)) (pss_one (ps_raiseGiv rfl PySem.Giv.ok_ZD T.eZ hr (takes_of rfl rfl rfl rfl) (pa_cons (pv 1) pa_nil) (by rfl))) pss_nil)
      (pss_cons (ps_set (i := 3) scI.nd rfl (Or.inl rfl) (pe_ifExp (pt_cmpR op_gt (pv 2) pe_int (nomark _)) (pe_callBfun cr_gcd (by rfl) T.gcd (pa_cons (pv 1) (pa_cons (pv 2) pa_nil)))
        (pe_un un_neg (pe_callBfun cr_gcd (by rfl) T.gcd (pa_cons (pv 1) (pa_cons (pv 2) pa_nil))))))
      (pss_cons (ps_fld (pv 0) (pe_op op_fdivG (pv 1) (pv 3)) rfl)
      (pss_one (ps_fld (pv 0) (pe_op op_fdivG (pv 2) (pv 3)) rfl)))))), ?_⟩
    refine ⟨_, rfl, _, rfl, kt, _, rfl, ?_⟩
    rcases k with ⟨n1, k⟩ | ⟨y1, n2, k⟩ | ⟨t, b, rfl, rfl, k⟩
    · rw [n1]
      exact iteT ⟨_, rfl, _, rfl, k⟩
    · rw [y1]
      refine iteF ⟨_, rfl, _, rfl, kb y1, _, rfl, ?_⟩
      rw [n2]
      exact iteT ⟨_, rfl, _, rfl, k⟩
    · refine iteF ⟨_, rfl, _, rfl, kb rfl, _, rfl, iteF ⟨_, rfl, rfl, _, rfl, ?_⟩⟩
      rcases k with ⟨b0, k⟩ | ⟨b0, bs, k⟩
      · refine if_pos' (decide_eq_true (show V.int b = V.int 0 by rw [b0])) ?_
        exact ⟨_, rfl, _, rfl, k⟩
      · refine if_neg' (decide_eq_false (fun z => b0 (V.int.inj z))) ?_
        have cb : (cmn t b).natAbs < 2 ^ 5000 := Nat.lt_of_le_of_lt (cmn_le b0) bs
        have dv : ∀ x, CDivG x (cmn t b) := fun x => wide_divG (cmn_ne b0) cb (by decide) (by decide)
        have e0 : upd (upd H p (.ins C dx (putF "top" (.int (nt t b)) []))) p (.ins C dx (flds (nt t b) (nb t b))) = upd H p (.ins C dx (flds (nt t b) (nb t b))) := upd_upd
        rw [← e0] at k
        have nxt : ∀ c : Int, c = cmn t b → (tSeq (sFld K (tVar 0) (tOp (rI CDivG fun i j => V.int (i.fdiv j)) (tVar 1) (tVar 3)) "top") (sFld K (tVar 0) (tOp (rI CDivG fun i j => V.int (i.fdiv j)) (tVar 2) (tVar 3)) "bottom"))
            { nx := fun _ H' => Q .non H', rt := Q } [some (.ref p), some (.int t), some (.int b), some (.int c)] H := by
          rintro c rfl
          exact ⟨_, rfl, _, rfl, _, _, rfl, rfl, dv t, _, rfl, p, C, dx, _, rfl, hp, T.cl, T.nT, (by show 0 < 1000; decide), _, rfl, _, rfl, _, _, rfl, rfl, dv b, _, rfl, p, C, dx, _, rfl, upd_same, T.cl, T.nB, (by show 1 < 1000; decide), k⟩
        refine ⟨_, rfl, _, _, rfl, rfl, _, rfl, ?_⟩
        refine ite2 (fun hb => ?_) (fun hb => ?_)
        · exact ⟨_, rfl, _, rfl, _, _, rfl, nxt _ (if_pos (of_decide_eq_true hb)).symm⟩
        · exact ⟨_, rfl, _, rfl, _, _, rfl, _, rfl, nxt _ (if_neg (fun z => hb (decide_eq_true z))).symm⟩
end
end R1
end

-- U7b
section
set_option Elab.async false
set_option linter.all false
set_option maxRecDepth 100000
namespace R1
open PySem L2 OwnOps RatM
/-- the values that are no numbers -/
inductive Bd (H : Hp) : V → Prop
  | bl (b : Bool) : Bd H (.bl b)
  | non : Bd H .non
  | str (x : Str) : Bd H (.str x)
  | lst {a : Addr} {xs : List V} (e : H a = some (.lst xs)) : Bd H (.ref a)
  | tup {a : Addr} {xs : List V} (e : H a = some (.tup xs)) : Bd H (.ref a)
theorem Bd.kd {C : Addr} {H : Hp} {v : V} (h : Bd H v) : Kd C H v := by
  cases h with
  | bl b => exact .bl b
  | non => exact .non
  | str x => exact .str x
  | lst e => exact .lst e
  | tup e => exact .tup e
theorem Bd.w {H : Hp} {v : V} (h : Bd H v) : isW v = false := by
  cases h <;> rfl
theorem Kd.same {C : Addr} {H H' : Hp} {v : V} (h : Kd C H v) (e : Same H H') : Kd C H' v := by
  cases h with
  | int i => exact .int i
  | bl b => exact .bl b
  | non => exact .non
  | str x => exact .str x
  | ins q => exact .ins (e _ _ q)
  | lst q => exact .lst (e _ _ q)
  | tup q => exact .tup (e _ _ q)
theorem Bd.same {H H' : Hp} {v : V} (h : Bd H v) (e : Same H H') : Bd H' v := by
  cases h with
  | bl b => exact .bl b
  | non => exact .non
  | str x => exact .str x
  | lst q => exact .lst (e _ _ q)
  | tup q => exact .tup (e _ _ q)
/-- v stands for the ratio t / b -/
def Num (C : Addr) (H : Hp) (v : V) (t b : Int) : Prop := (∃ q, v = .ref q ∧ Rat C H q t b) ∨ (v = .int t ∧ b = 1)
theorem Num.same {C : Addr} {H H' : Hp} {v : V} {t b : Int} (h : Num C H v t b) (e : Same H H') : Num C H' v t b := by
  rcases h with ⟨q, rfl, r⟩ | ⟨rfl, rfl⟩
  · exact .inl ⟨q, rfl, r.same e⟩
  · exact .inr ⟨rfl, rfl⟩
theorem same_upd {H : Hp} {p : Addr} {o : HO} (h : H p = none) : Same H (upd H p o) := fun b u e => by
  rw [upd_ne (ne_of_none e h)]
  exact e
/-- a new instance in making -/
theorem same_new {H : Hp} {x dx C : Addr} (hx : H x = none) (hd : H dx = none) : Same H (upd (upd H dx (.own x)) x (.ins C dx [])) := fun b u e => by
  rw [upd_ne (ne_of_none e hx), upd_ne (ne_of_none e hd)]
  exact e
section
variable {C CI CZ : Addr} {H : Hp} {Q : VK} {E : XK}
theorem mk_good {t b : Int} (hb : b ≠ 0) (bs : Sm 5000 b) (k : ∀ p H', Same H H' → Rat C H' p (nt t b) (nb t b) → Q (.ref p) H') :
    ∀ x dx, H x = none → H dx = none → dx ≠ x → spInit C CI CZ [.ref x, .int t, .int b] (upd (upd H dx (.own x)) x (.ins C dx [])) (fun v H2 => v = .non ∧ Q (.ref x) H2) E := by
  intro x dx hx hd ne
  refine ⟨x, dx, .int t, .int b, rfl, upd_same, .int t, fun _ => .int b, .inr (.inr ⟨t, b, rfl, rfl, .inr ⟨hb, bs, rfl, ?_⟩⟩)⟩
  refine k x _ (fun c o e => ?_) ⟨dx, upd_same⟩
  rw [upd_ne (ne_of_none e hx)]
  exact same_new hx hd c o e
theorem mk_bad1 {v u : V} (kd : Bd H v ∨ ∃ a dx fs, v = .ref a ∧ H a = some (.ins C dx fs)) (k : ∀ d H', Same H H' → H' d = some (xd v) → E (.ref CI) (some d) H') :
    ∀ x dx, H x = none → H dx = none → dx ≠ x → spInit C CI CZ [.ref x, v, u] (upd (upd H dx (.own x)) x (.ins C dx [])) (fun v H2 => v = .non ∧ Q (.ref x) H2) E := by
  intro x dx hx hd ne
  have nw : isW v = false := by
    rcases kd with h | ⟨a, _, _, rfl, _⟩
    · exact h.w
    · rfl
  have kk : Kd C H v := by
    rcases kd with h | ⟨a, _, _, rfl, e⟩
    · exact h.kd
    · exact .ins e
  refine ⟨x, dx, v, u, rfl, upd_same, kk.same (same_new hx hd), fun y => absurd y (by rw [nw]; decide), .inl ⟨nw, fun d hdn => ?_⟩⟩
  refine k d _ (fun c o e => ?_) upd_same
  have e2 := same_new (C := C) hx hd c o e
  rw [upd_ne (ne_of_none e2 hdn)]
  exact e2
theorem mk_bad2 {t : Int} {v : V} (kd : Bd H v ∨ ∃ a dx fs, v = .ref a ∧ H a = some (.ins C dx fs)) (k : ∀ d H', Same H H' → H' d = some (xd v) → E (.ref CI) (some d) H') :
    ∀ x dx, H x = none → H dx = none → dx ≠ x → spInit C CI CZ [.ref x, .int t, v] (upd (upd H dx (.own x)) x (.ins C dx [])) (fun v H2 => v = .non ∧ Q (.ref x) H2) E := by
  intro x dx hx hd ne
  have nw : isW v = false := by
    rcases kd with h | ⟨a, _, _, rfl, _⟩
    · exact h.w
    · rfl
  have kk : Kd C H v := by
    rcases kd with h | ⟨a, _, _, rfl, e⟩
    · exact h.kd
    · exact .ins e
  refine ⟨x, dx, .int t, v, rfl, upd_same, .int t, fun _ => kk.same (same_new hx hd), .inr (.inl ⟨rfl, nw, fun d hdn => ?_⟩)⟩
  refine k d _ (fun c o e => ?_) upd_same
  have e2 := same_new (C := C) hx hd c o e
  rw [upd_ne (ne_of_none e2 hdn)]
  exact e2
theorem mk_zero {t : Int} (k : ∀ d H', Same H H' → H' d = some (xd (.int t)) → E (.ref CZ) (some d) H') :
    ∀ x dx, H x = none → H dx = none → dx ≠ x → spInit C CI CZ [.ref x, .int t, .int 0] (upd (upd H dx (.own x)) x (.ins C dx [])) (fun v H2 => v = .non ∧ Q (.ref x) H2) E := by
  intro x dx hx hd ne
  refine ⟨x, dx, .int t, .int 0, rfl, upd_same, .int t, fun _ => .int 0, .inr (.inr ⟨t, 0, rfl, rfl, .inl ⟨rfl, fun d hdn => ?_⟩⟩)⟩
  refine k d _ (fun c o e => ?_) upd_same
  have e2 := same_new (C := C) hx hd c o e
  rw [upd_ne (ne_of_none e2 hdn)]
  exact e2
end

/-- what is known of the class's making -/
structure Mak (P : Program) (w : World) (K : PySem.W.Frag) (mg : Str → Option Value) (base : Heap) (C CI CZ : Addr) : Prop where
  ex : ∃ (fI : Addr) (fd : FuncData) (ds : List Value), Mk K C fI ∧ FnOk P w K mg base (L2.CX P w) 3 fI fd ["self", "top", "bottom"] (spInit C CI CZ) ∧ L2.Binds K fd ["self", "top", "bottom"] [] ∧ Vals [.int 1] ds ∧ L2.Binds K fd ["self", "top", "bottom"] ds
/-- a def of the module, called by its name -/
structure Glb (P : Program) (w : World) (K : PySem.W.Frag) (mg : Str → Option Value) (base : Heap) (x : Str) (k : Nat) (ps : List Str) (sp : Sp) : Prop where
  ex : ∃ (f : Addr) (fd : FuncData), mg x = some (.ref f) ∧ PySem.W.keepIn K (.ref f) = true ∧ FnOk P w K mg base (L2.CX P w) k f fd ps sp ∧ L2.Binds K fd ps []

section
variable {P : Program} {w : World} {K : PySem.W.Frag} {mg : Str → Option Value} {base : Heap} {C CI fCI CZ fCZ : Addr}
/-! ### _as_ratio -/
def spAs (C CI : Addr) : Sp := fun vs H Q E => ∃ v, vs = [v] ∧ ((∃ t b, Num C H v t b ∧ ∀ r H', Same H H' → Rat C H' r t b → Q (.ref r) H') ∨
  (Bd H v ∧ ∀ d H', Same H H' → H' d = some (xd v) → E (.ref CI) (some d) H'))
theorem scAs : FnScope ["value"] ["value"] (defScope sAs) := ⟨rfl, rfl, rfl, by decide +kernel, rfl, by decide +kernel, by decide +kernel⟩
theorem ok_as {f : Addr} {fd : FuncData} (F : Fun K "_as_ratio" "_as_ratio" sAs f fd) (T : Txt K mg C CI fCI CZ fCZ) (M : Mak P w K mg base C CI CZ) : FnOk P w K mg base (L2.CX P w) 5 f fd ["value"] (spAs C CI) := by
  obtain ⟨fI, fdI, ds, mk, GI, b3, d2, b2⟩ := M.ex
  refine F.okX scAs (fun vs H Q E h => ?_) (fun cdv A outer s H vs Q E hr h => ?_)
  · obtain ⟨v, rfl, _⟩ := h
    rfl
  · obtain ⟨v, rfl, k⟩ := h
    refine ⟨_, pss_one (ps_ret (pe_ifExp (pt_val (pe_callB call_isi (by rfl) T.isi (by decide +kernel) (pa_cons (pv 0) (pa_cons (pe_glob (v := .ref C) (by rfl) T.gC rfl) pa_nil)))) (pv 0)
      (pe_make mk GI hr (by rfl) T.gC b2 d2 (passes_call (takes_of rfl rfl rfl rfl) (fun _ _ _ _ z => z)) (pa_cons (pv 0) pa_nil)))), ?_⟩
    rcases k with ⟨t, b, ⟨q, rfl, dx, e⟩ | ⟨rfl, rfl⟩, k⟩ | ⟨bd, k⟩
    · exact ⟨_, rfl, _, _, _, _, _, rfl, .own C, .base (.ins e T.cl T.ha T.hn T.htk T.hm), T.kCC, _, rfl, iteT ⟨_, rfl, k q H (Same.refl H) ⟨dx, e⟩⟩⟩
    · refine ⟨_, rfl, _, _, _, _, _, rfl, .own C, .base (.int t), T.kiC, _, rfl, iteF ⟨_, rfl, ?_⟩⟩
      refine mk_good (by decide) (show (1 : Int).natAbs < 2 ^ 5000 by decide +kernel) fun p H' sm r => k p H' sm ?_
      rw [(nt_one t).1, (nt_one t).2] at r
      exact r
    · have fin := mk_bad1 (Q := Q) (E := E) (C := C) (CI := CI) (CZ := CZ) (u := .int 1) (.inl bd) k
      cases bd with
      | bl b => exact ⟨_, rfl, _, _, _, _, _, rfl, .own C, .base (.bl b), T.kbC, _, rfl, iteF ⟨_, rfl, fin⟩⟩
      | non => exact ⟨_, rfl, _, _, _, _, _, rfl, .own C, .base .non, T.knC, _, rfl, iteF ⟨_, rfl, fin⟩⟩
      | str x => exact ⟨_, rfl, _, _, _, _, _, rfl, .own C, .base (.str x), T.ksC, _, rfl, iteF ⟨_, rfl, fin⟩⟩
      | lst e => exact ⟨_, rfl, _, _, _, _, _, rfl, .own C, .base (.lst e), T.klC, _, rfl, iteF ⟨_, rfl, fin⟩⟩
      | tup e => exact ⟨_, rfl, _, _, _, _, _, rfl, .own C, .base (.tup e), T.ktC, _, rfl, iteF ⟨_, rfl, fin⟩⟩
end
end R1
end

-- U7c
section
set_option Elab.async false
set_option linter.all false
set_option maxRecDepth 100000
set_option exponentiation.threshold 6000
namespace R1
open PySem L2 OwnOps RatM
/-- what a two-place operator asks of its two numbers -/
structure Small (t b t' b' : Int) : Prop where
  b0 : 0 < b
  b0' : 0 < b'
  t1 : Sm 1200 t
  b1 : Sm 1200 b
  t1' : Sm 1200 t'
  b1' : Sm 1200 b'
def ts (i : Int) : Str := Str.ofString (toString i)
def strT (t b : Int) : Str := if b = 1 then ts t else Str.empty ++ ts t ++ ("/" : Str) ++ ts b
def reprT (t b : Int) : Str := Str.empty ++ ("Ratio(" : Str) ++ ts t ++ (", " : Str) ++ ts b ++ (")" : Str)
def Pr (i : Int) : Prop := i.natAbs.log2 < 1920
theorem ts_len {i : Int} (h : Pr i) : (ts i).length ≤ 1921 := PyProof.Rows.int_text_len_1921 h
theorem app_len (a b : Str) : (a ++ b).length = a.length + b.length := Str.length_append a b
theorem len1 : ("/" : Str).length = 1 := by decide +kernel
theorem len2 : ("Ratio(" : Str).length = 6 := by decide +kernel
theorem len3 : (", " : Str).length = 2 := by decide +kernel
theorem len4 : (")" : Str).length = 1 := by decide +kernel
theorem len0 : Str.empty.length = 0 := by decide +kernel
theorem mulok {i j : Int} (a : Sm 1200 i) (b : Sm 1200 j) : CMulW i j := wide_mul a b (by decide) (by decide) (by decide)
theorem mul_sm {i j : Int} (a : Sm 1200 i) (b : Sm 1200 j) : Sm 5000 (i * j) := Nat.lt_of_lt_of_le (wide_lt a b) (Nat.pow_le_pow_right (by decide) (by decide))
def Raise1 (CI : Addr) (H : Hp) (v : V) (E : XK) : Prop := ∀ d H', Same H H' → H' d = some (xd v) → E (.ref CI) (some d) H'
/-- arithmetic: a new ratio, X / Y -/
def spAr (C CI : Addr) (X Y : Int → Int → Int → Int → Int) : Sp := fun vs H Q E => ∃ p v t b, vs = [.ref p, v] ∧ Rat C H p t b ∧ ((∃ t' b', Num C H v t' b' ∧ Small t b t' b' ∧
  ∀ r H', Same H H' → Rat C H' r (nt (X t b t' b') (Y t b t' b')) (nb (X t b t' b') (Y t b t' b')) → Q (.ref r) H') ∨ (Bd H v ∧ Raise1 CI H v E))
/-- a comparison -/
def spCm (C CI : Addr) (G : Int → Int → Int → Int → Bool) : Sp := fun vs H Q E => ∃ p v t b, vs = [.ref p, v] ∧ Rat C H p t b ∧ ((∃ t' b', Num C H v t' b' ∧ Small t b t' b' ∧
  ∀ H', Same H H' → Q (.bl (G t b t' b')) H') ∨ (Bd H v ∧ Raise1 CI H v E))
section
variable {P : Program} {w : World} {K : PySem.W.Frag} {mg : Str → Option Value} {base : Heap} {C CI fCI CZ fCZ : Addr}

theorem ok_add {f : Addr} {fd : FuncData} (F : Fun K "__add__" "Ratio.__add__" (sRat 3) f fd) (T : Txt K mg C CI fCI CZ fCZ) (M : Mak P w K mg base C CI CZ) (GG : Glb P w K mg base "_as_ratio" 5 ["value"] (spAs C CI)) :
    FnOk P w K mg base (L2.CX P w) 6 f fd ["self", "other"] (spAr C CI (fun t b t' b' => t * b' + t' * b) (fun t b t' b' => b * b')) := by
  obtain ⟨fI, fdI, ds, mk, GI, b3, d2, b2⟩ := M.ex
  obtain ⟨fA, fdA, mA, kA, GA, bA⟩ := GG.ex
  have sc : FnScope ["self", "other", "right"] ["self", "other"] (defScope (sRat 3)) := ⟨rfl, rfl, rfl, by decide +kernel, rfl, by decide +kernel, by decide +kernel⟩
  refine F.okX sc (fun vs H Q E h => ?_) (fun cdv A outer s H vs Q E hr h => ?_)
  · obtain ⟨p, v, t, b, rfl, _⟩ := h
    rfl
  · obtain ⟨p, v, t, b, rfl, ⟨dx, hp⟩, k⟩ := h
    refine ⟨_, pss_cons (ps_set (i := 2) sc.nd rfl (Or.inl rfl) (pe_call GA (hr.mono (by decide)) (by rfl) mA kA bA .nil (passes_call (takes_of rfl rfl rfl rfl) (fun _ _ _ _ z => z)) (pa_cons (pv 1) pa_nil)))
      (pss_one (ps_ret (pe_make mk GI (hr.mono (by decide)) (by rfl) T.gC b3 .nil passL (pa_cons (pe_op op_add (pe_op op_mulW (pe_fld (pv 0) rfl) (pe_fld (pv 2) rfl)) (pe_op op_mulW (pe_fld (pv 2) rfl) (pe_fld (pv 0) rfl))) (pa_cons (pe_op op_mulW (pe_fld (pv 0) rfl) (pe_fld (pv 2) rfl)) pa_nil))))), ?_⟩
    rcases k with ⟨t', b', nm, S, k⟩ | ⟨bd, k⟩
    · refine ⟨_, rfl, v, rfl, .inl ⟨t', b', nm, fun r H2 sm ⟨dr, hr2⟩ => ?_⟩⟩
      have hp2 := sm _ _ hp
      refine ⟨_, rfl, p, C, dx, _, _, rfl, hp2, T.cl, T.nT, flds_top _ _, _, rfl, r, C, dr, _, _, rfl, hr2, T.cl, T.nB, flds_bot _ _, _, _, rfl, rfl, mulok S.t1 S.b1', _, rfl, r, C, dr, _, _, rfl, hr2, T.cl, T.nT, flds_top _ _, _, rfl, p, C, dx, _, _, rfl, hp2, T.cl, T.nB, flds_bot _ _, _, _, rfl, rfl, mulok S.t1' S.b1, _, _, rfl, rfl, _, rfl, p, C, dx, _, _, rfl, hp2, T.cl, T.nB, flds_bot _ _, _, rfl, r, C, dr, _, _, rfl, hr2, T.cl, T.nB, flds_bot _ _, _, _, rfl, rfl, mulok S.b1 S.b1', ?_⟩
      exact mk_good (Int.ne_of_gt (Int.mul_pos S.b0 S.b0')) (mul_sm S.b1 S.b1') fun q H' sm' r' => k q H' (sm.trans sm') r'
    · exact ⟨_, rfl, v, rfl, .inr ⟨bd, k⟩⟩

theorem ok_mul {f : Addr} {fd : FuncData} (F : Fun K "__mul__" "Ratio.__mul__" (sRat 7) f fd) (T : Txt K mg C CI fCI CZ fCZ) (M : Mak P w K mg base C CI CZ) (GG : Glb P w K mg base "_as_ratio" 5 ["value"] (spAs C CI)) :
    FnOk P w K mg base (L2.CX P w) 6 f fd ["self", "other"] (spAr C CI (fun t b t' b' => t * t') (fun t b t' b' => b * b')) := by
  obtain ⟨fI, fdI, ds, mk, GI, b3, d2, b2⟩ := M.ex
  obtain ⟨fA, fdA, mA, kA, GA, bA⟩ := GG.ex
  have sc : FnScope ["self", "other", "right"] ["self", "other"] (defScope (sRat 7)) := ⟨rfl, rfl, rfl, by decide +kernel, rfl, by decide +kernel, by decide +kernel⟩
  refine F.okX sc (fun vs H Q E h => ?_) (fun cdv A outer s H vs Q E hr h => ?_)
  · obtain ⟨p, v, t, b, rfl, _⟩ := h
    rfl
  · obtain ⟨p, v, t, b, rfl, ⟨dx, hp⟩, k⟩ := h
    refine ⟨_, pss_cons (ps_set (i := 2) sc.nd rfl (Or.inl rfl) (pe_call GA (hr.mono (by decide)) (by rfl) mA kA bA .nil (passes_call (takes_of rfl rfl rfl rfl) (fun _ _ _ _ z => z)) (pa_cons (pv 1) pa_nil)))
      (pss_one (ps_ret (pe_make mk GI (hr.mono (by decide)) (by rfl) T.gC b3 .nil passL (pa_cons (pe_op op_mulW (pe_fld (pv 0) rfl) (pe_fld (pv 2) rfl)) (pa_cons (pe_op op_mulW (pe_fld (pv 0) rfl) (pe_fld (pv 2) rfl)) pa_nil))))), ?_⟩
    rcases k with ⟨t', b', nm, S, k⟩ | ⟨bd, k⟩
    · refine ⟨_, rfl, v, rfl, .inl ⟨t', b', nm, fun r H2 sm ⟨dr, hr2⟩ => ?_⟩⟩
      have hp2 := sm _ _ hp
      refine ⟨_, rfl, p, C, dx, _, _, rfl, hp2, T.cl, T.nT, flds_top _ _, _, rfl, r, C, dr, _, _, rfl, hr2, T.cl, T.nT, flds_top _ _, _, _, rfl, rfl, mulok S.t1 S.t1', _, rfl, p, C, dx, _, _, rfl, hp2, T.cl, T.nB, flds_bot _ _, _, rfl, r, C, dr, _, _, rfl, hr2, T.cl, T.nB, flds_bot _ _, _, _, rfl, rfl, mulok S.b1 S.b1', ?_⟩
      exact mk_good (Int.ne_of_gt (Int.mul_pos S.b0 S.b0')) (mul_sm S.b1 S.b1') fun q H' sm' r' => k q H' (sm.trans sm') r'
    · exact ⟨_, rfl, v, rfl, .inr ⟨bd, k⟩⟩

theorem ok_lt {f : Addr} {fd : FuncData} (F : Fun K "__lt__" "Ratio.__lt__" (sRat 13) f fd) (T : Txt K mg C CI fCI CZ fCZ) (GG : Glb P w K mg base "_as_ratio" 5 ["value"] (spAs C CI)) :
    FnOk P w K mg base (L2.CX P w) 6 f fd ["self", "other"] (spCm C CI (fun t b t' b' => decide (t * b' < t' * b))) := by
  obtain ⟨fA, fdA, mA, kA, GA, bA⟩ := GG.ex
  have sc : FnScope ["self", "other", "right"] ["self", "other"] (defScope (sRat 13)) := ⟨rfl, rfl, rfl, by decide +kernel, rfl, by decide +kernel, by decide +kernel⟩
  refine F.okX sc (fun vs H Q E h => ?_) (fun cdv A outer s H vs Q E hr h => ?_)
  · obtain ⟨p, v, t, b, rfl, _⟩ := h
    rfl
  · obtain ⟨p, v, t, b, rfl, ⟨dx, hp⟩, k⟩ := h
    refine ⟨_, pss_cons (ps_set (i := 2) sc.nd rfl (Or.inl rfl) (pe_call GA (hr.mono (by decide)) (by rfl) mA kA bA .nil (passes_call (takes_of rfl rfl rfl rfl) (fun _ _ _ _ z => z)) (pa_cons (pv 1) pa_nil)))
      (pss_one (ps_ret (pe_cmpR op_lt (pe_op op_mulW (pe_fld (pv 0) rfl) (pe_fld (pv 2) rfl)) (pe_op op_mulW (pe_fld (pv 2) rfl) (pe_fld (pv 0) rfl)) (nomark _)))), ?_⟩
    rcases k with ⟨t', b', nm, S, k⟩ | ⟨bd, k⟩
    · refine ⟨_, rfl, v, rfl, .inl ⟨t', b', nm, fun r H2 sm ⟨dr, hr2⟩ => ?_⟩⟩
      have hp2 := sm _ _ hp
      exact ⟨_, rfl, p, C, dx, _, _, rfl, hp2, T.cl, T.nT, flds_top _ _, _, rfl, r, C, dr, _, _, rfl, hr2, T.cl, T.nB, flds_bot _ _, _, _, rfl, rfl, mulok S.t1 S.b1', _, rfl, r, C, dr, _, _, rfl, hr2, T.cl, T.nT, flds_top _ _, _, rfl, p, C, dx, _, _, rfl, hp2, T.cl, T.nB, flds_bot _ _, _, _, rfl, rfl, mulok S.t1' S.b1, _, _, rfl, rfl, k H2 sm⟩
    · exact ⟨_, rfl, v, rfl, .inr ⟨bd, k⟩⟩

end
/-- a method of the class, by its name -/
structure Dun (P : Program) (w : World) (K : PySem.W.Frag) (mg : Str → Option Value) (base : Heap) (C : Addr) (nm : Str) (k : Nat) (ps : List Str) (sp : Sp) : Prop where
  ex : ∃ (f : Addr) (fd : FuncData), PySem.W.findIn K (.ref C) nm = some (some (.ref f)) ∧ PySem.W.isFn K (.ref f) = true ∧ PySem.W.keepIn K (.ref f) = true ∧ FnOk P w K mg base (L2.CX P w) k f fd ps sp ∧ L2.Binds K fd ps []
/-- what is known of the class beside the built-in types -/
structure Tys (K : PySem.W.Frag) (C : Addr) : Prop where
  sf : PySem.W.selfFirst K C = true
  nCC : PySem.W.notFirst K C (.ref C) = true
  nI : PySem.W.notFirst K C (.type "int") = true
  nB : PySem.W.notFirst K C (.type "bool") = true
  nN : PySem.W.notFirst K C (.type "NoneType") = true
  nS : PySem.W.notFirst K C (.type "str") = true
  nL : PySem.W.notFirst K C (.type "list") = true
  nT : PySem.W.notFirst K C (.type "tuple") = true
  sI : PySem.W.subIn K (.ref C) (.type "int") = some false
def RAny (C : Addr) : V → Hp → Prop := fun y H => RIns C y H ∨ RInt y H ∨ Bd H y
theorem looks_any {X : Cx} {C : Addr} (Y : Tys X.K C) {y : V} {H : Hp} {u : Value} {pins : List (Addr × Obj)} {σ : L2.St} {s : Shared} (I : L2.Inv X pins σ H s) (h : RAny C y H) (ry : RelV y u) :
    ∃ tb, PySem.W.Looks (model X.prog X.w) s.heap (typeOf u) tb ∧ PySem.W.notFirst X.K C tb = true := by
  rcases h with h | h | h
  · exact looks_ins Y.nCC I h ry
  · exact looks_int Y.nI I h ry
  · cases h with
    | bl b => cases (show u = Value.bool b from ry); exact ⟨_, PySem.W.Looks.of_pure rfl, Y.nB⟩
    | non => cases (show u = Value.none from ry); exact ⟨_, PySem.W.Looks.of_pure rfl, Y.nN⟩
    | str x => obtain ⟨t, rfl⟩ := (show ∃ t, u = Value.str x t from ry); exact ⟨_, PySem.W.Looks.of_pure rfl, Y.nS⟩
    | lst e =>
      cases (show u = Value.ref _ from ry)
      obtain ⟨_, _, n, _, h1⟩ := (show ObjOk X.prog X.w H s.heap _ (.lst _) from I.hok _ _ e)
      exact ⟨.type "list", fun A Q E s' k q => wpAny_typeOf_ref (k _ _ h1) q, Y.nL⟩
    | tup e =>
      cases (show u = Value.ref _ from ry)
      obtain ⟨_, _, _, o, h1, h2, _⟩ := (show ObjOk X.prog X.w H s.heap _ (.tup _) from I.hok _ _ e)
      exact ⟨.type "tuple", fun A Q E s' k q => wpAny_typeOf_ref (k _ _ h1) (by rw [h2]; exact q), Y.nT⟩

section
variable {P : Program} {w : World} {K : PySem.W.Frag} {mg : Str → Option Value} {base : Heap} {C CI fCI CZ fCZ : Addr}
def spEq (C : Addr) (neg : Bool) : Sp := fun vs H Q _ => ∃ p v t b, vs = [.ref p, v] ∧ Rat C H p t b ∧ ((∃ q t' b', v = .ref q ∧ Rat C H q t' b' ∧ Q (.bl (neg != (decide (t = t') && decide (b = b')))) H) ∨
  (∃ i, v = .int i ∧ Q (.bl (neg != (decide (b = 1) && decide (t = i)))) H) ∨ (Bd H v ∧ Q (.bl neg) H))
theorem dI (i j : Int) : decide (V.int i = V.int j) = decide (i = j) := by
  by_cases h : i = j
  · rw [decide_eq_true h, decide_eq_true (by rw [h])]
  · rw [decide_eq_false h, decide_eq_false (fun z => h (V.int.inj z))]
theorem ok_eq {f : Addr} {fd : FuncData} (F : Fun K "__eq__" "Ratio.__eq__" (sRat 11) f fd) (T : Txt K mg C CI fCI CZ fCZ) (GW : Glb P w K mg base "is_whole" 1 ["value"] (spWhole C)) :
    FnOk P w K mg base (L2.CX P w) 2 f fd ["self", "other"] (spEq C false) := by
  obtain ⟨fW, fdW, mW, kW, GW, bW⟩ := GW.ex
  have sc : FnScope ["self", "other"] ["self", "other"] (defScope (sRat 11)) := ⟨rfl, rfl, rfl, by decide +kernel, rfl, by decide +kernel, by decide +kernel⟩
  refine F.okX sc (fun vs H Q E h => ?_) (fun cdv A outer s H vs Q E hr h => ?_)
  · obtain ⟨p, v, t, b, rfl, _⟩ := h
    rfl
  · obtain ⟨p, v, t, b, rfl, ⟨dx, hp⟩, k⟩ := h
    refine ⟨_, pss_cons (ps_if (pt_val (pe_callB call_isi (by rfl) T.isi (by decide +kernel) (pa_cons (pv 1) (pa_cons (pe_glob (v := .ref C) (by rfl) T.gC rfl) pa_nil))))
        (pss_one (ps_ret (pe_and (pe_cmpR op_eq (pe_fld (pv 0) rfl) (pe_fld (pv 1) rfl) (nomark _)) (pe_one (pe_cmpR op_eq (pe_fld (pv 0) rfl) (pe_fld (pv 1) rfl) (nomark _)))))) pss_nil)
      (pss_one (ps_ret (pe_and (pe_call GW hr (by rfl) mW kW bW .nil passL (pa_cons (pv 1) pa_nil)) (pe_and (pe_cmpR op_eq (pe_fld (pv 0) rfl) pe_int (nomark _)) (pe_one (pe_cmpR op_eq (pe_fld (pv 0) rfl) (pv 1) (nomark _))))))), ?_⟩
    rcases k with ⟨q, t', b', rfl, ⟨dq, hq⟩, k⟩ | ⟨i, rfl, k⟩ | ⟨bd, k⟩
    · refine ⟨_, rfl, _, _, _, _, _, rfl, .own C, .base (.ins hq T.cl T.ha T.hn T.htk T.hm), T.kCC, _, rfl, iteT ?_⟩
      refine ⟨_, rfl, p, C, dx, _, _, rfl, hp, T.cl, T.nT, flds_top _ _, _, rfl, q, C, dq, _, _, rfl, hq, T.cl, T.nT, flds_top _ _, rfl, _, rfl, ?_⟩
      rw [dI]
      by_cases h : t = t'
      · rw [decide_eq_true h]
        refine iteT ⟨_, rfl, p, C, dx, _, _, rfl, hp, T.cl, T.nB, flds_bot _ _, _, rfl, q, C, dq, _, _, rfl, hq, T.cl, T.nB, flds_bot _ _, rfl, ?_⟩
        rw [dI]
        rw [decide_eq_true h] at k
        simpa using k
      · rw [decide_eq_false h]
        rw [decide_eq_false h] at k
        exact iteF (by simpa using k)
    · refine ⟨_, rfl, _, _, _, _, _, rfl, .own C, .base (.int i), T.kiC, _, rfl, iteF ?_⟩
      refine ⟨_, rfl, _, rfl, .int i, _, rfl, iteT ⟨_, rfl, p, C, dx, _, _, rfl, hp, T.cl, T.nB, flds_bot _ _, rfl, _, rfl, ?_⟩⟩
      rw [dI]
      by_cases h : b = 1
      · rw [decide_eq_true h]
        refine iteT ⟨_, rfl, p, C, dx, _, _, rfl, hp, T.cl, T.nT, flds_top _ _, _, rfl, rfl, ?_⟩
        rw [dI]
        rw [decide_eq_true h] at k
        simpa using k
      · rw [decide_eq_false h]
        rw [decide_eq_false h] at k
        exact iteF (by simpa using k)
    · cases bd with
      | bl b => exact ⟨_, rfl, _, _, _, _, _, rfl, .own C, .base (.bl b), T.kbC, _, rfl, iteF ⟨_, rfl, _, rfl, .bl b, _, rfl, iteF k⟩⟩
      | non => exact ⟨_, rfl, _, _, _, _, _, rfl, .own C, .base .non, T.knC, _, rfl, iteF ⟨_, rfl, _, rfl, .non, _, rfl, iteF k⟩⟩
      | str x => exact ⟨_, rfl, _, _, _, _, _, rfl, .own C, .base (.str x), T.ksC, _, rfl, iteF ⟨_, rfl, _, rfl, .str x, _, rfl, iteF k⟩⟩
      | lst e => exact ⟨_, rfl, _, _, _, _, _, rfl, .own C, .base (.lst e), T.klC, _, rfl, iteF ⟨_, rfl, _, rfl, .lst e, _, rfl, iteF k⟩⟩
      | tup e => exact ⟨_, rfl, _, _, _, _, _, rfl, .own C, .base (.tup e), T.ktC, _, rfl, iteF ⟨_, rfl, _, rfl, .tup e, _, rfl, iteF k⟩⟩
theorem ok_ne {f : Addr} {fd : FuncData} (F : Fun K "__ne__" "Ratio.__ne__" (sRat 12) f fd) (Z : Tys K C) (D : Dun P w K mg base C (cmpInfo .Eq).2.1 2 ["self", "other"] (spEq C false)) :
    FnOk P w K mg base (L2.CX P w) 3 f fd ["self", "other"] (spEq C true) := by
  obtain ⟨g, gd, ga, gf, _, GD, gb⟩ := D.ex
  have sc : FnScope ["self", "other"] ["self", "other"] (defScope (sRat 12)) := ⟨rfl, rfl, rfl, by decide +kernel, rfl, by decide +kernel, by decide +kernel⟩
  refine F.okX sc (fun vs H Q E h => ?_) (fun cdv A outer s H vs Q E hr h => ?_)
  · obtain ⟨p, v, t, b, rfl, _⟩ := h
    rfl
  · obtain ⟨p, v, t, b, rfl, ⟨dx, hp⟩, k⟩ := h
    refine ⟨_, pss_one (ps_ret (pe_not (pe_cmpR (op := .Eq) (cmp_own (C := C) (E := E0) (R := RAny C) (fun _ _ => rfl) ga gf GD hr gb passL (looks_any Z)) (pv 0) (pv 1) (nomark _)))), ?_⟩
    rcases k with ⟨q, t', b', rfl, ⟨dq, hq⟩, k⟩ | ⟨i, rfl, k⟩ | ⟨bd, k⟩
    · exact ⟨_, rfl, _, rfl, p, dx, _, rfl, hp, .inl ⟨q, dq, _, rfl, hq⟩, p, .ref q, t, b, rfl, ⟨dx, hp⟩, .inl ⟨q, t', b', rfl, ⟨dq, hq⟩, _, rfl, by cases hx : (decide (t = t') && decide (b = b')) <;> rw [hx] at k <;> exact k⟩⟩
    · exact ⟨_, rfl, _, rfl, p, dx, _, rfl, hp, .inr (.inl ⟨i, rfl⟩), p, .int i, t, b, rfl, ⟨dx, hp⟩, .inr (.inl ⟨i, rfl, _, rfl, by cases hx : (decide (b = 1) && decide (t = i)) <;> rw [hx] at k <;> exact k⟩)⟩
    · exact ⟨_, rfl, _, rfl, p, dx, _, rfl, hp, .inr (.inr bd), p, v, t, b, rfl, ⟨dx, hp⟩, .inr (.inr ⟨bd, _, rfl, k⟩)⟩
def spStr (C : Addr) (X : Int → Int → Str) : Sp := fun vs H Q _ => ∃ p t b, vs = [.ref p] ∧ Rat C H p t b ∧ Pr t ∧ Pr b ∧ Q (.str (X t b)) H
theorem ok_repr {f : Addr} {fd : FuncData} (F : Fun K "__repr__" "Ratio.__repr__" (sRat 19) f fd) (T : Txt K mg C CI fCI CZ fCZ) :
    FnOk P w K mg base (L2.CX P w) 1 f fd ["self"] (spStr C reprT) := by
  have sc : FnScope ["self"] ["self"] (defScope (sRat 19)) := ⟨rfl, rfl, rfl, by decide +kernel, rfl, by decide +kernel, by decide +kernel⟩
  refine F.okX sc (fun vs H Q E h => ?_) (fun cdv A outer s H vs Q E hr h => ?_)
  · obtain ⟨p, t, b, rfl, _⟩ := h
    rfl
  · obtain ⟨p, t, b, rfl, ⟨dx, hp⟩, pt, pb, k⟩ := h
    have lt := ts_len pt
    have lb := ts_len pb
    have ez := sizeLine_eq
    refine ⟨_, pss_one (ps_ret (pe_joined (.cons pe_str (.cons (pe_fmt (pe_fld (pv 0) rfl)) (.cons pe_str (.cons (pe_fmt (pe_fld (pv 0) rfl)) (.cons pe_str .nil))))))), ?_⟩
    refine ⟨("Ratio(" : Str), rfl, ?_, _, rfl, p, C, dx, _, _, rfl, hp, T.cl, T.nT, flds_top _ _, .inr ⟨_, rfl, pt, ts t, rfl, ?_, (", " : Str), rfl, ?_, _, rfl, p, C, dx, _, _, rfl, hp, T.cl, T.nB, flds_bot _ _, .inr ⟨_, rfl, pb, ts b, rfl, ?_, (")" : Str), rfl, ?_, k⟩⟩⟩
    · rw [app_len, len0, len2]; omega
    · rw [app_len, app_len, len0, len2]; omega
    · rw [app_len, app_len, app_len, len0, len2, len3]; omega
    · rw [app_len, app_len, app_len, app_len, len0, len2, len3]; omega
    · rw [app_len, app_len, app_len, app_len, app_len, len0, len2, len3, len4]; omega
end
end R1
end

-- U7g
section
set_option Elab.async false
set_option linter.all false
set_option maxRecDepth 100000
set_option exponentiation.threshold 10000
namespace R1
open PySem L2 OwnOps RatM
def SameX (l : Addr) (H H' : Hp) : Prop := ∀ b u, b ≠ l → H b = some u → H' b = some u
theorem SameX.refl (l : Addr) (H : Hp) : SameX l H H := fun _ _ _ e => e
theorem SameX.trans {l : Addr} {H H1 H2 : Hp} (a : SameX l H H1) (b : SameX l H1 H2) : SameX l H H2 := fun c o n h => b c o n (a c o n h)
theorem SameX.of {l : Addr} {H H' : Hp} (a : Same H H') : SameX l H H' := fun c o _ h => a c o h
theorem SameX.upd {l : Addr} {H : Hp} {o : HO} : SameX l H (upd H l o) := fun c u n h => by
  rw [upd_ne n]
  exact h
theorem SameX.put {l a : Addr} {H H1 : Hp} {o : HO} (s : SameX l H H1) (h : H1 a = none) : SameX l H (L2.upd H1 a o) := fun c u n e => by
  rw [upd_ne (ne_of_none (s c u n e) h)]
  exact s c u n e
end R1
end

-- OwnOps5
section
set_option Elab.async false
set_option linter.all false
set_option maxRecDepth 100000
namespace OwnOps
open PySem L2

section
variable {prog : Program} {w : World} {A : Around} {E : Value → Shared → Prop} {s : Shared} {K : PySem.W.Frag} {x C g : Addr} {ox : Obj} {od : Option Obj} {u : Value} {T : String}
/-- x op u by x's own def, u of a built-in type that is told by a look -/
theorem left_K {op : Operator} {fo ro rc : Option Value} {Q : Value → Shared → Prop} (Y : K.In s.heap) (I : PySem.W.InstAt s.heap x ox C od)
    (ht : PySem.W.Looks (model prog w) s.heap (typeOf u) (.type T)) (hc : PySem.W.selfFirst K C = true)
    (hs : PySem.W.findIn K (.ref C) (PySem.dunder op.info.2) = some (some (.ref g))) (hg : PySem.W.isFn K (.ref g) = true)
    (hrc : PySem.W.findIn K (.ref C) (PySem.dunderR op.info.2) = some rc) (hp : rc = none ∨ ∃ q : Addr, rc = some (.ref q))
    (hfo : PySem.W.findIn K (.type T) (PySem.dunder op.info.2) = some fo) (hro : PySem.W.findIn K (.type T) (PySem.dunderR op.info.2) = some ro) (hsub : PySem.W.subIn K (.type T) (.ref C) = some false)
    (h : wpAny (model prog w) A (call (.ref g) [.ref x, u]) (PySem.W.CmpBack Q) E s) : wpAny (model prog w) A (binaryOp op (.ref x) u) Q E s := by
  obtain ⟨dat, tl, hcd, hmro⟩ := PySem.W.ksp_first hc
  rcases hi : op.info with ⟨sy, nam⟩
  rw [hi] at hs hrc hfo hro
  dsimp only at hs hrc hfo hro
  have one := PySem.W.ksp_try Y I hs hg h
  obtain ⟨hh, gg, d, tt, os⟩ := s
  have M1 : PySem.W.Looks (model prog w) hh (typeOf (.ref x)) (.ref C) := I.type
  have M3 : PySem.W.Looks (model prog w) hh (fillsNumberSlot (.ref C) nam) true := PySem.W.fills_K Y hcd hmro hs
  have M4 : PySem.W.Looks (model prog w) hh (fillsNumberSlot (.type T) nam) ((fo.isSome && !isSeqSlot fo) || (ro.isSome && !isSeqSlot ro)) := PySem.W.ksp_fillsT Y hfo hro
  have M5 : PySem.W.Looks (model prog w) hh (isSubtype (.type T) (.ref C)) false := PySem.W.looks_subIn Y hsub
  have M6 : PySem.W.Looks (model prog w) hh (numberSlotInPython (.ref C) nam) true := PySem.W.ksp_inPy Y hs hrc hp
  have M7 : PySem.W.Looks (model prog w) hh (numberSlotInPython (.type T) nam) false := PySem.W.Looks.of_pure rfl
  have M8 : PySem.W.Looks (model prog w) hh (typeLookup (.type T) (PySem.dunderR nam)) ro := PySem.W.looks_findIn Y hro
  generalize ((fo.isSome && !isSeqSlot fo) || (ro.isSome && !isSeqSlot ro)) = fills at M4
  have differ : (Value.ref C == Value.type T) = false := Bool.eq_false_iff.mpr fun q => by cases beq_iff_eq.mp q
  simp only [binaryOp, hi]
  refine wpAny_holding (wpAny_bind ?_)
  unfold binaryOp1
  refine wpAny_bind (M1.at (wpAny_bind (ht.at (wpAny_bind (M3.at ?_)))))
  simp only [differ, Bool.false_eq_true, if_false]
  cases fills
  all_goals
    ksp_lk
    refine wpAny_mono one (fun r s' back => ?_) fun _ _ e => e
    obtain ⟨v, rfl, hq⟩ := back
    ksp_lk
    exact hq
end
end OwnOps
end

-- OwnNe
section
set_option Elab.async false
set_option linter.all false
set_option maxRecDepth 100000
/-! != of two lists that are equal item by item, by an own == too. -/
namespace OwnNe
open PySem PySem.SeqAt GQ
open AutoSeq1 (wpAny_loadPart')
open MeetsSeq MeetsSeq2 MeetsSeq3 SeqRoads2
section
variable {prog : Program} {w : World} {A : Around} {R : Result → Shared → Prop} {E : Value → Shared → Prop}
/-- the loop over the items, from i on: all are equal, so the answer is no -/
theorem loopN (l b : Addr) (N : Nat) (I : Nat → Shared → Prop) (hl : ListI prog w A (fun e s' => R (.error e) s') l b N I) (fin : ∀ s, I N s → R (.ok (.ret (.bool false))) s) :
    ∀ (k i : Nat), N - i = k → i ≤ N → ∀ s, I i s → wpAny (model prog w) A.in1 (Builtin.«list.__eq__.loop» ⟨[.ref l, .ref b, rawInt i, rawInt 3], []⟩) (FinOf prog w A R) (fun e s' => R (.error e) s') s
  | 0, i, hk, hi, s, h => by
    obtain ⟨xs, ys, n, n2, hl1, hb1, z1, z2, _⟩ := hl _ _ h
    have last : i = N := by omega
    have done : R (.ok (.ret (.bool false))) s := fin s (last ▸ h)
    obtain ⟨hp, g, d, tk, os⟩ := s
    wp_walk using wpAny_loadPart' hl1, wpAny_loadPart' hb1
    have no1 : xs[((i : Nat) : Int).toNat]? = none := by simp; omega
    have no2 : ys[((i : Nat) : Int).toNat]? = none := by simp; omega
    rw [no1, no2]
    wp_walk using wpAny_loadPart' hl1, wpAny_loadPart' hb1
    show R (.ok (.ret (.bool (xs.size != ys.size)))) _
    rw [z1, z2]
    simpa using done
  | k + 1, i, hk, hi, s, h => by
    obtain ⟨xs, ys, n, n2, hl1, hb1, z1, z2, one⟩ := hl _ _ h
    have lt1 : i < xs.size := by omega
    have lt2 : i < ys.size := by omega
    have here := one lt1 lt2
    obtain ⟨hp, g, d, tk, os⟩ := s
    wp_walk using wpAny_loadPart' hl1, wpAny_loadPart' hb1
    have is1 : xs[((i : Nat) : Int).toNat]? = some xs[i] := by simp [lt1]
    have is2 : ys[((i : Nat) : Int).toNat]? = some ys[i] := by simp [lt2]
    have up : ((i : Int) + 1) = ((i + 1 : Nat) : Int) := by omega
    rw [is1, is2]
    refine wpAny_bind (wpAny_mono here (fun r s2 q => ?_) fun _ _ x => x)
    obtain ⟨hr, q⟩ := q
    subst hr
    have rest := loopN l b N I hl fin k (i + 1) (by omega) (by omega) s2 q
    obtain ⟨hp2, g2, d2, tk2, os2⟩ := s2
    wp_walk
    rw [up]
    exact ⟨plainId_quiet plain_eq_loop _, codeAny_builtin entry_eq_loop (by rw [Around.under_plainId plain_eq_loop _] <;> exact rest)⟩
theorem listN (l b : Addr) (N : Nat) (I : Nat → Shared → Prop) (hl : ListI prog w A (fun e s' => R (.error e) s') l b N I) (fin : ∀ s, I N s → R (.ok (.ret (.bool false))) s) {s : Shared} (h : I 0 s) :
    wpAny (model prog w) A.in1 (Builtin.«list.__ne__» ⟨[.ref l, .ref b], []⟩) (FinOf prog w A R) (fun e s' => R (.error e) s') s := by
  obtain ⟨xs, ys, n, n2, hl1, hb1, z1, z2, _⟩ := hl _ _ h
  have rest := loopN (A := A) (R := R) l b N I hl fin _ 0 rfl (Nat.zero_le _) s h
  obtain ⟨hp, g, d, tk, os⟩ := s
  have sub := AutoSeq1.sub_list_list
  have same : ¬ (xs.size != ys.size) = true := by simp [z1, z2]
  wp_walk using wpAny_loadPart' hl1, wpAny_loadPart' hb1
  exact ⟨plainId_quiet plain_eq_loop _, codeAny_builtin entry_eq_loop (by rw [Around.under_plainId plain_eq_loop _] <;> exact rest)⟩
theorem rcN {l b : Addr} {N : Nat} {Q : Value → Shared → Prop} {s : Shared} (hu : A.units < cLine) (I : Nat → Shared → Prop) (hl : ListI prog w A E l b N I)
    (fin : ∀ s, I N s → Q (.bool false) s) (h : I 0 s) : wpAny (model prog w) A (richCompare .NotEq (.ref l) (.ref b)) Q E s := by
  obtain ⟨xs, ys, n, n2, hl1, hb1, _, _, _⟩ := hl _ _ h
  refine wpAny_richCompare_same_room (op := .NotEq) ⟨_, hl1, rfl⟩ ⟨_, hb1, rfl⟩ F.slot_list_ne (call_here F.slot_list_ne ⟨_, hl1, rfl⟩ F.entry_list_ne (F.args_list_ne_2 _ _) ?_) hu
  exact listN (R := wants (fun v s' => v ≠ .notImplemented ∧ Q v s') E) l b N I hl (fun s' q => ⟨(fun x => nomatch x), fin s' q⟩) h
end
open L2
/-- x != y of two lists, item by item equal -/
def rNeG (D : Eqv) : R2 := fun x y H Q => DList D x y H ∧ ∀ H', Ext H H' → Q (.bl false) H'
theorem op_neG {X : Cx} {n : Nat} {D : Eqv} (hD : Mon D) (h : EqG X n D) (hr : Room (n + 1) X.A) : OpR X (compareOp .NotEq) (rNeG D) := by
  intro pins s σ H x y v u Q I rx ry hq
  obtain ⟨⟨a, b, xs, ys, rfl, rfl, ha, hb, p⟩, q⟩ := hq
  cases rx
  cases ry
  have sb : Sub X (n + 1) X.A := ⟨hr, rfl⟩
  show wpAny (model X.prog X.w) X.A (richCompare .NotEq (.ref a) (.ref b)) (EP X pins σ Q) X.xe s
  refine rcN (N := xs.length) hr.units0 (fun _ s' => LoopI X pins σ H s') (fun i s' z => ?_) (fun s' ⟨H', I', e⟩ => ⟨.bl false, H', I', rfl, q H' e⟩) ⟨H, I, Ext.rfl'⟩
  obtain ⟨H1, I1, e1⟩ := id z
  obtain ⟨zz, its, k, r, e⟩ := I1.hok a _ (e1 _ _ ha)
  obtain ⟨zz2, its2, k2, r2, e2⟩ := I1.hok b _ (e1 _ _ hb)
  refine ⟨its.toArray, its2.toArray, k, k2, e, e2, by rw [List.size_toArray, ← r.length], by rw [List.size_toArray, ← r2.length, ← p.1], fun h1 h2 => ?_⟩
  exact turnG hD h sb p r r2 i h1 h2 s' z
/-- the same thing -/
def DSame : Eqv := fun x y _ => x = y ∧ ∃ a, x = .ref a
theorem mon_same : Mon DSame := fun _ _ _ _ _ d => d
theorem eqG_same {X : Cx} {n : Nat} : EqG X n DSame := by
  intro A pins s σ H x y u v sb I rx ry d
  obtain ⟨rfl, a, rfl⟩ := d
  cases rx
  cases ry
  exact SeqAt.EqAt.same (A := A) (s := s) (.ref a) X.prog X.w X.xe _ ⟨rfl, H, I, Ext.rfl'⟩
end OwnNe
end

-- OwnNe2
section
set_option Elab.async false
set_option linter.all false
set_option maxRecDepth 100000
namespace OwnNe
open PySem L2
def rNeEmp : R2 := fun x y H Q => ∃ l b xs, x = .ref l ∧ y = .ref b ∧ H l = some (.lst xs) ∧ H b = some (.lst []) ∧ Q (.bl (!xs.isEmpty)) H
/-- a list != [] -/
theorem op_neEmp {X : Cx} (hu : X.A.units < cLine) : OpR X (compareOp .NotEq) rNeEmp := by
  intro pins s σ H x y v u Q I rx ry h
  obtain ⟨l, b, xs, rfl, rfl, hl, hb, q⟩ := h
  cases rx
  cases ry
  obtain ⟨_, its, n, r, _, e⟩ := I.lstM hl
  obtain ⟨_, its2, n2, r2, _, e2⟩ := I.lstM hb
  cases r2
  have L1 : s.heap.IsList l its.toArray := ⟨_, e, rfl, n, rfl⟩
  have L2' : s.heap.IsList b ([] : List Value).toArray := ⟨_, e2, rfl, n2, rfl⟩
  show wpAny (model X.prog X.w) X.A (richCompare .NotEq (.ref l) (.ref b)) (EP X pins σ Q) X.xe s
  cases r with
  | nil => exact PySem.SeqAt.RcNeAt.lists (e := fun _ => true) L1 L2' rfl hu (fun j h1 _ => absurd h1 (by simp)) X.prog X.w X.xe _ ⟨.bl false, H, I, rfl, q⟩
  | cons a r => exact PySem.SeqAt.RcNeAt.lists_lengths L1 L2' (by simp) hu X.prog X.w X.xe _ ⟨.bl true, H, I, rfl, q⟩
end OwnNe
end

-- OwnNe3
section
set_option Elab.async false
set_option linter.all false
set_option maxRecDepth 100000
/-! Either of two rules; != by an own == alone; == of two lists, told as a truth. -/
namespace OwnNe
open PySem PySem.SeqAt GQ L2 OwnOps
open AutoSeq1 (wpAny_loadPart')
open MeetsSeq MeetsSeq2 MeetsSeq3 SeqRoads2
theorem op_or {X : Cx} {f : Value → Value → Sem Value} {r1 r2 : R2} (h1 : OpR X f r1) (h2 : OpR X f r2) : OpR X f (fun x y H Q => r1 x y H Q ∨ r2 x y H Q) := by
  intro pins s σ H x y v u Q I rx ry h
  rcases h with h | h
  · exact h1 pins s σ H x y v u Q I rx ry h
  · exact h2 pins s σ H x y v u Q I rx ry h
section
variable {prog : Program} {w : World} {A : Around} {E : Value → Shared → Prop} {s : Shared} {K : PySem.W.Frag} {x C L f : Addr} {h₀ : Heap} {m : Str → Option Value} {ox : Obj} {od : Option Obj} {b tb : Value}
theorem entry_ne {Q : Fin → Shared → Prop} (hu : A.units < cLine) (X : K.In s.heap) (I : PySem.W.InstAt s.heap x ox C od) (he : PySem.W.findIn K (.ref C) "__eq__" = some (some (.ref f))) (hf : PySem.W.isFn K (.ref f) = true)
    (h : wpAny (model prog w) A (call (.ref f) [.ref x, b]) (fun v s' => ∃ r, v = .bool r ∧ Q (.done (.ret (.bool (!r)))) s') E s) :
    wpAny (model prog w) A (Builtin.«object.__ne__» ⟨[.ref x, b], []⟩) Q E s := by
  unfold Builtin.«object.__ne__»
  repeat (first
    | with_reducible refine wpAny_cRoomFor hu ?_
    | (refine wpAny_bind (m := callSpecialIfBound? (.ref x) (Str.ofString "__eq__") [b])
        (PySem.W.ifBound_K X I he hf (wpAny_mono h (fun r s' hr => by
          obtain ⟨b, rfl, hq⟩ := hr
          repeat (first | exact hq | exact wpAny_pure hq | exact wpAny_truthy_bool hq | (refine wpAny_bind (m := truthy (.bool _)) (wpAny_truthy_bool ?_)) | wp_step)) fun _ _ e => e)))
    | wp_step)
theorem ifBound_ne {M : Model} {args : List Value} {Q : Option Value → Shared → Prop} (X : K.In s.heap) (I : PySem.W.InstAt s.heap x ox C od) (hs : PySem.W.findIn K (.ref C) "__ne__" = some (some (.builtin "object.__ne__")))
    (h : wpAny M A (call (.builtin "object.__ne__") (.ref x :: args)) (fun v => Q (some v)) E s) : wpAny M A (callSpecialIfBound? (.ref x) "__ne__" args) Q E s := by
  simp only [callSpecialIfBound?, bindSpecialIfBound?]
  refine wpAny_holding (wpAny_bind (wpAny_bind (wpAny_bind (I.type.here ((PySem.W.looks_findIn X hs).here ?_)))))
  refine wpAny_bind (wpAny_askSetting (wpAny_ite ?_))
  have fin : wpAny M A (call (.builtin "object.__ne__") ([.ref x] ++ args) >>= fun v => pure (some v)) Q E s := wpAny_bind (wpAny_mono h (fun v s' h' => wpAny_pure h') fun _ _ h' => h')
  split
  · exact wpAny_bind (wpAny_of_eq (F.cmp_object.ne.bind _) (wpAny_pure (by exact fin)))
  · exact wpAny_tryCatch (wpAny_bind (wpAny_of_eq (F.cmp_object.ne.bind _) (wpAny_pure (by exact fin))))
/-- x != b by x's own ==: the class has no != of its own -/
theorem rc_neK {Q : Value → Shared → Prop} (hu : A.units + 1 < cLine) (X : K.In s.heap) (I : PySem.W.InstAt s.heap x ox C od) (hb : PySem.W.Looks (model prog w) s.heap (typeOf b) tb) (hn : PySem.W.notFirst K C tb = true)
    (hm : PySem.W.mroIn K C (.type "object") = some true) (hs : PySem.W.findIn K (.ref C) "__ne__" = some (some (.builtin "object.__ne__"))) (he : PySem.W.findIn K (.ref C) "__eq__" = some (some (.ref f))) (hf : PySem.W.isFn K (.ref f) = true)
    (h : wpAny (model prog w) A.in1 (call (.ref f) [.ref x, b]) (fun v s' => ∃ r, v = .bool r ∧ Q (.bool (!r)) s') E s) : wpAny (model prog w) A (richCompare .NotEq (.ref x) b) Q E s := by
  have one : wpAny (model prog w) A (tryCompare (.ref x) (cmpInfo .NotEq).2.1 b) (fun r s' => ∃ v, r = some v ∧ Q v s') E s := by
    show wpAny (model prog w) A (tryCompare (.ref x) "__ne__" b) _ E s
    unfold tryCompare
    refine wpAny_bind (ifBound_ne X I hs (wpAny_call (codeAny_call_builtin F.cmp_object.ne.plain F.cmpEntry_ne
      (PySem.W.check_slot F.cmpKind_ne F.cmpSplit_ne (I.type.andThen (PySem.W.looks_mroIn X hm)) (F.cmpArgs_ne _ _) (entry_ne (A := A.in1) hu X I he hf (wpAny_mono h (fun v s' hv => ?_) fun _ _ e => e))))))
    obtain ⟨r, rfl, q⟩ := hv
    first
      | exact ⟨r, rfl, wpAny_pure ⟨_, rfl, q⟩⟩
      | exact ⟨r, rfl, wpAny_pure (wpAny_pure ⟨_, rfl, q⟩)⟩
      | exact ⟨r, rfl, ⟨_, rfl, q⟩⟩
  unfold richCompare
  simp only [oneThing_ref]
  refine wpAny_holding (wpAny_bind (wpAny_cRoomFor (by omega) ?_))
  refine wpAny_bind (I.type.here (wpAny_bind (hb.here ?_)))
  split
  · rename_i q
    have e : PySem.W.subIn K tb (.ref C) = some false := by
      rcases Bool.or_eq_true_iff.mp hn with e | e
      · rw [beq_iff_eq.mp e] at q; simp at q
      · exact beq_iff_eq.mp e
    refine wpAny_bind ((PySem.W.looks_subIn X e).here ?_)
    simp only [Bool.false_eq_true, if_false]
    refine wpAny_bind (wpAny_mono one (fun r s' z => ?_) fun _ _ e => e)
    obtain ⟨v, rfl, hq⟩ := z
    exact wpAny_pure hq
  · refine wpAny_bind (wpAny_pure ?_)
    simp only [Bool.false_eq_true, if_false]
    refine wpAny_bind (wpAny_mono one (fun r s' z => ?_) fun _ _ e => e)
    obtain ⟨v, rfl, hq⟩ := z
    exact wpAny_pure hq
end
/-- x != y by x's own == -/
def rNeOwn (C : Addr) (R : V → Hp → Prop) (sp : Sp) (E : XK) : R2 := fun x y H Q => ∃ a dx fs, x = .ref a ∧ H a = some (.ins C dx fs) ∧ R y H ∧ sp [x, y] H (fun v H' => ∃ r, v = .bl r ∧ Q (.bl (!r)) H') E
theorem op_neOwn {X : Cx} {CX : CXT} {C g : Addr} {k : Nat} {fd : FuncData} {ps : List Str} {sp : Sp} {E : XK} (hm : PySem.W.mroIn X.K C (.type "object") = some true) (hn : PySem.W.findIn X.K (.ref C) "__ne__" = some (some (.builtin "object.__ne__")))
    (hs : PySem.W.findIn X.K (.ref C) "__eq__" = some (some (.ref g))) (hf : PySem.W.isFn X.K (.ref g) = true)
    (F : FnOk X.prog X.w X.K X.mg X.base CX k g fd ps sp) (hr : Room (k + 1) X.A) (hb : Binds X.K fd ps []) (hx : Passes CX X E)
    {R : V → Hp → Prop} (hR : ∀ {y : V} {H : Hp} {u : Value} {pins : List (Addr × Obj)} {σ : L2.St} {s : Shared}, L2.Inv X pins σ H s → R y H → RelV y u → ∃ tb, PySem.W.Looks (model X.prog X.w) s.heap (typeOf u) tb ∧ PySem.W.notFirst X.K C tb = true) :
    OpR X (compareOp .NotEq) (rNeOwn C R sp E) := by
  intro pins s σ H x y v u Q I rx ry h
  obtain ⟨a, dx, fs, rfl, ha, hy, q⟩ := h
  cases (show v = Value.ref a from rx)
  obtain ⟨od, J⟩ := inst_at I ha
  obtain ⟨tb, ht, hn2⟩ := hR I hy ry
  show wpAny (model X.prog X.w) X.A (richCompare .NotEq (.ref a) u) (EP X pins σ Q) X.xe s
  refine rc_neK (show X.A.units + 1 < cLine from hr.in1.units0) I.kIn J ht hn2 hm hn hs hf ?_
  refine wpAny_mono (run_any (us := [.ref a, u]) (vs := [.ref a, y]) F hr.in1 I.env0.in1 hb hx I (.cons rfl (.cons ry .nil)) q) (fun w s' z => ?_) fun _ _ e => e
  obtain ⟨z', H', I', rz, r, rfl, qz⟩ := id z
  cases (show w = Value.bool r from rz)
  exact ⟨r, rfl, .bl (!r), H', I', rfl, qz⟩
section
variable {prog : Program} {w : World} {A : Around} {R : Result → Shared → Prop} {E : Value → Shared → Prop}
/-- at each turn the two lists are read anew: N items each, the i-th two equal as r i says -/
def ListB (prog : Program) (w : World) (A : Around) (E : Value → Shared → Prop) (l b : Addr) (N : Nat) (r : Nat → Bool) (I : Nat → Shared → Prop) : Prop :=
  ∀ i s, I i s → ∃ (xs ys : Array Value) (n n2 : Nat), s.heap.get? l = some { cls := .type "list", data := .seq xs n } ∧ s.heap.get? b = some { cls := .type "list", data := .seq ys n2 } ∧ xs.size = N ∧ ys.size = N ∧
    ∀ (h1 : i < xs.size) (h2 : i < ys.size), wpAny (model prog w) A.in1 (eqBool xs[i] ys[i]) (fun q s' => q = r i ∧ I (i + 1) s') E s
theorem loopB (l b : Addr) (N : Nat) (r : Nat → Bool) (I : Nat → Shared → Prop) (hl : ListB prog w A (fun e s' => R (.error e) s') l b N r I)
    (fin : (∀ j, j < N → r j = true) → ∀ s, I N s → R (.ok (.ret (.bool true))) s) (bad : ∀ j, j < N → r j = false → ∀ s, I (j + 1) s → R (.ok (.ret (.bool false))) s) :
    ∀ (k i : Nat), N - i = k → i ≤ N → (∀ j, j < i → r j = true) → ∀ s, I i s → wpAny (model prog w) A.in1 (Builtin.«list.__eq__.loop» ⟨[.ref l, .ref b, rawInt i, rawInt 2], []⟩) (FinOf prog w A R) (fun e s' => R (.error e) s') s
  | 0, i, hk, hi, all, s, h => by
    obtain ⟨xs, ys, n, n2, hl1, hb1, z1, z2, _⟩ := hl _ _ h
    have last : i = N := by omega
    have done : R (.ok (.ret (.bool true))) s := fin (fun j hj => all j (by omega)) s (last ▸ h)
    obtain ⟨hp, g, d, tk, os⟩ := s
    wp_walk using wpAny_loadPart' hl1, wpAny_loadPart' hb1
    have no1 : xs[((i : Nat) : Int).toNat]? = none := by simp; omega
    have no2 : ys[((i : Nat) : Int).toNat]? = none := by simp; omega
    rw [no1, no2]
    wp_walk using wpAny_loadPart' hl1, wpAny_loadPart' hb1
    show R (.ok (.ret (.bool (xs.size == ys.size)))) _
    rw [z1, z2]
    simpa using done
  | k + 1, i, hk, hi, all, s, h => by
    obtain ⟨xs, ys, n, n2, hl1, hb1, z1, z2, one⟩ := hl _ _ h
    have lt1 : i < xs.size := by omega
    have lt2 : i < ys.size := by omega
    have here := one lt1 lt2
    obtain ⟨hp, g, d, tk, os⟩ := s
    wp_walk using wpAny_loadPart' hl1, wpAny_loadPart' hb1
    have is1 : xs[((i : Nat) : Int).toNat]? = some xs[i] := by simp [lt1]
    have is2 : ys[((i : Nat) : Int).toNat]? = some ys[i] := by simp [lt2]
    have up : ((i : Int) + 1) = ((i + 1 : Nat) : Int) := by omega
    rw [is1, is2]
    refine wpAny_bind (wpAny_mono here (fun q s2 hq => ?_) fun _ _ x => x)
    obtain ⟨hr, hq⟩ := hq
    subst hr
    cases hb : r i with
    | true =>
      have rest := loopB l b N r I hl fin bad k (i + 1) (by omega) (by omega) (fun j hj => if e : j = i then by rw [e]; exact hb else all j (by omega)) s2 hq
      obtain ⟨hp2, g2, d2, tk2, os2⟩ := s2
      wp_walk
      rw [up]
      exact ⟨plainId_quiet plain_eq_loop _, codeAny_builtin entry_eq_loop (by rw [Around.under_plainId plain_eq_loop _] <;> exact rest)⟩
    | false =>
      have done := bad i (by omega) hb s2 hq
      obtain ⟨xs2, ys2, m, m2, hl2, hb2, z3, z4, _⟩ := hl _ _ hq
      have is3 : xs2[((i : Nat) : Int).toNat]? = some (xs2[i]'(by omega)) := by
        have : i < xs2.size := by omega
        simp [this]
      have is4 : ys2[((i : Nat) : Int).toNat]? = some (ys2[i]'(by omega)) := by
        have : i < ys2.size := by omega
        simp [this]
      obtain ⟨hp2, g2, d2, tk2, os2⟩ := s2
      wp_walk using wpAny_loadPart' hl2, wpAny_loadPart' hb2
      rw [is3, is4]
      wp_walk
      exact done
theorem listB (l b : Addr) (N : Nat) (r : Nat → Bool) (I : Nat → Shared → Prop) (hl : ListB prog w A (fun e s' => R (.error e) s') l b N r I)
    (fin : (∀ j, j < N → r j = true) → ∀ s, I N s → R (.ok (.ret (.bool true))) s) (bad : ∀ j, j < N → r j = false → ∀ s, I (j + 1) s → R (.ok (.ret (.bool false))) s) {s : Shared} (h : I 0 s) :
    wpAny (model prog w) A.in1 (Builtin.«list.__eq__» ⟨[.ref l, .ref b], []⟩) (FinOf prog w A R) (fun e s' => R (.error e) s') s := by
  obtain ⟨xs, ys, n, n2, hl1, hb1, z1, z2, _⟩ := hl _ _ h
  have rest := loopB (A := A) (R := R) l b N r I hl fin bad _ 0 rfl (Nat.zero_le _) (fun j hj => absurd hj (by omega)) s h
  obtain ⟨hp, g, d, tk, os⟩ := s
  have sub := AutoSeq1.sub_list_list
  have same : ¬ (xs.size != ys.size) = true := by simp [z1, z2]
  wp_walk using wpAny_loadPart' hl1, wpAny_loadPart' hb1
  exact ⟨plainId_quiet plain_eq_loop _, codeAny_builtin entry_eq_loop (by rw [Around.under_plainId plain_eq_loop _] <;> exact rest)⟩
theorem rcB {l b : Addr} {N : Nat} {Q : Value → Shared → Prop} {s : Shared} (hu : A.units < cLine) (r : Nat → Bool) (I : Nat → Shared → Prop) (hl : ListB prog w A E l b N r I)
    (fin : (∀ j, j < N → r j = true) → ∀ s, I N s → Q (.bool true) s) (bad : ∀ j, j < N → r j = false → ∀ s, I (j + 1) s → Q (.bool false) s) (h : I 0 s) : wpAny (model prog w) A (richCompare .Eq (.ref l) (.ref b)) Q E s := by
  obtain ⟨xs, ys, n, n2, hl1, hb1, _, _, _⟩ := hl _ _ h
  refine wpAny_richCompare_same_room (op := .Eq) ⟨_, hl1, rfl⟩ ⟨_, hb1, rfl⟩ F.slot_list_eq (call_here F.slot_list_eq ⟨_, hl1, rfl⟩ F.entry_list_eq (F.args_list_eq_2 _ _) ?_) hu
  exact listB (R := wants (fun v s' => v ≠ .notImplemented ∧ Q v s') E) l b N r I hl (fun a s' q => ⟨(fun x => nomatch x), fin a s' q⟩) (fun j a b s' q => ⟨(fun x => nomatch x), bad j a b s' q⟩) h
end
/-- == gives what D says, and only makes objects -/
def EqB (X : Cx) (n : Nat) (D : V → V → Hp → Bool → Prop) : Prop :=
  ∀ (A : Around) (pins : List (Addr × Obj)) (s : Shared) (σ : L2.St) (H : Hp) (x y : V) (u v : Value) (b : Bool), Sub X n A → Inv X pins σ H s → RelV x u → RelV y v → D x y H b →
    wpAny (model X.prog X.w) A (eqBool u v) (fun r s' => r = b ∧ ∃ H', Inv X pins σ H' s' ∧ Ext H H') X.xe s
theorem EqB.eqG {X : Cx} {n : Nat} {D : V → V → Hp → Bool → Prop} (h : EqB X n D) : EqG X n (fun x y H => D x y H true) := fun A pins s σ H x y u v sb I rx ry d => h A pins s σ H x y u v true sb I rx ry d
/-- x == y of two lists of the same length -/
def rEqB (D : V → V → Hp → Bool → Prop) : R2 := fun x y H Q => ∃ a b xs ys, x = .ref a ∧ y = .ref b ∧ H a = some (.lst xs) ∧ H b = some (.lst ys) ∧ xs.length = ys.length ∧ ∃ r : Nat → Bool,
  (∀ (i : Nat) x y, xs[i]? = some x → ys[i]? = some y → D x y H (r i)) ∧ ∀ H' c, Ext H H' → (c = true ↔ ∀ j, j < xs.length → r j = true) → Q (.bl c) H'
theorem op_eqB {X : Cx} {n : Nat} {D : V → V → Hp → Bool → Prop} (hD : ∀ x y H H' b, Ext H H' → D x y H b → D x y H' b) (h : EqB X n D) (hr : Room (n + 1) X.A) : OpR X (compareOp .Eq) (rEqB D) := by
  intro pins s σ H x y v u Q I rx ry hq
  obtain ⟨a, b, xs, ys, rfl, rfl, ha, hb, len, r, p, q⟩ := hq
  cases rx
  cases ry
  have sb : Sub X (n + 1) X.A := ⟨hr, rfl⟩
  show wpAny (model X.prog X.w) X.A (richCompare .Eq (.ref a) (.ref b)) (EP X pins σ Q) X.xe s
  refine rcB (N := xs.length) hr.units0 r (fun _ s' => LoopI X pins σ H s') (fun i s' z => ?_) (fun al s' ⟨H', I', e⟩ => ⟨.bl true, H', I', rfl, q H' true e ⟨fun _ => al, fun _ => rfl⟩⟩)
    (fun j hj rj s' ⟨H', I', e⟩ => ⟨.bl false, H', I', rfl, q H' false e ⟨fun z => (nomatch z), fun al => by rw [al j hj] at rj; cases rj⟩⟩) ⟨H, I, Ext.rfl'⟩
  obtain ⟨H1, I1, e1⟩ := id z
  obtain ⟨zz, its, k, rr, e⟩ := I1.hok a _ (e1 _ _ ha)
  obtain ⟨zz2, its2, k2, rr2, e2⟩ := I1.hok b _ (e1 _ _ hb)
  refine ⟨its.toArray, its2.toArray, k, k2, e, e2, by rw [List.size_toArray, ← rr.length], by rw [List.size_toArray, ← rr2.length, ← len], fun h1 h2 => ?_⟩
  have g1 : its[i]? = some its.toArray[i] := by
    have h1' : i < its.length := by simpa using h1
    rw [List.getElem?_eq_getElem h1'] <;> simp
  have g2 : its2[i]? = some its2.toArray[i] := by
    have h2' : i < its2.length := by simpa using h2
    rw [List.getElem?_eq_getElem h2'] <;> simp
  have k1 : i < xs.length := by rw [rr.length]; simpa using h1
  have k3 : i < ys.length := by rw [rr2.length]; simpa using h2
  obtain ⟨u, hu, ru⟩ := rr.get (List.getElem?_eq_getElem k1)
  obtain ⟨v, hv, rv⟩ := rr2.get (List.getElem?_eq_getElem k3)
  rw [g1] at hu
  rw [g2] at hv
  rw [Option.some.inj hu, Option.some.inj hv]
  refine wpAny_mono (h X.A.in1 pins s' σ H1 _ _ u v _ sb.in1 I1 ru rv (hD _ _ _ _ _ e1 (p i _ _ (List.getElem?_eq_getElem k1) (List.getElem?_eq_getElem k3)))) (fun r' s2 q' => ?_) fun _ _ x => x
  obtain ⟨hr', H2, I2, e2'⟩ := q'
  exact ⟨hr', H2, I2, e1.trans e2'⟩
end OwnNe
end

-- RatMath2
section
namespace RatM
theorem add_nrm {a b c d : Int} (hb : b ≠ 0) (hd : d ≠ 0) : nt (nt a b * nb c d + nt c d * nb a b) (nb a b * nb c d) = nt (a * d + c * b) (b * d) ∧ nb (nt a b * nb c d + nt c d * nb a b) (nb a b * nb c d) = nb (a * d + c * b) (b * d) := by
  have p1 := nb_pos (t := a) hb
  have p2 := nb_pos (t := c) hd
  have h1 := nt_mul (t := a) (b := b); have h2 := nb_mul (t := a) (b := b)
  have h3 := nt_mul (t := c) (b := d); have h4 := nb_mul (t := c) (b := d)
  have g1 := cmn_ne (t := a) hb; have g2 := cmn_ne (t := c) hd
  refine nrm_of (k := cmn a b * cmn c d) (k' := 1) (Int.mul_ne_zero (by omega) (by omega)) (Int.mul_ne_zero hb hd) (Int.mul_ne_zero g1 g2) (by decide) ?_ ?_
  · generalize nt a b = x at *; generalize nb a b = y at *; generalize cmn a b = g at *
    generalize nt c d = x' at *; generalize nb c d = y' at *; generalize cmn c d = h at *
    rw [← h1, ← h2, ← h3, ← h4, Int.mul_one, Int.add_mul]
    congr 1 <;> ac_rfl
  · generalize nt a b = x at *; generalize nb a b = y at *; generalize cmn a b = g at *
    generalize nt c d = x' at *; generalize nb c d = y' at *; generalize cmn c d = h at *
    rw [← h2, ← h4, Int.mul_one]
    ac_rfl
theorem sub_nrm {a b c d : Int} (hb : b ≠ 0) (hd : d ≠ 0) : nt (nt a b * nb c d - nt c d * nb a b) (nb a b * nb c d) = nt (a * d - c * b) (b * d) ∧ nb (nt a b * nb c d - nt c d * nb a b) (nb a b * nb c d) = nb (a * d - c * b) (b * d) := by
  have p1 := nb_pos (t := a) hb
  have p2 := nb_pos (t := c) hd
  have h1 := nt_mul (t := a) (b := b); have h2 := nb_mul (t := a) (b := b)
  have h3 := nt_mul (t := c) (b := d); have h4 := nb_mul (t := c) (b := d)
  have g1 := cmn_ne (t := a) hb; have g2 := cmn_ne (t := c) hd
  refine nrm_of (k := cmn a b * cmn c d) (k' := 1) (Int.mul_ne_zero (by omega) (by omega)) (Int.mul_ne_zero hb hd) (Int.mul_ne_zero g1 g2) (by decide) ?_ ?_
  · generalize nt a b = x at *; generalize nb a b = y at *; generalize cmn a b = g at *
    generalize nt c d = x' at *; generalize nb c d = y' at *; generalize cmn c d = h at *
    rw [← h1, ← h2, ← h3, ← h4, Int.mul_one, Int.sub_mul]
    congr 1 <;> ac_rfl
  · generalize nt a b = x at *; generalize nb a b = y at *; generalize cmn a b = g at *
    generalize nt c d = x' at *; generalize nb c d = y' at *; generalize cmn c d = h at *
    rw [← h2, ← h4, Int.mul_one]
    ac_rfl
theorem mul_nrm {a b c d : Int} (hb : b ≠ 0) (hd : d ≠ 0) : nt (nt a b * nt c d) (nb a b * nb c d) = nt (a * c) (b * d) ∧ nb (nt a b * nt c d) (nb a b * nb c d) = nb (a * c) (b * d) := by
  have p1 := nb_pos (t := a) hb
  have p2 := nb_pos (t := c) hd
  have h1 := nt_mul (t := a) (b := b); have h2 := nb_mul (t := a) (b := b)
  have h3 := nt_mul (t := c) (b := d); have h4 := nb_mul (t := c) (b := d)
  have g1 := cmn_ne (t := a) hb; have g2 := cmn_ne (t := c) hd
  refine nrm_of (k := cmn a b * cmn c d) (k' := 1) (Int.mul_ne_zero (by omega) (by omega)) (Int.mul_ne_zero hb hd) (Int.mul_ne_zero g1 g2) (by decide) ?_ ?_
  · generalize nt a b = x at *; generalize nb a b = y at *; generalize cmn a b = g at *
    generalize nt c d = x' at *; generalize nb c d = y' at *; generalize cmn c d = h at *
    rw [← h1, ← h3, Int.mul_one]
    ac_rfl
  · generalize nt a b = x at *; generalize nb a b = y at *; generalize cmn a b = g at *
    generalize nt c d = x' at *; generalize nb c d = y' at *; generalize cmn c d = h at *
    rw [← h2, ← h4, Int.mul_one]
    ac_rfl
theorem nt_ne {c d : Int} (hd : d ≠ 0) (hc : c ≠ 0) : nt c d ≠ 0 := fun z => by
  have h3 := nt_mul (t := c) (b := d)
  rw [z, Int.zero_mul] at h3
  exact hc h3.symm
theorem over_nrm {a b c d : Int} (hb : b ≠ 0) (hd : d ≠ 0) (hc : c ≠ 0) : nt (nt a b * nb c d) (nb a b * nt c d) = nt (a * d) (b * c) ∧ nb (nt a b * nb c d) (nb a b * nt c d) = nb (a * d) (b * c) := by
  have p1 := nb_pos (t := a) hb
  have p2 := nt_ne hd hc
  have h1 := nt_mul (t := a) (b := b); have h2 := nb_mul (t := a) (b := b)
  have h3 := nt_mul (t := c) (b := d); have h4 := nb_mul (t := c) (b := d)
  have g1 := cmn_ne (t := a) hb; have g2 := cmn_ne (t := c) hd
  refine nrm_of (k := cmn a b * cmn c d) (k' := 1) (Int.mul_ne_zero (by omega) p2) (Int.mul_ne_zero hb hc) (Int.mul_ne_zero g1 g2) (by decide) ?_ ?_
  · generalize nt a b = x at *; generalize nb a b = y at *; generalize cmn a b = g at *
    generalize nt c d = x' at *; generalize nb c d = y' at *; generalize cmn c d = h at *
    rw [← h1, ← h4, Int.mul_one]
    ac_rfl
  · generalize nt a b = x at *; generalize nb a b = y at *; generalize cmn a b = g at *
    generalize nt c d = x' at *; generalize nb c d = y' at *; generalize cmn c d = h at *
    rw [← h2, ← h3, Int.mul_one]
    ac_rfl
theorem eq_iff {a b c d : Int} (hb : b ≠ 0) (hd : d ≠ 0) : (nt a b = nt c d ∧ nb a b = nb c d) ↔ nt a b * nb c d = nt c d * nb a b := by
  constructor
  · rintro ⟨h1, h2⟩
    rw [h1, h2]
  · intro h
    have p1 := nb_pos (t := a) hb
    have p2 := nb_pos (t := c) hd
    have q := nrm_cross (by omega) (by omega) h
    rw [(nrm_id hb).1, (nrm_id hb).2, (nrm_id hd).1, (nrm_id hd).2] at q
    exact q
/-- the sign that makes cross products comparable -/
def sg (v : Int) : Int := 1 - 2 * (if decide (v < 0) = true then (1 : Int) else 0)
theorem sg_cases (v : Int) : (v < 0 ∧ sg v = -1) ∨ (0 ≤ v ∧ sg v = 1) := by
  unfold sg
  by_cases h : v < 0
  · exact .inl ⟨h, by rw [decide_eq_true h, if_pos rfl]; rfl⟩
  · exact .inr ⟨by omega, by rw [decide_eq_false h, if_neg Bool.false_ne_true]; rfl⟩
theorem sg_pos {v : Int} (h : v ≠ 0) : 0 < v * sg v := by
  rcases sg_cases v with ⟨h1, h2⟩ | ⟨h1, h2⟩ <;> rw [h2] <;> omega
theorem cmp_facts {a b c d : Int} (hb : b ≠ 0) (hd : d ≠ 0) : ∃ m : Int, 0 < m ∧ a * d * sg (b * d) = nt a b * nb c d * m ∧ c * b * sg (b * d) = nt c d * nb a b * m := by
  have p1 := nb_pos (t := a) hb
  have p2 := nb_pos (t := c) hd
  have h1 := nt_mul (t := a) (b := b); have h2 := nb_mul (t := a) (b := b)
  have h3 := nt_mul (t := c) (b := d); have h4 := nb_mul (t := c) (b := d)
  have hp := sg_pos (Int.mul_ne_zero hb hd)
  refine ⟨cmn a b * cmn c d * sg (b * d), ?_, ?_, ?_⟩
  · have e : b * d * sg (b * d) = (nb a b * nb c d) * (cmn a b * cmn c d * sg (b * d)) := by
      generalize sg (b * d) = s
      generalize nb a b = y at *; generalize cmn a b = g at *; generalize nb c d = y' at *; generalize cmn c d = h at *
      rw [← h2, ← h4]
      ac_rfl
    rw [e] at hp
    rcases Int.lt_trichotomy (cmn a b * cmn c d * sg (b * d)) 0 with z | z | z
    · have := Int.mul_neg_of_pos_of_neg (Int.mul_pos p1 p2) z; omega
    · rw [z, Int.mul_zero] at hp; omega
    · exact z
  · generalize sg (b * d) = s
    generalize nt a b = x at *; generalize cmn a b = g at *; generalize nb c d = y' at *; generalize cmn c d = h at *
    rw [← h1, ← h4]
    ac_rfl
  · generalize sg (b * d) = s
    generalize nb a b = y at *; generalize cmn a b = g at *; generalize nt c d = x' at *; generalize cmn c d = h at *
    rw [← h2, ← h3]
    ac_rfl
theorem cmp_all {a b c d : Int} (hb : b ≠ 0) (hd : d ≠ 0) :
    ((nt a b = nt c d ∧ nb a b = nb c d) ↔ a * d * sg (b * d) = c * b * sg (b * d)) ∧ (nt a b * nb c d < nt c d * nb a b ↔ a * d * sg (b * d) < c * b * sg (b * d)) ∧ (nt c d * nb a b < nt a b * nb c d ↔ c * b * sg (b * d) < a * d * sg (b * d)) := by
  obtain ⟨m, m0, e1, e2⟩ := cmp_facts (a := a) (c := c) hb hd
  rw [e1, e2, eq_iff hb hd]
  refine ⟨⟨fun h => by rw [h], fun h => Int.eq_of_mul_eq_mul_right (by omega) h⟩, ⟨fun h => Int.mul_lt_mul_of_pos_right h m0, fun h => Int.lt_of_mul_lt_mul_right h (by omega)⟩, ⟨fun h => Int.mul_lt_mul_of_pos_right h m0, fun h => Int.lt_of_mul_lt_mul_right h (by omega)⟩⟩
end RatM
end

-- U7p
section
set_option Elab.async false
set_option linter.all false
set_option maxRecDepth 100000
set_option exponentiation.threshold 10000
namespace R1
open PySem L2 OwnOps RatM OwnNe
abbrev sPri (j : Nat) : Stmt := inClass (top 13) j
abbrev sChk : Stmt := top 14
structure PTxt (K : PySem.W.Frag) (mg : Str → Option Value) (D CP fCP : Addr) : Prop where
  cl : Cls K D
  n1 : NoAttr K D "_lost"
  n2 : NoAttr K D "_surplus"
  n3 : NoAttr K D "_value"
  n4 : NoAttr K D "_junction"
  gD : mg "Prices" = some (.ref D)
  eP : PySem.Giv.ErrTxt K mg "InvalidPrices" "InvalidPrices.__init__" "ValueError.__new__" veT CP fCP
  ha : PySem.W.findIn K (.ref D) "__class__" = some (some (.builtin "object.__class__"))
  hn : PySem.W.specialIn K (.builtin "object.__class__") "__get__" = some (some (.builtin "getset_descriptor.__get__"))
  htk : PySem.W.takesIn K (.builtin "object.__class__") = some true
  hm : PySem.W.mroIn K D (.type "object") = some true
  kDD : PySem.W.kitOne K (.ref D) (.ref D) = some true
  kiD : PySem.W.kitOne K (.type "int") (.ref D) = some false
/-- v stands for t / b, in lowest terms -/
structure Pc (C : Addr) (H : Hp) (v : V) (t b : Int) : Prop where
  num : Num C H v t b
  b0 : 0 < b
  nt : nt t b = t
  nb : nb t b = b
  st : Sm 200 t
  sb : Sm 200 b
theorem Pc.same {C : Addr} {H H' : Hp} {v : V} {t b : Int} (h : Pc C H v t b) (e : Same H H') : Pc C H' v t b := ⟨h.num.same e, h.b0, h.nt, h.nb, h.st, h.sb⟩
/-- no price -/
def Off (C : Addr) (H : Hp) (v : V) : Prop := Bd H v ∨ ∃ t b, Pc C H v t b ∧ t < b
theorem Off.same {C : Addr} {H H' : Hp} {v : V} (h : Off C H v) (e : Same H H') : Off C H' v := h.elim (fun h => .inl (h.same e)) fun ⟨t, b, h, l⟩ => .inr ⟨t, b, h.same e, l⟩
def spChk (C CP : Addr) : Sp := fun vs H Q E => ∃ nm v, vs = [nm, v] ∧
  ((∃ t b, Pc C H v t b ∧ b ≤ t ∧ ∀ r H', Same H H' → Rat C H' r t b → Q (.ref r) H') ∨ (Off C H v ∧ ∀ d H', Same H H' → H' d = some (xd nm) → E (.ref CP) (some d) H'))
theorem sm12 {x : Int} (h : Sm 200 x) : Sm 1200 x := Nat.lt_of_lt_of_le h (Nat.pow_le_pow_right (by decide) (by decide))
theorem one12 : Sm 1200 1 := by unfold Sm; exact Nat.one_lt_two_pow (by decide)
section
variable {P : Program} {w : World} {K : PySem.W.Frag} {mg : Str → Option Value} {base : Heap} {C CI fCI CZ fCZ D CP fCP : Addr}
theorem nx_go {E : Ends} {σ : L2.St} {H : Hp} (h : E.nx σ H) : tNext E σ H := h
theorem make_c {σ : L2.St} {H : Hp} {Q : VK} {E : XK} {t : Int} (k : ∀ p H', Same H H' → Rat C H' p t 1 → Q (.ref p) H') : tMake C (spInit C CI CZ) [V.int 1] E (tCons (tC (V.int t)) tNil) σ H Q :=
  mk_good (by decide) (Nat.lt_of_lt_of_le one12 (Nat.pow_le_pow_right (by decide) (by decide))) fun p H3 s3 rp => k p H3 s3 (by rw [(nt_one t).1, (nt_one t).2] at rp; exact rp)
theorem ret_make {σ : L2.St} {H : Hp} {D : Ends} {E : XK} {t : Int} {r : R2} {tb : TE} (k : ∀ p H', Same H H' → Rat C H' p t 1 → tb σ H' fun y H2 => r (.ref p) y H2 D.rt) :
    tRet (tOp r (tMake C (spInit C CI CZ) [V.int 1] E (tCons (tC (V.int t)) tNil)) tb) D σ H := by
  show tMake C (spInit C CI CZ) [V.int 1] E (tCons (tC (V.int t)) tNil) σ H (fun x H1 => tb σ H1 fun y H2 => r x y H2 D.rt)
  exact make_c k
theorem ok_chk {f : Addr} {fd : FuncData} (F : Fun K "_checked_price" "_checked_price" sChk f fd) (T : Txt K mg C CI fCI CZ fCZ) (Z : Tys K C) (U : PTxt K mg D CP fCP) (M : Mak P w K mg base C CI CZ)
    (GW : Glb P w K mg base "is_whole" 1 ["value"] (spWhole C)) (ML : Dun P w K mg base C (PySem.dunder "mul") 6 ["self", "other"] (spAr C CI (fun t b t' b' => t * t') (fun t b t' b' => b * b')))
    (LT : Dun P w K mg base C (cmpInfo .Lt).2.1 6 ["self", "other"] (spCm C CI (fun t b t' b' => decide (t * b' < t' * b))))
    (rf : ∃ rc, PySem.W.findIn K (.ref C) (PySem.dunderR "mul") = some rc ∧ (rc = none ∨ ∃ q : Addr, rc = some (.ref q))) (TI : Ty2 K C "mul" "int") :
    FnOk P w K mg base (L2.CX P w) 7 f fd ["name", "price"] (spChk C CP) := by
  obtain ⟨fI, fdI, ds, mk, GI, b3, d2, b2⟩ := M.ex
  obtain ⟨fW, fdW, mW, kW, GW, bW⟩ := GW.ex
  obtain ⟨_, _, mua, muf, _, muG, mub⟩ := ML.ex
  obtain ⟨_, _, lta, ltf, _, ltG, ltb⟩ := LT.ex
  have sc : FnScope ["name", "price"] ["name", "price"] (defScope sChk) := ⟨rfl, rfl, rfl, by decide +kernel, rfl, by decide +kernel, by decide +kernel⟩
  refine F.okX sc (fun vs H Q E h => ?_) (fun cdv A outer s H vs Q E hr h => ?_)
  · obtain ⟨nm, v, rfl, _⟩ := h
    rfl
  · obtain ⟨nm, v, rfl, k⟩ := h
    refine ⟨_, pss_cons (ps_if (PW.pt (pw_and (pt_not (pt_val (pe_callB call_isi (by rfl) T.isi (by decide +kernel) (pa_cons (pv 1) (pa_cons (pe_glob (v := .ref C) (by rfl) T.gC rfl) pa_nil)))))
          (pw_and1 (pt_not (pt_val (pe_call GW (hr.mono (by decide)) (by rfl) mW kW bW .nil passL (pa_cons (pv 1) pa_nil)))))))
        (pss_one (ps_raiseGiv rfl PySem.Giv.ok_VE U.eP hr (takes_of rfl rfl rfl rfl) (pa_cons (pv 0) pa_nil) (by rfl))) pss_nil)
      (pss_cons (ps_if (pt_cmpR (op := .Lt) (op_or (cmp_own (C := C) (E := E0) (R := RAny C) (fun _ _ => rfl) lta ltf ltG (hr.mono (by decide)) ltb passL (looks_any Z)) op_lt) (pv 1) pe_int (nomark _))
        (pss_one (ps_raiseGiv rfl PySem.Giv.ok_VE U.eP hr (takes_of rfl rfl rfl rfl) (pa_cons (pv 0) pa_nil) (by rfl))) pss_nil)
      (pss_one (ps_ret (pe_op (op := .Mult) (op_or (op_ins (C := C) (E := E0) (op := .Mult) ⟨mua, rf, muf, Z.sf⟩ muG (hr.mono (by decide)) mub passL)
          (op_val (C := C) (E := E0) (op := .Mult) (T := "int") (R := RInt) ⟨mua, rf, muf, Z.sf⟩ TI muG (hr.mono (by decide)) mub passL (fun ⟨_, e⟩ r => by subst e; obtain ⟨t, rfl⟩ := r; rfl)))
        (pe_make mk GI (hr.mono (by decide)) (by rfl) T.gC b2 d2 passL (pa_cons pe_int pa_nil)) (pv 1))))), ?_⟩
    have nrm : ∀ {t b : Int}, Pc C H v t b → nt (1 * t) (1 * b) = t ∧ nb (1 * t) (1 * b) = b := fun pc => by rw [Int.one_mul, Int.one_mul]; exact ⟨pc.nt, pc.nb⟩
    have S1 : ∀ {t b : Int}, Pc C H v t b → Small t b 1 1 := fun pc => ⟨pc.b0, by decide, sm12 pc.st, sm12 pc.sb, one12, one12⟩
    have S2 : ∀ {t b : Int}, Pc C H v t b → Small 1 1 t b := fun pc => ⟨by decide, pc.b0, one12, one12, sm12 pc.st, sm12 pc.sb⟩
    rcases k with ⟨t, b, pc, le, k⟩ | ⟨bd | ⟨t, b, pc, lt⟩, k⟩
    · have T1 := S1 pc
      have T2 := S2 pc
      have nr := nrm pc
      have nl : decide (t * 1 < 1 * b) = false := decide_eq_false (by omega)
      rcases pc.num with ⟨q, rfl, dq, hq⟩ | ⟨rfl, rfl⟩
      · refine ⟨_, rfl, _, _, _, _, _, rfl, .own C, .base (.ins hq T.cl T.ha T.hn T.htk T.hm), T.kCC, _, rfl, if_neg' rfl ?_⟩
        refine ⟨_, rfl, .inl ⟨q, dq, _, rfl, hq, .inr (.inl ⟨1, rfl⟩), q, .int 1, t, b, rfl, ⟨dq, hq⟩, .inl ⟨1, 1, .inr ⟨rfl, rfl⟩, T1, fun H2 s2 => ⟨_, rfl, if_neg' nl ?_⟩⟩⟩⟩
        refine nx_go ?_; dsimp only; refine ret_make fun p H3 s3 rp => ?_
        have hq3 := s3 _ _ (s2 _ _ hq)
        refine ⟨_, rfl, .inl ⟨p, _, _, rfl, rp.choose_spec, ⟨q, dq, _, rfl, hq3⟩, p, .ref q, 1, 1, rfl, rp, .inl ⟨t, b, .inl ⟨q, rfl, dq, hq3⟩, T2, fun r H4 s4 rr => k r H4 ((s2.trans s3).trans s4) ?_⟩⟩⟩
        rw [nr.1, nr.2] at rr
        exact rr
      · refine ⟨_, rfl, _, _, _, _, _, rfl, .own C, .base (.int t), T.kiC, _, rfl, if_pos' rfl ⟨_, rfl, _, rfl, .int t, _, rfl, if_neg' rfl ?_⟩⟩
        refine ⟨_, rfl, .inr ⟨_, _, rfl, rfl, _, rfl, if_neg' (by simpa using le) ?_⟩⟩
        refine nx_go ?_; dsimp only; refine ret_make fun p H3 s3 rp => ?_
        refine ⟨_, rfl, .inr ⟨p, _, _, rfl, rp.choose_spec, ⟨t, rfl⟩, p, .int t, 1, 1, rfl, rp, .inl ⟨t, 1, .inr ⟨rfl, rfl⟩, T2, fun r H4 s4 rr => k r H4 (s3.trans s4) ?_⟩⟩⟩
        rw [nr.1, nr.2] at rr
        exact rr
    · have up : ∀ {d : Addr}, H d = none → Same H (upd H d (xd nm)) := fun hd => same_upd hd
      have fin : ∀ d, H d = none → E (.ref CP) (some d) (upd H d (xd nm)) := fun d hd => k d _ (same_upd hd) upd_same
      cases bd with
      | bl b => exact ⟨_, rfl, _, _, _, _, _, rfl, .own C, .base (.bl b), T.kbC, _, rfl, if_pos' rfl ⟨_, rfl, _, rfl, .bl b, _, rfl, if_pos' rfl ⟨_, rfl, _, rfl, fin⟩⟩⟩
      | non => exact ⟨_, rfl, _, _, _, _, _, rfl, .own C, .base .non, T.knC, _, rfl, if_pos' rfl ⟨_, rfl, _, rfl, .non, _, rfl, if_pos' rfl ⟨_, rfl, _, rfl, fin⟩⟩⟩
      | str x => exact ⟨_, rfl, _, _, _, _, _, rfl, .own C, .base (.str x), T.ksC, _, rfl, if_pos' rfl ⟨_, rfl, _, rfl, .str x, _, rfl, if_pos' rfl ⟨_, rfl, _, rfl, fin⟩⟩⟩
      | lst e => exact ⟨_, rfl, _, _, _, _, _, rfl, .own C, .base (.lst e), T.klC, _, rfl, if_pos' rfl ⟨_, rfl, _, rfl, .lst e, _, rfl, if_pos' rfl ⟨_, rfl, _, rfl, fin⟩⟩⟩
      | tup e => exact ⟨_, rfl, _, _, _, _, _, rfl, .own C, .base (.tup e), T.ktC, _, rfl, if_pos' rfl ⟨_, rfl, _, rfl, .tup e, _, rfl, if_pos' rfl ⟨_, rfl, _, rfl, fin⟩⟩⟩
    · have T1 := S1 pc
      have nl : decide (t * 1 < 1 * b) = true := decide_eq_true (by omega)
      have fin : ∀ H2, Same H H2 → ∀ d, H2 d = none → E (.ref CP) (some d) (upd H2 d (xd nm)) := fun H2 s2 d hd => k d _ (s2.trans (same_upd hd)) upd_same
      rcases pc.num with ⟨q, rfl, dq, hq⟩ | ⟨rfl, rfl⟩
      · refine ⟨_, rfl, _, _, _, _, _, rfl, .own C, .base (.ins hq T.cl T.ha T.hn T.htk T.hm), T.kCC, _, rfl, if_neg' rfl ?_⟩
        exact ⟨_, rfl, .inl ⟨q, dq, _, rfl, hq, .inr (.inl ⟨1, rfl⟩), q, .int 1, t, b, rfl, ⟨dq, hq⟩, .inl ⟨1, 1, .inr ⟨rfl, rfl⟩, T1, fun H2 s2 => ⟨_, rfl, if_pos' nl ⟨_, rfl, _, rfl, fin H2 s2⟩⟩⟩⟩⟩
      · refine ⟨_, rfl, _, _, _, _, _, rfl, .own C, .base (.int t), T.kiC, _, rfl, if_pos' rfl ⟨_, rfl, _, rfl, .int t, _, rfl, if_neg' rfl ?_⟩⟩
        exact ⟨_, rfl, .inr ⟨_, _, rfl, rfl, _, rfl, if_pos' (by simpa using lt) ⟨_, rfl, _, rfl, fin H (Same.refl H)⟩⟩⟩
end
end R1
end

-- U7q
section
set_option Elab.async false
set_option linter.all false
set_option maxRecDepth 100000
set_option exponentiation.threshold 10000
namespace R1
open PySem L2 OwnOps RatM OwnNe
/-! ### the four fields -/
def wd : Nat → Str
  | 0 => "lost"
  | 1 => "surplus"
  | 2 => "value"
  | _ => "junction"
def pf (r : Nat → Addr) : List (Str × V) := [("_lost", .ref (r 0)), ("_surplus", .ref (r 1)), ("_value", .ref (r 2)), ("_junction", .ref (r 3))]
theorem n01 : ¬ (("_lost" : Str) = "_surplus") := by decide +kernel
theorem n02 : ¬ (("_lost" : Str) = "_value") := by decide +kernel
theorem n03 : ¬ (("_lost" : Str) = "_junction") := by decide +kernel
theorem n10 : ¬ (("_surplus" : Str) = "_lost") := by decide +kernel
theorem n12 : ¬ (("_surplus" : Str) = "_value") := by decide +kernel
theorem n13 : ¬ (("_surplus" : Str) = "_junction") := by decide +kernel
theorem n20 : ¬ (("_value" : Str) = "_lost") := by decide +kernel
theorem n21 : ¬ (("_value" : Str) = "_surplus") := by decide +kernel
theorem n23 : ¬ (("_value" : Str) = "_junction") := by decide +kernel
theorem n30 : ¬ (("_junction" : Str) = "_lost") := by decide +kernel
theorem n31 : ¬ (("_junction" : Str) = "_surplus") := by decide +kernel
theorem n32 : ¬ (("_junction" : Str) = "_value") := by decide +kernel
abbrev Fs := List (Str × V)
theorem putF_ne {n m : Str} {x y : V} {r : Fs} (h : ¬ m = n) : putF n y ((m, x) :: r) = (m, x) :: putF n y r := by
  show (if m = n then _ else _) = _
  rw [if_neg h] <;> rfl
theorem putF_eq {n : Str} {x y : V} {r : Fs} : putF n y ((n, x) :: r) = (n, y) :: r := by
  show (if n = n then _ else _) = _
  rw [if_pos rfl] <;> rfl
theorem pF1 {a : V} : putF "_lost" a [] = ([("_lost", a)] : Fs) := rfl
theorem pF2 {a b : V} : putF "_surplus" b ([("_lost", a)] : Fs) = ([("_lost", a), ("_surplus", b)] : Fs) := putF_ne n01
theorem pF3 {a b c : V} : putF "_value" c ([("_lost", a), ("_surplus", b)] : Fs) = ([("_lost", a), ("_surplus", b), ("_value", c)] : Fs) := (putF_ne n02).trans (congrArg _ (putF_ne n12))
theorem pF4 {a b c d : V} : putF "_junction" d ([("_lost", a), ("_surplus", b), ("_value", c)] : Fs) = ([("_lost", a), ("_surplus", b), ("_value", c), ("_junction", d)] : Fs) :=
  (putF_ne n03).trans (congrArg _ ((putF_ne n13).trans (congrArg _ (putF_ne n23))))
/-- one field set anew -/
def put (k : Nat) (a : Addr) (r : Nat → Addr) : Nat → Addr := fun i => if i = k then a else r i
theorem pput0 {a : Addr} {r : Nat → Addr} : putF "_lost" (.ref a) (pf r) = pf (put 0 a r) := putF_eq
theorem pput1 {a : Addr} {r : Nat → Addr} : putF "_surplus" (.ref a) (pf r) = pf (put 1 a r) := (putF_ne n01).trans (congrArg _ putF_eq)
theorem pput2 {a : Addr} {r : Nat → Addr} : putF "_value" (.ref a) (pf r) = pf (put 2 a r) := (putF_ne n02).trans (congrArg _ ((putF_ne n12).trans (congrArg _ putF_eq)))
theorem pput3 {a : Addr} {r : Nat → Addr} : putF "_junction" (.ref a) (pf r) = pf (put 3 a r) := (putF_ne n03).trans (congrArg _ ((putF_ne n13).trans (congrArg _ ((putF_ne n23).trans (congrArg _ putF_eq)))))
theorem lk_cons {n m : Str} {v : V} {l : List (Str × V)} (h : ¬ m = n) : ((m, v) :: l).lookup n = l.lookup n := by
  rw [List.lookup_cons, beq_false_of_ne (fun e => h e.symm)] <;> rfl
theorem lk_here {n : Str} {v : V} {l : List (Str × V)} : ((n, v) :: l).lookup n = some v := by
  rw [List.lookup_cons, beq_self_eq_true] <;> rfl
theorem lk0 {r : Nat → Addr} : (pf r).lookup ("_lost" : Str) = some (.ref (r 0)) := lk_here
theorem lk1 {r : Nat → Addr} : (pf r).lookup ("_surplus" : Str) = some (.ref (r 1)) := (lk_cons n01).trans lk_here
theorem lk2 {r : Nat → Addr} : (pf r).lookup ("_value" : Str) = some (.ref (r 2)) := (lk_cons n02).trans ((lk_cons n12).trans lk_here)
theorem lk3 {r : Nat → Addr} : (pf r).lookup ("_junction" : Str) = some (.ref (r 3)) := (lk_cons n03).trans ((lk_cons n13).trans ((lk_cons n23).trans lk_here))
theorem nt0 : ¬ (("_lost" : Str) = "top") := by decide +kernel
theorem nt1 : ¬ (("_surplus" : Str) = "top") := by decide +kernel
theorem nt2 : ¬ (("_value" : Str) = "top") := by decide +kernel
theorem nt3 : ¬ (("_junction" : Str) = "top") := by decide +kernel
/-- no ratio stands there -/
def NoTop (fs : List (Str × V)) : Prop := fs.lookup ("top" : Str) = none
theorem noTop0 : NoTop [] := rfl
theorem noTop1 {a : V} : NoTop [(("_lost" : Str), a)] := (lk_cons nt0).trans noTop0
theorem noTop2 {a b : V} : NoTop [(("_lost" : Str), a), ("_surplus", b)] := (lk_cons nt0).trans ((lk_cons nt1).trans noTop0)
theorem noTop3 {a b c : V} : NoTop [(("_lost" : Str), a), ("_surplus", b), ("_value", c)] := (lk_cons nt0).trans ((lk_cons nt1).trans ((lk_cons nt2).trans noTop0))
theorem noTop4 {r : Nat → Addr} : NoTop (pf r) := (lk_cons nt0).trans ((lk_cons nt1).trans ((lk_cons nt2).trans ((lk_cons nt3).trans noTop0)))
theorem Rat.apart {C D : Addr} {H : Hp} {q p dx : Addr} {t b : Int} {fs : List (Str × V)} (r : Rat C H q t b) (e : H p = some (.ins D dx fs)) (n : NoTop fs) : q ≠ p := by
  rintro rfl
  obtain ⟨dq, h⟩ := r
  rw [e] at h
  cases h
  have := flds_top t b
  rw [n] at this
  cases this
section
variable {C D : Addr} {H H' : Hp} {p dx : Addr} {fs : List (Str × V)} {v : V} {t b : Int}
theorem Rat.sameX {q : Addr} (r : Rat C H q t b) (e : H p = some (.ins D dx fs)) (n : NoTop fs) (s : SameX p H H') : Rat C H' q t b :=
  let ⟨dq, h⟩ := r
  ⟨dq, s _ _ (Rat.apart ⟨dq, h⟩ e n) h⟩
theorem Num.sameX (h : Num C H v t b) (e : H p = some (.ins D dx fs)) (n : NoTop fs) (s : SameX p H H') : Num C H' v t b :=
  h.elim (fun ⟨q, e', r⟩ => .inl ⟨q, e', r.sameX e n s⟩) .inr
theorem Pc.sameX (h : Pc C H v t b) (e : H p = some (.ins D dx fs)) (n : NoTop fs) (s : SameX p H H') : Pc C H' v t b := ⟨h.num.sameX e n s, h.b0, h.nt, h.nb, h.st, h.sb⟩
theorem Off.sameX (h : Off C H v) (e : H p = some (.ins D dx fs)) (n : NoTop fs) (s : SameX p H H') : Off C H' v := by
  rcases h with h | ⟨t, b, h, l⟩
  · refine .inl ?_
    cases h with
    | bl b => exact .bl b
    | non => exact .non
    | str x => exact .str x
    | @lst a xs q => exact .lst (s _ _ (by rintro rfl; rw [e] at q; cases q) q)
    | @tup a xs q => exact .tup (s _ _ (by rintro rfl; rw [e] at q; cases q) q)
  · exact .inr ⟨t, b, h.sameX e n s, l⟩
end
/-- an object of the class, with these four prices -/
def Prc (C D : Addr) (H : Hp) (p : Addr) (T B : Nat → Int) : Prop := ∃ dx r, H p = some (.ins D dx (pf r)) ∧ ∀ i, i < 4 → Rat C H (r i) (T i) (B i)
theorem Prc.same {C D : Addr} {H H' : Hp} {p : Addr} {T B : Nat → Int} (h : Prc C D H p T B) (s : Same H H') : Prc C D H' p T B :=
  let ⟨dx, r, e, k⟩ := h
  ⟨dx, r, s _ _ e, fun i hi => (k i hi).same s⟩
/-- v is a price, t / b -/
def Good (C : Addr) (H : Hp) (v : V) (t b : Int) : Prop := Pc C H v t b ∧ b ≤ t
theorem Good.same {C : Addr} {H H' : Hp} {v : V} {t b : Int} (h : Good C H v t b) (s : Same H H') : Good C H' v t b := ⟨h.1.same s, h.2⟩
theorem Good.sameX {C D : Addr} {H H' : Hp} {p dx : Addr} {fs : List (Str × V)} {v : V} {t b : Int} (h : Good C H v t b) (e : H p = some (.ins D dx fs)) (n : NoTop fs) (s : SameX p H H') : Good C H' v t b := ⟨h.1.sameX e n s, h.2⟩
def spPI (C D CP : Addr) : Sp := fun vs H Q E => ∃ (p dx : Addr) (v : Nat → V), vs = [.ref p, v 0, v 1, v 2, v 3] ∧ H p = some (.ins D dx []) ∧
  ((∃ T B, (∀ i, i < 4 → Good C H (v i) (T i) (B i)) ∧ ∀ H', SameX p H H' → Prc C D H' p T B → Q .non H') ∨
   (∃ k, k < 4 ∧ (∀ i, i < k → ∃ t b, Good C H (v i) t b) ∧ Off C H (v k) ∧ ∀ d H', SameX p H H' → H' d = some (xd (.str (wd k))) → E (.ref CP) (some d) H'))
section
variable {P : Program} {w : World} {K : PySem.W.Frag} {mg : Str → Option Value} {base : Heap} {C CI fCI CZ fCZ D CP fCP : Addr}
abbrev InitP (K : PySem.W.Frag) (f : Addr) (fd : FuncData) := FunD K "__init__" "Prices.__init__" (defArgs (sPri 0)) (defBody (sPri 0)) (defScope (sPri 0)) [] [("lost", V.int 1), ("surplus", .int 1), ("value", .int 1), ("junction", .int 1)] f fd
theorem ok_pinit {f : Addr} {fd : FuncData} (F : InitP K f fd) (U : PTxt K mg D CP fCP) (GC : Glb P w K mg base "_checked_price" 7 ["name", "price"] (spChk C CP)) :
    FnOk P w K mg base (L2.CX P w) 8 f fd ["self", "lost", "surplus", "value", "junction"] (spPI C D CP) := by
  obtain ⟨fC, fdC, mC, kC, GC, bC⟩ := GC.ex
  have sc : FnScope ["self", "lost", "surplus", "value", "junction"] ["self", "lost", "surplus", "value", "junction"] (defScope (sPri 0)) := ⟨rfl, rfl, rfl, by decide +kernel, rfl, by decide +kernel, by decide +kernel⟩
  refine F.ok sc (fun vs H Q E h => ?_) (fun cdv A outer s H vs Q E hr h => ?_)
  · obtain ⟨p, dx, v, rfl, _⟩ := h
    rfl
  · obtain ⟨p, dx, v, rfl, hp, k⟩ := h
    refine ⟨_, pss_cons (ps_fld (pv 0) (pe_call GC hr (by rfl) mC kC bC .nil (passes_call (takes_of rfl rfl rfl rfl) (fun _ _ _ _ z => z)) (pa_cons pe_str (pa_cons (pv 1) pa_nil))) rfl)
      (pss_cons (ps_fld (pv 0) (pe_call GC hr (by rfl) mC kC bC .nil (passes_call (takes_of rfl rfl rfl rfl) (fun _ _ _ _ z => z)) (pa_cons pe_str (pa_cons (pv 2) pa_nil))) rfl)
      (pss_cons (ps_fld (pv 0) (pe_call GC hr (by rfl) mC kC bC .nil (passes_call (takes_of rfl rfl rfl rfl) (fun _ _ _ _ z => z)) (pa_cons pe_str (pa_cons (pv 3) pa_nil))) rfl)
      (pss_one (ps_fld (pv 0) (pe_call GC hr (by rfl) mC kC bC .nil (passes_call (takes_of rfl rfl rfl rfl) (fun _ _ _ _ z => z)) (pa_cons pe_str (pa_cons (pv 4) pa_nil))) rfl)))), ?_⟩
    rcases k with ⟨T, B, good, fin⟩ | ⟨k, hk, good, off, fin⟩
    · have gd := fun (i : Nat) (hi : i < 4) (H' : Hp) (s : SameX p H H') => (good i hi).sameX hp noTop0 s
      refine ⟨_, rfl, _, _, rfl, .inl ⟨_, _, (good 0 (by decide)).1, (good 0 (by decide)).2, fun r0 H1 s1 R0 => ?_⟩⟩
      have g1 := s1 _ _ hp
      refine ⟨_, rfl, p, D, dx, _, rfl, g1, U.cl, U.n1, (by show 0 < 1000; decide), ?_⟩
      rw [pF1]
      have x1 : SameX p H (upd H1 p (.ins D dx [("_lost", .ref r0)])) := (SameX.of s1).trans SameX.upd
      have hp1 : (upd H1 p (.ins D dx [("_lost", .ref r0)])) p = some (.ins D dx [("_lost", .ref r0)]) := upd_same
      have Q0 : Rat C (upd H1 p (.ins D dx [("_lost", .ref r0)])) r0 _ _ := R0.sameX g1 noTop0 SameX.upd
      generalize upd H1 p (.ins D dx [("_lost", .ref r0)]) = K1 at x1 hp1 Q0 ⊢
      have X1 : SameX p H K1 := x1
      refine ⟨_, rfl, _, _, rfl, .inl ⟨_, _, (gd 1 (by decide) _ X1).1, (gd 1 (by decide) _ X1).2, fun r1 H2 s2 R1 => ?_⟩⟩
      have g2 := s2 _ _ hp1
      refine ⟨_, rfl, p, D, dx, _, rfl, g2, U.cl, U.n2, (by show 1 < 1000; decide), ?_⟩
      rw [pF2]
      have x2 : SameX p K1 (upd H2 p (.ins D dx [("_lost", .ref r0), ("_surplus", .ref r1)])) := (SameX.of s2).trans SameX.upd
      have hp2 : (upd H2 p (.ins D dx [("_lost", .ref r0), ("_surplus", .ref r1)])) p = some (.ins D dx [("_lost", .ref r0), ("_surplus", .ref r1)]) := upd_same
      have Q1 : Rat C (upd H2 p (.ins D dx [("_lost", .ref r0), ("_surplus", .ref r1)])) r1 _ _ := R1.sameX g2 noTop1 SameX.upd
      have Q0_1 : Rat C (upd H2 p (.ins D dx [("_lost", .ref r0), ("_surplus", .ref r1)])) r0 _ _ := Q0.sameX hp1 noTop1 x2
      generalize upd H2 p (.ins D dx [("_lost", .ref r0), ("_surplus", .ref r1)]) = K2 at x2 hp2 Q1 Q0_1 ⊢
      have X2 : SameX p H K2 := X1.trans x2
      refine ⟨_, rfl, _, _, rfl, .inl ⟨_, _, (gd 2 (by decide) _ X2).1, (gd 2 (by decide) _ X2).2, fun r2 H3 s3 R2 => ?_⟩⟩
      have g3 := s3 _ _ hp2
      refine ⟨_, rfl, p, D, dx, _, rfl, g3, U.cl, U.n3, (by show 2 < 1000; decide), ?_⟩
      rw [pF3]
      have x3 : SameX p K2 (upd H3 p (.ins D dx [("_lost", .ref r0), ("_surplus", .ref r1), ("_value", .ref r2)])) := (SameX.of s3).trans SameX.upd
      have hp3 : (upd H3 p (.ins D dx [("_lost", .ref r0), ("_surplus", .ref r1), ("_value", .ref r2)])) p = some (.ins D dx [("_lost", .ref r0), ("_surplus", .ref r1), ("_value", .ref r2)]) := upd_same
      have Q2 : Rat C (upd H3 p (.ins D dx [("_lost", .ref r0), ("_surplus", .ref r1), ("_value", .ref r2)])) r2 _ _ := R2.sameX g3 noTop2 SameX.upd
      have Q0_2 : Rat C (upd H3 p (.ins D dx [("_lost", .ref r0), ("_surplus", .ref r1), ("_value", .ref r2)])) r0 _ _ := Q0_1.sameX hp2 noTop2 x3
      have Q1_2 : Rat C (upd H3 p (.ins D dx [("_lost", .ref r0), ("_surplus", .ref r1), ("_value", .ref r2)])) r1 _ _ := Q1.sameX hp2 noTop2 x3
      generalize upd H3 p (.ins D dx [("_lost", .ref r0), ("_surplus", .ref r1), ("_value", .ref r2)]) = K3 at x3 hp3 Q2 Q0_2 Q1_2 ⊢
      have X3 : SameX p H K3 := X2.trans x3
      refine ⟨_, rfl, _, _, rfl, .inl ⟨_, _, (gd 3 (by decide) _ X3).1, (gd 3 (by decide) _ X3).2, fun r3 H4 s4 R3 => ?_⟩⟩
      have g4 := s4 _ _ hp3
      refine ⟨_, rfl, p, D, dx, _, rfl, g4, U.cl, U.n4, (by show 3 < 1000; decide), ?_⟩
      rw [pF4]
      have x4 : SameX p K3 (upd H4 p (.ins D dx [("_lost", .ref r0), ("_surplus", .ref r1), ("_value", .ref r2), ("_junction", .ref r3)])) := (SameX.of s4).trans SameX.upd
      have hp4 : (upd H4 p (.ins D dx [("_lost", .ref r0), ("_surplus", .ref r1), ("_value", .ref r2), ("_junction", .ref r3)])) p = some (.ins D dx [("_lost", .ref r0), ("_surplus", .ref r1), ("_value", .ref r2), ("_junction", .ref r3)]) := upd_same
      have Q3 : Rat C (upd H4 p (.ins D dx [("_lost", .ref r0), ("_surplus", .ref r1), ("_value", .ref r2), ("_junction", .ref r3)])) r3 _ _ := R3.sameX g4 noTop3 SameX.upd
      have Q0_3 : Rat C (upd H4 p (.ins D dx [("_lost", .ref r0), ("_surplus", .ref r1), ("_value", .ref r2), ("_junction", .ref r3)])) r0 _ _ := Q0_2.sameX hp3 noTop3 x4
      have Q1_3 : Rat C (upd H4 p (.ins D dx [("_lost", .ref r0), ("_surplus", .ref r1), ("_value", .ref r2), ("_junction", .ref r3)])) r1 _ _ := Q1_2.sameX hp3 noTop3 x4
      have Q2_3 : Rat C (upd H4 p (.ins D dx [("_lost", .ref r0), ("_surplus", .ref r1), ("_value", .ref r2), ("_junction", .ref r3)])) r2 _ _ := Q2.sameX hp3 noTop3 x4
      generalize upd H4 p (.ins D dx [("_lost", .ref r0), ("_surplus", .ref r1), ("_value", .ref r2), ("_junction", .ref r3)]) = K4 at x4 hp4 Q3 Q0_3 Q1_3 Q2_3 ⊢
      have X4 : SameX p H K4 := X3.trans x4
      exact fin _ X4 ⟨dx, fun i => match i with | 0 => r0 | 1 => r1 | 2 => r2 | _ => r3, hp4, fun i hi => match i, hi with | 0, _ => Q0_3 | 1, _ => Q1_3 | 2, _ => Q2_3 | 3, _ => Q3⟩
    · have gd := fun (i : Nat) (hi : i < k) (H' : Hp) (s : SameX p H H') => let ⟨t, b, g⟩ := good i hi; (⟨t, b, g.sameX hp noTop0 s⟩ : ∃ t b, Good C H' (v i) t b)
      have ks : k = 0 ∨ k = 1 ∨ k = 2 ∨ k = 3 := by omega
      rcases ks with rfl | rfl | rfl | rfl
      · skip
        exact ⟨_, rfl, _, _, rfl, .inr ⟨off, fun d H9 s e => fin d H9 (SameX.of s) e⟩⟩
      · skip
        obtain ⟨t0, b0, G0⟩ := gd 0 (by decide) _ (SameX.refl p H)
        refine ⟨_, rfl, _, _, rfl, .inl ⟨_, _, (G0).1, (G0).2, fun r0 H1 s1 R0 => ?_⟩⟩
        have g1 := s1 _ _ hp
        refine ⟨_, rfl, p, D, dx, _, rfl, g1, U.cl, U.n1, (by show 0 < 1000; decide), ?_⟩
        rw [pF1]
        have x1 : SameX p H (upd H1 p (.ins D dx [("_lost", .ref r0)])) := (SameX.of s1).trans SameX.upd
        have hp1 : (upd H1 p (.ins D dx [("_lost", .ref r0)])) p = some (.ins D dx [("_lost", .ref r0)]) := upd_same
        have Q0 : Rat C (upd H1 p (.ins D dx [("_lost", .ref r0)])) r0 _ _ := R0.sameX g1 noTop0 SameX.upd
        generalize upd H1 p (.ins D dx [("_lost", .ref r0)]) = K1 at x1 hp1 Q0 ⊢
        have X1 : SameX p H K1 := x1
        exact ⟨_, rfl, _, _, rfl, .inr ⟨(off.sameX hp noTop0 X1), fun d H9 s e => fin d H9 (X1.trans (SameX.of s)) e⟩⟩
      · skip
        obtain ⟨t0, b0, G0⟩ := gd 0 (by decide) _ (SameX.refl p H)
        refine ⟨_, rfl, _, _, rfl, .inl ⟨_, _, (G0).1, (G0).2, fun r0 H1 s1 R0 => ?_⟩⟩
        have g1 := s1 _ _ hp
        refine ⟨_, rfl, p, D, dx, _, rfl, g1, U.cl, U.n1, (by show 0 < 1000; decide), ?_⟩
        rw [pF1]
        have x1 : SameX p H (upd H1 p (.ins D dx [("_lost", .ref r0)])) := (SameX.of s1).trans SameX.upd
        have hp1 : (upd H1 p (.ins D dx [("_lost", .ref r0)])) p = some (.ins D dx [("_lost", .ref r0)]) := upd_same
        have Q0 : Rat C (upd H1 p (.ins D dx [("_lost", .ref r0)])) r0 _ _ := R0.sameX g1 noTop0 SameX.upd
        generalize upd H1 p (.ins D dx [("_lost", .ref r0)]) = K1 at x1 hp1 Q0 ⊢
        have X1 : SameX p H K1 := x1
        obtain ⟨t1, b1, G1⟩ := gd 1 (by decide) _ X1
        refine ⟨_, rfl, _, _, rfl, .inl ⟨_, _, (G1).1, (G1).2, fun r1 H2 s2 R1 => ?_⟩⟩
        have g2 := s2 _ _ hp1
        refine ⟨_, rfl, p, D, dx, _, rfl, g2, U.cl, U.n2, (by show 1 < 1000; decide), ?_⟩
        rw [pF2]
        have x2 : SameX p K1 (upd H2 p (.ins D dx [("_lost", .ref r0), ("_surplus", .ref r1)])) := (SameX.of s2).trans SameX.upd
        have hp2 : (upd H2 p (.ins D dx [("_lost", .ref r0), ("_surplus", .ref r1)])) p = some (.ins D dx [("_lost", .ref r0), ("_surplus", .ref r1)]) := upd_same
        have Q1 : Rat C (upd H2 p (.ins D dx [("_lost", .ref r0), ("_surplus", .ref r1)])) r1 _ _ := R1.sameX g2 noTop1 SameX.upd
        have Q0_1 : Rat C (upd H2 p (.ins D dx [("_lost", .ref r0), ("_surplus", .ref r1)])) r0 _ _ := Q0.sameX hp1 noTop1 x2
        generalize upd H2 p (.ins D dx [("_lost", .ref r0), ("_surplus", .ref r1)]) = K2 at x2 hp2 Q1 Q0_1 ⊢
        have X2 : SameX p H K2 := X1.trans x2
        exact ⟨_, rfl, _, _, rfl, .inr ⟨(off.sameX hp noTop0 X2), fun d H9 s e => fin d H9 (X2.trans (SameX.of s)) e⟩⟩
      · skip
        obtain ⟨t0, b0, G0⟩ := gd 0 (by decide) _ (SameX.refl p H)
        refine ⟨_, rfl, _, _, rfl, .inl ⟨_, _, (G0).1, (G0).2, fun r0 H1 s1 R0 => ?_⟩⟩
        have g1 := s1 _ _ hp
        refine ⟨_, rfl, p, D, dx, _, rfl, g1, U.cl, U.n1, (by show 0 < 1000; decide), ?_⟩
        rw [pF1]
        have x1 : SameX p H (upd H1 p (.ins D dx [("_lost", .ref r0)])) := (SameX.of s1).trans SameX.upd
        have hp1 : (upd H1 p (.ins D dx [("_lost", .ref r0)])) p = some (.ins D dx [("_lost", .ref r0)]) := upd_same
        have Q0 : Rat C (upd H1 p (.ins D dx [("_lost", .ref r0)])) r0 _ _ := R0.sameX g1 noTop0 SameX.upd
        generalize upd H1 p (.ins D dx [("_lost", .ref r0)]) = K1 at x1 hp1 Q0 ⊢
        have X1 : SameX p H K1 := x1
        obtain ⟨t1, b1, G1⟩ := gd 1 (by decide) _ X1
        refine ⟨_, rfl, _, _, rfl, .inl ⟨_, _, (G1).1, (G1).2, fun r1 H2 s2 R1 => ?_⟩⟩
        have g2 := s2 _ _ hp1
        refine ⟨_, rfl, p, D, dx, _, rfl, g2, U.cl, U.n2, (by show 1 < 1000; decide), ?_⟩
        rw [pF2]
        have x2 : SameX p K1 (upd H2 p (.ins D dx [("_lost", .ref r0), ("_surplus", .ref r1)])) := (SameX.of s2).trans SameX.upd
        have hp2 : (upd H2 p (.ins D dx [("_lost", .ref r0), ("_surplus", .ref r1)])) p = some (.ins D dx [("_lost", .ref r0), ("_surplus", .ref r1)]) := upd_same
        have Q1 : Rat C (upd H2 p (.ins D dx [("_lost", .ref r0), ("_surplus", .ref r1)])) r1 _ _ := R1.sameX g2 noTop1 SameX.upd
        have Q0_1 : Rat C (upd H2 p (.ins D dx [("_lost", .ref r0), ("_surplus", .ref r1)])) r0 _ _ := Q0.sameX hp1 noTop1 x2
        generalize upd H2 p (.ins D dx [("_lost", .ref r0), ("_surplus", .ref r1)]) = K2 at x2 hp2 Q1 Q0_1 ⊢
        have X2 : SameX p H K2 := X1.trans x2
        obtain ⟨t2, b2, G2⟩ := gd 2 (by decide) _ X2
        refine ⟨_, rfl, _, _, rfl, .inl ⟨_, _, (G2).1, (G2).2, fun r2 H3 s3 R2 => ?_⟩⟩
        have g3 := s3 _ _ hp2
        refine ⟨_, rfl, p, D, dx, _, rfl, g3, U.cl, U.n3, (by show 2 < 1000; decide), ?_⟩
        rw [pF3]
        have x3 : SameX p K2 (upd H3 p (.ins D dx [("_lost", .ref r0), ("_surplus", .ref r1), ("_value", .ref r2)])) := (SameX.of s3).trans SameX.upd
        have hp3 : (upd H3 p (.ins D dx [("_lost", .ref r0), ("_surplus", .ref r1), ("_value", .ref r2)])) p = some (.ins D dx [("_lost", .ref r0), ("_surplus", .ref r1), ("_value", .ref r2)]) := upd_same
        have Q2 : Rat C (upd H3 p (.ins D dx [("_lost", .ref r0), ("_surplus", .ref r1), ("_value", .ref r2)])) r2 _ _ := R2.sameX g3 noTop2 SameX.upd
        have Q0_2 : Rat C (upd H3 p (.ins D dx [("_lost", .ref r0), ("_surplus", .ref r1), ("_value", .ref r2)])) r0 _ _ := Q0_1.sameX hp2 noTop2 x3
        have Q1_2 : Rat C (upd H3 p (.ins D dx [("_lost", .ref r0), ("_surplus", .ref r1), ("_value", .ref r2)])) r1 _ _ := Q1.sameX hp2 noTop2 x3
        generalize upd H3 p (.ins D dx [("_lost", .ref r0), ("_surplus", .ref r1), ("_value", .ref r2)]) = K3 at x3 hp3 Q2 Q0_2 Q1_2 ⊢
        have X3 : SameX p H K3 := X2.trans x3
        exact ⟨_, rfl, _, _, rfl, .inr ⟨(off.sameX hp noTop0 X3), fun d H9 s e => fin d H9 (X3.trans (SameX.of s)) e⟩⟩
end
end R1
end

-- U7r
section
set_option Elab.async false
set_option linter.all false
set_option maxRecDepth 100000
set_option exponentiation.threshold 10000
namespace R1
open PySem L2 OwnOps RatM OwnNe
theorem w01 : decide (V.str (wd 0) = V.str "surplus") = false := by decide +kernel
theorem w02 : decide (V.str (wd 0) = V.str "value") = false := by decide +kernel
theorem w03 : decide (V.str (wd 0) = V.str "junction") = false := by decide +kernel
theorem w10 : decide (V.str (wd 1) = V.str "lost") = false := by decide +kernel
theorem w12 : decide (V.str (wd 1) = V.str "value") = false := by decide +kernel
theorem w13 : decide (V.str (wd 1) = V.str "junction") = false := by decide +kernel
theorem w20 : decide (V.str (wd 2) = V.str "lost") = false := by decide +kernel
theorem w21 : decide (V.str (wd 2) = V.str "surplus") = false := by decide +kernel
theorem w23 : decide (V.str (wd 2) = V.str "junction") = false := by decide +kernel
theorem w30 : decide (V.str (wd 3) = V.str "lost") = false := by decide +kernel
theorem w31 : decide (V.str (wd 3) = V.str "surplus") = false := by decide +kernel
theorem w32 : decide (V.str (wd 3) = V.str "value") = false := by decide +kernel
/-- in lowest terms, and a price -/
structure Nm (t b : Int) : Prop where
  b0 : 0 < b
  nt : nt t b = t
  nb : nb t b = b
  st : Sm 200 t
  sb : Sm 200 b
  le : b ≤ t
theorem Good.nm {C : Addr} {H : Hp} {v : V} {t b : Int} (g : Good C H v t b) : Nm t b := ⟨g.1.b0, g.1.nt, g.1.nb, g.1.st, g.1.sb, g.2⟩
theorem Nm.good {C : Addr} {H : Hp} {v : V} {t b : Int} (n : Nm t b) (g : Num C H v t b) : Good C H v t b := ⟨⟨g, n.b0, n.nt, n.nb, n.st, n.sb⟩, n.le⟩
theorem Rat.good {C : Addr} {H : Hp} {q : Addr} {t b : Int} (n : Nm t b) (g : Rat C H q t b) : Good C H (.ref q) t b := n.good (.inl ⟨q, rfl, g⟩)
section
variable {C D CP : Addr} {H : Hp} {Q : VK} {E : XK}
theorem same_made {H' : Hp} {x dx : Addr} (hx : H x = none) (hd : H dx = none) (sx : SameX x (upd (upd H dx (.own x)) x (.ins D dx [])) H') : Same H H' := fun b u e =>
  sx b u (ne_of_none e hx) (same_new hx hd b u e)
theorem mkP_good {v : Nat → V} {T B : Nat → Int} (g : ∀ i, i < 4 → Good C H (v i) (T i) (B i)) (k : ∀ q H', H q = none → Same H H' → Prc C D H' q T B → Q (.ref q) H') :
    ∀ x dx, H x = none → H dx = none → dx ≠ x → spPI C D CP [.ref x, v 0, v 1, v 2, v 3] (upd (upd H dx (.own x)) x (.ins D dx [])) (fun v H2 => v = .non ∧ Q (.ref x) H2) E := by
  intro x dx hx hd ne
  exact ⟨x, dx, v, rfl, upd_same, .inl ⟨T, B, fun i hi => (g i hi).same (same_new hx hd), fun H' sx pr => ⟨rfl, k x H' hx (same_made hx hd sx) pr⟩⟩⟩
theorem mkP_bad {v : Nat → V} {k : Nat} {R : Addr → VK} (hk : k < 4) (g : ∀ i, i < k → ∃ t b, Good C H (v i) t b) (off : Off C H (v k)) (fin : ∀ d H', Same H H' → H' d = some (xd (.str (wd k))) → E (.ref CP) (some d) H') :
    ∀ x dx, H x = none → H dx = none → dx ≠ x → spPI C D CP [.ref x, v 0, v 1, v 2, v 3] (upd (upd H dx (.own x)) x (.ins D dx [])) (R x) E := by
  intro x dx hx hd ne
  exact ⟨x, dx, v, rfl, upd_same, .inr ⟨k, hk, fun i hi => let ⟨t, b, q⟩ := g i hi; ⟨t, b, q.same (same_new hx hd)⟩, off.same (same_new hx hd), fun d H' sx e => fin d H' (same_made hx hd sx) e⟩⟩
end
/-- a property of the class that tells a field -/
structure PropG (P : Program) (w : World) (K : PySem.W.Frag) (mg : Str → Option Value) (base : Heap) (D : Addr) (f fld : Str) : Prop where
  ex : ∃ (p g : Addr) (fd : FuncData), PropOf K D f p g ∧ FnOk P w K mg base (L2.CX P w) 1 g fd ["self"] (getSp D fld) ∧ L2.Binds K fd ["self"] []
abbrev psI : List Str := ["self", "lost", "surplus", "value", "junction"]
abbrev gA : {α : Type} → List α → List α → List α → List α := fun vs _ zs => vs ++ zs
def gJ : {α : Type} → List α → List α → List α → List α
  | _, x, _, [j, v, l, s] => x ++ [l, s, v, j]
  | _, x, _, _ => x
def gW : {α : Type} → List α → List α → List α → List α
  | _, x, [l, s, j], [v] => x ++ [l, s, v, j]
  | _, x, _, _ => x
/-- the class's making -/
structure MkP (P : Program) (w : World) (K : PySem.W.Frag) (mg : Str → Option Value) (base : Heap) (C D CP : Addr) : Prop where
  ex : ∃ (f : Addr) (fd : FuncData) (ds mA mJ mW : List Value), Mk K D f ∧ FnOk P w K mg base (L2.CX P w) 8 f fd psI (spPI C D CP) ∧ Vals [.int 1, .int 1, .int 1, .int 1] ds ∧ L2.Binds K fd psI ds ∧
    KBn K fd psI 1 ["lost", "surplus", "value", "junction"] (fun us ws => gA us mA ws) (fun vs zs => gA vs [] zs) ∧
    KBn K fd psI 1 ["junction", "value", "lost", "surplus"] (fun us ws => gJ us mJ ws) (fun vs zs => gJ vs [] zs) ∧
    KBn K fd psI 1 ["value"] (fun us ws => gW us mW ws) (fun vs zs => gW vs [.int 1, .int 1, .int 1] zs)
def set (k : Nat) (t : Int) (T : Nat → Int) : Nat → Int := fun i => if i = k then t else T i
theorem Prc.set {C D : Addr} {H : Hp} {p dx a : Addr} {r : Nat → Addr} {T B : Nat → Int} {k : Nat} {t b : Int} (e : H p = some (.ins D dx (pf (put k a r)))) (hr : ∀ i, i < 4 → Rat C H (r i) (T i) (B i)) (ha : Rat C H a t b) : Prc C D H p (set k t T) (set k b B) :=
  ⟨dx, _, e, fun i hi => by
    unfold R1.set put
    by_cases h : i = k
    · rw [if_pos h, if_pos h, if_pos h]; exact ha
    · rw [if_neg h, if_neg h, if_neg h]; exact hr i hi⟩
def spChange (C D CP : Addr) : Sp := fun vs H Q E => ∃ (p : Addr) (nm v : V) (T B : Nat → Int), vs = [.ref p, nm, v] ∧ Prc C D H p T B ∧
  ((∃ k, k < 4 ∧ nm = .str (wd k) ∧ ((∃ t b, Good C H v t b ∧ ∀ H', SameX p H H' → Prc C D H' p (set k t T) (set k b B) → Q .non H') ∨ (Off C H v ∧ ∀ d H', Same H H' → H' d = some (xd nm) → E (.ref CP) (some d) H'))) ∨
   ((nm = .non ∨ ∃ x, nm = .str x ∧ ∀ k, k < 4 → ¬ x = wd k) ∧ ∀ d H', Same H H' → H' d = some (xd nm) → E (.ref CP) (some d) H'))
section
variable {P : Program} {w : World} {K : PySem.W.Frag} {mg : Str → Option Value} {base : Heap} {C CI fCI CZ fCZ D CP fCP : Addr}
theorem ok_change {f : Addr} {fd : FuncData} (F : Fun K "change" "Prices.change" (sPri 9) f fd) (U : PTxt K mg D CP fCP) (GC : Glb P w K mg base "_checked_price" 7 ["name", "price"] (spChk C CP)) :
    FnOk P w K mg base (L2.CX P w) 8 f fd ["self", "name", "price"] (spChange C D CP) := by
  obtain ⟨fC, fdC, mC, kC, GC, bC⟩ := GC.ex
  have sc : FnScope ["self", "name", "price"] ["self", "name", "price"] (defScope (sPri 9)) := ⟨rfl, rfl, rfl, by decide +kernel, rfl, by decide +kernel, by decide +kernel⟩
  refine F.okX sc (fun vs H Q E h => ?_) (fun cdv A outer s H vs Q E hr h => ?_)
  · obtain ⟨p, nm, v, T, B, rfl, _⟩ := h
    rfl
  · obtain ⟨p, nm, v, T, B, rfl, ⟨dx, r, hp, hr4⟩, k⟩ := h
    refine ⟨_, pss_one (ps_if (pt_cmpR op_eq (pv 1) pe_str (nomark _))
      (pss_one (ps_fld (pv 0) (pe_call GC hr (by rfl) mC kC bC .nil (passes_call (takes_of rfl rfl rfl rfl) (fun _ _ _ _ z => z)) (pa_cons (pv 1) (pa_cons (pv 2) pa_nil))) rfl))
      (pss_one (ps_if (pt_cmpR op_eq (pv 1) pe_str (nomark _))
      (pss_one (ps_fld (pv 0) (pe_call GC hr (by rfl) mC kC bC .nil (passes_call (takes_of rfl rfl rfl rfl) (fun _ _ _ _ z => z)) (pa_cons (pv 1) (pa_cons (pv 2) pa_nil))) rfl))
      (pss_one (ps_if (pt_cmpR op_eq (pv 1) pe_str (nomark _))
      (pss_one (ps_fld (pv 0) (pe_call GC hr (by rfl) mC kC bC .nil (passes_call (takes_of rfl rfl rfl rfl) (fun _ _ _ _ z => z)) (pa_cons (pv 1) (pa_cons (pv 2) pa_nil))) rfl))
      (pss_one (ps_if (pt_cmpR op_eq (pv 1) pe_str (nomark _))
      (pss_one (ps_fld (pv 0) (pe_call GC hr (by rfl) mC kC bC .nil (passes_call (takes_of rfl rfl rfl rfl) (fun _ _ _ _ z => z)) (pa_cons (pv 1) (pa_cons (pv 2) pa_nil))) rfl))
      (pss_one (ps_raiseGiv rfl PySem.Giv.ok_VE U.eP hr (takes_of rfl rfl rfl rfl) (pa_cons (pv 1) pa_nil) (by rfl)))))))))), ?_⟩
    have fin : (∀ d H', Same H H' → H' d = some (xd nm) → E (.ref CP) (some d) H') → ∀ d, H d = none → E (.ref CP) (some d) (upd H d (xd nm)) := fun k d hd => k d _ (same_upd hd) upd_same
    rcases k with ⟨kk, hk, rfl, k⟩ | ⟨hn, k⟩
    · have ks : kk = 0 ∨ kk = 1 ∨ kk = 2 ∨ kk = 3 := by omega
      rcases ks with rfl | rfl | rfl | rfl
      · rcases k with ⟨t, b, g, k⟩ | ⟨off, k⟩
        · refine ⟨_, rfl, rfl, _, rfl, if_pos' (decide_eq_true rfl) ⟨_, rfl, _, rfl, _, _, rfl, .inl ⟨t, b, g.1, g.2, fun a H1 s1 ra => ?_⟩⟩⟩
          refine ⟨_, rfl, p, D, dx, _, rfl, s1 _ _ hp, U.cl, U.n1, (by show 4 < 1000; decide), ?_⟩
          rw [pput0]
          refine k _ ((SameX.of s1).trans SameX.upd) (Prc.set upd_same (fun i hi => ((hr4 i hi).same s1).sameX (s1 _ _ hp) noTop4 SameX.upd) (ra.sameX (s1 _ _ hp) noTop4 SameX.upd))
        · exact ⟨_, rfl, rfl, _, rfl, if_pos' (decide_eq_true rfl) ⟨_, rfl, _, rfl, _, _, rfl, .inr ⟨off, k⟩⟩⟩
      · rcases k with ⟨t, b, g, k⟩ | ⟨off, k⟩
        · refine ⟨_, rfl, rfl, _, rfl, if_neg' w10 ⟨_, rfl, rfl, _, rfl, if_pos' (decide_eq_true rfl) ⟨_, rfl, _, rfl, _, _, rfl, .inl ⟨t, b, g.1, g.2, fun a H1 s1 ra => ?_⟩⟩⟩⟩
          refine ⟨_, rfl, p, D, dx, _, rfl, s1 _ _ hp, U.cl, U.n2, (by show 4 < 1000; decide), ?_⟩
          rw [pput1]
          refine k _ ((SameX.of s1).trans SameX.upd) (Prc.set upd_same (fun i hi => ((hr4 i hi).same s1).sameX (s1 _ _ hp) noTop4 SameX.upd) (ra.sameX (s1 _ _ hp) noTop4 SameX.upd))
        · exact ⟨_, rfl, rfl, _, rfl, if_neg' w10 ⟨_, rfl, rfl, _, rfl, if_pos' (decide_eq_true rfl) ⟨_, rfl, _, rfl, _, _, rfl, .inr ⟨off, k⟩⟩⟩⟩
      · rcases k with ⟨t, b, g, k⟩ | ⟨off, k⟩
        · refine ⟨_, rfl, rfl, _, rfl, if_neg' w20 ⟨_, rfl, rfl, _, rfl, if_neg' w21 ⟨_, rfl, rfl, _, rfl, if_pos' (decide_eq_true rfl) ⟨_, rfl, _, rfl, _, _, rfl, .inl ⟨t, b, g.1, g.2, fun a H1 s1 ra => ?_⟩⟩⟩⟩⟩
          refine ⟨_, rfl, p, D, dx, _, rfl, s1 _ _ hp, U.cl, U.n3, (by show 4 < 1000; decide), ?_⟩
          rw [pput2]
          refine k _ ((SameX.of s1).trans SameX.upd) (Prc.set upd_same (fun i hi => ((hr4 i hi).same s1).sameX (s1 _ _ hp) noTop4 SameX.upd) (ra.sameX (s1 _ _ hp) noTop4 SameX.upd))
        · exact ⟨_, rfl, rfl, _, rfl, if_neg' w20 ⟨_, rfl, rfl, _, rfl, if_neg' w21 ⟨_, rfl, rfl, _, rfl, if_pos' (decide_eq_true rfl) ⟨_, rfl, _, rfl, _, _, rfl, .inr ⟨off, k⟩⟩⟩⟩⟩
      · rcases k with ⟨t, b, g, k⟩ | ⟨off, k⟩
        · refine ⟨_, rfl, rfl, _, rfl, if_neg' w30 ⟨_, rfl, rfl, _, rfl, if_neg' w31 ⟨_, rfl, rfl, _, rfl, if_neg' w32 ⟨_, rfl, rfl, _, rfl, if_pos' (decide_eq_true rfl) ⟨_, rfl, _, rfl, _, _, rfl, .inl ⟨t, b, g.1, g.2, fun a H1 s1 ra => ?_⟩⟩⟩⟩⟩⟩
          refine ⟨_, rfl, p, D, dx, _, rfl, s1 _ _ hp, U.cl, U.n4, (by show 4 < 1000; decide), ?_⟩
          rw [pput3]
          refine k _ ((SameX.of s1).trans SameX.upd) (Prc.set upd_same (fun i hi => ((hr4 i hi).same s1).sameX (s1 _ _ hp) noTop4 SameX.upd) (ra.sameX (s1 _ _ hp) noTop4 SameX.upd))
        · exact ⟨_, rfl, rfl, _, rfl, if_neg' w30 ⟨_, rfl, rfl, _, rfl, if_neg' w31 ⟨_, rfl, rfl, _, rfl, if_neg' w32 ⟨_, rfl, rfl, _, rfl, if_pos' (decide_eq_true rfl) ⟨_, rfl, _, rfl, _, _, rfl, .inr ⟨off, k⟩⟩⟩⟩⟩⟩
    · rcases hn with rfl | ⟨x, rfl, hn⟩
      · exact ⟨_, rfl, rfl, _, rfl, if_neg' (by decide +kernel) ⟨_, rfl, rfl, _, rfl, if_neg' (by decide +kernel) ⟨_, rfl, rfl, _, rfl, if_neg' (by decide +kernel) ⟨_, rfl, rfl, _, rfl, if_neg' (by decide +kernel) ⟨_, rfl, _, rfl, fin k⟩⟩⟩⟩⟩
      · have ne : ∀ k, k < 4 → decide (V.str x = V.str (wd k)) = false := fun k hk => decide_eq_false (fun e => hn k hk (V.str.inj e))
        exact ⟨_, rfl, rfl, _, rfl, if_neg' (ne 0 (by decide)) ⟨_, rfl, rfl, _, rfl, if_neg' (ne 1 (by decide)) ⟨_, rfl, rfl, _, rfl, if_neg' (ne 2 (by decide)) ⟨_, rfl, rfl, _, rfl, if_neg' (ne 3 (by decide)) ⟨_, rfl, _, rfl, fin k⟩⟩⟩⟩⟩
end
end R1
end

-- U7m
section
set_option Elab.async false
set_option linter.all false
/-! sums of prices, by their sorts. -/
namespace RatM
def add0 (x y : Int × Int) : Int × Int := (x.1 * y.2 + y.1 * x.2, x.2 * y.2)
def raw (T B : Nat → Int) (L : List Nat) : Int × Int := L.foldl (fun x i => add0 x (T i, B i)) (0, 1)
theorem raw_nil {T B : Nat → Int} : raw T B [] = (0, 1) := rfl
theorem raw_snoc {T B : Nat → Int} {L : List Nat} {i : Nat} : raw T B (L ++ [i]) = add0 (raw T B L) (T i, B i) := by
  unfold raw
  rw [List.foldl_append]
  rfl
theorem add0_comm (z x y : Int × Int) : add0 (add0 z x) y = add0 (add0 z y) x := by
  unfold add0
  exact Prod.ext (by dsimp only; grind) (by dsimp only; grind)
theorem raw_perm {T B : Nat → Int} {L L' : List Nat} (p : L.Perm L') : raw T B L = raw T B L' := List.Perm.foldl_eq' p (fun x _ y _ z => add0_comm z _ _) _
/-- bounds of a price -/
structure Bnd (t b : Int) : Prop where
  b0 : 0 < b
  t0 : 0 ≤ t
  b1 : b ≤ 2 ^ 41
  t1 : t ≤ 2 ^ 41
theorem mul_le {a b c d : Int} (a0 : 0 ≤ a) (d0 : 0 ≤ d) (h1 : a ≤ c) (h2 : b ≤ d) : a * b ≤ c * d := Int.le_trans (Int.mul_le_mul_of_nonneg_left h2 a0) (Int.mul_le_mul_of_nonneg_right h1 d0)
theorem raw_bnd {T B : Nat → Int} (L : List Nat) (h : ∀ i ∈ L, Bnd (T i) (B i)) : 0 < (raw T B L).2 ∧ (raw T B L).2 ≤ (2 ^ 41) ^ L.length ∧ 0 ≤ (raw T B L).1 ∧ (raw T B L).1 ≤ (L.length : Int) * (2 ^ 41) ^ L.length := by
  generalize hn : L.length = n
  induction n generalizing L with
  | zero =>
    cases L with
    | nil => rw [raw_nil]; exact ⟨by decide, by decide, by decide, by decide⟩
    | cons => cases hn
  | succ n ih =>
    rcases List.eq_nil_or_concat L with rfl | ⟨M, i, rfl⟩
    · cases hn
    · rw [List.concat_eq_append] at *
      have hM : M.length = n := by
        rw [List.length_append] at hn
        exact Nat.succ.inj hn
      obtain ⟨h1, h2, h3, h4⟩ := ih M (fun j m => h j (List.mem_append_left _ m)) hM
      have hb := h i (List.mem_append_right _ (List.mem_singleton.mpr rfl))
      rw [raw_snoc]
      unfold add0
      dsimp only
      generalize raw T B M = r at h1 h2 h3 h4
      have p0 : (0 : Int) < 2 ^ 41 := by decide
      have pn : (0 : Int) < (2 ^ 41) ^ n := Int.pow_pos p0
      have e : ((2 : Int) ^ 41) ^ (n + 1) = (2 ^ 41) ^ n * 2 ^ 41 := Int.pow_succ _ _
      rw [e]
      refine ⟨Int.mul_pos h1 hb.b0, mul_le (Int.le_of_lt h1) (Int.le_of_lt p0) h2 hb.b1, Int.add_nonneg (Int.mul_nonneg h3 (Int.le_of_lt hb.b0)) (Int.mul_nonneg hb.t0 (Int.le_of_lt h1)), ?_⟩
      have a1 : r.1 * B i ≤ ((n : Int) * (2 ^ 41) ^ n) * 2 ^ 41 := mul_le h3 (Int.le_of_lt p0) h4 hb.b1
      have a2 : T i * r.2 ≤ 2 ^ 41 * (2 ^ 41) ^ n := mul_le hb.t0 (Int.le_of_lt pn) hb.t1 h2
      refine Int.le_trans (Int.add_le_add a1 a2) ?_
      generalize ((2 : Int) ^ 41) ^ n = x
      generalize (2 : Int) ^ 41 = y
      push_cast
      refine Int.le_of_eq ?_
      grind
theorem big8 {n : Nat} (h : n ≤ 8) : (n : Int) * (2 ^ 41) ^ n < 2 ^ 340 ∧ ((2 : Int) ^ 41) ^ n < 2 ^ 340 := by
  rcases (show n = 0 ∨ n = 1 ∨ n = 2 ∨ n = 3 ∨ n = 4 ∨ n = 5 ∨ n = 6 ∨ n = 7 ∨ n = 8 by omega) with rfl | rfl | rfl | rfl | rfl | rfl | rfl | rfl | rfl <;> exact ⟨by decide +kernel, by decide +kernel⟩
/-- what a sum comes to, in lowest terms -/
def sT (T B : Nat → Int) (L : List Nat) : Int := nt (raw T B L).1 (raw T B L).2
def sB (T B : Nat → Int) (L : List Nat) : Int := nb (raw T B L).1 (raw T B L).2
theorem s_nil {T B : Nat → Int} : sT T B [] = 0 ∧ sB T B [] = 1 := nt_one 0
theorem s_snoc {T B : Nat → Int} {L : List Nat} {i : Nat} (h : ∀ j ∈ L, Bnd (T j) (B j)) (hb : 0 < B i) (e1 : nt (T i) (B i) = T i) (e2 : nb (T i) (B i) = B i) :
    nt (sT T B L * B i + T i * sB T B L) (sB T B L * B i) = sT T B (L ++ [i]) ∧ nb (sT T B L * B i + T i * sB T B L) (sB T B L * B i) = sB T B (L ++ [i]) := by
  have r := raw_bnd L h
  have := add_nrm (a := (raw T B L).1) (b := (raw T B L).2) (c := T i) (d := B i) (by omega) (by omega)
  rw [e1, e2] at this
  unfold sT sB
  rw [raw_snoc]
  exact this
theorem s_perm {T B : Nat → Int} {L L' : List Nat} (p : L.Perm L') : sT T B L = sT T B L' ∧ sB T B L = sB T B L' := by
  unfold sT sB
  rw [raw_perm p]
  exact ⟨rfl, rfl⟩
theorem s_bnd {T B : Nat → Int} {L : List Nat} (n : L.length ≤ 8) (h : ∀ j ∈ L, Bnd (T j) (B j)) : 0 < sB T B L ∧ (sT T B L).natAbs < 2 ^ 340 ∧ (sB T B L).natAbs < 2 ^ 340 := by
  obtain ⟨h1, h2, h3, h4⟩ := raw_bnd L h
  obtain ⟨b1, b2⟩ := big8 n
  have ne : (raw T B L).2 ≠ 0 := by omega
  have t1 := nt_le (t := (raw T B L).1) ne
  have t2 := nb_le (t := (raw T B L).1) ne
  refine ⟨nb_pos ne, Nat.lt_of_le_of_lt t1 ?_, Nat.lt_of_le_of_lt t2 ?_⟩
  · have : (raw T B L).1 < 2 ^ 340 := Int.lt_of_le_of_lt h4 b1
    have e : ((2 : Int) ^ 340) = ((2 ^ 340 : Nat) : Int) := by decide +kernel
    rw [e] at this
    omega
  · have : (raw T B L).2 < 2 ^ 340 := Int.lt_of_le_of_lt h2 b2
    have e : ((2 : Int) ^ 340) = ((2 ^ 340 : Nat) : Int) := by decide +kernel
    rw [e] at this
    omega
theorem raw_ones (L : List Nat) : raw (fun _ => 1) (fun _ => 1) L = ((L.length : Int), 1) := by
  generalize hn : L.length = n
  induction n generalizing L with
  | zero =>
    cases L with
    | nil => rfl
    | cons => cases hn
  | succ n ih =>
    rcases List.eq_nil_or_concat L with rfl | ⟨M, i, rfl⟩
    · cases hn
    · rw [List.concat_eq_append] at *
      have hM : M.length = n := by
        rw [List.length_append] at hn
        exact Nat.succ.inj hn
      rw [raw_snoc, ih M hM]
      unfold add0
      exact Prod.ext (by dsimp only; omega) (by dsimp only; omega)
theorem s_ones (L : List Nat) : sT (fun _ => 1) (fun _ => 1) L = (L.length : Int) ∧ sB (fun _ => 1) (fun _ => 1) L = 1 := by
  unfold sT sB
  rw [raw_ones]
  exact nt_one _
theorem bnd_one : Bnd 1 1 := ⟨by decide, by decide, by decide, by decide⟩
end RatM
end

-- ErrVal
section
set_option Elab.async false
set_option linter.all false
set_option maxRecDepth 100000
set_option maxHeartbeats 2000000
/-! An own error with the field `given`, held as a value. -/
namespace L2
open PySem PySem.Spec PyProof.Rows
/-- an error of the class cls at e, its dict at d -/
def ExG (cls : Value) (e d : Addr) : HO := .ext fun h => ∃ (oe : Obj) (vs : Array Value), h.get? e = some oe ∧ Zc cls (some d) oe ∧ oe.data = .fields vs ∧ vs[1]? = some .none
section
variable {X : Cx} {C fI : Addr} {cn qn : Str} {B newId initId : String} {bt : List Value}
/-- Err(x), as a value -/
theorem pe_mkGiv {a : Expr} {ta : TA} {p pos : Pos} {k : Nat} (Z : PySem.Giv.BaseOk B newId initId bt) (T : PySem.Giv.ErrTxt X.K X.mg cn qn newId bt C fI) (hr : Room k X.A) (ha : PA X [a] ta) (hg : Gl X cn) (hdb : (cn == ("__debug__" : Str)) = false := by decide)
    (he : starEach (a :: []) X.env = (false, eval a X.env) :: starEach [] X.env := by rfl) (hpl : (backTo pos (starEach [] X.env)).any (·.1) = false := by rfl) :
    PE X (.Call (.Name cn p) [a] [] pos) (fun σ H Q => ta σ H fun vs H1 => ∃ v, vs = [v] ∧ ∀ e d, H1 e = none → H1 d = none → d ≠ e → Q (.ref e) (upd (upd H1 d (.xd [(("given" : Str), v)])) e (ExG (.ref C) e d))) := by
  refine ⟨fun pins s σ H Q I h => ?_⟩
  refine wpAny_Call_Name_kw (ld_glob I hg T.gC ?_ hdb)
  refine PySem.W.callWith_K (h₀ := X.base) I.ok.mod.kin T.kC (thn (ha.run pos pins s σ H _ I h) fun us s1 hh => ?_) he hpl
  obtain ⟨vs, H1, I1, r1, v, ev, q1⟩ := hh
  subst ev
  refine ⟨I1.kIn, ?_⟩
  cases r1 with
  | cons rv rn =>
    rename_i v' us'
    cases rn
    show wpAny _ _ (call (.ref C) [v']) _ _ _
    have hlim := I1.nolimit
    obtain ⟨hp, g, dr, tk, os⟩ := s1
    refine wpAny_call (PySem.Giv.giv_made Z T I1.kIn hlim (by have := hr.dp; omega) fun h' tk' e d M => ?_)
    show EP X pins σ Q (.ref e) ⟨h', g, dr, tk', os⟩
    obtain ⟨oe, fv, hoe, hc, hd, hdat, h1⟩ := M.obj
    have hns := M.ns
    obtain ⟨G', g1, g2⟩ := restrict h' fun b => decide (b ≠ e)
    have gk : ∀ b, b ≠ e → G'.get? b = h'.get? b := fun b hb => g1 b (decide_eq_true hb)
    have ge : G'.get? e = none := g2 e (by simp)
    have old : ∀ b o, hp.get? b = some o → G'.get? b = some o := fun b o q => (gk b (Nat.ne_of_lt (Nat.lt_of_lt_of_le (Heap.lt_size q) M.new))).trans (M.keep b o q)
    have ob : ObjOk X.prog X.w (upd H1 d (.xd [(("given" : Str), v)])) G' d (.xd [(("given" : Str), v)]) :=
      ⟨_, hns.at (fun o q => (gk d M.dne).trans q), fun f => relO_giv rv f⟩
    have J : L2.Inv X pins σ (upd H1 d (.xd [(("given" : Str), v)])) ⟨G', g, dr, tk', os⟩ := I1.laid (t' := tk') old M.dbig ob
    have en : (upd H1 d (.xd [(("given" : Str), v)])) e = none := by
      rw [upd_ne (Ne.symm M.dne)]
      exact I1.hok.fresh M.new
    have J2 : L2.Inv X pins σ (upd (upd H1 d (.xd [(("given" : Str), v)])) e (ExG (.ref C) e d)) ⟨h', g, dr, tk', os⟩ := J.laidN (t' := tk') (fun b o q => by
      by_cases hb : b = e
      · rw [hb, ge] at q; cases q
      · exact (gk b hb).symm.trans q) ge en ⟨⟨oe, fv, hoe, ⟨hc, hd⟩, hdat, h1⟩, ⟨oe, hoe⟩, fun _ _ ⟨o, u, q, r⟩ k => ⟨o, u, k o q, r⟩⟩
    exact ⟨.ref e, _, J2, rfl, q1 e d (I1.hok.fresh M.new) (I1.hok.fresh M.dbig) M.dne⟩
/-- err.given, err an error held as a value -/
theorem pe_givVal {e : Expr} {te : TE} {pos : Pos} (T : PySem.Giv.ErrTxt X.K X.mg cn qn newId bt C fI) (he : PE X e te) (hb : attributeBase e "given" X.env (eval e X.env) = eval e X.env := by rfl) :
    PE X (.Attribute e "given" pos) (fun σ H Q => te σ H fun x H1 => ∃ a d v, x = .ref a ∧ H1 a = some (ExG (.ref C) a d) ∧ H1 d = some (.xd [(("given" : Str), v)]) ∧ Q v H1) := by
  refine ⟨fun pins s σ H Q I h => ?_⟩
  refine attr_of hb (thn (he.run pins s σ H _ I h) fun u s1 hh => ?_)
  obtain ⟨x, H1, I1, rx, a, d, v, ex, ea, ed, q⟩ := hh
  subst ex
  obtain rfl : u = Value.ref a := rx
  obtain ⟨⟨oe, vs, ha, hz, hd, h1⟩, _, _⟩ := (show ObjOk X.prog X.w H1 s1.heap a (ExG (.ref C) a d) from I1.hok a _ ea)
  have hx : ObjOk X.prog X.w H1 s1.heap d (.xd [(("given" : Str), v)]) := I1.hok d _ ed
  obtain ⟨mA, hns, hr⟩ := hx
  obtain ⟨od, ho, hl⟩ := lookIn_ns hns
  have l : List.lookup ("given" : Str) [(("given" : Str), v)] = some v := by simp [List.lookup]
  obtain ⟨u, hu, ru⟩ := RelO.some_of (v := v) (o := mA "given") (by rw [← l]; exact hr "given")
  have J : PySem.W.InstAt s1.heap a oe C (some od) := ⟨ha, hz.1, by unfold PySem.W.notCls; rw [hd] <;> rfl, by rw [hz.2]; exact ho⟩
  exact HandSPX.exc_get I1.kIn J T.ga T.gg T.exC (PySem.W.findObj_own T.hdC T.noN rfl (by rw [hl, hu])) (handed_of ru) ⟨v, H1, I1.tok _, ru, q⟩
end
end L2
end

-- ErrVal2
section
set_option Elab.async false
set_option linter.all false
set_option maxRecDepth 100000
/-! isinstance of an error held as a value. -/
namespace L2
open PySem PySem.Spec PyProof.Rows
/-- what is known of the error class at C for isinstance -/
structure KitG (K : PySem.W.Frag) (C : Addr) : Prop where
  ic : PySem.W.isClsIn K C = true
  ga : PySem.W.findIn K (.ref C) "__getattribute__" = some (some (.builtin "BaseException.__getattribute__"))
  gg : ∃ gt, PySem.W.findIn K (.ref C) "__getattr__" = some gt
  ex : PySem.W.subIn K (.ref C) (.type "BaseException") = some true
  ha : PySem.W.findIn K (.ref C) "__class__" = some (some (.builtin "object.__class__"))
  hn : PySem.W.specialIn K (.builtin "object.__class__") "__get__" = some (some (.builtin "getset_descriptor.__get__"))
  htk : PySem.W.takesIn K (.builtin "object.__class__") = some true
  hm : PySem.W.mroIn K C (.type "object") = some true
def rIsiG (K : PySem.W.Frag) : List V → Hp → VK → Prop := fun xs H Q => ∃ (a d C : Addr) (fs : List (Str × V)) (c : V) (u : Value) (b : Bool), xs = [.ref a, c] ∧ H a = some (ExG (.ref C) a d) ∧ H d = some (.xd fs) ∧ KitG K C ∧ ClsV c u ∧ PySem.W.kitOne K (.ref C) u = some b ∧ Q (.bl b) H
theorem call_isiG {X : Cx} : CallR X (.builtin "isinstance") (rIsiG X.K) := by
  intro pins s σ H xs us Q I r h
  obtain ⟨a, d, C, fs, c, u, b, rfl, ea, ed, G, k, e, q⟩ := h
  obtain ⟨u1, u2, rfl, r1, r2⟩ := vals2 r
  cases (show u1 = Value.ref a from r1)
  have e2 := k.eq r2
  subst e2
  obtain ⟨⟨oe, vs, ha, hz, hd, h1⟩, _, _⟩ := (show ObjOk X.prog X.w H s.heap a (ExG (.ref C) a d) from I.hok a _ ea)
  have hx : ObjOk X.prog X.w H s.heap d (.xd fs) := I.hok d _ ed
  obtain ⟨mA, hns, hr⟩ := hx
  obtain ⟨od, ho, hl⟩ := lookIn_ns hns
  have J : PySem.W.InstAt s.heap a oe C (some od) := ⟨ha, hz.1, by unfold PySem.W.notCls; rw [hd] <;> rfl, by rw [hz.2]; exact ho⟩
  obtain ⟨gt, hgt⟩ := G.gg
  exact PySem.W.kia_one (PySem.W.kitx_exc (ox := oe) (od := some od) G.ic G.ga hgt G.ex G.ha G.hn G.htk G.hm) I.kIn J e (fun z => nomatch z) fun tk => ⟨.bl b, H, I.tok tk, rfl, q⟩
end L2
end

-- OwnTry
section
set_option Elab.async false
set_option linter.all false
set_option maxRecDepth 100000
/-! Calls whose exception is wished for at just these slots; isinstance of a held error with a dict. -/
namespace OwnTry
open PySem L2
/-- W at the slots σ -/
def EA (W : WX) (σ : L2.St) : XK := fun cls d H' => W cls d σ H'
section
variable {X : Cx} {k : Nat} {f C : Addr} {fd : FuncData} {ps : List Str} {sp : Sp} {dvs : List V} {ds : List Value} {W : WX} {x m : Str} {p pos apos : Pos} {e o : Expr} {es : List Expr} {ta : TE} {t : TA}
theorem out_at {pins : List (Addr × Obj)} {σ : L2.St} {H : Hp} {s : Shared} (tk : Takes X W) (I : L2.Inv X pins σ H s) {u : Value} {s' : Shared} (c : L2.CX X.prog X.w X.stack H s (EA W σ) u s') : X.xe u s' :=
  tk _ _ (XE.of_call I (fun _ _ _ z => z) c)
/-- a def called, W wished for if it raises -/
theorem run_at {A : Around} {pins : List (Addr × Obj)} {σ : L2.St} {H : Hp} {s : Shared} {Q : VK} {us : List Value} {vs : List V} (F : FnOk X.prog X.w X.K X.mg X.base (L2.CX X.prog X.w) k f fd ps sp) (room : Room k A)
    (e0 : Env0 X.prog X.w X.K X.mg X.base A X.stack s H) (bi : L2.Binds X.K fd ps ds) (dv : Vals dvs ds) (tk : Takes X W)
    (I : L2.Inv X pins σ H s) (rel : Vals vs us) (h : sp (vs ++ dvs) H Q (EA W σ)) : wpAny (model X.prog X.w) A (call (.ref f) us) (EP X pins σ Q) X.xe s := by
  have both := rel.append dv
  have size : (us ++ ds).length = ps.length := both.length.symm.trans (F.len _ _ _ _ h)
  have body := F.run A X.stack s H ⟨us, []⟩ (us ++ ds) (vs ++ dvs) Q (EA W σ) room e0 (bi s us I.kIn size) both h
  refine wpAny_call (codeAny_mono body fun res s' got => ?_)
  match res, got with
  | .error u, got => exact out_at tk I got
  | .ok (.ret u), got => exact I.after got
  | .ok .next, got => exact got.elim
  | .ok .brk, got => exact got.elim
  | .ok .cont, got => exact got.elim
/-- o.m(e, ..) in a try -/
def tMethA (C : Addr) (m : Str) (sp : Sp) (dvs : List V) (W : WX) (ta : TE) (t : TA) : TE := fun σ H Q => ta σ H fun x H1 => ∃ a dx fs, x = .ref a ∧ H1 a = some (.ins C dx fs) ∧ fs.lookup m = none ∧ t σ H1 fun vs H2 => sp (.ref a :: (vs ++ dvs)) H2 Q (EA W σ)
theorem pe_methA {pl : Sem Bool} (he : PE X o ta) (c : Cls X.K C) (hm : Meth X.K C m f) (F : FnOk X.prog X.w X.K X.mg X.base (L2.CX X.prog X.w) k f fd ps sp) (room : Room k X.A) (bi : L2.Binds X.K fd ps ds) (dv : Vals dvs ds) (tk : Takes X W) (ha : PA X (e :: es) t)
    (hst : starEach (e :: es) X.env = (false, eval e X.env) :: starEach es X.env := by rfl) (hpl : (backTo pos (starEach es X.env)).any (·.1) = false := by rfl)
    (ht : eval (.Call (.Attribute o m apos) (e :: es) [] pos) X.env = (do
      let ov ← eval o X.env
      standAt apos.atName
      let (f, first) ← holding [ov] (getMethod ov m pl)
      callWith pos f first (backTo pos (starEach (e :: es) X.env)) (backToKw pos (keywordEach [] X.env))) := by rfl) :
    PE X (.Call (.Attribute o m apos) (e :: es) [] pos) (tMethA C m sp dvs W ta t) := by
  refine ⟨fun pins s σ H Q I h => ?_⟩
  refine PySem.W.methodCall_KW (pl := pl) (thn (he.run pins s σ H _ I h) fun u s1 hh => ?_) ht
  obtain ⟨x, H1, I1, rx, a, dx, fs, ex, ea, l, q⟩ := hh
  subst ex
  obtain rfl : u = Value.ref a := rx
  refine getmeth_ok I1 ea c hm l ?_
  refine PySem.W.callWith_K (first := [.ref a]) (h₀ := X.base) I.ok.mod.kin hm.kp (thn (ha.run pos pins s1 σ H1 _ I1 q) fun us s2 h2 => ?_) hst hpl
  obtain ⟨vs, H2, I2, r, q2⟩ := h2
  exact ⟨I2.kIn, run_at (us := .ref a :: us) (vs := .ref a :: vs) F room I2.env0 bi dv tk I2 (.cons rfl r) q2⟩
end
/-- isinstance(e, c), e the error with a dict that the suite holds -/
def rIsiH (K : PySem.W.Frag) (a : Addr) (cls : Value) (d : Option Addr) : List V → Hp → VK → Prop := fun xs H Q => ∃ (C dd : Addr) (fs : List (Str × V)) (c : V) (u : Value) (b : Bool),
  xs = [.ref a, c] ∧ cls = .ref C ∧ d = some dd ∧ H dd = some (.xd fs) ∧ KitG K C ∧ ClsV c u ∧ PySem.W.kitOne K (.ref C) u = some b ∧ Q (.bl b) H
theorem call_isiH {X : Cx} {a : Addr} {oe : Obj} {cls : Value} {d : Option Addr} {pn : List (Addr × Obj)} (hz : Zc cls d oe) (hf : ∃ vs, oe.data = .fields vs) : CallR (X.suite a ((a, oe) :: pn)) (.builtin "isinstance") (rIsiH X.K a cls d) := by
  intro pins s σ H xs us Q I r h
  obtain ⟨C, dd, fs, c, u, b, rfl, rfl, rfl, ed, G, k, e, q⟩ := h
  obtain ⟨u1, u2, rfl, r1, r2⟩ := vals2 r
  cases (show u1 = Value.ref a from r1)
  have e2 := k.eq r2
  subst e2
  obtain ⟨ha, _⟩ := I.pin (a, oe) (List.mem_append_left _ List.mem_cons_self)
  obtain ⟨vs, hd⟩ := hf
  have hx : ObjOk X.prog X.w H s.heap dd (.xd fs) := I.hok dd _ ed
  obtain ⟨mA, hns, hr⟩ := hx
  obtain ⟨od, ho, hl⟩ := lookIn_ns hns
  have J : PySem.W.InstAt s.heap a oe C (some od) := ⟨ha, hz.1, by unfold PySem.W.notCls; rw [hd] <;> rfl, by rw [hz.2]; exact ho⟩
  obtain ⟨gt, hgt⟩ := G.gg
  exact PySem.W.kia_one (PySem.W.kitx_exc (ox := oe) (od := some od) G.ic G.ga hgt G.ex G.ha G.hn G.htk G.hm) I.kIn J e (fun z => nomatch z) fun tk => ⟨.bl b, H, I.tok tk, rfl, q⟩
end OwnTry
end

-- Gen1
section
set_option Elab.async false
set_option linter.all false
set_option maxRecDepth 100000
/-! what every law's text wants again. -/
namespace G1
open PySem L2 OwnOps
theorem if_pos' {c : Bool} {A B : Prop} (hc : c = true) (h : A) : if c = true then A else B := by
  rw [if_pos hc]
  exact h
theorem if_neg' {c : Bool} {A B : Prop} (hc : c = false) (h : B) : if c = true then A else B := by
  rw [hc, if_neg Bool.false_ne_true]
  exact h
theorem same_upd {H : Hp} {p : Addr} {o : HO} (h : H p = none) : Same H (upd H p o) := fun b u e => by
  rw [upd_ne (ne_of_none e h)]
  exact e
theorem same_put {H G : Hp} {D : Addr} {o : HO} (s : Same H G) (h : H D = none) : Same H (upd G D o) := fun b u e => by
  rw [upd_ne (ne_of_none e h)]
  exact s b u e
/-- a new instance in making -/
theorem same_new {H : Hp} {x dx C : Addr} (hx : H x = none) (hd : H dx = none) : Same H (upd (upd H dx (.own x)) x (.ins C dx [])) := fun b u e => by
  rw [upd_ne (ne_of_none e hx), upd_ne (ne_of_none e hd)]
  exact e
/-- all stands but at l -/
def SameX (l : Addr) (H H' : Hp) : Prop := ∀ b u, b ≠ l → H b = some u → H' b = some u
theorem SameX.refl (l : Addr) (H : Hp) : SameX l H H := fun _ _ _ e => e
theorem SameX.trans {l : Addr} {H H1 H2 : Hp} (a : SameX l H H1) (b : SameX l H1 H2) : SameX l H H2 := fun c o n h => b c o n (a c o n h)
theorem SameX.of {l : Addr} {H H' : Hp} (a : Same H H') : SameX l H H' := fun c o _ h => a c o h
theorem SameX.upd {l : Addr} {H : Hp} {o : HO} : SameX l H (upd H l o) := fun c u n h => by
  rw [upd_ne n]
  exact h
theorem SameX.put {l a : Addr} {H H1 : Hp} {o : HO} (s : SameX l H H1) (h : H1 a = none) : SameX l H (L2.upd H1 a o) := fun c u n e => by
  rw [upd_ne (ne_of_none (s c u n e) h)]
  exact s c u n e
theorem same_made {H H' : Hp} {C x dx : Addr} (hx : H x = none) (hd : H dx = none) (sx : SameX x (upd (upd H dx (.own x)) x (.ins C dx [])) H') : Same H H' := fun b u e =>
  sx b u (ne_of_none e hx) (same_new hx hd b u e)
/-- a def of the module, called by its name -/
structure Glb (P : Program) (w : World) (K : PySem.W.Frag) (mg : Str → Option Value) (base : Heap) (x : Str) (k : Nat) (ps : List Str) (sp : Sp) : Prop where
  ex : ∃ (f : Addr) (fd : FuncData), mg x = some (.ref f) ∧ PySem.W.keepIn K (.ref f) = true ∧ FnOk P w K mg base (L2.CX P w) k f fd ps sp ∧ L2.Binds K fd ps []
/-- a method of the class, by its name -/
structure Dun (P : Program) (w : World) (K : PySem.W.Frag) (mg : Str → Option Value) (base : Heap) (C : Addr) (nm : Str) (k : Nat) (ps : List Str) (sp : Sp) : Prop where
  ex : ∃ (f : Addr) (fd : FuncData), PySem.W.findIn K (.ref C) nm = some (some (.ref f)) ∧ PySem.W.isFn K (.ref f) = true ∧ PySem.W.keepIn K (.ref f) = true ∧ FnOk P w K mg base (L2.CX P w) k f fd ps sp ∧ L2.Binds K fd ps []
section
variable {prog : Program} {w : World} {A : Around} {E : Value → Shared → Prop} {s : Shared}
theorem eqBool_rc {l : Addr} {v : Value} {Q : Bool → Shared → Prop} (ne : (Value.ref l == v) = false)
    (h : wpAny (model prog w) A (richCompare .Eq (.ref l) v) (fun x s' => ∃ r, x = .bool r ∧ Q r s') E s) : wpAny (model prog w) A (eqBool (.ref l) v) Q E s := by
  unfold eqBool
  refine wpAny_holding (wpAny_ite_split (fun z => absurd z (by rw [ne]; decide)) fun _ => wpAny_bind (wpAny_mono h ?_ fun _ _ x => x))
  rintro x s' ⟨r, rfl, q⟩
  exact wpAny_truthy_bool q
end
abbrev Fs := List (Str × V)
theorem putF_ne {n m : Str} {x y : V} {r : Fs} (h : ¬ m = n) : putF n y ((m, x) :: r) = (m, x) :: putF n y r := by
  show (if m = n then _ else _) = _
  rw [if_neg h] <;> rfl
theorem putF_eq {n : Str} {x y : V} {r : Fs} : putF n y ((n, x) :: r) = (n, y) :: r := by
  show (if n = n then _ else _) = _
  rw [if_pos rfl] <;> rfl
theorem lk_cons {n m : Str} {v : V} {l : List (Str × V)} (h : ¬ m = n) : ((m, v) :: l).lookup n = l.lookup n := by
  rw [List.lookup_cons, beq_false_of_ne (fun e => h e.symm)] <;> rfl
theorem lk_here {n : Str} {v : V} {l : List (Str × V)} : ((n, v) :: l).lookup n = some v := by
  rw [List.lookup_cons, beq_self_eq_true] <;> rfl
/-- all so far were true -/
def AllI (H : Hp) (D : Addr) (j : Nat) : Hp → Prop := fun G => Same H G ∧ G D = some (.lst ((List.replicate j true).map V.bl))
theorem all0 {H : Hp} {D : Addr} (h : H D = none) : AllI H D 0 (upd H D (.lst [])) := ⟨same_upd h, upd_same⟩
theorem AllI.step {H G G' : Hp} {D : Addr} {j : Nat} (i : AllI H D j G) (h : H D = none) (s : Same G G') : G' D = some (.lst ((List.replicate j true).map V.bl)) ∧ AllI H D (j + 1) (upd G' D (.lst ((List.replicate j true).map V.bl ++ [.bl true]))) := by
  refine ⟨s _ _ i.2, same_put (i.1.trans s) h, ?_⟩
  rw [upd_same, List.replicate_succ', List.map_append]
  rfl
theorem rep_len {j : Nat} (h : j < sizeLine) : ((List.replicate j true).map V.bl).length < sizeLine := by
  rw [List.length_map, List.length_replicate]
  exact h
theorem rep_all (j : Nat) : (List.replicate j true).all id = true := by
  rw [List.all_eq_true]
  intro x h
  rw [(List.mem_replicate.mp h).2]
  rfl
theorem map_at {xs : List Str} {j : Nat} {x : V} (h : (xs.map V.str)[j]? = some x) : ∃ t, xs[j]? = some t ∧ x = .str t := by
  rw [List.getElem?_map] at h
  cases e : xs[j]? with
  | none => rw [e] at h; cases h
  | some t =>
    rw [e] at h
    cases h
    exact ⟨t, rfl, rfl⟩
theorem yes_go {σ : L2.St} {H : Hp} {Q : Bool → Hp → Prop} (h : Q true H) : tYes σ H Q := h
end G1
end

-- U7n
section
set_option Elab.async false
set_option linter.all false
set_option maxRecDepth 100000
set_option exponentiation.threshold 10000
namespace R1
open PySem L2 OwnOps RatM OwnNe
abbrev sPool : Stmt := top 18
abbrev sNext : Stmt := top 19
structure Nms (mg : Str → Option Value) : Prop where
  len : mg "len" = none
  int : mg "int" = none
  str : mg "str" = none
  range : mg "range" = none
  list : mg "list" = none
  tuple : mg "tuple" = none
  repr : mg "repr" = none
theorem mod_nn {x : Int} {u : Int} (h : 0 < u) : 0 ≤ x % u ∧ x % u < u := ⟨Int.emod_nonneg _ (Int.ne_of_gt h), Int.emod_lt_of_pos _ h⟩
theorem dp_ints {K : PySem.W.Frag} {H : Hp} : ∀ ns : List Int, DpAll K H (ns.map V.int) (ns.map PyData.int)
  | [] => .nil
  | n :: r => .cons (.int n) (dp_ints r)
theorem sm9 {u : Int} (h : u.natAbs < 2 ^ 128) : u.natAbs < 2 ^ 9000 := Nat.lt_of_lt_of_le h (Nat.pow_le_pow_right (by decide) (by decide))
theorem atI_mod {ns : List Int} {k : Int} (h : ns ≠ []) : ∃ z, atI (ns.map V.int) (k % (ns.length : Int)) = some (.int z) := by
  have hl : 0 < ns.length := List.length_pos_iff.mpr h
  have h1 : 0 ≤ k % (ns.length : Int) := Int.emod_nonneg _ (by omega)
  have h2 : k % (ns.length : Int) < ns.length := Int.emod_lt_of_pos _ (by omega)
  obtain ⟨j, hj⟩ : ∃ j : Nat, k % (ns.length : Int) = j := ⟨_, (Int.toNat_of_nonneg h1).symm⟩
  have h3 : j < ns.length := by omega
  refine ⟨ns[j], at_of hj ?_⟩
  rw [List.getElem?_map, List.getElem?_eq_getElem h3]
  rfl
theorem cut_ints (ns : List Int) (lo hi : Option Int) : ∃ ms : List Int, cutV (ns.map V.int) lo hi = ms.map V.int := by
  refine ⟨(ns.drop (HT.sIx (ns.map V.int).length 0 lo)).take (HT.sIx (ns.map V.int).length (ns.map V.int).length hi - HT.sIx (ns.map V.int).length 0 lo), ?_⟩
  unfold cutV
  rw [List.map_take, List.map_drop]
theorem cut2 {α : Type} {goal : Prop} {F Y : α → Prop} (body : (∀ a, F a → Y a) → goal) (next : ∀ a, F a → Y a) : goal := body next
/-- the pool of the law's draws; m: how often at most it has been asked -/
def St (xa : Addr) (H : Hp) (l : Addr) (m : Nat) : Prop := ∃ (a b : Addr) (ns gs : List Int) (r n : Int), a ≠ l ∧ b ≠ l ∧ H a = some (.lst (ns.map V.int)) ∧ H b = some (.lst (gs.map V.int)) ∧ H l = some (.lst [.ref a, .ref b, .int r, .int n]) ∧ 0 ≤ n ∧ n ≤ m ∧ a ≠ xa ∧ b ≠ xa
theorem St.same {H H' : Hp} {l : Addr} {m : Nat} {xa : Addr} (h : St xa H l m) (s : Same H H') : St xa H' l m :=
  let ⟨a, b, ns, gs, r, n, al, bl, h1, h2, h3, n0, n1, ax, bx⟩ := h
  ⟨a, b, ns, gs, r, n, al, bl, s _ _ h1, s _ _ h2, s _ _ h3, n0, n1, ax, bx⟩
theorem St.more {H : Hp} {l : Addr} {m m' : Nat} {xa : Addr} (h : St xa H l m) (s : m ≤ m') : St xa H l m' :=
  let ⟨a, b, ns, gs, r, n, al, bl, h1, h2, h3, n0, n1, ax, bx⟩ := h
  ⟨a, b, ns, gs, r, n, al, bl, h1, h2, h3, n0, by omega, ax, bx⟩
theorem nn_x {H G : Hp} {l xa : Addr} (n : H xa ≠ none) (s : SameX l H G) (hl : G l ≠ none) : G xa ≠ none := by
  by_cases h : xa = l
  · rw [h]; exact hl
  · cases q : H xa with
    | none => exact absurd q n
    | some u => rw [s xa u h q]; exact Option.some_ne_none _
theorem St.l0 {H : Hp} {l xa : Addr} {m : Nat} (S : St xa H l m) : H l ≠ none := by
  obtain ⟨_, _, _, _, _, _, _, _, _, _, h3, _⟩ := S
  rw [h3]
  exact Option.some_ne_none _
theorem St.nn {H G : Hp} {l xa : Addr} {m : Nat} (S : St xa G l m) (n : H xa ≠ none) (s : SameX l H G) : G xa ≠ none := nn_x n s S.l0
/-- a fresh address isn't of the pool -/
theorem St.avoid {H : Hp} {l xa D : Addr} {m : Nat} (S : St xa H l m) (nD : H D = none) : St D H l m := by
  obtain ⟨a, b, ns, gs, r, n, al, bl, h1, h2, h3, n0, n1, ax, bx⟩ := S
  exact ⟨a, b, ns, gs, r, n, al, bl, h1, h2, h3, n0, n1, ne_of_none h1 nD, ne_of_none h2 nD⟩
/-- a change at the address that is avoided -/
theorem St.at {H : Hp} {l D : Addr} {m : Nat} {o : HO} (S : St D H l m) (dl : D ≠ l) : St D (upd H D o) l m := by
  obtain ⟨a, b, ns, gs, r, n, al, bl, h1, h2, h3, n0, n1, ax, bx⟩ := S
  exact ⟨a, b, ns, gs, r, n, al, bl, by rw [upd_ne ax]; exact h1, by rw [upd_ne bx]; exact h2, by rw [upd_ne dl.symm]; exact h3, n0, n1, ax, bx⟩
section
variable {P : Program} {w : World} {K : PySem.W.Frag} {mg : Str → Option Value} {base : Heap}
def spNext : Sp := fun vs H Q _ => ∃ (l xa : Addr) (u : Int) (m : Nat), vs = [.ref l, .int u] ∧ 0 < u ∧ u.natAbs < 2 ^ 9000 ∧ St xa H l m ∧ H xa ≠ none ∧ m < 2 ^ 50 ∧ ∀ d H', 0 ≤ d → d < u → SameX l H H' → St xa H' l (m + 1) → Q (.int d) H'
theorem ok_next {f : Addr} {fd : FuncData} (F : Fun K "_law_next" "_law_next" sNext f fd) (T : Nms mg) :
    FnOk P w K mg base (L2.CX P w) 1 f fd ["_law_pool_here", "_law_size"] spNext := by
  have N := T
  have sc : FnScope ["_law_pool_here", "_law_size", "_law_told", "_law_cell", "_law_mixed"] ["_law_pool_here", "_law_size"] (defScope sNext) := ⟨rfl, rfl, rfl, by decide +kernel, rfl, by decide +kernel, by decide +kernel⟩
  refine F.okX sc (fun vs H Q E h => ?_) (fun cdv A outer s H vs Q E hr h => ?_)
  · obtain ⟨l, xa, u, m, rfl, _⟩ := h
    rfl
  · obtain ⟨l, xa, u, m, rfl, u0, u9, ⟨a, b, ns, gs, r, n, al, bl, ha, hb, hl, n0, n1, ax, bx⟩, nxa, mm, k⟩ := h
    refine ⟨_, (pss_cons (ps_asg (pe_op op_add (pe_ix ix_list (pv 0) pe_int (fun _ _ => rfl)) pe_int) (pg_sub (pv 0) pe_int set_list))
      (pss_cons (ps_if (PW.pt (pw_and (pt_cmpR op_eq (pe_ix ix_list (pv 0) pe_int (fun _ _ => rfl)) pe_int (nomark _)) (pw_and1 (pt_cmpR (op_neD hr.units) (pe_ix ix_list (pv 0) pe_int (fun _ _ => rfl)) (pe_lst pa_nil) (nomark _))))) (pss_cons (ps_asg (pe_ix ix_list (pe_ix ix_list (pv 0) pe_int (fun _ _ => rfl)) pe_int (fun _ _ => rfl)) (pg_sub (pv 0) pe_int set_list))
      (pss_one (ps_asg (pe_slice sl_list (pe_ix ix_list (pv 0) pe_int (fun _ _ => rfl)) (po_some pe_int) po_none) (pg_sub (pv 0) pe_int set_list)))) pss_nil)
      (pss_cons (ps_if (pt_cmpR op_gt (pe_ix ix_list (pv 0) pe_int (fun _ _ => rfl)) pe_int (nomark _)) (pss_cons (ps_set (i := 2) sc.nd rfl (Or.inl rfl) (pe_op op_mod (pe_callTy call_int1 (by rfl) T.int (by decide +kernel) (pa_cons (pe_ix ix_list (pv 0) pe_int (fun _ _ => rfl)) pa_nil)) (pv 1)))
      (pss_cons (ps_asg (pe_op op_fdivG (pe_callTy call_int1 (by rfl) T.int (by decide +kernel) (pa_cons (pe_ix ix_list (pv 0) pe_int (fun _ _ => rfl)) pa_nil)) (pv 1)) (pg_sub (pv 0) pe_int set_list))
      (pss_one (ps_ret (pv 2))))) pss_nil)
      (pss_cons (ps_if (pt_cmpR (op_eqD hr.units) (pe_ix ix_list (pv 0) pe_int (fun _ _ => rfl)) (pe_lst pa_nil) (nomark _)) (pss_one (ps_ret pe_int)) pss_nil)
      (pss_cons (ps_set (i := 3) sc.nd rfl (Or.inl rfl) (pe_callTy call_int1 (by rfl) T.int (by decide +kernel) (pa_cons (pe_ix ix_list (pe_ix ix_list (pv 0) pe_int (fun _ _ => rfl)) (pe_op op_mod (pe_callTy call_int1 (by rfl) T.int (by decide +kernel) (pa_cons (pe_ix ix_list (pv 0) pe_int (fun _ _ => rfl)) pa_nil)) (pe_callB call_len_seq (by rfl) N.len PySem.boot_len (pa_cons (pe_ix ix_list (pv 0) pe_int (fun _ _ => rfl)) pa_nil))) (fun _ _ => rfl)) pa_nil)))
      (pss_cons (ps_set (i := 4) sc.nd rfl (Or.inl rfl) (pe_op op_mod (pe_callTy call_int1 (by rfl) T.int (by decide +kernel) (pa_cons (pe_op op_add (pe_op op_pow (pe_op op_add (pe_op op_mod (pe_callTy call_int1 (by rfl) T.int (by decide +kernel) (pa_cons (pv 3) pa_nil)) pe_int) (pe_op op_mul pe_int (pe_callTy call_int1 (by rfl) T.int (by decide +kernel) (pa_cons (pe_ix ix_list (pv 0) pe_int (fun _ _ => rfl)) pa_nil)))) pe_int) pe_int) pa_nil)) pe_int))
      (pss_one (ps_ret (pe_op op_mod (pe_op op_mod (pe_callTy call_int1 (by rfl) T.int (by decide +kernel) (pa_cons (pe_op op_add (pe_op op_mul (pv 4) (pv 4)) (pe_callTy call_int1 (by rfl) T.int (by decide +kernel) (pa_cons (pe_ix ix_list (pv 0) pe_int (fun _ _ => rfl)) pa_nil))) pa_nil)) pe_int) (pv 1)))))))))), ?_⟩
    have wA : ∀ o : HO, (upd H l o) a = some (.lst (ns.map V.int)) := fun o => by rw [upd_ne al]; exact ha
    have wB : ∀ o : HO, (upd H l o) b = some (.lst (gs.map V.int)) := fun o => by rw [upd_ne bl]; exact hb
    have dv : ∀ x, CDivG x u := fun x => wide_divG (Int.ne_of_gt u0) u9 (by decide) (by decide)
    refine ⟨_, rfl, l, _, _, _, rfl, rfl, SqL.of hl, at_of (j := 3) rfl rfl, _, _, rfl, rfl, _, rfl, l, _, _, 3, rfl, rfl, hl, rfl, ?_⟩
    simp only [List.set_cons_succ, List.set_cons_zero]
    have h3 : (upd H l (.lst [.ref a, .ref b, .int r, .int (n + 1)])) l = some (.lst [.ref a, .ref b, .int r, .int (n + 1)]) := upd_same
    have ha1 := wA (.lst [.ref a, .ref b, .int r, .int (n + 1)])
    have hb1 := wB (.lst [.ref a, .ref b, .int r, .int (n + 1)])
    have x1 : SameX l H (upd H l (.lst [.ref a, .ref b, .int r, .int (n + 1)])) := SameX.upd
    generalize upd H l (.lst [.ref a, .ref b, .int r, .int (n + 1)]) = H1 at h3 ha1 hb1 x1 ⊢
    apply cut2 (α := Hp) (F := fun G => SameX l H G ∧ G a = some (.lst (ns.map V.int)) ∧ ∃ (b' : Addr) (gs' : List Int) (r' : Int), b' ≠ xa ∧ b' ≠ l ∧ G b' = some (.lst (gs'.map V.int)) ∧ G l = some (.lst [.ref a, .ref b', .int r', .int (n + 1)]))
    case body =>
      intro nxt
      refine ⟨_, rfl, l, _, _, _, rfl, rfl, SqL.of h3, at_of (j := 2) rfl rfl, rfl, _, rfl, ?_⟩
      refine ite2 (fun _ => ?_) (fun _ => ?_)
      · refine ⟨_, rfl, l, _, _, _, rfl, rfl, SqL.of h3, at_of (j := 1) rfl rfl, (by show 0 ≤ sizeLine; exact Nat.zero_le _), fun p0 np0 => ?_⟩
        have s0 : Same H1 (upd H1 p0 (.lst [])) := same_upd np0
        have e0 : (upd H1 p0 (.lst [])) p0 = some (.lst []) := upd_same
        have h3' := s0 _ _ h3
        have ha' := s0 _ _ ha1
        have hb' := s0 _ _ hb1
        have x2 := x1.trans (SameX.of s0)
        generalize upd H1 p0 (.lst []) = H2 at s0 e0 h3' ha' hb' x2 ⊢
        refine ⟨.list (gs.map PyData.int), .list [], .lst (SqL.of hb') (dp_ints gs), .lst (SqL.of e0) .nil, PySem.W.ke_shaped_ints gs, by decide +kernel, _, rfl, ?_⟩
        cases gs with
        | nil => exact if_neg' rfl (nxt H2 ⟨x2, ha', b, [], r, bx, bl, hb', h3'⟩)
        | cons z gs =>
          have ef : PyData.eqv (.list ((z :: gs).map PyData.int)) (.list []) = false := rfl
          rw [ef]
          refine if_pos' rfl ?_
          refine ⟨_, rfl, l, _, _, _, rfl, rfl, SqL.of h3', at_of (j := 1) rfl rfl, b, _, _, _, rfl, rfl, SqL.of hb', at_of (j := 0) rfl rfl, _, rfl, l, _, _, 2, rfl, rfl, h3', rfl, ?_⟩
          simp only [List.set_cons_succ, List.set_cons_zero]
          have h4 : (upd H2 l (.lst [.ref a, .ref b, .int z, .int (n + 1)])) l = some (.lst [.ref a, .ref b, .int z, .int (n + 1)]) := upd_same
          have ha4 : (upd H2 l (.lst [.ref a, .ref b, .int z, .int (n + 1)])) a = some (.lst (ns.map V.int)) := by rw [upd_ne al]; exact ha'
          have hb4 : (upd H2 l (.lst [.ref a, .ref b, .int z, .int (n + 1)])) b = some (.lst ((z :: gs).map V.int)) := by rw [upd_ne bl]; exact hb'
          have x4 : SameX l H (upd H2 l (.lst [.ref a, .ref b, .int z, .int (n + 1)])) := x2.trans SameX.upd
          generalize upd H2 l (.lst [.ref a, .ref b, .int z, .int (n + 1)]) = H4 at h4 ha4 hb4 x4
          refine ⟨_, rfl, l, _, _, _, rfl, rfl, SqL.of h4, at_of (j := 1) rfl rfl, _, rfl, b, _, rfl, SqL.of hb4, fun p np => ⟨_, rfl, l, _, _, 1, rfl, rfl, (same_upd np) _ _ h4, rfl, ?_⟩⟩
          simp only [List.set_cons_succ, List.set_cons_zero]
          obtain ⟨ms, em⟩ := cut_ints (z :: gs) (some 1) none
          rw [em]
          have s5 := same_upd (o := .lst (ms.map V.int)) np
          have pl : p ≠ l := fun z => by rw [z, h4] at np; cases np
          have px : p ≠ xa := fun z => nn_x nxa x4 (by rw [h4]; exact Option.some_ne_none _) (by rw [← z]; exact np)
          have h6 : (upd (upd H4 p (.lst (ms.map V.int))) l (.lst [.ref a, .ref p, .int z, .int (n + 1)])) l = some (.lst [.ref a, .ref p, .int z, .int (n + 1)]) := upd_same
          have ha6 : (upd (upd H4 p (.lst (ms.map V.int))) l (.lst [.ref a, .ref p, .int z, .int (n + 1)])) a = some (.lst (ns.map V.int)) := by rw [upd_ne al]; exact s5 _ _ ha4
          have hp6 : (upd (upd H4 p (.lst (ms.map V.int))) l (.lst [.ref a, .ref p, .int z, .int (n + 1)])) p = some (.lst (ms.map V.int)) := by rw [upd_ne pl]; exact upd_same
          have x6 : SameX l H (upd (upd H4 p (.lst (ms.map V.int))) l (.lst [.ref a, .ref p, .int z, .int (n + 1)])) := (x4.trans (SameX.of s5)).trans SameX.upd
          generalize upd (upd H4 p (.lst (ms.map V.int))) l (.lst [.ref a, .ref p, .int z, .int (n + 1)]) = H6 at h6 ha6 hp6 x6 ⊢
          exact nxt H6 ⟨x6, ha6, p, ms, z, px, pl, hp6, h6⟩
      · exact nxt H1 ⟨x1, ha1, b, gs, r, bx, bl, hb1, h3⟩
    rintro G ⟨xG, haG, b', gs', r', bx', bl', hbG, hlG⟩
    have mk : ∀ {G' : Hp} {r' : Int} {b' : Addr} {gs' : List Int}, b' ≠ xa → b' ≠ l → G' a = some (.lst (ns.map V.int)) → G' b' = some (.lst (gs'.map V.int)) → G' l = some (.lst [.ref a, .ref b', .int r', .int (n + 1)]) → St xa G' l (m + 1) := fun hx h0 h1 h2 h3 => ⟨a, _, ns, _, _, n + 1, al, h0, h1, h2, h3, by omega, by omega, ax, hx⟩
    refine ⟨_, rfl, l, _, _, _, rfl, rfl, SqL.of hlG, at_of (j := 2) rfl rfl, _, _, rfl, rfl, _, rfl, ?_⟩
    refine ite2 (fun _ => ?_) (fun _ => ?_)
    · refine ⟨_, rfl, l, _, _, _, rfl, rfl, SqL.of hlG, at_of (j := 2) rfl rfl, .inl ⟨_, rfl, _, rfl, _, _, rfl, rfl, u0, ?_⟩⟩
      refine ⟨_, rfl, l, _, _, _, rfl, rfl, SqL.of hlG, at_of (j := 2) rfl rfl, .inl ⟨_, rfl, _, rfl, _, _, rfl, rfl, dv _, _, rfl, l, _, _, 2, rfl, rfl, hlG, rfl, _, rfl, ?_⟩⟩
      exact k _ _ (mod_nn u0).1 (mod_nn u0).2 (xG.trans SameX.upd) (mk bx' bl' (by rw [upd_ne al]; exact haG) (by rw [upd_ne bl']; exact hbG) upd_same)
    refine ⟨_, rfl, l, _, _, _, rfl, rfl, SqL.of hlG, at_of (j := 0) rfl rfl, (by show 0 ≤ sizeLine; exact Nat.zero_le _), fun p0 np0 => ?_⟩
    have s0 : Same G (upd G p0 (.lst [])) := same_upd np0
    have e0 : (upd G p0 (.lst [])) p0 = some (.lst []) := upd_same
    have h3' := s0 _ _ hlG
    have ha' := s0 _ _ haG
    have hb' := s0 _ _ hbG
    have x2 := xG.trans (SameX.of s0)
    generalize upd G p0 (.lst []) = H2 at s0 e0 h3' ha' hb' x2 ⊢
    refine ⟨.list (ns.map PyData.int), .list [], .lst (SqL.of ha') (dp_ints ns), .lst (SqL.of e0) .nil, PySem.W.ke_shaped_ints ns, by decide +kernel, _, rfl, ?_⟩
    by_cases hn : ns = []
    · subst hn
      exact if_pos' rfl (k 0 H2 (Int.le_refl 0) u0 x2 (mk bx' bl' ha' hb' h3'))
    have ef : PyData.eqv (.list (ns.map PyData.int)) (.list []) = false := by
      cases ns with
      | nil => exact absurd rfl hn
      | cons _ _ => rfl
    rw [ef]
    obtain ⟨z, hz⟩ := atI_mod (k := n + 1) hn
    refine if_neg' rfl ?_
    refine ⟨_, rfl, l, _, _, _, rfl, rfl, SqL.of h3', at_of (j := 0) rfl rfl, _, rfl, l, _, _, _, rfl, rfl, SqL.of h3', at_of (j := 3) rfl rfl, .inl ⟨_, rfl, _, rfl, l, _, _, _, rfl, rfl, SqL.of h3', at_of (j := 0) rfl rfl, a, _, rfl, .inl (SqL.of ha'), _, _, rfl, rfl, (by rw [List.length_map]; exact Int.natCast_pos.mpr (List.length_pos_iff.mpr hn)), a, _, _, _, rfl, rfl, SqL.of ha', (by rw [List.length_map]; exact hz), .inl ⟨_, rfl, ?_⟩⟩⟩
    have md : ∀ x : Int, -(2 : Int) ^ 64 < x % 2147483629 ∧ x % 2147483629 < 2 ^ 64 := fun x => by
      have h1 := Int.emod_nonneg x (b := 2147483629) (by decide)
      have h2 := Int.emod_lt_of_pos x (b := 2147483629) (by decide)
      omega
    have pw : (z % 2147483647 + 31 * (n + 1)).natAbs < 2 ^ 64 := by
      have h1 := Int.emod_nonneg z (b := 2147483647) (by decide)
      have h2 := Int.emod_lt_of_pos z (b := 2147483647) (by decide)
      omega
    refine ⟨_, rfl, .inl ⟨_, rfl, _, _, rfl, rfl, (by show (0 : Int) < 2147483647; decide), _, rfl, l, _, _, _, rfl, rfl, SqL.of h3', at_of (j := 3) rfl rfl, .inl ⟨_, rfl, _, _, rfl, rfl, .inl ⟨by decide, by decide⟩, _, _, rfl, rfl, _, _, rfl, rfl, ⟨by decide, by decide, pw⟩, _, _, rfl, rfl, .inl ⟨_, rfl, _, _, rfl, rfl, (by show (0 : Int) < 2147483629; decide), ?_⟩⟩⟩⟩
    refine ⟨_, rfl, _, rfl, _, _, rfl, rfl, .inl (md _), _, rfl, l, _, _, _, rfl, rfl, SqL.of h3', at_of (j := 3) rfl rfl, .inl ⟨_, rfl, _, _, rfl, rfl, .inl ⟨_, rfl, _, _, rfl, rfl, (by show (0 : Int) < 1000003; decide), _, rfl, _, _, rfl, rfl, u0, ?_⟩⟩⟩
    exact k _ _ (mod_nn u0).1 (mod_nn u0).2 x2 (mk bx' bl' ha' hb' h3')
end
end R1
end

-- U7o
section
set_option Elab.async false
set_option linter.all false
set_option maxRecDepth 100000
set_option exponentiation.threshold 10000
namespace R1
open PySem L2 OwnOps RatM OwnNe G1
theorem map_int {ns : List Int} {j : Nat} {x : V} (h : (ns.map V.int)[j]? = some x) : ∃ z, ns[j]? = some z ∧ x = .int z := by
  rw [List.getElem?_map] at h
  cases e : ns[j]? with
  | none => rw [e] at h; cases h
  | some z => rw [e] at h; cases h; exact ⟨z, rfl, rfl⟩
section
variable {P : Program} {w : World} {K : PySem.W.Frag} {mg : Str → Option Value} {base : Heap}
def spPool (K : PySem.W.Frag) : Sp := fun vs H Q _ => ∃ (a : Addr) (ns : List Int), vs = [.ref a] ∧ SqL K H a (ns.map V.int) ∧ ns.length ≤ 63 ∧ ∀ l H', Same H H' → St l H' l 0 → H l = none → Q (.ref l) H'
theorem ok_pool {f : Addr} {fd : FuncData} (F : Fun K "_law_pool" "_law_pool" sPool f fd) (T : Nms mg) :
    FnOk P w K mg base (L2.CX P w) 1 f fd ["_law_script"] (spPool K) := by
  have sc : FnScope ["_law_script", "_law_cell", "_law_great", "_law_small"] ["_law_script"] (defScope sPool) := ⟨rfl, rfl, rfl, by decide +kernel, rfl, by decide +kernel, by decide +kernel⟩
  refine F.okX sc (fun vs H Q E h => ?_) (fun cdv A outer s H vs Q E hr h => ?_)
  · obtain ⟨a, ns, rfl, _⟩ := h
    rfl
  · obtain ⟨a, ns, rfl, hS, n63, k⟩ := h
    refine ⟨_, (pss_cons (ps_setLc (i := 2) (own := [("_law_cell", 1)]) (g := gName 1)   rfl sc.nd rfl rfl rfl (pi_list (pv 0)) (blkOk_by (N := ["_law_script", "_law_cell", "_law_great", "_law_small"]) (sc := defScope sPool) (by decide +kernel)) (fun _ _ _ _ _ => pg_name (i := 1) sc.nd rfl (Or.inl rfl)) (fun _ _ _ _ _ => pts_one (pt_cmpR op_ge (pv 1) (pe_op op_pow pe_int pe_int) (nomark _)))
          (fun _ _ _ _ _ => (pe_callTy call_int1 (by rfl) T.int (by decide +kernel) (pa_cons (pv 1) pa_nil))))
      (pss_cons (ps_setLc (i := 3) (own := [("_law_cell", 1)]) (g := gName 1)   rfl sc.nd rfl rfl rfl (pi_list (pv 0)) (blkOk_by (N := ["_law_script", "_law_cell", "_law_great", "_law_small"]) (sc := defScope sPool) (by decide +kernel)) (fun _ _ _ _ _ => pg_name (i := 1) sc.nd rfl (Or.inl rfl)) (fun _ _ _ _ _ => pts_one (pt_cmpR op_lt (pv 1) (pe_op op_pow pe_int pe_int) (nomark _)))
          (fun _ _ _ _ _ => (pe_callTy call_int1 (by rfl) T.int (by decide +kernel) (pa_cons (pv 1) pa_nil))))
      (pss_one (ps_ret (pe_lst (pa_cons (pv 3) (pa_cons (pv 2) (pa_cons pe_int (pa_cons pe_int pa_nil))))))))), ?_⟩
    refine ⟨_, rfl, a, rfl, ⟨_, hS⟩, fun D nD => ?_⟩
    refine lc_list (K := K) (a := a) (xs := ns.map V.int) (fun j G => Same H G ∧ j ≤ ns.length ∧ ∃ ms : List Int, ms.length ≤ j ∧ G D = some (.lst (ms.map V.int))) ⟨same_upd nD, Nat.zero_le _, [], Nat.le_refl _, upd_same⟩ (fun j G _ i => i.1.seq hS) (fun j x G hx ⟨sG, jn, ms, mj, hD⟩ => ⟨rfl, ?_⟩) (fun G ⟨sG, _, ms, _, hD⟩ => ?_)
    · obtain ⟨z, hz, rfl⟩ := map_int hx
      have lt : j < ns.length := (List.getElem?_eq_some_iff.mp hz).1
      refine ⟨_, rfl, _, _, rfl, rfl, ⟨by decide, by decide, by decide⟩, _, _, rfl, rfl, _, rfl, ?_⟩
      refine ite2 (fun _ => ?_) (fun _ => ⟨sG, lt, ms, by omega, hD⟩)
      refine ⟨_, rfl, .inl ⟨_, rfl, _, hD, by rw [List.length_map]; exact Nat.lt_of_le_of_lt (m := 63) (by omega) (by decide), same_put sG nD, lt, ms ++ [z], by rw [List.length_append]; show ms.length + 1 ≤ j + 1; omega, by rw [upd_same, List.map_append]; rfl⟩⟩
    refine ⟨_, rfl, a, rfl, ⟨_, sG.seq hS⟩, fun D2 nD2 => ?_⟩
    refine lc_list (K := K) (a := a) (xs := ns.map V.int) (fun j G' => Same G G' ∧ j ≤ ns.length ∧ ∃ ms : List Int, ms.length ≤ j ∧ G' D2 = some (.lst (ms.map V.int))) ⟨same_upd nD2, Nat.zero_le _, [], Nat.le_refl _, upd_same⟩ (fun j G' _ i => (sG.trans i.1).seq hS) (fun j x G' hx ⟨sG', jn, ms', mj, hD'⟩ => ⟨rfl, ?_⟩) (fun G' ⟨sG', _, ms', _, hD'⟩ => ?_)
    · obtain ⟨z, hz, rfl⟩ := map_int hx
      have lt : j < ns.length := (List.getElem?_eq_some_iff.mp hz).1
      refine ⟨_, rfl, _, _, rfl, rfl, ⟨by decide, by decide, by decide⟩, _, _, rfl, rfl, _, rfl, ?_⟩
      refine ite2 (fun _ => ?_) (fun _ => ⟨sG', lt, ms', by omega, hD'⟩)
      refine ⟨_, rfl, .inl ⟨_, rfl, _, hD', by rw [List.length_map]; exact Nat.lt_of_le_of_lt (m := 63) (by omega) (by decide), same_put sG' nD2, lt, ms' ++ [z], by rw [List.length_append]; show ms'.length + 1 ≤ j + 1; omega, by rw [upd_same, List.map_append]; rfl⟩⟩
    refine ⟨_, rfl, _, rfl, (by show 4 ≤ sizeLine; decide), fun l nl => ?_⟩
    have s3 := same_upd (o := .lst [.ref D2, .ref D, .int 0, .int 0]) nl
    have hDG := sG' _ _ hD
    refine k l _ (sG.trans (sG'.trans s3)) ⟨D2, D, ms', ms, 0, 0, ne_of_none hD' nl, ne_of_none hDG nl, s3 _ _ hD', s3 _ _ hDG, upd_same, Int.le_refl 0, Int.le_refl 0, ne_of_none hD' nl, ne_of_none hDG nl⟩ (sG.free (sG'.free nl))
end
end R1
end

-- U7s
section
set_option Elab.async false
set_option linter.all false
set_option maxRecDepth 100000
set_option exponentiation.threshold 10000
namespace R1
open PySem L2 OwnOps RatM OwnNe G1
abbrev sPrices : Stmt := top 20
theorem passOwn {X : Cx} {K : Value → Shared → Prop} {E₁ : Value → Shared → Prop} (hx : X.xe = fun e s' => wpAny (model X.prog X.w) X.A (leaving X.env e) (fun _ s'' => K e s'') E₁ s' := by rfl) : PassesOwn (model X.prog X.w) X.A X.env X.xe := passes_of hx
theorem ord {t b : Int} (hb : 0 < b) : nt t b < nb t b ↔ t < b := by
  have c : 0 < cmn t b := by
    have := nb_mul (t := t) (b := b)
    have p := nb_pos (t := t) (b := b) (by omega)
    rcases Int.lt_trichotomy (cmn t b) 0 with h | h | h
    · have : nb t b * cmn t b < 0 := Int.mul_neg_of_pos_of_neg p h
      omega
    · rw [h] at this; omega
    · exact h
  have e1 := nt_mul (t := t) (b := b)
  have e2 := nb_mul (t := t) (b := b)
  constructor
  · intro h
    have := Int.mul_lt_mul_of_pos_right h c
    omega
  · intro h
    rcases (show nt t b < nb t b ∨ nb t b ≤ nt t b by omega) with g | g
    · exact g
    · have := Int.mul_le_mul_of_nonneg_right g (Int.le_of_lt c)
      rw [nb_mul, nt_mul] at this
      omega
theorem Sm.le {x y : Int} {n : Nat} (h : x.natAbs ≤ y.natAbs) (s : Sm n y) : Sm n x := Nat.lt_of_le_of_lt h s
theorem pc_of {C : Addr} {H : Hp} {p : Addr} {t b : Int} (hb : 0 < b) (st : Sm 200 t) (sb : Sm 200 b) (r : Rat C H p (nt t b) (nb t b)) : Pc C H (.ref p) (nt t b) (nb t b) :=
  ⟨.inl ⟨p, rfl, r⟩, nb_pos (by omega), (nrm_id (by omega)).1, (nrm_id (by omega)).2, st.le (nt_le (by omega)), sb.le (nb_le (by omega))⟩
theorem pc_int {C : Addr} {H : Hp} {t : Int} (st : Sm 200 t) : Pc C H (.int t) t 1 := ⟨.inr ⟨rfl, rfl⟩, by decide, (nt_one t).1, (nt_one t).2, st, Nat.one_lt_two_pow (by decide)⟩
theorem sm_of {x : Int} {n : Nat} (h0 : 0 ≤ x) (h : x ≤ 2 ^ 42) (hn : 43 ≤ n) : Sm n x := Nat.lt_of_lt_of_le (m := 2 ^ 43) (by omega) (Nat.pow_le_pow_right (by decide) hn)
/-- a price within bounds -/
structure Pb (t b : Int) : Prop where
  nm : Nm t b
  bd : Bnd t b
theorem pb_of {t b : Int} (hb : 0 < b) (le : b ≤ t) (h : t ≤ 2 ^ 41) : Pb (nt t b) (nb t b) := by
  have ne : b ≠ 0 := by omega
  have h1 := nt_le (t := t) ne
  have h2 := nb_le (t := t) ne
  have h3 := nb_pos (t := t) ne
  have h4 := ord (t := t) hb
  have h5 : nb t b ≤ nt t b := by omega
  have st : Sm 200 t := sm_of (by omega) (by omega) (by decide)
  have sb : Sm 200 b := sm_of (by omega) (by omega) (by decide)
  exact ⟨⟨h3, (nrm_id ne).1, (nrm_id ne).2, st.le h1, sb.le h2, h5⟩, ⟨h3, by omega, by omega, by omega⟩⟩
theorem pb_one : Pb 1 1 := ⟨⟨by decide, (nt_one 1).1, (nt_one 1).2, Nat.one_lt_two_pow (by decide), Nat.one_lt_two_pow (by decide), by decide⟩, bnd_one⟩
/-- all stands but at these two -/
def SameY (l p : Addr) (H G : Hp) : Prop := ∀ b u, b ≠ l → b ≠ p → H b = some u → G b = some u
theorem St.ins {H : Hp} {l a C dx : Addr} {m : Nat} {xa : Addr} {fs : List (Str × V)} (h : St xa H l m) (e : H a = some (.ins C dx fs)) : a ≠ l := fun z => by
  obtain ⟨_, _, _, _, _, _, _, _, _, _, h3, _⟩ := h
  rw [z, h3] at e
  cases e
theorem Rat.sx {C : Addr} {H H' : Hp} {q l : Addr} {t b : Int} {m : Nat} {xa : Addr} (r : Rat C H q t b) (h : St xa H l m) (s : SameX l H H') : Rat C H' q t b := let ⟨dx, e⟩ := r; ⟨dx, s _ _ (h.ins e) e⟩
theorem Prc.sx {C D : Addr} {H H' : Hp} {p l : Addr} {T B : Nat → Int} {m : Nat} {xa : Addr} (r : Prc C D H p T B) (h : St xa H l m) (s : SameX l H H') : Prc C D H' p T B := let ⟨dx, rr, e, k⟩ := r; ⟨dx, rr, s _ _ (h.ins e) e, fun i hi => (k i hi).sx h s⟩
theorem St.sx {H H' : Hp} {l p D dx : Addr} {m : Nat} {xa : Addr} {fs : List (Str × V)} (h : St xa H l m) (e : H p = some (.ins D dx fs)) (s : SameX p H H') : St xa H' l m := by
  obtain ⟨a, b, ns, gs, r, n, al, bl, h1, h2, h3, n0, n1, ax, bx⟩ := h
  refine ⟨a, b, ns, gs, r, n, al, bl, s _ _ (fun z => ?_) h1, s _ _ (fun z => ?_) h2, s _ _ (fun z => ?_) h3, n0, n1, ax, bx⟩
  · rw [z, e] at h1; cases h1
  · rw [z, e] at h2; cases h2
  · rw [z, e] at h3; cases h3
/-- the class's making, without arguments -/
structure MkQ (P : Program) (w : World) (K : PySem.W.Frag) (mg : Str → Option Value) (base : Heap) (C D CP : Addr) : Prop where
  ex : ∃ (f : Addr) (fd : FuncData) (ds : List Value), Mk K D f ∧ FnOk P w K mg base (L2.CX P w) 8 f fd psI (spPI C D CP) ∧ L2.Binds K fd psI ds ∧ Vals [.int 1, .int 1, .int 1, .int 1] ds
theorem nxt4 : ∀ j : Nat, j < 4 → ([V.str "lost", V.str "surplus", V.str "value", V.str "junction"] : List V)[j]? = some (.str (wd j)) := fun j h => by
  rcases (show j = 0 ∨ j = 1 ∨ j = 2 ∨ j = 3 by omega) with rfl | rfl | rfl | rfl <;> rfl
theorem mkP_at {C D CP : Addr} {H : Hp} {x dx : Addr} {W : VK} {E : XK} {v : Nat → V} {T B : Nat → Int} (hx : H x = none) (hd : H dx = none) (g : ∀ i, i < 4 → Good C H (v i) (T i) (B i)) (k : ∀ H', Same H H' → Prc C D H' x T B → W .non H') :
    spPI C D CP [.ref x, v 0, v 1, v 2, v 3] (upd (upd H dx (.own x)) x (.ins D dx [])) W E :=
  ⟨x, dx, v, rfl, upd_same, .inl ⟨T, B, fun i hi => (g i hi).same (same_new hx hd), fun H' sx pr => k H' (same_made hx hd sx) pr⟩⟩
theorem mkR_at {C CI CZ : Addr} {H : Hp} {W : VK} {E : XK} {x dx : Addr} {t b : Int} (hx : H x = none) (hd : H dx = none) (hb : b ≠ 0) (bs : Sm 5000 b) (k : ∀ H', Same H H' → Rat C H' x (nt t b) (nb t b) → W .non H') :
    spInit C CI CZ [.ref x, .int t, .int b] (upd (upd H dx (.own x)) x (.ins C dx [])) W E := by
  refine ⟨x, dx, .int t, .int b, rfl, upd_same, .int t, fun _ => .int b, .inr (.inr ⟨t, b, rfl, rfl, .inr ⟨hb, bs, ?_⟩⟩)⟩
  refine k _ (fun c o e => ?_) ⟨dx, upd_same⟩
  rw [upd_ne (ne_of_none e hx)]
  exact same_new hx hd c o e
theorem mkR_one {C CI CZ : Addr} {H : Hp} {W : VK} {E : XK} {x dx : Addr} {t : Int} (hx : H x = none) (hd : H dx = none) (k : ∀ H', Same H H' → Rat C H' x t 1 → W .non H') :
    spInit C CI CZ [.ref x, .int t, .int 1] (upd (upd H dx (.own x)) x (.ins C dx [])) W E :=
  mkR_at hx hd (by decide) (Nat.one_lt_two_pow (by decide)) fun H' s r => k H' s (by rw [(nt_one t).1, (nt_one t).2] at r; exact r)
section
variable {P : Program} {w : World} {K : PySem.W.Frag} {mg : Str → Option Value} {base : Heap} {C CI fCI CZ fCZ D CP fCP : Addr}
def spPrices (C D : Addr) : Sp := fun vs H Q _ => ∃ (l xa : Addr) (m : Nat), vs = [.ref l] ∧ St xa H l m ∧ H xa ≠ none ∧ m < 2 ^ 40 ∧ ∀ p T B H', H p = none → SameX l H H' → St xa H' l (m + 8) → Prc C D H' p T B → (∀ i, i < 4 → Pb (T i) (B i)) → Q (.ref p) H'
theorem ok_prices {f : Addr} {fd : FuncData} (F : Fun K "_law_prices" "_law_prices" sPrices f fd) (T : Txt K mg C CI fCI CZ fCZ) (U : PTxt K mg D CP fCP) (M : Mak P w K mg base C CI CZ) (MP : MkQ P w K mg base C D CP)
    (GN : Glb P w K mg base "_law_next" 1 ["_law_pool_here", "_law_size"] spNext) (DC : Dun P w K mg base D "change" 8 ["self", "name", "price"] (spChange C D CP)) :
    FnOk P w K mg base (L2.CX P w) 10 f fd ["_law_pool_here"] (spPrices C D) := by
  obtain ⟨fI, fdI, ds, mk, GI, b3, d2, b2⟩ := M.ex
  obtain ⟨_, _, _, mkD, GP, bP, dP⟩ := MP.ex
  obtain ⟨_, _, mN, kN, GN, bN⟩ := GN.ex
  obtain ⟨_, _, ca, cf, ck, Gc, bc⟩ := DC.ex
  have sc : FnScope ["_law_pool_here", "_law_prices_here", "_law_word"] ["_law_pool_here"] (defScope sPrices) := ⟨rfl, rfl, rfl, by decide +kernel, rfl, by decide +kernel, by decide +kernel⟩
  refine F.okX sc (fun vs H Q E h => ?_) (fun cdv A outer s H vs Q E hr h => ?_)
  · obtain ⟨l, xa, m, rfl, _⟩ := h
    rfl
  · obtain ⟨l, xa, m, rfl, hS, nxa, mm, k⟩ := h
    refine ⟨_, (pss_cons (ps_set (i := 1) sc.nd rfl (Or.inl rfl) (pe_make0 (E := E0) mkD GP (hr.mono (by decide)) (by rfl) U.gD bP dP passL))
      (pss_cons (ps_for passOwn rfl (pi_list (pe_lst (pa_cons pe_str (pa_cons pe_str (pa_cons pe_str (pa_cons pe_str pa_nil)))))) (pg_name (i := 2) sc.nd rfl (Or.inl rfl)) (pss_one (ps_expr (pe_meth (E := E0) (pv 1) U.cl ⟨ca, cf, ck⟩ Gc (hr.mono (by decide)) bc .nil passL (pa_cons (pv 2) (pa_cons (pe_make mk GI (hr.mono (by decide)) (by rfl) T.gC b3 .nil passL (pa_cons (pe_op op_add pe_int (pe_call GN (hr.mono (by decide)) (by rfl) mN kN bN .nil passL (pa_cons (pv 0) (pa_cons (pe_op op_pow pe_int pe_int) pa_nil)))) (pa_cons (pe_op op_add pe_int (pe_call GN (hr.mono (by decide)) (by rfl) mN kN bN .nil passL (pa_cons (pv 0) (pa_cons pe_int pa_nil)))) pa_nil))) pa_nil))))))
      (pss_one (ps_ret (pv 1))))), ?_⟩
    intro x0 dx0 nx0 nd0 ne0
    refine mkP_at (C := C) (D := D) (v := fun _ => .int 1) (T := fun _ => 1) (B := fun _ => 1) nx0 nd0 (fun i hi => ⟨pc_int (Nat.one_lt_two_pow (by decide)), Int.le_refl 1⟩) fun H1 s1 pr1 => ⟨rfl, ?_⟩
    have np := nx0
    generalize x0 = p at np pr1 ⊢
    have S1 := hS.same s1
    have nc : ∀ {r : Nat → Addr}, (pf r).lookup ("change" : Str) = none := (lk_cons (by decide +kernel)).trans ((lk_cons (by decide +kernel)).trans ((lk_cons (by decide +kernel)).trans ((lk_cons (by decide +kernel)).trans rfl)))
    refine ⟨(by show 4 ≤ sizeLine; decide), fun TL nTL => ⟨TL, rfl, ⟨_, SqL.of upd_same⟩, for_list (K := K) (a := TL) (xs := [.str "lost", .str "surplus", .str "value", .str "junction"]) (fun j σ G => (∃ v2, σ = [some (.ref l), some (.ref p), v2]) ∧ SameY l p (upd H1 TL (.lst [.str "lost", .str "surplus", .str "value", .str "junction"])) G ∧ St xa G l (m + 2 * j) ∧ ∃ T B, Prc C D G p T B ∧ ∀ i, i < 4 → Pb (T i) (B i)) ?_ ?_ ?_ ?_⟩⟩
    · have sT := same_upd (o := .lst [.str "lost", .str "surplus", .str "value", .str "junction"]) nTL
      exact ⟨⟨_, rfl⟩, fun _ _ _ _ e => e, S1.same sT, _, _, pr1.same sT, fun i hi => pb_one⟩
    · rintro j σ G _ ⟨_, sY, SG, _⟩
      have pl : TL ≠ l := fun z => by
        obtain ⟨_, _, _, _, _, _, _, _, _, _, h3, _⟩ := S1
        rw [← z, nTL] at h3
        cases h3
      have pp : TL ≠ p := fun z => by
        obtain ⟨_, _, h, _⟩ := pr1
        rw [← z, nTL] at h
        cases h
      exact SqL.of (sY _ _ pl pp upd_same)
    · rintro j x σ G hx ⟨⟨v2, rfl⟩, sY, SG, T0, B0, prG, pbG⟩
      have hj : j < 4 := (List.getElem?_eq_some_iff.mp hx).1
      obtain rfl : x = .str (wd j) := Option.some.inj (hx.symm.trans (nxt4 j hj))
      obtain ⟨dxp, rp, hp, _⟩ := id prG
      have sT := same_upd (o := .lst [.str "lost", .str "surplus", .str "value", .str "junction"]) nTL
      have nxG : G xa ≠ none := by
        by_cases h1 : xa = l
        · rw [h1]; exact SG.l0
        · by_cases h2 : xa = p
          · rw [h2, hp]; exact Option.some_ne_none _
          · cases q : H xa with
            | none => exact absurd q nxa
            | some u => rw [sY xa u h1 h2 (sT _ _ (s1 _ _ q))]; exact Option.some_ne_none _
      have p9 : ((10 : Int) ^ (9 : Int).toNat) = 1000000000 := by decide +kernel
      refine ⟨_, rfl, p, dxp, _, rfl, hp, nc, _, rfl, _, rfl, _, _, rfl, rfl, ⟨by decide, by decide, by decide +kernel⟩, l, xa, _, m + 2 * j, rfl, (by rw [p9]; decide), sm9 (by rw [p9]; decide), SG, nxG, by omega, fun d G1 d0 d1 sx1 S2 => ⟨_, _, rfl, rfl, _, rfl, l, xa, 9, _, rfl, by decide, sm9 (by decide), S2, S2.nn nxG sx1, by omega, fun e G2 e0 e1 sx2 S3 => ⟨_, _, rfl, rfl, ?_⟩⟩⟩
      rw [p9] at d1
      intro q dq nq ndq neq
      refine mkR_at (t := 9 + d) (b := 1 + e) nq ndq (by omega) (sm_of (by omega) (by omega) (by decide)) fun G3 s3 r3 => ⟨rfl, ?_⟩
      have pr3 := ((prG.sx SG sx1).sx S2 sx2).same s3
      have S4 := S3.same s3
      have pb := pb_of (t := 9 + d) (b := 1 + e) (by omega) (by omega) (by omega)
      refine ⟨p, .str (wd j), .ref q, T0, B0, rfl, pr3, .inl ⟨j, hj, rfl, .inl ⟨_, _, pb.nm.good (.inl ⟨q, rfl, r3⟩), fun G4 sx4 pr4 => ?_⟩⟩⟩
      obtain ⟨dx3, r3', hp3, _⟩ := id pr3
      refine ⟨⟨_, rfl⟩, fun b u bl bp eb => sx4 b u bp (s3 _ _ (sx2 b u bl (sx1 b u bl (sY b u bl bp eb)))), S4.sx hp3 sx4, _, _, pr4, fun i hi => ?_⟩
      unfold R1.set
      by_cases h : i = j
      · rw [if_pos h, if_pos h]; exact pb
      · rw [if_neg h, if_neg h]; exact pbG i hi
    · rintro σ G ⟨⟨v2, rfl⟩, sY, SG, T0, B0, prG, pbG⟩
      have sT := same_upd (o := .lst [.str "lost", .str "surplus", .str "value", .str "junction"]) nTL
      refine ⟨_, rfl, k p T0 B0 G np (fun b u bl e => sY b u bl (ne_of_none e np) (sT _ _ (s1 _ _ e))) (SG.more (by show m + 2 * 4 ≤ m + 8; omega)) prG pbG⟩
end
end R1
end

-- U7t
section
set_option Elab.async false
set_option linter.all false
set_option maxRecDepth 100000
set_option exponentiation.threshold 10000
namespace R1
open PySem L2 OwnOps RatM OwnNe G1
abbrev sCost : Stmt := top 16
def dw : Nat → Str
  | 0 => "put"
  | 1 => "take"
  | 2 => "value"
  | _ => "move"
/-- a deed, of the sort s -/
def Ded (H : Hp) (q : Addr) (s : Nat) : Prop := s < 4 ∧ ∃ rest, H q = some (.tup (.str (dw s) :: rest))
theorem Ded.same {H H' : Hp} {q : Addr} {s : Nat} (h : Ded H q s) (e : Same H H') : Ded H' q s := ⟨h.1, let ⟨r, q⟩ := h.2; ⟨r, e _ _ q⟩⟩
theorem cut3 {α β : Type} {goal : Prop} {F Y : α → β → Prop} (body : (∀ a b, F a b → Y a b) → goal) (next : ∀ a b, F a b → Y a b) : goal := body next
/-- what the sum needs -/
structure Adds (P : Program) (w : World) (K : PySem.W.Frag) (mg : Str → Option Value) (base : Heap) (C CI : Addr) : Prop where
  add : Dun P w K mg base C (PySem.dunder "add") 6 ["self", "other"] (spAr C CI (fun t b t' b' => t * b' + t' * b) (fun t b t' b' => b * b'))
  radd : ∃ rc, PySem.W.findIn K (.ref C) (PySem.dunderR "add") = some rc ∧ (rc = none ∨ ∃ q : Addr, rc = some (.ref q))
structure Props (P : Program) (w : World) (K : PySem.W.Frag) (mg : Str → Option Value) (base : Heap) (D : Addr) : Prop where
  g1 : PropG P w K mg base D "lost" "_lost"
  g2 : PropG P w K mg base D "surplus" "_surplus"
  g3 : PropG P w K mg base D "value" "_value"
  g4 : PropG P w K mg base D "junction" "_junction"
theorem s_small {T B : Nat → Int} {L : List Nat} {i : Nat} (n : L.length ≤ 8) (h : ∀ j, j < 4 → Pb (T j) (B j)) (hL : ∀ j ∈ L, j < 4) (hi : i < 4) : Small (sT T B L) (sB T B L) (T i) (B i) := by
  obtain ⟨h1, h2, h3⟩ := s_bnd n fun j m => (h j (hL j m)).bd
  have pb := h i hi
  exact ⟨h1, pb.nm.b0, Nat.lt_of_lt_of_le h2 (Nat.pow_le_pow_right (by decide) (by decide)), Nat.lt_of_lt_of_le h3 (Nat.pow_le_pow_right (by decide) (by decide)), sm_of pb.bd.t0 (by have := pb.bd.t1; omega) (by decide), sm_of (Int.le_of_lt pb.bd.b0) (by have := pb.bd.b1; omega) (by decide)⟩
section
variable {P : Program} {w : World} {K : PySem.W.Frag} {mg : Str → Option Value} {base : Heap} {C CI fCI CZ fCZ D CP fCP : Addr}
def spCost (C D : Addr) : Sp := fun vs H Q _ => ∃ (a : Addr) (pr : V) (qs : List Addr) (ss : List Nat) (b : Bool) (T B : Nat → Int), vs = [.ref a, pr] ∧ H a = some (if b = true then .lst (qs.map V.ref) else .tup (qs.map V.ref)) ∧ qs.length = ss.length ∧ ss.length ≤ 8 ∧
  (∀ (j : Nat) (q : Addr) (s : Nat), qs[j]? = some q → ss[j]? = some s → Ded H q s) ∧ ((pr = .non ∧ T = (fun _ => 1) ∧ B = fun _ => 1) ∨ ∃ p, pr = .ref p ∧ Prc C D H p T B) ∧ (∀ i, i < 4 → Pb (T i) (B i)) ∧
  ∀ q H', Same H H' → Rat C H' q (sT T B ss) (sB T B ss) → Q (.ref q) H'
theorem ok_cost {f : Addr} {fd : FuncData} (F : FunD K "cost" "cost" (defArgs sCost) (defBody sCost) (defScope sCost) [.non] [] f fd) (T : Txt K mg C CI fCI CZ fCZ) (Z : Tys K C) (U : PTxt K mg D CP fCP) (M : Mak P w K mg base C CI CZ) (MP : MkQ P w K mg base C D CP) (AD : Adds P w K mg base C CI) (PP : Props P w K mg base D) :
    FnOk P w K mg base (L2.CX P w) 10 f fd ["deeds", "prices"] (spCost C D) := by
  obtain ⟨fI, fdI, ds, mk, GI, b3, d2, b2⟩ := M.ex
  obtain ⟨_, _, _, mkD, GP, bP, dP⟩ := MP.ex
  obtain ⟨_, _, aa, af, ak, Ga, ba⟩ := AD.add.ex
  have rA := AD.radd
  obtain ⟨_, _, _, h1, G1, c1⟩ := PP.g1.ex
  obtain ⟨_, _, _, h2, G2, c2⟩ := PP.g2.ex
  obtain ⟨_, _, _, h3, G3, c3⟩ := PP.g3.ex
  obtain ⟨_, _, _, h4, G4, c4⟩ := PP.g4.ex
  have sc : FnScope ["deeds", "prices", "costs", "each", "total", "deed"] ["deeds", "prices"] (defScope sCost) := ⟨rfl, rfl, rfl, by decide +kernel, rfl, by decide +kernel, by decide +kernel⟩
  refine F.ok sc (fun vs H Q E h => ?_) (fun cdv A outer s H vs Q E hr h => ?_)
  · obtain ⟨a, pr, qs, ss, b, T, B, rfl, _⟩ := h
    rfl
  · obtain ⟨a, pr, qs, ss, b, TT, BB, rfl, ha, len, n8, ded, prc, pbs, k⟩ := h
    have hu : (cxOf (L2.CX P w) P w K mg base ["deeds", "prices", "costs", "each", "total", "deed"] "cost" (defScope sCost) f cdv A outer s H E).A.units + 1 < cLine := hu_of hr
    cases b with
    | true =>
      refine ⟨_, (pss_cons (ps_set (i := 2) sc.nd rfl (Or.inl rfl) (pe_ifExp (pt_cmpR op_isN1 (pv 1) pe_non (nomark _)) (pe_make0 (E := E0) mkD GP (hr.mono (by decide)) (by rfl) U.gD bP dP passL) (pv 1)))
      (pss_cons (ps_set (i := 3) sc.nd rfl (Or.inl rfl) (pe_disp (pps_cons pe_str (pe_prop (E := E0) (pv 2) U.cl h1 G1 (hr.mono (by decide)) c1 .nil passL rfl) (pps_cons pe_str (pe_prop (E := E0) (pv 2) U.cl h2 G2 (hr.mono (by decide)) c2 .nil passL rfl) (pps_cons pe_str (pe_prop (E := E0) (pv 2) U.cl h3 G3 (hr.mono (by decide)) c3 .nil passL rfl) (pps_cons pe_str (pe_prop (E := E0) (pv 2) U.cl h4 G4 (hr.mono (by decide)) c4 .nil passL rfl) pps_nil)))) (by rfl) (by rfl) (fun z => by cases z) (by decide)))
      (pss_cons (ps_set (i := 4) sc.nd rfl (Or.inl rfl) (pe_make mk GI (hr.mono (by decide)) (by rfl) T.gC b2 d2 passL (pa_cons pe_int pa_nil)))
      (pss_cons (ps_for passOwn rfl (pi_list (pv 0)) (pg_name (i := 5) sc.nd rfl (Or.inl rfl)) (pss_one (ps_set (i := 4) sc.nd rfl (Or.inl rfl) (pe_op (op := .Add) (op_ins (C := C) (E := E0) (op := .Add) ⟨aa, rA, af, Z.sf⟩ Ga (hr.mono (by decide)) ba passL) (pv 4) (pe_dget hu (pv 3) (pe_ix ix_tup (pv 5) pe_int (fun _ _ => rfl)) (fun _ _ => rfl))))))
      (pss_one (ps_ret (pv 4))))))), ?_⟩
      apply cut3 (α := V) (β := Hp) (F := fun v G => ∃ p, v = .ref p ∧ Same H G ∧ Prc C D G p TT BB)
      case body =>
        intro nxt
        refine ⟨_, rfl, rfl, _, rfl, ?_⟩
        rcases id prc with ⟨ep, e1, e2⟩ | ⟨p, ep, prc⟩
        · refine if_pos' (decide_eq_true ep) ?_
          intro x0 dx0 nx0 nd0 ne0
          refine mkP_at (C := C) (D := D) (v := fun _ => .int 1) (T := fun _ => 1) (B := fun _ => 1) nx0 nd0 (fun i hi => ⟨pc_int (Nat.one_lt_two_pow (by decide)), Int.le_refl 1⟩) fun H1 s1 pr1 => ⟨rfl, ?_⟩
          generalize hv : V.ref x0 = v0
          exact nxt v0 H1 ⟨x0, hv.symm, s1, by rw [e1, e2]; exact pr1⟩
        · exact if_neg' (decide_eq_false (by rw [ep]; exact fun z => by cases z)) ⟨_, rfl, nxt pr H ⟨p, ep, fun _ _ e => e, prc⟩⟩
      rintro v G ⟨p, rfl, sG, prG⟩
      obtain ⟨dxp, rp, hp, hr4⟩ := id prG
      intro g ng
      have sg := same_upd (o := .dK []) ng
      have hg0 : (upd G g (.dK [])) g = some (.dK []) := upd_same
      have hp1 := sg _ _ hp
      generalize upd G g (.dK []) = G0 at sg hg0 hp1 ⊢
      refine ⟨_, rfl, p, dxp, _, rfl, hp1, ⟨p, dxp, _, _, rfl, hp1, lk0, _, rfl, p, dxp, _, rfl, hp1, ⟨p, dxp, _, _, rfl, hp1, lk1, _, rfl, p, dxp, _, rfl, hp1, ⟨p, dxp, _, _, rfl, hp1, lk2, _, rfl, p, dxp, _, rfl, hp1, ⟨p, dxp, _, _, rfl, hp1, lk3, hg0, [(Sum.inr "put", .ref (rp 0)), (Sum.inr "take", .ref (rp 1)), (Sum.inr "value", .ref (rp 2)), (Sum.inr "move", .ref (rp 3))], rfl, by show 4 ≤ 15; decide, ?_⟩⟩⟩⟩⟩
      have vk : ∀ s : Nat, s < 4 → valV (mergeK [] [(Sum.inr "put", .ref (rp 0)), (Sum.inr "take", .ref (rp 1)), (Sum.inr "value", .ref (rp 2)), (Sum.inr "move", .ref (rp 3))]) (Sum.inr (dw s)) = some (.ref (rp s)) := fun s hs => by
        rcases (show s = 0 ∨ s = 1 ∨ s = 2 ∨ s = 3 by omega) with rfl | rfl | rfl | rfl <;> rfl
      generalize mergeK [] [(Sum.inr "put", V.ref (rp 0)), (Sum.inr "take", .ref (rp 1)), (Sum.inr "value", .ref (rp 2)), (Sum.inr "move", .ref (rp 3))] = kvs at vk ⊢
      have s1 : Same G (upd G0 g (.dK kvs)) := same_put sg ng
      have hg1 : (upd G0 g (.dK kvs)) g = some (.dK kvs) := upd_same
      generalize upd G0 g (.dK kvs) = G1 at s1 hg1 ⊢
      intro q0 dq0 nq0 ndq0 neq0
      refine mkR_one (t := 0) nq0 ndq0 fun G2 s2 r2 => ⟨rfl, ?_⟩
      have sA := sG.trans (s1.trans s2)
      have hg2 := s2 _ _ hg1
      have haA := sA _ _ ha
      have hrA : ∀ i, i < 4 → Rat C G2 (rp i) (TT i) (BB i) := fun i hi => (hr4 i hi).same (s1.trans s2)
      refine ⟨_, rfl, a, rfl, ⟨_, SqL.of haA⟩, for_list (K := K) (a := a) (xs := qs.map V.ref) (fun j σ G' => (∃ tot v5, σ = [some (.ref a), some pr, some (.ref p), some (.ref g), some (.ref tot), v5] ∧ Rat C G' tot (sT TT BB (ss.take j)) (sB TT BB (ss.take j))) ∧ Same G2 G') ?_ ?_ ?_ ?_⟩
      · refine ⟨⟨q0, _, rfl, ?_⟩, fun _ _ e => e⟩
        rw [List.take_zero, s_nil.1, s_nil.2]
        exact r2
      · rintro j σ G' _ ⟨_, sG'⟩
        exact SqL.of (sG' _ _ haA)
      · rintro j x σ G' hx ⟨⟨tot, v5, rfl, rt⟩, sG'⟩
        obtain ⟨q, hq, rfl⟩ : ∃ q, qs[j]? = some q ∧ x = .ref q := by
          rw [List.getElem?_map] at hx
          cases e : qs[j]? with
          | none => rw [e] at hx; cases hx
          | some q => rw [e] at hx; cases hx; exact ⟨q, rfl, rfl⟩
        have hj : j < qs.length := (List.getElem?_eq_some_iff.mp hq).1
        have hs : ss[j]? = some (ss[j]'(by omega)) := List.getElem?_eq_getElem (by omega)
        generalize ss[j]'(by omega) = sj at hs
        obtain ⟨s4, rest, hrest⟩ := (ded j q sj hq hs).same (sA.trans sG')
        obtain ⟨dxt, ht⟩ := id rt
        obtain ⟨dxs, hsx⟩ := (hrA sj s4).same sG'
        have tk : ss.take (j + 1) = ss.take j ++ [sj] := by rw [List.take_succ, hs]; rfl
        have mem4 : ∀ i ∈ ss.take j, i < 4 := fun i m => by
          obtain ⟨n, hn, e⟩ := List.getElem_of_mem (List.mem_of_mem_take m)
          have hqn : n < qs.length := by omega
          have := ded n _ i (List.getElem?_eq_getElem hqn) (by rw [List.getElem?_eq_getElem hn, e])
          exact this.1
        refine ⟨_, rfl, _, rfl, _, rfl, q, _, _, _, rfl, rfl, SqT.of hrest, at_of (j := 0) rfl rfl, g, _, rfl, .inl ⟨kvs, Sum.inr (dw sj), .inl (sG' _ _ hg2), rfl, (vk sj s4).symm⟩, tot, dxt, _, rfl, ht, ⟨rp sj, dxs, _, rfl, hsx⟩, tot, .ref (rp sj), _, _, rfl, ⟨dxt, ht⟩, .inl ⟨TT sj, BB sj, .inl ⟨rp sj, rfl, ⟨dxs, hsx⟩⟩, s_small (by rw [List.length_take]; omega) pbs mem4 s4, fun r H' sH r3 => ?_⟩⟩
        have ss4 := s_snoc (T := TT) (B := BB) (L := ss.take j) (i := sj) (fun i m => (pbs i (mem4 i m)).bd) (pbs sj s4).nm.b0 (pbs sj s4).nm.nt (pbs sj s4).nm.nb
        rw [ss4.1, ss4.2, ← tk] at r3
        exact ⟨⟨r, _, rfl, r3⟩, sG'.trans sH⟩
      · rintro σ G' ⟨⟨tot, v5, rfl, rt⟩, sG'⟩
        rw [List.length_map, len, List.take_length] at rt
        exact ⟨_, rfl, k tot G' (sA.trans sG') rt⟩
    | false =>
      refine ⟨_, (pss_cons (ps_set (i := 2) sc.nd rfl (Or.inl rfl) (pe_ifExp (pt_cmpR op_isN1 (pv 1) pe_non (nomark _)) (pe_make0 (E := E0) mkD GP (hr.mono (by decide)) (by rfl) U.gD bP dP passL) (pv 1)))
      (pss_cons (ps_set (i := 3) sc.nd rfl (Or.inl rfl) (pe_disp (pps_cons pe_str (pe_prop (E := E0) (pv 2) U.cl h1 G1 (hr.mono (by decide)) c1 .nil passL rfl) (pps_cons pe_str (pe_prop (E := E0) (pv 2) U.cl h2 G2 (hr.mono (by decide)) c2 .nil passL rfl) (pps_cons pe_str (pe_prop (E := E0) (pv 2) U.cl h3 G3 (hr.mono (by decide)) c3 .nil passL rfl) (pps_cons pe_str (pe_prop (E := E0) (pv 2) U.cl h4 G4 (hr.mono (by decide)) c4 .nil passL rfl) pps_nil)))) (by rfl) (by rfl) (fun z => by cases z) (by decide)))
      (pss_cons (ps_set (i := 4) sc.nd rfl (Or.inl rfl) (pe_make mk GI (hr.mono (by decide)) (by rfl) T.gC b2 d2 passL (pa_cons pe_int pa_nil)))
      (pss_cons (ps_for passOwn rfl (pi_tup (pv 0)) (pg_name (i := 5) sc.nd rfl (Or.inl rfl)) (pss_one (ps_set (i := 4) sc.nd rfl (Or.inl rfl) (pe_op (op := .Add) (op_ins (C := C) (E := E0) (op := .Add) ⟨aa, rA, af, Z.sf⟩ Ga (hr.mono (by decide)) ba passL) (pv 4) (pe_dget hu (pv 3) (pe_ix ix_tup (pv 5) pe_int (fun _ _ => rfl)) (fun _ _ => rfl))))))
      (pss_one (ps_ret (pv 4))))))), ?_⟩
      apply cut3 (α := V) (β := Hp) (F := fun v G => ∃ p, v = .ref p ∧ Same H G ∧ Prc C D G p TT BB)
      case body =>
        intro nxt
        refine ⟨_, rfl, rfl, _, rfl, ?_⟩
        rcases id prc with ⟨ep, e1, e2⟩ | ⟨p, ep, prc⟩
        · refine if_pos' (decide_eq_true ep) ?_
          intro x0 dx0 nx0 nd0 ne0
          refine mkP_at (C := C) (D := D) (v := fun _ => .int 1) (T := fun _ => 1) (B := fun _ => 1) nx0 nd0 (fun i hi => ⟨pc_int (Nat.one_lt_two_pow (by decide)), Int.le_refl 1⟩) fun H1 s1 pr1 => ⟨rfl, ?_⟩
          generalize hv : V.ref x0 = v0
          exact nxt v0 H1 ⟨x0, hv.symm, s1, by rw [e1, e2]; exact pr1⟩
        · exact if_neg' (decide_eq_false (by rw [ep]; exact fun z => by cases z)) ⟨_, rfl, nxt pr H ⟨p, ep, fun _ _ e => e, prc⟩⟩
      rintro v G ⟨p, rfl, sG, prG⟩
      obtain ⟨dxp, rp, hp, hr4⟩ := id prG
      intro g ng
      have sg := same_upd (o := .dK []) ng
      have hg0 : (upd G g (.dK [])) g = some (.dK []) := upd_same
      have hp1 := sg _ _ hp
      generalize upd G g (.dK []) = G0 at sg hg0 hp1 ⊢
      refine ⟨_, rfl, p, dxp, _, rfl, hp1, ⟨p, dxp, _, _, rfl, hp1, lk0, _, rfl, p, dxp, _, rfl, hp1, ⟨p, dxp, _, _, rfl, hp1, lk1, _, rfl, p, dxp, _, rfl, hp1, ⟨p, dxp, _, _, rfl, hp1, lk2, _, rfl, p, dxp, _, rfl, hp1, ⟨p, dxp, _, _, rfl, hp1, lk3, hg0, [(Sum.inr "put", .ref (rp 0)), (Sum.inr "take", .ref (rp 1)), (Sum.inr "value", .ref (rp 2)), (Sum.inr "move", .ref (rp 3))], rfl, by show 4 ≤ 15; decide, ?_⟩⟩⟩⟩⟩
      have vk : ∀ s : Nat, s < 4 → valV (mergeK [] [(Sum.inr "put", .ref (rp 0)), (Sum.inr "take", .ref (rp 1)), (Sum.inr "value", .ref (rp 2)), (Sum.inr "move", .ref (rp 3))]) (Sum.inr (dw s)) = some (.ref (rp s)) := fun s hs => by
        rcases (show s = 0 ∨ s = 1 ∨ s = 2 ∨ s = 3 by omega) with rfl | rfl | rfl | rfl <;> rfl
      generalize mergeK [] [(Sum.inr "put", V.ref (rp 0)), (Sum.inr "take", .ref (rp 1)), (Sum.inr "value", .ref (rp 2)), (Sum.inr "move", .ref (rp 3))] = kvs at vk ⊢
      have s1 : Same G (upd G0 g (.dK kvs)) := same_put sg ng
      have hg1 : (upd G0 g (.dK kvs)) g = some (.dK kvs) := upd_same
      generalize upd G0 g (.dK kvs) = G1 at s1 hg1 ⊢
      intro q0 dq0 nq0 ndq0 neq0
      refine mkR_one (t := 0) nq0 ndq0 fun G2 s2 r2 => ⟨rfl, ?_⟩
      have sA := sG.trans (s1.trans s2)
      have hg2 := s2 _ _ hg1
      have haA := sA _ _ ha
      have hrA : ∀ i, i < 4 → Rat C G2 (rp i) (TT i) (BB i) := fun i hi => (hr4 i hi).same (s1.trans s2)
      refine ⟨_, rfl, a, rfl, ⟨_, SqT.of haA⟩, for_tup (K := K) (a := a) (xs := qs.map V.ref) (fun j σ G' => (∃ tot v5, σ = [some (.ref a), some pr, some (.ref p), some (.ref g), some (.ref tot), v5] ∧ Rat C G' tot (sT TT BB (ss.take j)) (sB TT BB (ss.take j))) ∧ Same G2 G') ?_ ?_ ?_ ?_⟩
      · refine ⟨⟨q0, _, rfl, ?_⟩, fun _ _ e => e⟩
        rw [List.take_zero, s_nil.1, s_nil.2]
        exact r2
      · rintro j σ G' _ ⟨_, sG'⟩
        exact SqT.of (sG' _ _ haA)
      · rintro j x σ G' hx ⟨⟨tot, v5, rfl, rt⟩, sG'⟩
        obtain ⟨q, hq, rfl⟩ : ∃ q, qs[j]? = some q ∧ x = .ref q := by
          rw [List.getElem?_map] at hx
          cases e : qs[j]? with
          | none => rw [e] at hx; cases hx
          | some q => rw [e] at hx; cases hx; exact ⟨q, rfl, rfl⟩
        have hj : j < qs.length := (List.getElem?_eq_some_iff.mp hq).1
        have hs : ss[j]? = some (ss[j]'(by omega)) := List.getElem?_eq_getElem (by omega)
        generalize ss[j]'(by omega) = sj at hs
        obtain ⟨s4, rest, hrest⟩ := (ded j q sj hq hs).same (sA.trans sG')
        obtain ⟨dxt, ht⟩ := id rt
        obtain ⟨dxs, hsx⟩ := (hrA sj s4).same sG'
        have tk : ss.take (j + 1) = ss.take j ++ [sj] := by rw [List.take_succ, hs]; rfl
        have mem4 : ∀ i ∈ ss.take j, i < 4 := fun i m => by
          obtain ⟨n, hn, e⟩ := List.getElem_of_mem (List.mem_of_mem_take m)
          have hqn : n < qs.length := by omega
          have := ded n _ i (List.getElem?_eq_getElem hqn) (by rw [List.getElem?_eq_getElem hn, e])
          exact this.1
        refine ⟨_, rfl, _, rfl, _, rfl, q, _, _, _, rfl, rfl, SqT.of hrest, at_of (j := 0) rfl rfl, g, _, rfl, .inl ⟨kvs, Sum.inr (dw sj), .inl (sG' _ _ hg2), rfl, (vk sj s4).symm⟩, tot, dxt, _, rfl, ht, ⟨rp sj, dxs, _, rfl, hsx⟩, tot, .ref (rp sj), _, _, rfl, ⟨dxt, ht⟩, .inl ⟨TT sj, BB sj, .inl ⟨rp sj, rfl, ⟨dxs, hsx⟩⟩, s_small (by rw [List.length_take]; omega) pbs mem4 s4, fun r H' sH r3 => ?_⟩⟩
        have ss4 := s_snoc (T := TT) (B := BB) (L := ss.take j) (i := sj) (fun i m => (pbs i (mem4 i m)).bd) (pbs sj s4).nm.b0 (pbs sj s4).nm.nt (pbs sj s4).nm.nb
        rw [ss4.1, ss4.2, ← tk] at r3
        exact ⟨⟨r, _, rfl, r3⟩, sG'.trans sH⟩
      · rintro σ G' ⟨⟨tot, v5, rfl, rt⟩, sG'⟩
        rw [List.length_map, len, List.take_length] at rt
        exact ⟨_, rfl, k tot G' (sA.trans sG') rt⟩
end
end R1
end

-- ReprJ
section
set_option Elab.async false
set_option linter.all false
set_option maxRecDepth 100000
/-! repr of lists and tuples that hold instances with a __repr__ of their own: what stands throughout is told by an invariant. -/
namespace ReprJ
open PySem L2 OwnOps
/-- A is A0 but for its guards and units -/
structure Like (A0 A : Around) : Prop where
  hd : A.handled = A0.handled
  fr : A.frames = A0.frames
/-- what stands, whatever is laid anew -/
def JK (J : Shared → Prop) : Prop := ∀ (s : Shared) (h' : Heap) (tk : Nat), J s → (∀ b o, s.heap.get? b = some o → h'.get? b = some o) → J { heap := h', gens := s.gens, drawn := s.drawn, toks := tk, os := s.os }
/-- u is written t, wherever J stands -/
def RJ (P : Program) (w : World) (J : Shared → Prop) (A0 : Around) (as : List Addr) (d e : Nat) (u : Value) (t : Str) : Prop :=
  ∀ (base : Nat), base + t.length ≤ sizeLine → ∀ (A : Around) (g : List Code) (E : Value → Shared → Prop) (s : Shared) (Q : Str → Shared → Prop), Like A0 A → A.guards = some g → (∀ b ∈ as, Clear g b) → A.units + d < cLine → A.depth + e < recursionLimit → J s → (∀ s', J s' → Q t s') →
    wpAny (model P w) A (pyReprUnder base u) Q E s
section
variable {P : Program} {w : World} {J : Shared → Prop} {A0 A : Around} {as : List Addr} {d e : Nat}
theorem RJ.is {u : Value} {t : Str} (jk : JK J) (h : ReprIs P w u t) : RJ P w J A0 as d e u t := fun base hb A g E s Q _ _ _ _ _ j q => h base hb A E s Q fun tk => q _ (jk s s.heap tk j fun _ _ e => e)
theorem RJ.more {u : Value} {t : Str} {as' : List Addr} {d' e' : Nat} (h : RJ P w J A0 as d e u t) (sub : ∀ b ∈ as, b ∈ as') (le : d ≤ d') (le2 : e ≤ e') : RJ P w J A0 as' d' e' u t := fun base hb A g E s Q lk hg hcl hu hd j q => h base hb A g E s Q lk hg (fun b m => hcl b (sub b m)) (by omega) (by omega) j q
theorem foldJ {g : List Code} (lk : Like A0 A) (hg : A.guards = some g) (hcl : ∀ b ∈ as, Clear g b) (hu : A.units + d < cLine) (hdp : A.depth + e < recursionLimit) {l : List Value} {ts : List Str} (h : Paired (RJ P w J A0 as d e) l ts) : ∀ (acc : Array Str) (n : Nat) (s : Shared) (E : Value → Shared → Prop) (Q : Array Str × Nat → Shared → Prop), n + piled ts ≤ sizeLine → J s → (∀ s', J s' → Q (acc ++ ts.toArray, n + piled ts) s') →
    wpAny (model P w) A (forIn l (acc, n) tupBody) Q E s := by
  induction h with
  | nil =>
    intro acc n s E Q _ j q
    have := q s j
    have e9 : acc ++ ([] : List Str).toArray = acc := by simp
    rw [e9] at this
    exact wpAny_pure this
  | @cons x t l ts h r ih =>
    intro acc n s E Q hn j q
    have hp : piled (t :: ts) = (t.length + 2) + piled ts := rfl
    rw [hp] at hn q
    rw [List.forIn_cons]
    refine wpAny_bind ?_
    show wpAny _ _ (pyReprUnder (n + 1) x >>= fun t => pure (ForInStep.yield (acc.push t, n + (t.length + 2)))) _ _ s
    refine wpAny_bind (h (n + 1) (by omega) A g E s _ lk hg hcl hu hdp j fun s' j' => wpAny_pure ?_)
    refine ih (acc.push t) (n + (t.length + 2)) s' E Q (by omega) j' fun s'' j'' => ?_
    have := q s'' j''
    have e9 : acc.push t ++ ts.toArray = acc ++ (t :: ts).toArray := by simp
    rw [e9, Nat.add_assoc]
    exact this
/-- a tuple at a whose items are written so -/
def TupJ (P : Program) (w : World) (J : Shared → Prop) (A0 : Around) (as : List Addr) (d e : Nat) (a : Addr) (ts : List Str) (s : Shared) : Prop := ∃ (o : Obj) (its : List Value) (n : Nat), s.heap.get? a = some o ∧ o.cls = .type "tuple" ∧ o.data = .seq its.toArray n ∧ Paired (RJ P w J A0 as d e) its ts
theorem own_tup {a : Addr} {ts : List Str} {g : List Code} {s : Shared} {R : Result → Shared → Prop} {base : Nat} {id : String} {rest : List Value} (jk : JK J) (hcg : (Code.builtin id { pos := .ref a :: rest }).isGuard = true) (hcu : (A.under (Code.builtin id { pos := .ref a :: rest })).units = A.units + 1) (hcw : (A.under (Code.builtin id { pos := .ref a :: rest })).depth = A.depth + 1)
    (lk : Like A0 (A.under (Code.builtin id { pos := .ref a :: rest }))) (hg : A.guards = some g) (hcl : ∀ b ∈ a :: as, Clear g b) (hna : a ∉ as) (hu : A.units + (d + 1) < cLine) (hdp : A.depth + (e + 1) < recursionLimit) (ht : TupJ P w J A0 as d e a ts s) (j : J s) (hQ : ∀ u s', J s' → R (.ok (.ret (.str (tupleText ts) u))) s') (hsz : base + (tupleText ts).length ≤ sizeLine) :
    wpOwn (model P w) A (Code.builtin id { pos := .ref a :: rest }) (Builtin.tupleReprAt base { pos := [.ref a] }) (fun fin s' => match fin with | .done f => R (.ok f) s' | .again c' => c'.quiet = true ∧ codeAny (model P w) A c' R s') (fun e s' => R (.error e) s') s := by
  obtain ⟨o, its, n, ho, hc, hd, hT⟩ := ht
  have hp := piled_le_tupleText ts
  have hca := hcl a List.mem_cons_self
  have hlen : its.length = ts.length := hT.length
  rw [tuple_repr_tree, tupleReprUnderWay_eq]
  refine wpOwn_bind (wpOwn_stackTailAny hg (tupGuardF_off _) (tupGuardF_pos _) ?_)
  have hn : (g.any fun c => tupGuardF (.ref a) (c, default)) = false := List.any_eq_false.mpr fun c hcm => by
    rw [tupGuardF_of_clear hca c hcm]
    exact Bool.false_ne_true
  rw [hn]
  refine wpOwn_of_wpAny ?_
  show wpAny _ _ (tupleReprRest base (.ref a)) _ _ s
  unfold tupleReprRest Builtin.Tuple.tupleItemsOf
  refine wpAny_bind (wpAny_bind (wpAny_seqItems ho hd (wpAny_pure ?_)))
  rw [← Array.forIn_toList]
  refine wpAny_bind (foldJ (A := A.under (Code.builtin id { pos := .ref a :: rest })) lk (guards_under_guard hcg hg) (fun b hb => Clear.cons (hcl b (List.mem_cons_of_mem _ hb)) fun e => hna (by rw [e]; exact hb)) (by rw [hcu]; omega) (by rw [hcw]; omega) hT #[] base s _ _ (by omega) j fun s' j' => ?_)
  have e9 : (Str.ofString "(" ++ (Str.ofString ", ").join (#[] ++ ts.toArray).toList ++ Str.ofString (if (its.toArray.size == 1) = true then ",)" else ")")) = tupleText ts := by
    unfold tupleText
    simp [hlen]
  unfold retStr
  dsimp only
  rw [e9]
  exact wpAny_bind (wpAny_mkStr (wpAny_pure (hQ _ _ (jk s' s'.heap _ j' fun _ _ e => e))) (by omega))
theorem depth_under (A : Around) (c : Code) : (A.under c).depth = A.depth + c.weight := rfl
theorem weight_t (x : Args) : (Code.builtin "tuple.__repr__" x).weight = 1 := by simp [Code.weight, Code.frames, Code.isCreation, Code.isCaller, Code.isFrame, isGuard_tuple_repr]
theorem weight_tu (x : Args) : (Code.builtin "tuple.__repr__.under" x).weight = 1 := by simp [Code.weight, Code.frames, Code.isCreation, Code.isCaller, Code.isFrame, isGuard_tuple_repr_under]
theorem weight_l (x : Args) : (Code.builtin "list.__repr__.loop" x).weight = 1 := by simp [Code.weight, Code.frames, Code.isCreation, Code.isCaller, Code.isFrame, isGuard_list_loop]
theorem RJ.tup {a : Addr} {ts : List Str} (jk : JK J) (hna : a ∉ as) (ht : ∀ s, J s → TupJ P w J A0 as d e a ts s) : RJ P w J A0 (a :: as) (d + 1) (e + 1) (.ref a) (tupleText ts) := fun base hb A g E s Q lk hg hcl hu hdp j q => by
  have ty : s.TypeIs (.ref a) "tuple" := let ⟨o, _, _, ho, hc, _⟩ := ht s j; ⟨o, ho, hc⟩
  refine wpAny_pyReprUnder_ref (by omega) (wpAny_pyReprObjUnder_twin ty F.slot_tuple_repr rfl (by omega)
    (call_twin_own (F.quiet_tuple_repr_under _) F.entry_tuple_repr_under F.check_tuple_repr_under ty F.slot_tuple_repr (F.args_tuple_repr_1 _) (own_tup jk (isGuard_tuple_repr_under _) (units_under_tuple_repr_under A _) (by rw [depth_under, show (Code.builtin "tuple.__repr__.under" _).weight = 1 from weight_tu _]) ⟨lk.hd, lk.fr⟩ hg hcl hna hu hdp (ht s j) j (fun u s' j' => ?_) hb)))
  exact ⟨⟨_, _, rfl⟩, _, _, rfl, q s' j'⟩
theorem call_tup {a : Addr} {ts : List Str} {g : List Code} {E : Value → Shared → Prop} {s : Shared} {Q : Value → Shared → Prop} (jk : JK J) (hna : a ∉ as) (lk : Like A0 A) (hg : A.guards = some g) (hcl : ∀ b ∈ a :: as, Clear g b) (hu : A.units + (d + 1) < cLine) (hdp : A.depth + (e + 1) < recursionLimit) (ht : TupJ P w J A0 as d e a ts s) (j : J s) (hsz : (tupleText ts).length ≤ sizeLine) (q : ∀ u s', J s' → Q (.str (tupleText ts) u) s') :
    wpAny (model P w) A (call (.builtin "tuple.__repr__") [.ref a]) Q E s := by
  have ty : s.TypeIs (.ref a) "tuple" := let ⟨o, _, _, ho, hc, _⟩ := ht; ⟨o, ho, hc⟩
  refine wpAny_call (codeAny_call_builtin_own (Code.quiet_builtin _ (by decide +kernel)) F.entry_tuple_repr (F.slot_tuple_repr.check (model P w) A.in1 _ s (.ref a) [] [] _ ty (F.args_tuple_repr_1 _) ?_))
  refine own_tup (base := 0) (rest := []) (R := fun r s' => match r with | .ok (.ret v) => Q v s' | .ok _ => False | .error e => E e s') jk (isGuard_tuple_repr _) (units_under_tuple_repr A _) (by rw [depth_under, show (Code.builtin "tuple.__repr__" _).weight = 1 from weight_t _]) ⟨lk.hd, lk.fr⟩ hg hcl hna hu hdp ht j (fun u s' j' => ?_) (by omega)
  exact q u s' j'
theorem in1_like (lk : Like A0 A) : Like A0 A.in1 := ⟨lk.hd, lk.fr⟩
/-- repr(x) of a built-in kind by its own repr -/
theorem call_rep {a : Addr} {T id : String} {s : Shared} {E : Value → Shared → Prop} {Q : Value → Shared → Prop} (ty : s.TypeIs (.ref a) T) (sl : SlotG T (Str.ofString "__repr__") id) (hu : A.in1.units < cLine) (h : wpAny (model P w) A.in1 (call (.builtin id) [.ref a]) (fun v s' => ∃ x u, v = .str x u ∧ Q v s') E s) :
    wpAny (model P w) A (call (.builtin "repr") [.ref a]) Q E s := by
  refine Calls.call_function_entry PySem.F.kind_repr PySem.F.plain_repr PySem.F.entry_repr (PySem.F.args_repr1 _) ?_
  unfold Builtin.repr
  refine wpAny_bind (m := oneArg "repr" _) (wpAny_pure (wpAny_bind (wpAny_cRoomFor hu (wpAny_bind (wpAny_specialOf ty sl.lookup ?_)))))
  refine wpAny_bind (wpAny_callSpecialIfBound?_slotG ty sl (wpAny_mono h (fun v s' z => ?_) fun _ _ e => e))
  obtain ⟨x, u, rfl, q⟩ := z
  exact wpAny_bind (wpAny_isInstance rfl isSubtype_str_str (wpAny_pure ⟨_, rfl, q⟩))
end
end ReprJ
end

-- ReprL
section
set_option Elab.async false
set_option linter.all false
set_option maxRecDepth 100000
namespace ReprJ
open PySem L2 OwnOps
/-- what stands of H, wherever it has come to -/
def JI (X : Cx) (pins : List (Addr × Obj)) (σ : L2.St) (H : Hp) (s : Shared) : Prop := ∃ H', (∀ b o, H b = some o → H' b = some o) ∧ L2.Inv X pins σ H' s
/-- x is written so, wherever it is asked from within X -/
def RV (X : Cx) (pins : List (Addr × Obj)) (σ : L2.St) (H : Hp) (as : List Addr) (d e : Nat) (x : V) (t : Str) : Prop := ∀ H1, (∀ b o, H b = some o → H1 b = some o) → ∀ u, RelV x u → RJ X.prog X.w (JI X pins σ H1) X.A as d e u t
section
variable {X : Cx} {pins : List (Addr × Obj)} {σ : L2.St} {H : Hp} {as : List Addr} {d e : Nat}
theorem jk_I : JK (JI X pins σ H) := fun s h' tk ⟨H', sm, I⟩ kp => ⟨H', sm, I.kept kp⟩
theorem RV.more {x : V} {t : Str} {as' : List Addr} {d' e' : Nat} (h : RV X pins σ H as d e x t) (sub : ∀ b ∈ as, b ∈ as') (le : d ≤ d') (le2 : e ≤ e') : RV X pins σ H as' d' e' x t := fun H1 s u r => (h H1 s u r).more sub le le2
theorem RV.at {x : V} {t : Str} {H' : Hp} (h : RV X pins σ H as d e x t) (s : ∀ b o, H b = some o → H' b = some o) : RV X pins σ H' as d e x t := fun H1 s1 => h H1 fun b o q => s1 b o (s b o q)
theorem RV.str (x : Str) (n : (reprText x).length ≤ sizeLine) : RV X pins σ H as d e (.str x) (reprText x) := fun H1 _ u r => by
  obtain ⟨t, rfl⟩ := (show ∃ t, u = Value.str x t from r)
  exact RJ.is jk_I (ReprIs.str x t n)
theorem RV.int (i : Int) (n : i.natAbs.log2 < 1920) : RV X pins σ H as d e (.int i) (toString i) := fun H1 _ u r => by
  obtain ⟨t, rfl⟩ := (show ∃ t, u = Value.int i t from r)
  exact RJ.is jk_I (ReprIs.int t n)
theorem paired_of {xs : List V} {ts : List Str} {H1 : Hp} (len : xs.length = ts.length) (h : ∀ (i : Nat) (x : V) (t : Str), xs[i]? = some x → ts[i]? = some t → RV X pins σ H as d e x t) (s : ∀ b o, H b = some o → H1 b = some o) {us : List Value} (r : Vals xs us) : Paired (RJ X.prog X.w (JI X pins σ H1) X.A as d e) us ts := by
  induction r generalizing ts with
  | nil =>
    cases ts with
    | nil => exact .nil
    | cons => cases len
  | @cons x u xs us r _ ih =>
    cases ts with
    | nil => cases len
    | cons t ts => exact .cons (h 0 x t rfl rfl H1 s u r) (ih (Nat.succ.inj len) fun i x t hx ht => h (i + 1) x t hx ht)
theorem tupJ_of {a : Addr} {xs : List V} {ts : List Str} {H1 : Hp} {s : Shared} (ha : H a = some (.tup xs)) (len : xs.length = ts.length) (h : ∀ (i : Nat) (x : V) (t : Str), xs[i]? = some x → ts[i]? = some t → RV X pins σ H as d e x t) (sm : ∀ b o, H b = some o → H1 b = some o) (j : JI X pins σ H1 s) : TupJ X.prog X.w (JI X pins σ H1) X.A as d e a ts s := by
  obtain ⟨H', sm2, I⟩ := j
  obtain ⟨its, r, ⟨o, h1, h2, n, h3⟩, _⟩ := I.tuple (SqT.of (sm2 _ _ (sm _ _ ha)))
  exact ⟨o, its, n, h1, h2, h3, paired_of len h sm r⟩
theorem RV.tup {a : Addr} {xs : List V} {ts : List Str} (ha : H a = some (.tup xs)) (hna : a ∉ as) (len : xs.length = ts.length) (h : ∀ (i : Nat) (x : V) (t : Str), xs[i]? = some x → ts[i]? = some t → RV X pins σ H as d e x t) : RV X pins σ H (a :: as) (d + 1) (e + 1) (.ref a) (tupleText ts) := fun H1 sm u r => by
  cases (show u = Value.ref a from r)
  exact RJ.tup jk_I hna fun s j => tupJ_of ha len h sm j
theorem done_of : ∀ {ts : List Str} {us : List Value}, Vals (ts.map V.str) us → ∃ dn : List (Str × Tok), us = strValues dn ∧ dn.map (fun x => x.1) = ts
  | [], _, .nil => ⟨[], rfl, rfl⟩
  | t :: ts, _, .cons h r => by
    obtain ⟨k, rfl⟩ := (show ∃ k, _ = Value.str t k from h)
    obtain ⟨dn, rfl, e⟩ := done_of r
    exact ⟨(t, k) :: dn, rfl, by rw [List.map_cons, e]⟩
/-- the turns of a list's repr -/
theorem loopI {A : Around} {g : List Code} {a p : Addr} {xs : List V} {ts : List Str} {base : Nat} {R : Result → Shared → Prop} (lk : Like X.A A) (hg : A.guards = some g) (hcl : ∀ b ∈ as, Clear g b) (hna : a ∉ as) (hu : A.units + (d + 1) < cLine) (hdp : A.depth + (e + 1) < recursionLimit) (len : xs.length = ts.length)
    (h : ∀ (i : Nat) (x : V) (t : Str), xs[i]? = some x → ts[i]? = some t → RV X pins σ H as d e x t) (hsz : base + (listText ts).length ≤ sizeLine) (ap : a ≠ p) (hp : H p = none) (hR : ∀ u s', JI X pins σ H s' → R (.ok (.ret (.str (listText ts) u))) s') :
    ∀ (k i : Nat) (H1 : Hp) (s : Shared), xs.length - i = k → i ≤ xs.length → (∀ b o, H b = some o → H1 b = some o) → L2.Inv X pins σ H1 s → H1 a = some (.lst xs) → H1 p = some (.lst ((ts.take i).map V.str)) →
      codeAny (model X.prog X.w) A (Code.builtin "list.__repr__.loop" { pos := [.ref a, rawInt i, .ref p, rawInt ((base + piled (ts.take i) : Nat) : Int)] }) R s := by
  have hX : (listText ts).length = (textFrom 0 (Str.ofString "[") ts).length + 1 := by
    unfold listText
    rw [PySem.strLen_append]
    rfl
  have hp3 := piled_le_listText ts
  have hL := textFrom_len ts 0 (Str.ofString "[")
  have hL1 : 2 * ts.length ≤ (textFrom 0 (Str.ofString "[") ts).length + 2 := by
    have := hL.1
    rw [if_neg (Nat.lt_irrefl 0)] at this
    omega
  intro k
  induction k with
  | zero =>
    intro i H1 s hk hi sm I ha hP
    have hin : i = xs.length := by omega
    obtain ⟨its, n, r, ho, hz⟩ := I.lst ha
    obtain ⟨itsP, nP, rP, hoP, hzP⟩ := I.lst hP
    refine codeAny_builtin F.entry_list_repr_loop ?_
    show wpAny _ _ (Builtin.«list.__repr__.loop» { pos := [.ref a, .int i 0, .ref p, .int ((base + piled (ts.take i) : Nat) : Int) 0] }) _ _ s
    rw [repr_loop_tree]
    refine wpAny_bind (wpAny_listItems ho rfl ?_)
    have hnone : its.toArray[((i : Nat) : Int).toNat]? = none := by
      rw [Int.toNat_natCast, hin, r.length]
      simp
    rw [hnone]
    show wpAny _ _ (reprEnd (.ref p)) _ _ s
    unfold reprEnd
    refine wpAny_bind (wpAny_listItems hoP rfl ?_)
    obtain ⟨dn, rfl, e9⟩ := done_of rP
    have all : dn.map (fun x => x.1) = ts := by rw [e9, hin, len, List.take_length]
    rw [show (strValues dn).toArray.toList = strValues dn from rfl, repr_fold, all]
    refine wpAny_bind (wpAny_pure ?_)
    unfold retStr
    exact wpAny_bind (wpAny_mkStr (wpAny_pure (hR _ _ ⟨H1, sm, I.kept (t' := s.toks + 1) fun _ _ e => e⟩)) (by show (listText ts).length ≤ sizeLine; omega))
  | succ k ih =>
    intro i H1 s hk hi sm I ha hP
    have hlt : i < xs.length := by omega
    obtain ⟨its, n, r, ho, hz⟩ := I.lst ha
    have ht : ts[i]? = some (ts[i]'(by omega)) := List.getElem?_eq_getElem (by omega)
    have hx : xs[i]? = some xs[i] := List.getElem?_eq_getElem hlt
    obtain ⟨v, hv, ru⟩ := r.get hx
    have hr := h i _ _ hx ht H1 sm _ ru
    generalize ts[i]'(by omega) = t at ht hr
    have hp1 := piled_take_succ ht
    have hp2 := piled_take_le ts (i + 1)
    refine codeAny_builtin F.entry_list_repr_loop ?_
    show wpAny _ _ (Builtin.«list.__repr__.loop» { pos := [.ref a, .int i 0, .ref p, .int ((base + piled (ts.take i) : Nat) : Int) 0] }) _ _ s
    rw [repr_loop_tree]
    refine wpAny_bind (wpAny_listItems ho rfl ?_)
    have hsome : its.toArray[((i : Nat) : Int).toNat]? = some v := by
      rw [Int.toNat_natCast]
      simpa using hv
    rw [hsome, Int.toNat_natCast]
    refine wpAny_bind (wpAny_holding (hr (base + piled (ts.take i) + 1) (by omega) _ _ _ s _ ⟨lk.hd, lk.fr⟩ (guards_under_guard (isGuard_list_loop _) hg) (fun b hb => Clear.cons (hcl b hb) fun e => hna (by rw [e]; exact hb)) (by rw [units_under_list_loop]; omega) (by rw [depth_under, weight_l]; omega) ⟨H1, fun _ _ e => e, I⟩ fun s' ⟨H2, sm2, I2⟩ => ?_))
    have hP2 := sm2 _ _ hP
    have ha2 := sm2 _ _ ha
    refine wpAny_bind (wpAny_mkStr (wpAny_bind ?_) ?_)
    · unfold Builtin.List.listUpdate
      have I3 : L2.Inv X pins σ H2 { heap := s'.heap, gens := s'.gens, drawn := s'.drawn, toks := s'.toks + 1, os := s'.os } := I2.kept (t' := s'.toks + 1) fun _ _ e => e
      obtain ⟨itsP, nP, rP, hoP, hzP⟩ := I3.lst hP2
      have sz : itsP.length = i := by
        rw [← rP.length, List.length_map, List.length_take]
        omega
      refine wpAny_updateSeq hoP rfl (wpAny_pure ⟨F.quiet_list_repr_loop _, ?_⟩) (by rw [List.size_toArray, sz]; omega) (by rw [Array.size_push, List.size_toArray, sz]; omega)
      have tk1 : ts.take (i + 1) = ts.take i ++ [t] := by rw [List.take_succ, ht]; rfl
      have I4 := I3.lstUpd hP2 hoP (f := Obj.mapSeq fun x => x.push (.str t s'.toks)) (ys := (ts.take (i + 1)).map V.str) (its' := itsP ++ [.str t s'.toks]) (n' := nP + 1) (by
        rw [PyProof.Rows.mapSeq_push]
        simp) (by
        rw [tk1, List.map_append]
        exact rP.append (.cons ⟨_, rfl⟩ .nil)) (by
        rw [List.length_map, List.length_take]
        omega) (s'.toks + 1)
      have e1 : ((i : Nat) : Int) + 1 = ((i + 1 : Nat) : Int) := by omega
      have e2 : base + piled (ts.take i) + (t.length + 2) = base + piled (ts.take (i + 1)) := by omega
      have := ih (i + 1) _ _ (by omega) (by omega) (fun b o q => ?_) I4 (by rw [upd_ne ap]; exact ha2) upd_same
      rw [← e1, ← e2] at this
      exact this
      have bp : b ≠ p := fun z => by rw [z, hp] at q; cases q
      rw [upd_ne bp]
      exact sm2 _ _ (sm _ _ q)
    · have := hL.2.1 t (List.mem_of_getElem? ht)
      omega
theorem call_lst {A : Around} {g : List Code} {E : Value → Shared → Prop} {s : Shared} {Q : Value → Shared → Prop} {a : Addr} {xs : List V} {ts : List Str} (lk : Like X.A A) (hg : A.guards = some g) (hcl : ∀ b ∈ a :: as, Clear g b) (hna : a ∉ as) (hu : A.units + (d + 1) < cLine) (hdp : A.depth + (e + 1) < recursionLimit) (ha : H a = some (.lst xs)) (len : xs.length = ts.length)
    (h : ∀ (i : Nat) (x : V) (t : Str), xs[i]? = some x → ts[i]? = some t → RV X pins σ H as d e x t) (hsz : (listText ts).length ≤ sizeLine) (I : L2.Inv X pins σ H s) (q : ∀ u s', JI X pins σ H s' → Q (.str (listText ts) u) s') :
    wpAny (model X.prog X.w) A (call (.builtin "list.__repr__") [.ref a]) Q E s := by
  obtain ⟨its, n, r, ho, hz⟩ := I.lst ha
  have ty : s.TypeIs (.ref a) "list" := ⟨_, ho, rfl⟩
  refine wpAny_call (codeAny_call_builtin F.slot_list_repr.plain F.entry_list_repr (F.slot_list_repr.check (model X.prog X.w) A.in1 _ s (.ref a) [] [] _ ty (F.args_list_repr_1 _) ?_))
  cases r with
  | nil =>
    cases ts with
    | cons => cases len
    | nil =>
      show wpAny _ _ (Builtin.listReprAt 0 { pos := [.ref a] }) _ _ s
      unfold Builtin.listReprAt
      refine wpAny_bind (m := slotArgs "__repr__" 0 _) (wpAny_pure (wpAny_bind (wpAny_listItems ho rfl ?_)))
      refine wpAny_bind (wpAny_rule ?_)
      unfold retStr
      exact wpAny_bind (wpAny_mkStr (wpAny_pure (q _ _ ⟨H, fun _ _ e => e, I.kept (t' := s.toks + 1) fun _ _ e => e⟩)) (by show (Str.ofString "[]").length ≤ sizeLine; decide))
  | @cons x v xs us rx r =>
    show wpAny _ _ (Builtin.listReprAt 0 { pos := [.ref a] }) _ _ s
    refine wpAny_list_repr_head (A := A.in1) hg (fun v rest kw hm => listSameRef_of_ne (hcl a List.mem_cons_self _ v rest kw hm)) ho rfl (wpAny_bind (wpAny_newObj_type (wpAny_pure ⟨F.quiet_list_repr_loop _, ?_⟩) (by show 0 ≤ sizeLine; decide)))
    have np : H s.heap.objs.size = none := I.hok.fresh (Nat.le_refl _)
    have I2 := I.lnew (ys := []) (its := []) (t' := s.toks) .nil (by show 0 ≤ sizeLine; decide)
    have ap : a ≠ s.heap.objs.size := fun z => by rw [← z, ha] at np; cases np
    have := loopI (X := X) (pins := pins) (σ := σ) (H := H) (as := as) (d := d) (e := e) (A := A) (g := g) (a := a) (p := s.heap.objs.size) (xs := x :: xs) (ts := ts) (base := 0) (R := fun r s' => match r with | .ok (.ret v) => Q v s' | .ok _ => False | .error e => E e s') lk hg (fun b hb => hcl b (List.mem_cons_of_mem _ hb)) hna hu hdp len h (by omega) ap np (fun u s' j => q u s' j) _ 0 (upd H s.heap.objs.size (.lst [])) _ rfl (Nat.zero_le _) (fun b o q => by rw [upd_ne (show b ≠ s.heap.objs.size from fun z => by rw [z, np] at q; cases q)]; exact q) I2 (by rw [upd_ne ap]; exact ha) (by rw [upd_same]; rfl)
    exact this
end
end ReprJ
end

-- ReprI
section
set_option Elab.async false
set_option linter.all false
set_option maxRecDepth 100000
namespace ReprJ
open PySem L2 OwnOps
theorem ifBoundBy_K {A : Around} {E : Value → Shared → Prop} {s : Shared} {K : PySem.W.Frag} {x C f : Addr} {ox : Obj} {od : Option Obj} {name : Str} {M : Model} {last : Value → List Value → Sem Value} {Q : Option Value → Shared → Prop} (X : K.In s.heap) (I : PySem.W.InstAt s.heap x ox C od) (hs : PySem.W.findIn K (.ref C) name = some (some (.ref f))) (hf : PySem.W.isFn K (.ref f) = true)
    (h : wpAny M A (last (.ref f) [.ref x]) (fun v => Q (some v)) E s) : wpAny M A (callSpecialIfBoundBy? last (.ref x) name) Q E s := by
  unfold callSpecialIfBoundBy? bindSpecialIfBound?
  have fin := wpAny_bind (M := M) (A := A) (m := last (.ref f) [.ref x]) (f := fun v => pure (some v)) (Q := Q) (E := E) (wpAny_mono h (fun v s' h' => wpAny_pure h') fun _ _ h' => h')
  refine wpAny_holding (wpAny_bind (wpAny_bind (wpAny_bind (PySem.W.Looks.here I.type (PySem.W.Looks.here (PySem.W.looks_findIn X hs) (wpAny_bind (wpAny_askSetting (wpAny_ite ?_))))))))
  split
  · exact wpAny_bind (PySem.W.Looks.here (PySem.W.bind_fn X (.ref x) (beq_iff_eq.mp hf)) (wpAny_pure fin))
  · exact wpAny_tryCatch (wpAny_bind (PySem.W.Looks.here (PySem.W.bind_fn X (.ref x) (beq_iff_eq.mp hf)) (wpAny_pure fin)))
section
variable {X : Cx} {pins : List (Addr × Obj)} {σ : L2.St} {H : Hp} {as : List Addr} {d e k : Nat} {CX : CXT} {C g : Addr} {fd : FuncData} {ps : List Str} {sp : Sp} {E : XK}
theorem env_like {P : Program} {w : World} {K : PySem.W.Frag} {mg : Str → Option Value} {base : Heap} {A0 A : Around} {outer : List Env} {s : Shared} {H : Hp} (lk : Like A0 A) (e : Env0 P w K mg base A0 outer s H) : Env0 P w K mg base A outer s H := by
  obtain ⟨a1, a2, a3, a4, a5, a6, a7, a8⟩ := e
  exact ⟨by rw [lk.fr]; exact a1, a2, a3, a4, a5, a6, a7, a8⟩
/-- an instance with a __repr__ of its own -/
theorem RV.own {a dx : Addr} {fs : List (Str × V)} {t : Str} (hs : PySem.W.findIn X.K (.ref C) "__repr__" = some (some (.ref g))) (hf : PySem.W.isFn X.K (.ref g) = true) (F : FnOk X.prog X.w X.K X.mg X.base (L2.CX X.prog X.w) k g fd ps sp) (hb : Binds X.K fd ps []) (hd : X.A.handled = none) (ha : H a = some (.ins C dx fs))
    (q : ∀ H1, (∀ b o, H b = some o → H1 b = some o) → sp [.ref a] H1 (fun z H2 => z = .str t ∧ ∀ b o, H1 b = some o → H2 b = some o) E0) (du : 16 * k + 200 ≤ d) (de : 3 * k + 5 ≤ e) : RV X pins σ H as d e (.ref a) t := fun H1 sm u r => by
  cases (show u = Value.ref a from r)
  intro base hbb A g0 E s Q lk hg hcl hu hdp ⟨H2, sm2, I⟩ fin
  have hroom : Room k A := ⟨by rw [lk.hd]; exact hd, by omega, by omega⟩
  obtain ⟨od, J⟩ := inst_at I (sm2 _ _ (sm _ _ ha))
  obtain ⟨m, hF⟩ := I.fr
  refine wpAny_pyReprUnder_ref (by omega) ?_
  unfold pyReprObjUnder pyReprObjBy
  refine wpAny_bind (wpAny_cRoomFor (by omega) (wpAny_bind (wpAny_bind (PySem.W.Looks.here J.type (PySem.W.Looks.here (PySem.W.looks_findIn I.kIn hs) ?_)))))
  dsimp only [Option.isNone]
  rw [if_neg Bool.false_ne_true]
  refine wpAny_bind (ifBoundBy_K I.kIn J hs hf ?_)
  show wpAny _ _ (call (.ref g) [.ref a]) _ _ s
  have rel : Vals [V.ref a] [Value.ref a] := .cons rfl .nil
  have q2 := q H2 fun b o z => sm2 b o (sm b o z)
  have b := hb s [.ref a] I.kIn (by rw [List.append_nil, ← rel.length]; exact F.len _ _ _ _ q2)
  rw [List.append_nil] at b
  refine wpAny_mono (Q := EP X pins σ fun z H3 => z = .str t ∧ ∀ b o, H2 b = some o → H3 b = some o) (E := E) (wpAny_call (codeAny_mono (F.run A X.stack s H2 ⟨[.ref a], []⟩ [.ref a] [.ref a] _ E0 hroom (env_like lk I.env0) b rel q2) fun res s' got => ?_)) (fun w' s' z => ?_) fun _ _ ee => ee
  · match res, got with
    | .error e, got =>
      obtain ⟨_, _, _, _, _, _, _, _, _, _, _, _, z⟩ := got
      exact z.elim
    | .ok (.ret u), got => exact I.after got
    | .ok .next, got => exact got.elim
    | .ok .brk, got => exact got.elim
    | .ok .cont, got => exact got.elim
  · obtain ⟨z', H', I', rz, ⟨rfl, sm3⟩⟩ := z
    obtain ⟨tk, rfl⟩ := (show ∃ tk, w' = Value.str t tk from rz)
    exact wpAny_bind (wpAny_isInstance rfl isSubtype_str_str (wpAny_pure ⟨_, _, rfl, fin s' ⟨H', fun b o q => sm3 b o (sm2 b o q), I'⟩⟩))
/-- repr(x): x a list or a tuple whose items are written so -/
def rRepr (X : Cx) (d e : Nat) : List V → Hp → VK → Prop := fun vs H Q => ∃ (a : Addr) (xs : List V) (ts : List Str) (as : List Addr) (b : Bool), vs = [.ref a] ∧ H a = some (if b = true then .lst xs else .tup xs) ∧ a ∉ as ∧ xs.length = ts.length ∧ (if b = true then listText ts else tupleText ts).length ≤ sizeLine ∧
  (∀ pins σ (i : Nat) (x : V) (t : Str), xs[i]? = some x → ts[i]? = some t → RV X pins σ H as d e x t) ∧ ∀ H', (∀ b o, H b = some o → H' b = some o) → Q (.str (if b = true then listText ts else tupleText ts)) H'
theorem call_reprJ (hg : X.A.guards = some []) (hu : X.A.units + (d + 3) < cLine) (hdp : X.A.depth + (e + 2) < recursionLimit) : CallR X (.builtin "repr") (rRepr X d e) := by
  intro pins s σ H xs us Q I rx h
  obtain ⟨a, xs, ts, as, b, rfl, ha, hna, len, hsz, el, q⟩ := h
  obtain ⟨u, rfl, ru⟩ := vals1 rx
  cases (show u = Value.ref a from ru)
  have lk : Like X.A X.A.in1 := ⟨rfl, rfl⟩
  have hg1 : X.A.in1.guards = some [] := hg
  cases b with
  | true =>
    obtain ⟨its, n, r, ho, hz⟩ := I.lst ha
    refine call_rep ⟨_, ho, rfl⟩ F.slot_list_repr.toG (by show X.A.units + 1 < cLine; omega) (call_lst (as := as) (d := d) (e := e) lk hg1 (fun b _ => Clear.nil b) hna (by show X.A.units + 1 + (d + 1) < cLine; omega) (by show X.A.depth + (e + 1) < recursionLimit; omega) ha len (fun i x t hx ht => el pins σ i x t hx ht) hsz I fun u s' ⟨H', sm, I'⟩ => ⟨_, _, rfl, V.str _, H', I', ⟨_, rfl⟩, q H' sm⟩)
  | false =>
    have j : JI X pins σ H s := ⟨H, fun _ _ e => e, I⟩
    have tj := tupJ_of (X := X) (pins := pins) (σ := σ) (as := as) (d := d) (e := e) ha len (fun i x t hx ht => el pins σ i x t hx ht) (fun _ _ e => e) j
    obtain ⟨o, its, n, ho, hc, _⟩ := id tj
    refine call_rep ⟨o, ho, hc⟩ F.slot_tuple_repr (by show X.A.units + 1 < cLine; omega) (call_tup (as := as) (d := d) (e := e) jk_I hna lk hg1 (fun b _ => Clear.nil b) (by show X.A.units + 1 + (d + 1) < cLine; omega) (by show X.A.depth + (e + 1) < recursionLimit; omega) tj j hsz fun u s' ⟨H', sm, I'⟩ => ⟨_, _, rfl, V.str _, H', I', ⟨_, rfl⟩, q H' sm⟩)
end
end ReprJ
end

-- U7d
section
set_option Elab.async false
set_option linter.all false
set_option maxRecDepth 100000
set_option exponentiation.threshold 10000
namespace R1
open PySem L2 OwnOps RatM OwnNe G1 ReprJ
abbrev sDeed : Stmt := top 21
/-- q is written t, wherever this program asks it -/
def Rp (P : Program) (w : World) (K : PySem.W.Frag) (mg : Str → Option Value) (base : Heap) (H : Hp) (as : List Addr) (d e : Nat) (x : V) (t : Str) : Prop :=
  ∀ (X : Cx) (pins : List (Addr × Obj)) (σ : L2.St), X.prog = P → X.w = w → X.K = K → X.mg = mg → X.base = base → X.A.handled = none → RV X pins σ H as d e x t
section
variable {P : Program} {w : World} {K : PySem.W.Frag} {mg : Str → Option Value} {base : Heap} {C CI fCI CZ fCZ D CP fCP : Addr} {H : Hp} {as : List Addr} {d e : Nat}
theorem Rp.at {x : V} {t : Str} {H' : Hp} (h : Rp P w K mg base H as d e x t) (s : Same H H') : Rp P w K mg base H' as d e x t := fun X pins σ a1 a2 a3 a4 a5 a6 => (h X pins σ a1 a2 a3 a4 a5 a6).at s
theorem Rp.more {x : V} {t : Str} {as' : List Addr} {d' e' : Nat} (h : Rp P w K mg base H as d e x t) (sub : ∀ b ∈ as, b ∈ as') (le : d ≤ d') (le2 : e ≤ e') : Rp P w K mg base H as' d' e' x t := fun X pins σ a1 a2 a3 a4 a5 a6 => (h X pins σ a1 a2 a3 a4 a5 a6).more sub le le2
theorem Rp.str (x : Str) (n : (reprText x).length ≤ sizeLine) : Rp P w K mg base H as d e (.str x) (reprText x) := fun X pins σ _ _ _ _ _ _ => RV.str x n
theorem Rp.int (i : Int) (n : Pr i) : Rp P w K mg base H as d e (.int i) (toString i) := fun X pins σ _ _ _ _ _ _ => RV.int i n
theorem Rp.rat {q : Addr} {t b : Int} (DR : Dun P w K mg base C "__repr__" 1 ["self"] (spStr C reprT)) (r : Rat C H q t b) (pt : Pr t) (pb : Pr b) : Rp P w K mg base H as 216 8 (.ref q) (reprT t b) := fun X pins σ a1 a2 a3 a4 a5 a6 => by
  subst a1 a2 a3 a4 a5
  obtain ⟨g, fd, ha, hf, hk, F, hb⟩ := DR.ex
  obtain ⟨dx, hq⟩ := r
  exact RV.own ha hf F hb a6 hq (fun H1 s1 => ⟨q, t, b, rfl, ⟨dx, s1 _ _ hq⟩, pt, pb, rfl, fun _ _ e => e⟩) (by decide) (by decide)
theorem paired_at {α β : Type} {F : α → β → Prop} {xs : List α} {ys : List β} (h : Paired F xs ys) : ∀ {i : Nat} {x : α} {y : β}, xs[i]? = some x → ys[i]? = some y → F x y := by
  induction h with
  | nil => intro i x y h; simp at h
  | cons h _ ih =>
    intro i x y hx hy
    cases i with
    | zero =>
      simp at hx hy
      subst hx hy
      exact h
    | succ i => exact ih (by simpa using hx) (by simpa using hy)
theorem Rp.tup {a : Addr} {xs : List V} {ts : List Str} (ha : H a = some (.tup xs)) (hna : a ∉ as) (h : Paired (Rp P w K mg base H as d e) xs ts) : Rp P w K mg base H (a :: as) (d + 1) (e + 1) (.ref a) (tupleText ts) := fun X pins σ a1 a2 a3 a4 a5 a6 =>
  RV.tup ha hna h.length fun i x t hx ht => paired_at h hx ht X pins σ a1 a2 a3 a4 a5 a6
theorem piled_eq : ∀ ts : List Str, piled ts = (ts.map fun x => x.length).sum + 2 * ts.length
  | [] => rfl
  | t :: ts => by
    have := piled_eq ts
    have e1 : piled (t :: ts) = (t.length + 2) + piled ts := rfl
    rw [e1, this, List.map_cons, List.sum_cons, List.length_cons]
    omega
theorem tt_len (ts : List Str) : (tupleText ts).length ≤ piled ts + 3 := by
  have h := StrLaws.join_length_le (Str.ofString ", ") ts
  have h2 : (Str.ofString ", ").length = 2 := by decide +kernel
  rw [h2] at h
  have e := piled_eq ts
  unfold tupleText
  rw [PySem.strLen_append, PySem.strLen_append]
  have h1 : (Str.ofString "(").length = 1 := by decide +kernel
  have h3 : (Str.ofString (if (ts.length == 1) = true then ",)" else ")")).length ≤ 2 := by
    split <;> decide +kernel
  omega
theorem lt_len (ts : List Str) : (listText ts).length ≤ piled ts + 3 := by
  have h := textFrom_len_le ts 0 (Str.ofString "[")
  have h1 : (Str.ofString "[").length = 1 := by decide +kernel
  have h3 : (Str.ofString "]").length = 1 := by decide +kernel
  have e := piled_eq ts
  unfold listText
  rw [PySem.strLen_append]
  omega
def rn (d : Int) : Str := ("r" : Str) ++ ((toString d : String) : Str)
theorem nm_ok : ∀ n : Fin 9, (reprText (rn ((n.val : Nat) : Int))).length ≤ 20 ∧ (((toString ((n.val : Nat) : Int) : String) : Str)).length ≤ 3 ∧ (((n.val : Nat) : Int)).natAbs.log2 < 1920 := by decide +kernel
theorem nm_of {d : Int} (h0 : 0 ≤ d) (h : d < 9) : (reprText (rn d)).length ≤ 20 ∧ (((toString d : String) : Str)).length ≤ 3 ∧ d.natAbs.log2 < 1920 := by
  have := nm_ok ⟨d.toNat, by omega⟩
  have e : (((⟨d.toNat, by omega⟩ : Fin 9).val : Nat) : Int) = d := Int.toNat_of_nonneg h0
  rw [e] at this
  exact this
theorem lit (x : Str) (h : (reprText x).length ≤ 20 := by decide +kernel) : (reprText x).length ≤ 20 ∧ (reprText x).length ≤ sizeLine := ⟨h, by rw [sizeLine_eq]; omega⟩
theorem reprT_len {t b : Int} (pt : Pr t) (pb : Pr b) : (reprT t b).length ≤ 3900 := by
  have h1 := ts_len pt
  have h2 := ts_len pb
  unfold reprT
  rw [app_len, app_len, app_len, app_len, app_len, len0, len2, len3, len4]
  omega
theorem pr_small {t : Int} (h0 : 0 ≤ t) (h : t < 2 ^ 60) : Pr t := by
  unfold Pr
  rcases Nat.eq_zero_or_pos t.natAbs with z | z
  · rw [z]; decide
  · exact Nat.lt_of_lt_of_le ((Nat.log2_lt (by omega)).mpr (show t.natAbs < 2 ^ 60 by omega)) (by decide)
/-- all but the pool, and one more -/
def del (l xa : Addr) (H : Hp) : Hp := fun b => if b = l ∨ b = xa then none else H b
theorem del_at {H : Hp} {l xa b : Addr} {u : HO} (h1 : b ≠ l) (h2 : b ≠ xa) (h : H b = some u) : del l xa H b = some u := by
  unfold del
  rw [if_neg (fun z => z.elim h1 h2)]
  exact h
theorem St.tup {H : Hp} {l b : Addr} {m : Nat} {xa : Addr} {xs : List V} (S : St xa H l m) (h : H b = some (.tup xs)) : b ≠ l := fun z => by
  obtain ⟨_, _, _, _, _, _, _, _, _, _, h3, _⟩ := S
  rw [z, h3] at h
  cases h
theorem del_tup {H : Hp} {l b : Addr} {m : Nat} {xa : Addr} {xs : List V} (S : St xa H l m) (hx : b ≠ xa) (h : H b = some (.tup xs)) : del l xa H b = some (.tup xs) := del_at (S.tup h) hx h
theorem del_rat {H : Hp} {C l q : Addr} {m : Nat} {xa : Addr} {t b : Int} (S : St xa H l m) (hx : q ≠ xa) (r : Rat C H q t b) : Rat C (del l xa H) q t b :=
  let ⟨dx, h⟩ := r; ⟨dx, del_at (S.ins h) hx h⟩
theorem del_same {H H' : Hp} {l xa : Addr} (s : SameX l H H') : Same (del l xa H) (del l xa H') := fun b o e => by
  unfold del at e ⊢
  by_cases h : b = l ∨ b = xa
  · rw [if_pos h] at e; cases e
  · rw [if_neg h] at e ⊢
    exact s b o (fun z => h (.inl z)) e
theorem del_sub {H : Hp} {l xa : Addr} : Same (del l xa H) H := fun b o e => by
  unfold del at e
  by_cases h : b = l ∨ b = xa
  · rw [if_pos h] at e; cases e
  · rw [if_neg h] at e; exact e
theorem del_upd {H : Hp} {l xa : Addr} {u : HO} : Same (del l xa H) (del l xa (upd H xa u)) := fun b o e => by
  unfold del at e ⊢
  by_cases h : b = l ∨ b = xa
  · rw [if_pos h] at e; cases e
  · rw [if_neg h] at e ⊢
    rw [upd_ne (fun z => h (.inr z))]
    exact e
theorem fresh_x {H G : Hp} {xa b : Addr} (n : H xa ≠ none) (s : Same H G) (h : G b = none) : b ≠ xa := fun z => by
  cases q : H xa with
  | none => exact n q
  | some u =>
    have := s _ _ q
    rw [← z, h] at this
    cases this
/-- a deed of the sort s: how it is written, and where -/
def DedR (P : Program) (w : World) (K : PySem.W.Frag) (mg : Str → Option Value) (base : Heap) (l xa : Addr) (H : Hp) (q : Addr) (as : List Addr) (t : Str) : Prop := (∀ x ∈ as, H x ≠ none) ∧ t.length ≤ 5000 ∧ Rp P w K mg base (del l xa H) as 220 12 (.ref q) t
theorem DedR.sx {l q : Addr} {H H' : Hp} {as : List Addr} {t : Str} {m : Nat} {xa : Addr} (h : DedR P w K mg base l xa H q as t) (s : SameX l H H') (S : St xa H' l m) : DedR P w K mg base l xa H' q as t := by
  refine ⟨fun x hx => ?_, h.2.1, h.2.2.at (del_same s)⟩
  by_cases e : x = l
  · obtain ⟨_, _, _, _, _, _, _, _, _, _, h3, _⟩ := S
    rw [e, h3]
    exact Option.some_ne_none _
  · cases q : H x with
    | none => exact absurd q (h.1 x hx)
    | some u => rw [s x u e q]; exact Option.some_ne_none _
theorem Ded.sx {l q : Addr} {H H' : Hp} {s m : Nat} {xa : Addr} (h : Ded H q s) (S : St xa H l m) (sx : SameX l H H') : Ded H' q s := by
  obtain ⟨h1, rest, h2⟩ := h
  refine ⟨h1, rest, sx _ _ (fun z => ?_) h2⟩
  obtain ⟨_, _, _, _, _, _, _, _, _, _, h3, _⟩ := S
  rw [z, h3] at h2
  cases h2
def spDeed (P : Program) (w : World) (K : PySem.W.Frag) (mg : Str → Option Value) (base : Heap) : Sp := fun vs H Q _ => ∃ (l xa : Addr) (m : Nat), vs = [.ref l] ∧ St xa H l m ∧ H xa ≠ none ∧ m < 2 ^ 40 ∧
  ∀ q s as t H', SameX l H H' → St xa H' l (m + 3) → Ded H' q s → DedR P w K mg base l xa H' q as t → Q (.ref q) H'
theorem ok_deed {f : Addr} {fd : FuncData} (F : Fun K "_law_deed" "_law_deed" sDeed f fd) (T : Txt K mg C CI fCI CZ fCZ) (N : Nms mg) (M : Mak P w K mg base C CI CZ)
    (GN : Glb P w K mg base "_law_next" 1 ["_law_pool_here", "_law_size"] spNext) (DR : Dun P w K mg base C "__repr__" 1 ["self"] (spStr C reprT)) :
    FnOk P w K mg base (L2.CX P w) 6 f fd ["_law_pool_here"] (spDeed P w K mg base) := by
  obtain ⟨fI, fdI, ds, mk, GI, b3, d2, b2⟩ := M.ex
  obtain ⟨_, _, mN, kN, GN, bN⟩ := GN.ex
  have sc : FnScope ["_law_pool_here", "_law_name", "_law_sort"] ["_law_pool_here"] (defScope sDeed) := ⟨rfl, rfl, rfl, by decide +kernel, rfl, by decide +kernel, by decide +kernel⟩
  refine F.okX sc (fun vs H Q E h => ?_) (fun cdv A outer s H vs Q E hr h => ?_)
  · obtain ⟨l, xa, m, rfl, _⟩ := h
    rfl
  · obtain ⟨l, xa, m, rfl, hS, nxa, mm, k⟩ := h
    refine ⟨_, 
(pss_cons (ps_set (i := 1) sc.nd rfl (Or.inl rfl) (pe_op op_add_str pe_str (pe_callTy call_str_int (by rfl) N.str (by decide +kernel) (pa_cons (pe_call GN (hr.mono (by decide)) (by rfl) mN kN bN .nil passL (pa_cons (pv 0) (pa_cons pe_int pa_nil))) pa_nil))))
      (pss_cons (ps_set (i := 2) sc.nd rfl (Or.inl rfl) (pe_call GN (hr.mono (by decide)) (by rfl) mN kN bN .nil passL (pa_cons (pv 0) (pa_cons pe_int pa_nil))))
      (pss_cons (ps_if (pt_cmpR op_eq (pv 2) pe_int (nomark _)) (pss_one (ps_ret (pe_tup (pa_cons pe_str (pa_cons (pv 1) (pa_cons pe_str (pa_cons (pe_tup (pa_cons pe_str pa_nil)) pa_nil))))))) pss_nil)
      (pss_cons (ps_if (pt_cmpR op_eq (pv 2) pe_int (nomark _)) (pss_one (ps_ret (pe_tup (pa_cons pe_str (pa_cons (pv 1) pa_nil))))) pss_nil)
      (pss_cons (ps_if (pt_cmpR op_eq (pv 2) pe_int (nomark _)) (pss_one (ps_ret (pe_tup (pa_cons pe_str (pa_cons (pv 1) (pa_cons pe_int (pa_cons (pe_make mk GI (hr.mono (by decide)) (by rfl) T.gC b2 d2 passL (pa_cons (pe_op op_add pe_int (pe_call GN (hr.mono (by decide)) (by rfl) mN kN bN .nil passL (pa_cons (pv 0) (pa_cons pe_int pa_nil)))) pa_nil)) pa_nil))))))) pss_nil)
      (pss_one (ps_ret (pe_tup (pa_cons pe_str (pa_cons (pe_tup (pa_cons (pe_tup (pa_cons (pv 1) (pa_cons pe_int pa_nil))) pa_nil)) (pa_cons pe_str pa_nil))))))))))), ?_⟩
    refine ⟨_, rfl, l, xa, 9, m, rfl, by decide, sm9 (by decide), hS, nxa, by omega, fun d H1 d0 d9 sx1 S1 => ?_⟩
    obtain ⟨n1, n2, n3⟩ := nm_of d0 d9
    refine ⟨_, rfl, n3, _, _, rfl, rfl, Nat.le_trans (Nat.add_le_add (show ("r" : Str).length ≤ 1 by decide +kernel) n2) (by decide), ?_⟩
    have nl : (reprText (rn d)).length ≤ sizeLine := by rw [sizeLine_eq]; omega
    refine ⟨_, rfl, l, xa, 4, _, rfl, by decide, sm9 (by decide), S1, S1.nn nxa sx1, by omega, fun s H2 s0 s4 sx2 S2 => ?_⟩
    have sx12 := sx1.trans sx2
    have nx2 : H2 xa ≠ none := S2.nn nxa sx12
    have S2' : St xa H2 l (m + 3) := S2.more (by omega)
    rcases (show s = 0 ∨ s = 1 ∨ s = 2 ∨ s = 3 by omega) with rfl | rfl | rfl | rfl
    · refine ⟨_, rfl, rfl, _, rfl, if_pos' (by decide) ?_⟩
      refine ⟨_, rfl, (by show 1 ≤ sizeLine; decide), fun c nc => ⟨(by show 4 ≤ sizeLine; decide), fun q nq => ?_⟩⟩
      have s3 := same_upd (o := .tup [.str "a"]) nc
      have hc : (upd H2 c (.tup [.str "a"])) c = some (.tup [.str "a"]) := upd_same
      generalize upd H2 c (.tup [.str "a"]) = H3 at s3 hc nq ⊢
      have s4' := same_upd (o := .tup [.str "put", .str (rn d), .str "m1", .ref c]) nq
      have hq : (upd H3 q (.tup [.str "put", .str (rn d), .str "m1", .ref c])) q = some (.tup [.str "put", .str (rn d), .str "m1", .ref c]) := upd_same
      have hc4 := s4' _ _ hc
      have qc : q ∉ [c] := fun z => by rw [List.mem_singleton.mp z, hc] at nq; cases nq
      show Q (.ref q) (upd H3 q (.tup [.str "put", .str (rn d), .str "m1", .ref c]))
      generalize upd H3 q (.tup [.str "put", .str (rn d), .str "m1", .ref c]) = H4 at s4' hq hc4 ⊢
      have Sf := S2'.same (s3.trans s4')
      have rc : Rp P w K mg base (del l xa H4) [c] 218 10 (.ref c) (tupleText [reprText "a"]) := Rp.tup (as := []) (del_tup Sf (fresh_x nx2 (Same.refl _) nc) hc4) (fun z => nomatch z) (.cons (Rp.str "a" (lit "a").2) .nil)
      have rq : Rp P w K mg base (del l xa H4) [q, c] 219 11 (.ref q) (tupleText [reprText "put", reprText (rn d), reprText "m1", tupleText [reprText "a"]]) := Rp.tup (del_tup Sf (fresh_x nx2 s3 nq) hq) qc (.cons (Rp.str _ (lit "put").2) (.cons (Rp.str _ nl) (.cons (Rp.str _ (lit "m1").2) (.cons rc .nil))))
      refine k q 0 [q, c] _ H4 (sx12.trans (SameX.of (s3.trans s4'))) (S2'.same (s3.trans s4')) ⟨by decide, _, hq⟩ ⟨fun x hx => ?_, ?_, rq.more (fun _ m => m) (by decide) (by decide)⟩
      · rcases List.mem_cons.mp hx with rfl | hx
        · rw [hq]; exact Option.some_ne_none _
        · rw [List.mem_singleton.mp hx, hc4]; exact Option.some_ne_none _
      · have t1 := tt_len [reprText "a"]
        have t2 := tt_len [reprText "put", reprText (rn d), reprText "m1", tupleText [reprText "a"]]
        have l1 := (lit "a").1
        have l2 := (lit "put").1
        have l3 := (lit "m1").1
        simp only [piled, List.map_cons, List.map_nil, List.sum_cons, List.sum_nil] at t1 t2
        omega
    · refine ⟨_, rfl, rfl, _, rfl, if_neg' (by decide) ⟨_, rfl, rfl, _, rfl, if_pos' (by decide) ?_⟩⟩
      refine ⟨_, rfl, (by show 2 ≤ sizeLine; decide), fun q nq => ?_⟩
      have s4' := same_upd (o := .tup [.str "take", .str (rn d)]) nq
      have hq : (upd H2 q (.tup [.str "take", .str (rn d)])) q = some (.tup [.str "take", .str (rn d)]) := upd_same
      show Q (.ref q) (upd H2 q (.tup [.str "take", .str (rn d)]))
      generalize upd H2 q (.tup [.str "take", .str (rn d)]) = H4 at s4' hq ⊢
      have rq : Rp P w K mg base (del l xa H4) [q] 219 11 (.ref q) (tupleText [reprText "take", reprText (rn d)]) := Rp.tup (as := []) (del_tup (S2'.same s4') (fresh_x nx2 (Same.refl _) nq) hq) (fun z => nomatch z) (.cons (Rp.str _ (lit "take").2) (.cons (Rp.str _ nl) .nil))
      refine k q 1 [q] _ H4 (sx12.trans (SameX.of s4')) (S2'.same s4') ⟨by decide, _, hq⟩ ⟨fun x hx => ?_, ?_, rq.more (fun _ m => m) (by decide) (by decide)⟩
      · rw [List.mem_singleton.mp hx, hq]; exact Option.some_ne_none _
      · have t2 := tt_len [reprText "take", reprText (rn d)]
        have l2 := (lit "take").1
        simp only [piled, List.map_cons, List.map_nil, List.sum_cons, List.sum_nil] at t2
        omega
    · refine ⟨_, rfl, rfl, _, rfl, if_neg' (by decide) ⟨_, rfl, rfl, _, rfl, if_neg' (by decide) ⟨_, rfl, rfl, _, rfl, if_pos' (by decide) ?_⟩⟩⟩
      refine ⟨_, rfl, _, rfl, l, xa, 99, _, rfl, by decide, sm9 (by decide), S2, S2.nn nxa sx12, by omega, fun z H3 z0 z9 sx3 S3 => ⟨_, _, rfl, rfl, ?_⟩⟩
      have nx3 : H3 xa ≠ none := S3.nn nx2 sx3
      intro r dr nr ndr ner
      refine mkR_one (t := 1 + z) nr ndr fun H4 s4 r4 => ⟨rfl, (by show 4 ≤ sizeLine; decide), fun q nq => ?_⟩
      have s5 := same_upd (o := .tup [.str "value", .str (rn d), .int 0, .ref r]) nq
      have hq : (upd H4 q (.tup [.str "value", .str (rn d), .int 0, .ref r])) q = some (.tup [.str "value", .str (rn d), .int 0, .ref r]) := upd_same
      have r5 := r4.same s5
      show Q (.ref q) (upd H4 q (.tup [.str "value", .str (rn d), .int 0, .ref r]))
      generalize upd H4 q (.tup [.str "value", .str (rn d), .int 0, .ref r]) = H5 at s5 hq r5 ⊢
      have pt : Pr (1 + z) := pr_small (by omega) (by omega)
      have p1 : Pr 1 := pr_small (by decide) (by decide)
      have Sf := S3.same (s4.trans s5)
      have rr : Rp P w K mg base (del l xa H5) [] 218 10 (.ref r) (reprT (1 + z) 1) := (Rp.rat DR (del_rat Sf (fresh_x nx3 (Same.refl _) nr) r5) pt p1).more (fun _ m => m) (by decide) (by decide)
      have rq : Rp P w K mg base (del l xa H5) [q] 219 11 (.ref q) (tupleText [reprText "value", reprText (rn d), (toString (0 : Int) : String), reprT (1 + z) 1]) := Rp.tup (as := []) (del_tup Sf (fresh_x nx3 s4 nq) hq) (fun z => nomatch z) (.cons (Rp.str _ (lit "value").2) (.cons (Rp.str _ nl) (.cons (Rp.int 0 (pr_small (by decide) (by decide))) (.cons rr .nil))))
      refine k q 2 [q] _ H5 ((sx12.trans sx3).trans (SameX.of (s4.trans s5))) ((S3.more (by omega)).same (s4.trans s5)) ⟨by decide, _, hq⟩ ⟨fun x hx => ?_, ?_, rq.more (fun _ m => m) (by decide) (by decide)⟩
      · rw [List.mem_singleton.mp hx, hq]; exact Option.some_ne_none _
      · have t2 := tt_len [reprText "value", reprText (rn d), ((toString (0 : Int) : String) : Str), reprT (1 + z) 1]
        have l2 := (lit "value").1
        have l3 := reprT_len pt p1
        have l4 : (((toString (0 : Int) : String) : Str)).length ≤ 5 := by decide +kernel
        simp only [piled, List.map_cons, List.map_nil, List.sum_cons, List.sum_nil] at t2
        omega
    · refine ⟨_, rfl, rfl, _, rfl, if_neg' (by decide) ⟨_, rfl, rfl, _, rfl, if_neg' (by decide) ⟨_, rfl, rfl, _, rfl, if_neg' (by decide) ?_⟩⟩⟩
      refine ⟨_, rfl, (by show 2 ≤ sizeLine; decide), fun c nc => ⟨(by show 1 ≤ sizeLine; decide), fun c2 nc2 => ⟨(by show 3 ≤ sizeLine; decide), fun q nq => ?_⟩⟩⟩
      have s3 := same_upd (o := .tup [.str (rn d), .int 0]) nc
      have hc : (upd H2 c (.tup [.str (rn d), .int 0])) c = some (.tup [.str (rn d), .int 0]) := upd_same
      replace nc2 : (upd H2 c (.tup [.str (rn d), .int 0])) c2 = none := nc2
      replace nq : (upd (upd H2 c (.tup [.str (rn d), .int 0])) c2 (.tup [.ref c])) q = none := nq
      show Q (.ref q) (upd (upd (upd H2 c (.tup [.str (rn d), .int 0])) c2 (.tup [.ref c])) q (.tup [.str "move", .ref c2, .str "b"]))
      generalize upd H2 c (.tup [.str (rn d), .int 0]) = H3 at s3 hc nc2 nq ⊢
      have s4 := same_upd (o := .tup [.ref c]) nc2
      have hc2 : (upd H3 c2 (.tup [.ref c])) c2 = some (.tup [.ref c]) := upd_same
      have hc4 := s4 _ _ hc
      have c2c : c2 ∉ [c] := fun z => by rw [List.mem_singleton.mp z, hc] at nc2; cases nc2
      generalize upd H3 c2 (.tup [.ref c]) = H4 at s4 hc2 hc4 nq ⊢
      have s5 := same_upd (o := .tup [.str "move", .ref c2, .str "b"]) nq
      have hq : (upd H4 q (.tup [.str "move", .ref c2, .str "b"])) q = some (.tup [.str "move", .ref c2, .str "b"]) := upd_same
      have hc5 := s5 _ _ hc4
      have hc25 := s5 _ _ hc2
      have qc : q ∉ [c2, c] := fun z => by
        rcases List.mem_cons.mp z with rfl | z
        · rw [hc2] at nq; cases nq
        · rw [List.mem_singleton.mp z, hc4] at nq; cases nq
      generalize upd H4 q (.tup [.str "move", .ref c2, .str "b"]) = H5 at s5 hq hc5 hc25 ⊢
      have p0 : Pr 0 := pr_small (by decide) (by decide)
      have Sf := S2'.same (s3.trans (s4.trans s5))
      have rc : Rp P w K mg base (del l xa H5) [c] 217 9 (.ref c) (tupleText [reprText (rn d), (toString (0 : Int) : String)]) := Rp.tup (as := []) (del_tup Sf (fresh_x nx2 (Same.refl _) nc) hc5) (fun z => nomatch z) (.cons (Rp.str _ nl) (.cons (Rp.int 0 p0) .nil))
      have rc2 : Rp P w K mg base (del l xa H5) [c2, c] 218 10 (.ref c2) (tupleText [tupleText [reprText (rn d), (toString (0 : Int) : String)]]) := Rp.tup (del_tup Sf (fresh_x nx2 s3 nc2) hc25) c2c (.cons rc .nil)
      have rq : Rp P w K mg base (del l xa H5) [q, c2, c] 219 11 (.ref q) (tupleText [reprText "move", tupleText [tupleText [reprText (rn d), (toString (0 : Int) : String)]], reprText "b"]) := Rp.tup (del_tup Sf (fresh_x nx2 (s3.trans s4) nq) hq) qc (.cons (Rp.str _ (lit "move").2) (.cons rc2 (.cons (Rp.str _ (lit "b").2) .nil)))
      refine k q 3 [q, c2, c] _ H5 (sx12.trans (SameX.of (s3.trans (s4.trans s5)))) (S2'.same (s3.trans (s4.trans s5))) ⟨by decide, _, hq⟩ ⟨fun x hx => ?_, ?_, rq.more (fun _ m => m) (by decide) (by decide)⟩
      · rcases List.mem_cons.mp hx with rfl | hx
        · rw [hq]; exact Option.some_ne_none _
        rcases List.mem_cons.mp hx with rfl | hx
        · rw [hc25]; exact Option.some_ne_none _
        · rw [List.mem_singleton.mp hx, hc5]; exact Option.some_ne_none _
      · have t0 := tt_len [reprText (rn d), ((toString (0 : Int) : String) : Str)]
        have t1 := tt_len [tupleText [reprText (rn d), ((toString (0 : Int) : String) : Str)]]
        have t2 := tt_len [reprText "move", tupleText [tupleText [reprText (rn d), ((toString (0 : Int) : String) : Str)]], reprText "b"]
        have l2 := (lit "move").1
        have l3 := (lit "b").1
        have l4 : (((toString (0 : Int) : String) : Str)).length ≤ 5 := by decide +kernel
        simp only [piled, List.map_cons, List.map_nil, List.sum_cons, List.sum_nil] at t0 t1 t2
        omega
end
end R1
end

-- U7e
section
set_option Elab.async false
set_option linter.all false
set_option maxRecDepth 100000
set_option exponentiation.threshold 10000
namespace R1
open PySem L2 OwnOps RatM OwnNe G1
abbrev sDue : Stmt := top 22
def flt (k : Nat) (ss : List Nat) : List Nat := ss.filter fun s => decide (s = k)
theorem flt_hit {k : Nat} {ss : List Nat} : flt k (k :: ss) = k :: flt k ss := List.filter_cons_of_pos (decide_eq_true rfl)
theorem flt_miss {k s : Nat} {ss : List Nat} (h : s ≠ k) : flt k (s :: ss) = flt k ss := List.filter_cons_of_neg (by simp [h])
theorem cat_perm : ∀ ss : List Nat, (∀ s ∈ ss, s < 4) → (flt 0 ss ++ (flt 1 ss ++ (flt 2 ss ++ flt 3 ss))).Perm ss
  | [], _ => .nil
  | s :: ss, h => by
    have ih := cat_perm ss fun x m => h x (List.mem_cons_of_mem _ m)
    have hs := h s List.mem_cons_self
    rcases (show s = 0 ∨ s = 1 ∨ s = 2 ∨ s = 3 by omega) with rfl | rfl | rfl | rfl
    · rw [flt_hit, flt_miss (by decide), flt_miss (by decide), flt_miss (by decide)]
      exact List.Perm.cons _ ih
    · rw [flt_hit, flt_miss (by decide), flt_miss (by decide), flt_miss (by decide)]
      exact List.perm_middle.trans (List.Perm.cons _ ih)
    · rw [flt_hit, flt_miss (by decide), flt_miss (by decide), flt_miss (by decide)]
      rw [← List.append_assoc] at ih ⊢
      exact List.perm_middle.trans (List.Perm.cons _ ih)
    · rw [flt_hit, flt_miss (by decide), flt_miss (by decide), flt_miss (by decide)]
      rw [← List.append_assoc, ← List.append_assoc] at ih ⊢
      exact List.perm_middle.trans (List.Perm.cons _ ih)
/-- what has been added up ahead of the k-th sort -/
def cat (ss : List Nat) : Nat → List Nat
  | 0 => []
  | k + 1 => cat ss k ++ flt k ss
theorem cat4 (ss : List Nat) (h : ∀ s ∈ ss, s < 4) : (cat ss 4).Perm ss := by
  have e : cat ss 4 = flt 0 ss ++ (flt 1 ss ++ (flt 2 ss ++ flt 3 ss)) := by
    show (([] ++ flt 0 ss) ++ flt 1 ss ++ flt 2 ss) ++ flt 3 ss = _
    simp
  rw [e]
  exact cat_perm ss h
theorem cat_len (ss : List Nat) : ∀ k, k ≤ 4 → (∀ s ∈ ss, s < 4) → (cat ss k).length ≤ ss.length := fun k hk h => by
  have e := (cat4 ss h).length_eq
  have m : ∀ i, (cat ss i).length ≤ (cat ss (i + 1)).length := fun i => by
    show _ ≤ (cat ss i ++ flt i ss).length
    rw [List.length_append]
    omega
  have m0 : (cat ss 0).length ≤ (cat ss 1).length := m 0
  have m1 : (cat ss 1).length ≤ (cat ss 2).length := m 1
  have m2 : (cat ss 2).length ≤ (cat ss 3).length := m 2
  have m3 : (cat ss 3).length ≤ (cat ss 4).length := m 3
  rcases (show k = 0 ∨ k = 1 ∨ k = 2 ∨ k = 3 ∨ k = 4 by omega) with rfl | rfl | rfl | rfl | rfl <;> omega
theorem cat_mem {ss : List Nat} : ∀ {k i : Nat}, i ∈ cat ss k → i ∈ ss
  | 0, _, h => nomatch h
  | k + 1, i, h => by
    rcases List.mem_append.mp (show i ∈ cat ss k ++ flt k ss from h) with h | h
    · exact cat_mem h
    · exact (List.mem_filter.mp h).1
theorem dw_eq : ∀ s k : Fin 4, decide (V.str (dw s.val) = V.str (dw k.val)) = decide (s.val = k.val) := fun s k => by
  have : ∀ s k : Fin 4, decide (dw s.val = dw k.val) = decide (s.val = k.val) := by decide +kernel
  rw [← this s k]
  exact decide_eq_decide.mpr ⟨fun h => V.str.inj h, fun h => congrArg V.str h⟩
theorem at_w {k : Nat} (h : k < 4) : atI [V.str "put", V.str "take", V.str "value", V.str "move"] ((0 : Int) + (k : Int)) = some (.str (dw k)) := by
  rcases (show k = 0 ∨ k = 1 ∨ k = 2 ∨ k = 3 by omega) with rfl | rfl | rfl | rfl <;> rfl
theorem at_r {k : Nat} {r : Nat → Addr} (h : k < 4) : atI [V.ref (r 0), V.ref (r 1), V.ref (r 2), V.ref (r 3)] ((0 : Int) + (k : Int)) = some (.ref (r k)) := by
  rcases (show k = 0 ∨ k = 1 ∨ k = 2 ∨ k = 3 by omega) with rfl | rfl | rfl | rfl <;> rfl
section
variable {P : Program} {w : World} {K : PySem.W.Frag} {mg : Str → Option Value} {base : Heap} {C CI fCI CZ fCZ D CP fCP : Addr}
def spDue (C : Addr) : Sp := fun vs H Q _ => ∃ (a tl : Addr) (qs : List Addr) (ss : List Nat) (r : Nat → Addr) (T B : Nat → Int), vs = [.ref a, .ref tl] ∧ H a = some (.lst (qs.map V.ref)) ∧ qs.length = ss.length ∧ ss.length ≤ 8 ∧
  (∀ (j : Nat) (q : Addr) (s : Nat), qs[j]? = some q → ss[j]? = some s → Ded H q s) ∧ H tl = some (.lst [.ref (r 0), .ref (r 1), .ref (r 2), .ref (r 3)]) ∧ (∀ i, i < 4 → Rat C H (r i) (T i) (B i)) ∧ (∀ i, i < 4 → Pb (T i) (B i)) ∧
  ∀ q H', Same H H' → Rat C H' q (sT T B ss) (sB T B ss) → Q (.ref q) H'
theorem ok_due {f : Addr} {fd : FuncData} (F : Fun K "_law_due" "_law_due" sDue f fd) (T : Txt K mg C CI fCI CZ fCZ) (Z : Tys K C) (N : Nms mg) (M : Mak P w K mg base C CI CZ) (AD : Adds P w K mg base C CI) :
    FnOk P w K mg base (L2.CX P w) 8 f fd ["_law_deeds", "_law_told"] (spDue C) := by
  obtain ⟨fI, fdI, ds, mk, GI, b3, d2, b2⟩ := M.ex
  obtain ⟨_, _, aa, af, ak, Ga, ba⟩ := AD.add.ex
  have rA := AD.radd
  have sc : FnScope ["_law_deeds", "_law_told", "_law_deed_here", "_law_words", "_law_found", "_law_k", "_law_word"] ["_law_deeds", "_law_told"] (defScope sDue) := ⟨rfl, rfl, rfl, by decide +kernel, rfl, by decide +kernel, by decide +kernel⟩
  refine F.okX sc (fun vs H Q E h => ?_) (fun cdv A outer s H vs Q E hr h => ?_)
  · obtain ⟨a, tl, qs, ss, r, T, B, rfl, _⟩ := h
    rfl
  · obtain ⟨a, tl, qs, ss, r, TT, BB, rfl, ha, len, n8, ded, htl, hr4, pbs, k⟩ := h
    refine ⟨_, 
(pss_cons (ps_setLc (i := 3) (own := [("_law_deed_here", 2)]) (g := gName 2) (tt := tYes)  rfl sc.nd rfl rfl rfl (pi_list (pv 0)) (blkOk_by (N := ["_law_deeds", "_law_told", "_law_deed_here", "_law_words", "_law_found", "_law_k", "_law_word"]) (sc := defScope sDue) (by decide +kernel)) (fun _ _ _ _ _ => pg_name (i := 2) sc.nd rfl (Or.inl rfl)) (fun _ _ _ _ _ => pts_nil)
          (fun _ _ _ _ _ => (pe_ix (show IxR _ (rIxT K) from ix_tup) (pv 2) pe_int (fun _ _ => rfl))))
      (pss_cons (ps_set (i := 4) sc.nd rfl (Or.inl rfl) (pe_make mk GI (hr.mono (by decide)) (by rfl) T.gC b2 d2 passL (pa_cons pe_int pa_nil)))
      (pss_cons (ps_for passOwn rfl (pi_range1 (by rfl) N.range (pa_cons pe_int pa_nil)) (pg_name (i := 5) sc.nd rfl (Or.inl rfl)) (pss_one (ps_for passOwn rfl (pi_list (pv 3)) (pg_name (i := 6) sc.nd rfl (Or.inl rfl)) (pss_one (ps_if (pt_cmpR op_eq (pv 6) (pe_ix ix_list (pe_lst (pa_cons pe_str (pa_cons pe_str (pa_cons pe_str (pa_cons pe_str pa_nil))))) (pv 5) (fun _ _ => rfl)) (nomark _)) (pss_one (ps_set (i := 4) sc.nd rfl (Or.inl rfl) (pe_op (op := .Add) (op_ins (C := C) (E := E0) (op := .Add) ⟨aa, rA, af, Z.sf⟩ Ga (hr.mono (by decide)) ba passL) (pv 4) (pe_ix ix_list (pv 1) (pv 5) (fun _ _ => rfl))))) pss_nil)))))
      (pss_one (ps_ret (pv 4)))))), ?_⟩
    have m4 : ∀ s ∈ ss, s < 4 := fun s m => by
      obtain ⟨n, hn, e⟩ := List.getElem_of_mem m
      have hqn : n < qs.length := by omega
      exact (ded n _ s (List.getElem?_eq_getElem hqn) (by rw [List.getElem?_eq_getElem hn, e])).1
    refine ⟨_, rfl, a, rfl, ⟨_, SqL.of ha⟩, fun D nD => ?_⟩
    refine lc_list (K := K) (a := a) (xs := qs.map V.ref) (fun j G => Same H G ∧ j ≤ qs.length ∧ G D = some (.lst ((ss.take j).map fun s => V.str (dw s)))) ⟨same_upd nD, Nat.zero_le _, upd_same⟩ (fun j G _ i => SqL.of (i.1 _ _ ha)) (fun j x G hx ⟨sG, jn, hD⟩ => ⟨rfl, yes_go ?_⟩) (fun G ⟨sG, jn, hD⟩ => ?_)
    · obtain ⟨q, hq, rfl⟩ : ∃ q, qs[j]? = some q ∧ x = .ref q := by
        rw [List.getElem?_map] at hx
        cases e : qs[j]? with
        | none => rw [e] at hx; cases hx
        | some q => rw [e] at hx; cases hx; exact ⟨q, rfl, rfl⟩
      have hj : j < qs.length := (List.getElem?_eq_some_iff.mp hq).1
      have hs : ss[j]? = some (ss[j]'(by omega)) := List.getElem?_eq_getElem (by omega)
      generalize ss[j]'(by omega) = sj at hs
      obtain ⟨s4, rest, hrest⟩ := (ded j q sj hq hs).same sG
      refine iteT ⟨_, rfl, q, _, _, _, rfl, rfl, SqT.of hrest, at_of (j := 0) rfl rfl, _, hD, ?_, same_put sG nD, hj, ?_⟩
      · rw [List.length_map, List.length_take]
        exact Nat.lt_of_le_of_lt (m := 8) (by omega) (by decide)
      · rw [upd_same, List.take_succ, hs, List.map_append]
        rfl
    have hD2 : G D = some (.lst (ss.map fun s => V.str (dw s))) := by
      rw [List.length_map, len, List.take_length] at hD
      exact hD
    intro q0 dq0 nq0 ndq0 neq0
    refine mkR_one (t := 0) nq0 ndq0 fun G2 s2 r2 => ⟨rfl, ?_⟩
    have sA := sG.trans s2
    have hW := s2 _ _ hD2
    have htl2 := sA _ _ htl
    have hrA : ∀ i, i < 4 → Rat C G2 (r i) (TT i) (BB i) := fun i hi => (hr4 i hi).same sA
    refine ⟨4, rfl, by omega, by omega, for_range (fun j σ G' => (∃ fnd v5 v6, σ = [some (.ref a), some (.ref tl), none, some (.ref D), some (.ref fnd), v5, v6] ∧ Rat C G' fnd (sT TT BB (cat ss j)) (sB TT BB (cat ss j))) ∧ Same G2 G') ⟨⟨q0, _, _, rfl, ?_⟩, fun _ _ e => e⟩ (fun j σ G' hj ⟨⟨fnd, v5, v6, e, rt⟩, sG'⟩ => ?_) (fun σ G' ⟨⟨fnd, v5, v6, e, rt⟩, sG'⟩ => ?_)⟩
    · show Rat C G2 q0 (sT TT BB []) (sB TT BB [])
      rw [s_nil.1, s_nil.2]
      exact r2
    · subst e
      refine ⟨_, rfl, D, rfl, ⟨_, SqL.of (sG' _ _ hW)⟩, for_list (K := K) (a := D) (xs := ss.map fun s => V.str (dw s)) (fun i σ G'' => (∃ fnd v6, σ = [some (.ref a), some (.ref tl), none, some (.ref D), some (.ref fnd), some (.int ((0 : Int) + (j : Int))), v6] ∧ Rat C G'' fnd (sT TT BB (cat ss j ++ flt j (ss.take i))) (sB TT BB (cat ss j ++ flt j (ss.take i)))) ∧ Same G2 G'') ?_ ?_ ?_ ?_⟩
      · refine ⟨⟨fnd, _, rfl, ?_⟩, sG'⟩
        have e0 : cat ss j ++ flt j (ss.take 0) = cat ss j := by
          show cat ss j ++ [] = _
          rw [List.append_nil]
        rw [e0]
        exact rt
      · rintro i σ G'' _ ⟨_, sG''⟩
        exact SqL.of (sG'' _ _ hW)
      · rintro i x σ G'' hx ⟨⟨fnd, v6, rfl, rt⟩, sG''⟩
        obtain ⟨sj, hs, rfl⟩ : ∃ s, ss[i]? = some s ∧ x = .str (dw s) := by
          rw [List.getElem?_map] at hx
          cases e : ss[i]? with
          | none => rw [e] at hx; cases hx
          | some s => rw [e] at hx; cases hx; exact ⟨s, rfl, rfl⟩
        have s4 : sj < 4 := m4 sj (List.mem_of_getElem? hs)
        have hi : i < ss.length := (List.getElem?_eq_some_iff.mp hs).1
        have tk : ss.take (i + 1) = ss.take i ++ [sj] := by rw [List.take_succ, hs]; rfl
        refine ⟨_, rfl, (by show 4 ≤ sizeLine; decide), fun z nz => ?_⟩
        have sz := same_upd (o := .lst [.str "put", .str "take", .str "value", .str "move"]) nz
        have hz : (upd G'' z (.lst [.str "put", .str "take", .str "value", .str "move"])) z = some (.lst [.str "put", .str "take", .str "value", .str "move"]) := upd_same
        generalize upd G'' z (.lst [.str "put", .str "take", .str "value", .str "move"]) = G3 at sz hz ⊢
        have s3 := sG''.trans sz
        have rt3 := rt.same sz
        refine ⟨_, rfl, z, _, _, _, rfl, rfl, SqL.of hz, at_w hj, rfl, _, rfl, ?_⟩
        rw [dw_eq ⟨sj, s4⟩ ⟨j, hj⟩]
        by_cases h : sj = j
        · subst h
          refine if_pos' (decide_eq_true rfl) ?_
          obtain ⟨dxt, ht⟩ := id rt3
          obtain ⟨dxs, hsx⟩ := (hrA sj s4).same s3
          have mem4 : ∀ i' ∈ cat ss sj ++ flt sj (ss.take i), i' < 4 := fun i' m => by
            rcases List.mem_append.mp m with m | m
            · exact m4 _ (cat_mem m)
            · exact m4 _ (List.mem_of_mem_take (List.mem_filter.mp m).1)
          have e1 : flt sj (ss.take (i + 1)) = flt sj (ss.take i) ++ [sj] := by
            rw [tk]
            unfold flt
            rw [List.filter_append]
            simp
          have l8 : (cat ss sj ++ flt sj (ss.take i)).length ≤ 8 := by
            have c1 := cat_len ss (sj + 1) (by omega) m4
            have c2 : (cat ss (sj + 1)).length = (cat ss sj ++ flt sj ss).length := rfl
            have c3 : (flt sj (ss.take i)).length ≤ (flt sj ss).length := ((List.take_sublist i ss).filter _).length_le
            rw [List.length_append] at c2 ⊢
            omega
          refine ⟨_, rfl, _, rfl, _, rfl, tl, _, _, _, rfl, rfl, SqL.of (s3 _ _ htl2), at_r hj, fnd, dxt, _, rfl, ht, ⟨r sj, dxs, _, rfl, hsx⟩, fnd, .ref (r sj), _, _, rfl, ⟨dxt, ht⟩, .inl ⟨TT sj, BB sj, .inl ⟨r sj, rfl, ⟨dxs, hsx⟩⟩, s_small l8 pbs mem4 s4, fun r' H' sH r3 => ?_⟩⟩
          have ss4 := s_snoc (T := TT) (B := BB) (L := cat ss sj ++ flt sj (ss.take i)) (i := sj) (fun i m => (pbs i (mem4 i m)).bd) (pbs sj s4).nm.b0 (pbs sj s4).nm.nt (pbs sj s4).nm.nb
          rw [ss4.1, ss4.2, List.append_assoc, ← e1] at r3
          exact ⟨⟨r', _, rfl, r3⟩, s3.trans sH⟩
        · refine if_neg' (decide_eq_false h) ?_
          have e1 : flt j (ss.take (i + 1)) = flt j (ss.take i) := by
            rw [tk]
            unfold flt
            rw [List.filter_append]
            simp [h]
          refine ⟨⟨fnd, _, rfl, ?_⟩, s3⟩
          rw [e1]
          exact rt3
      · rintro σ G'' ⟨⟨fnd, v6, rfl, rt⟩, sG''⟩
        rw [List.length_map, List.take_length] at rt
        exact ⟨⟨fnd, _, _, rfl, rt⟩, sG''⟩
    · subst e
      replace rt : Rat C G' fnd (sT TT BB (cat ss 4)) (sB TT BB (cat ss 4)) := rt
      have pm := s_perm (T := TT) (B := BB) (cat4 ss m4)
      rw [pm.1, pm.2] at rt
      exact ⟨_, rfl, k fnd G' (sA.trans sG') rt⟩
end
end R1
end

-- FnGd
section
set_option Elab.async false
set_option linter.all false
set_option maxRecDepth 100000
/-! what a def promises where no repr is under way (the law itself, and what it calls): so that a repr of lists and tuples may be asked. -/
namespace FnGd
open PySem L2 OwnOps PyProof.Rows
structure FnG (P : Program) (w : World) (K : PySem.W.Frag) (mg : Str → Option Value) (base : Heap) (CX : CXT) (k : Nat) (f : Addr) (fd : FuncData) (ps : List Str) (sp : Sp) : Prop where
  len : ∀ vs H Q E, sp vs H Q E → vs.length = ps.length
  run : ∀ (A : Around) (outer : List Env) (s : Shared) (H : Hp) (args : Args) (us : List Value) (vs : List V) (Q : VK) (E : XK), Room k A → A.guards = some [] → Env0 P w K mg base A outer s H → BindsTo s fd args (ps.zip us) → Vals vs us → sp vs H Q E →
    codeAny (model P w) A (.call (.ref f) args) (CR CX outer P w H s Q E) s
section
variable {P : Program} {w : World} {K : PySem.W.Frag} {mg : Str → Option Value} {base : Heap} {CX : CXT}
theorem okG {x qual : Str} {st : Stmt} {f : Addr} {fd : FuncData} {N ps : List Str} {k : Nat} {sp : Sp} (F : Fun K x qual st f fd) (S : FnScope N ps (defScope st)) (len : ∀ vs H Q E, sp vs H Q E → vs.length = ps.length)
    (hbody : ∀ (cdv : Value) (A : Around) (outer : List Env) (s : Shared) (H : Hp) (vs : List V) (Q : VK) (E : XK), Room k (A.deeper (envOfC qual (defScope st) s.heap.objs.size f cdv)) → A.guards = some [] → sp vs H Q E →
      ∃ t, PSs (cxOf CX P w K mg base N qual (defScope st) f cdv A outer s H E) (defBody st) t ∧ t { nx := fun _ H' => Q .non H', rt := Q } (start N vs) H) : FnG P w K mg base CX (k + 1) f fd ps sp := by
  obtain ⟨oc, od, kV, doc, pm, an, cdv, ct, osl, rfl, lk, hcd⟩ := F.ex
  refine ⟨len, fun A outer s H args us vs Q E room gd e0 bi rel told => ?_⟩
  have inn : K.In s.heap := e0.mod.kin.keeps fun b o e => (e0.bs b o e).1
  have free : s.heap.NoLimit := e0.mod.nolimit.keeps fun b o e => (e0.bs b o e).1
  refine codeAny_call_function room.depth (inn _ _ lk) rfl S.co S.gen rfl (PySem.W.codeRec_of inn hcd) (bi _ _ _ _ (wpAny_newFunctionEnv_cells S.kind (fun y hy => ?_) fun env he s1 x => ?_))
  · rcases S.par y.1 (List.of_mem_zip hy).1 with q | q
    · exact .inl q
    · exact .inr ⟨q, PySem.W.cellsFrom_some _ _ _ (.inl q)⟩
  subst he
  obtain ⟨t, ht, goal⟩ := hbody cdv A outer s H vs Q E (room.deeper _) gd told
  have I := inv_start (CX := CX) (E := E) (A := A) S room.hd e0 (len _ _ _ _ told) rel x
  refine ⟨free.keeps x.toInCall.keep, codeAny_func (wpAny_mono (ht.run [] s1 (start N vs) H _ I goal) (fun fl s' got => ?_) fun e s' got => got)⟩
  match fl, got with
  | .ret u, ⟨v, σ', H', J, rv, q⟩ => exact ⟨v, H', J.os, J.bare, J.base, J.hok, rv, q⟩
  | .next, ⟨σ', H', J, q⟩ => exact ⟨V.non, H', J.os, J.bare, J.base, J.hok, rfl, q⟩
  | .brk, ⟨_, _, _, q⟩ => exact q.elim
  | .cont, ⟨_, _, _, q⟩ => exact q.elim
theorem FnG.of {f : Addr} {fd : FuncData} {ps : List Str} {k : Nat} {sp : Sp} (F : FnOk P w K mg base CX k f fd ps sp) : FnG P w K mg base CX k f fd ps sp := ⟨F.len, fun A outer s H args us vs Q E r _ => F.run A outer s H args us vs Q E r⟩
end
theorem law_callG {P : Program} {w : World} {K : PySem.W.Frag} {mg mb : Str → Option Value} {CX : CXT} {k : Nat} {fa a : Addr} {fd : FuncData} {x : Str} {sp : Sp} {s₁ : Shared} {vs : List Value} {ns : List Int} (KX : K.In s₁.heap) (hns : s₁.heap.Ns mainGlobals mg) (hb : s₁.heap.Ns builtinsNs mb) (hbb : ∀ x : Str, x ≠ Str.ofString "__name__" → mb x = bootBuiltins x)
    (hlim : s₁.heap.NoLimit) (hg : s₁.gens = #[]) (ha : s₁.heap.get? a = some { cls := .type "list", data := .seq vs.toArray }) (hi : IntsAre vs ns) (hl : ns.length ≤ sizeLine) (hr : Room k callerA) (F : ∀ base : Heap, K.In base → base.Ns mainGlobals mg → FnG P w K mg base CX k fa fd [x] sp)
    (hbind : ∀ (s : Shared) (u : Value), BindsTo s fd { pos := [u] } [(x, u)]) (hsp : ∀ H : Hp, Only H → SqL K H a (ns.map V.int) → sp [.ref a] H (fun v _ => v = .bl true) fun _ _ _ => False) (hCX : ∀ (H : Hp) (e : Value) (s' : Shared), CX [] H s₁ (fun _ _ _ => False) e s' → False) :
    codeAny (model P w) callerA (.call (.ref fa) { pos := [.ref a] }) (fun r s' => r = .ok (.ret (.bool true)) ∧ OldK s₁.heap s'.heap ∧ s'.os = s₁.os ∧ AllBare s'.gens) s₁ := by
  have rv := vals_ints hi
  have lenV := hi.length
  have core : ∀ H : Hp, Only H → SqL K H a (ns.map V.int) → HOk P w H s₁.heap → (∀ b, H b ≠ none → b = a) → (H a ≠ none → K.lookup a = none) →
      codeAny (model P w) callerA (.call (.ref fa) { pos := [.ref a] }) (fun r s' => r = .ok (.ret (.bool true)) ∧ OldK s₁.heap s'.heap ∧ s'.os = s₁.os ∧ AllBare s'.gens) s₁ := by
    intro H hO hS hok hA hK
    have out : ∀ b, b ≠ a → H b = none := fun b n => by
      cases q : H b with
      | none => rfl
      | some u => exact absurd (hA b (by rw [q]; exact Option.some_ne_none _)) n
    have noA : ∀ {b o es ep}, s₁.heap.get? b = some o → o.data = .dict es ep → H b = none := fun {b o es ep} e d => out b fun z => by
      subst z
      rw [ha] at e
      cases e
      cases d
    have nsK : ∀ {b m}, s₁.heap.Ns b m → (hidT s₁.heap H).Ns b m := fun ⟨o, es, ep, e, d, r⟩ => ⟨o, es, ep, hidT_get e (noA e d), d, r⟩
    have hKb : K.In (hidT s₁.heap H) := fun b o e => by
      refine hidT_get (KX b o e) ?_
      by_cases z : b = a
      · subst z
        cases q : H b with
        | none => rfl
        | some u =>
          have := hK (by rw [q]; exact Option.some_ne_none _)
          rw [e] at this
          cases this
      · exact out b z
    have hM : L2.Mod K mg (hidT s₁.heap H) := ⟨hKb, nsK hns, ⟨mb, nsK hb, hbb⟩, let ⟨mc, h1, h2⟩ := hlim; ⟨mc, nsK h1, h2⟩⟩
    have e0 : Env0 P w K mg (hidT s₁.heap H) callerA [] s₁ H := ⟨rfl, hM, fun b o e => of_hidT e, Nat.le_of_eq (hidT_size _ _), trivial, fun b hb => (nomatch hb), hok, AllBare.of_eq hg⟩
    refine codeAny_mono ((F (hidT s₁.heap H) hKb (nsK hns)).run callerA [] s₁ H { pos := [.ref a] } [.ref a] [.ref a] (fun v _ => v = .bl true) (fun _ _ _ => False) hr rfl e0 (hbind s₁ _) (.cons rfl .nil) (hsp H hO hS)) fun r s' h => ?_
    match r, h with
    | .error e, h => exact (hCX H e s' h).elim
    | .ok .next, h => exact h.elim
    | .ok .brk, h => exact h.elim
    | .ok .cont, h => exact h.elim
    | .ok (.ret u), ⟨v, H', os, bare, un, hok', r', q⟩ =>
      subst q
      rw [show u = .bool true from r']
      refine ⟨rfl, OldK.of_keep fun b o e => ?_, os, bare⟩
      rcases hO b with z | ⟨ob, xs, z⟩
      · exact un.keep b o e z (fun z => nomatch z) (fun z => nomatch z)
      · have h1 := (hok b _ z).1
        have h2 := (hok' b _ (un.frzs b ob _ z)).1
        rw [e] at h1
        cases h1
        exact h2
  cases hk : K.lookup a with
  | none =>
    refine core (fun b => if b = a then some (.frz { cls := .type "list", data := .seq vs.toArray } (.lst (ns.map V.int))) else none) (fun b => ?_) (.inl (.inr ⟨_, if_pos rfl⟩)) (fun b u z => ?_) (fun b z => ?_) fun _ => hk
    · by_cases h : b = a
      · exact .inr ⟨_, _, if_pos h⟩
      · exact .inl (if_neg h)
    · by_cases h : b = a
      · have z' := (if_pos h).symm.trans z
        cases z'
        subst h
        exact ⟨ha, by rw [List.length_map]; exact hl, vs, 0, rv, ha⟩
      · have z' := (if_neg h).symm.trans z
        cases z'
    · by_cases h : b = a
      · exact h
      · exact absurd (if_neg h) z
  | some o =>
    have e := KX a o hk
    rw [ha] at e
    cases e
    exact core (fun _ => none) (fun _ => .inl rfl) (.inr ⟨_, vs.toArray, 0, hk, rfl, rfl, rfl, by rw [List.size_toArray, lenV]; exact hl, rv⟩) (fun b u z => nomatch z) (fun b z => absurd rfl z) fun z => absurd rfl z
theorem walk_ofG {l : PySem.W.OpenLaw} {n k : Nat} {q : Program} {loose : List Str} {XP : (Str → Option Value) → Heap → Prop} {YP : World → Heap → Prop} {d : DefRec} {K : Params → PySem.W.Frag} {CX : World → CXT} {sp : World → Sp} {x : Str} (hn : l.most = some n) (hn2 : n ≤ sizeLine) (hdf : d.params.defaults = []) (hr : Room k callerA)
    (hY : ∀ (w : World) (h : Heap), YP w h → (K w.params).In h)
    (F : ∀ (w : World) (mg : Str → Option Value) (fa : Addr) (h : Heap), (K w.params).In h → h.Ns mainGlobals mg → mg d.name = some (.ref fa) → ∃ fd, (∀ (s : Shared) (u : Value), BindsTo s fd { pos := [u] } [(x, u)]) ∧ ∀ base : Heap, (K w.params).In base → base.Ns mainGlobals mg → FnG l.prog w (K w.params) mg base (CX w) k fa fd [x] (sp w))
    (hsp : ∀ (w : World) (H : Hp) (a : Addr) (ns : List Int), ns.length ≤ n → Only H → SqL (K w.params) H a (ns.map V.int) → sp w [.ref a] H (fun v _ => v = .bl true) fun _ _ _ => False)
    (hCX : ∀ (w : World) (H : Hp) (s : Shared) (e : Value) (s' : Shared), CX w [] H s (fun _ _ _ => False) e s' → False) :
    PySem.W.WalkO q loose XP YP l.row.toRowW d [] (fun f vs => PySem.call f vs) :=
  Att.attach_call hn hdf fun w s₀ s₁ mg mb fa o pm cd doc a vs ns G Y ho hd hcd hmg hobj hints hlen hg => by
    have KX := hY w s₁.heap Y
    obtain ⟨fd, hb, hF⟩ := F w mg fa s₁.heap KX G.T.g hmg
    exact law_callG KX G.T.g G.T.b G.T.builtins G.T.nolimit hg hobj hints (Nat.le_trans hlen hn2) hr hF hb (fun H hO hS => hsp w H a ns hlen hO hS) fun H e s' => hCX w H s₁ e s'
end FnGd
end

-- U7l
section
set_option Elab.async false
set_option linter.all false
set_option maxRecDepth 100000
set_option exponentiation.threshold 10000
namespace R1
open PySem L2 OwnOps RatM OwnNe G1 ReprJ FnGd
abbrev sLaw : Stmt := top 23
abbrev NL : List Str := ["_law_script", "_law_pool_here", "_law_prices_here", "_law_deeds", "_law_handed", "_law_kept", "_law_told", "_law_found", "_law_plain", "_law_at", "_law_k"]
/-- cost, with its default -/
structure Cst (P : Program) (w : World) (K : PySem.W.Frag) (mg : Str → Option Value) (base : Heap) (C D : Addr) : Prop where
  ex : ∃ (f : Addr) (fd : FuncData) (ds : List Value), mg "cost" = some (.ref f) ∧ PySem.W.keepIn K (.ref f) = true ∧ FnOk P w K mg base (L2.CX P w) 10 f fd ["deeds", "prices"] (spCost C D) ∧ L2.Binds K fd ["deeds", "prices"] [] ∧ Vals [.non] ds ∧ L2.Binds K fd ["deeds", "prices"] ds
theorem keepX {H G G' : Hp} {l : Addr} (s : Same H G) (n : H l = none) (x : SameX l G G') : Same H G' := fun b o e => x b o (ne_of_none e n) (s b o e)
theorem sx_put {l D : Addr} {H G : Hp} {o : HO} (s : SameX l H G) (h : H D = none) : SameX l H (upd G D o) := fun b u n e => by
  rw [upd_ne (ne_of_none e h)]
  exact s b u n e
theorem snoc_get {α : Type} {xs : List α} {x y : α} {i : Nat} (h : (xs ++ [x])[i]? = some y) : (xs[i]? = some y ∧ i < xs.length) ∨ (i = xs.length ∧ y = x) := by
  rcases Nat.lt_trichotomy i xs.length with l | l | l
  · rw [List.getElem?_append_left l] at h
    exact .inl ⟨h, l⟩
  · subst l
    simp at h
    exact .inr ⟨rfl, h.symm⟩
  · rw [List.getElem?_eq_none_iff.mpr (by rw [List.length_append]; show xs.length + 1 ≤ i; omega)] at h
    cases h
theorem Ded.put {H : Hp} {q D : Addr} {s : Nat} {xs : List V} {o : HO} (h : Ded H q s) (hD : H D = some (.lst xs)) : Ded (upd H D o) q s := by
  obtain ⟨h1, rest, h2⟩ := h
  refine ⟨h1, rest, ?_⟩
  rw [upd_ne (fun z => by rw [z, hD] at h2; cases h2)]
  exact h2
theorem DedR.put {P : Program} {w : World} {K : PySem.W.Frag} {mg : Str → Option Value} {base : Heap} {l D q : Addr} {H : Hp} {as : List Addr} {t : Str} {o : HO} (h : DedR P w K mg base l D H q as t) : DedR P w K mg base l D (upd H D o) q as t :=
  ⟨fun x hx => by
    by_cases e : x = D
    · rw [e, upd_same]; exact Option.some_ne_none _
    · rw [upd_ne e]; exact h.1 x hx, h.2.1, h.2.2.at del_upd⟩
theorem piled_le : ∀ (ts : List Str), (∀ t ∈ ts, t.length ≤ 5000) → piled ts ≤ 5002 * ts.length
  | [], _ => Nat.le_refl 0
  | t :: ts, h => by
    have h1 := piled_le ts fun x m => h x (List.mem_cons_of_mem _ m)
    have h2 := h t List.mem_cons_self
    have e : piled (t :: ts) = (t.length + 2) + piled ts := rfl
    rw [e, List.length_cons]
    omega
theorem ix4 : ∀ j : Nat, j < 4 → ixN 4 ((j : Nat) : Int) = some j := fun j h => by
  rcases (show j = 0 ∨ j = 1 ∨ j = 2 ∨ j = 3 by omega) with rfl | rfl | rfl | rfl <;> rfl
theorem set4 {r : Nat → Addr} {q : Addr} : ∀ j : Nat, j < 4 → ([V.ref (r 0), .ref (r 1), .ref (r 2), .ref (r 3)] : List V).set j (.ref q) = [.ref (put j q r 0), .ref (put j q r 1), .ref (put j q r 2), .ref (put j q r 3)] := fun j h => by
  rcases (show j = 0 ∨ j = 1 ∨ j = 2 ∨ j = 3 by omega) with rfl | rfl | rfl | rfl <;> rfl
theorem at4 {r : Nat → Addr} {j : Nat} (h : j < 4) : atI [V.ref (r 0), V.ref (r 1), V.ref (r 2), V.ref (r 3)] ((j : Nat) : Int) = some (.ref (r j)) := by
  rcases (show j = 0 ∨ j = 1 ∨ j = 2 ∨ j = 3 by omega) with rfl | rfl | rfl | rfl <;> rfl
theorem atw4 {j : Nat} (h : j < 4) : atI [V.str "lost", V.str "surplus", V.str "value", V.str "junction"] ((j : Nat) : Int) = some (.str (wd j)) := by
  rcases (show j = 0 ∨ j = 1 ∨ j = 2 ∨ j = 3 by omega) with rfl | rfl | rfl | rfl <;> rfl
theorem Ded.sxp {H H' : Hp} {q p D dx : Addr} {s : Nat} {fs : List (Str × V)} (h : Ded H q s) (e : H p = some (.ins D dx fs)) (sx : SameX p H H') : Ded H' q s := by
  obtain ⟨h1, rest, h2⟩ := h
  exact ⟨h1, rest, sx _ _ (fun z => by rw [z, e] at h2; cases h2) h2⟩
theorem rev_at {α : Type} {xs : List α} {j : Nat} {x : α} (h : xs.reverse[j]? = some x) : j < xs.length ∧ xs[xs.length - 1 - j]? = some x := by
  have l : j < xs.length := by
    have := (List.getElem?_eq_some_iff.mp h).1
    rw [List.length_reverse] at this
    exact this
  rw [List.getElem?_reverse l] at h
  exact ⟨l, h⟩
theorem Ded.sxt {H H' : Hp} {q p : Addr} {s : Nat} {xs : List V} (h : Ded H q s) (e : H p = some (.lst xs)) (sx : SameX p H H') : Ded H' q s := by
  obtain ⟨h1, rest, h2⟩ := h
  exact ⟨h1, rest, sx _ _ (fun z => by rw [z, e] at h2; cases h2) h2⟩
def spLaw (K : PySem.W.Frag) : Sp := fun vs H Q _ => ∃ (a : Addr) (ns : List Int), vs = [.ref a] ∧ SqL K H a (ns.map V.int) ∧ ns.length ≤ 63 ∧ ∀ H', Same H H' → Q (.bl true) H'
section
variable {P : Program} {w : World} {K : PySem.W.Frag} {mg : Str → Option Value} {base : Heap} {C CI fCI CZ fCZ D CP fCP : Addr}
set_option maxHeartbeats 8000000 in
theorem ok_law {f : Addr} {fd : FuncData} (F : Fun K "law" "law" sLaw f fd) (T : Txt K mg C CI fCI CZ fCZ) (Z : Tys K C) (N : Nms mg) (U : PTxt K mg D CP fCP) (M : Mak P w K mg base C CI CZ) (PP : Props P w K mg base D) (CS : Cst P w K mg base C D)
    (GN : Glb P w K mg base "_law_next" 1 ["_law_pool_here", "_law_size"] spNext) (GPo : Glb P w K mg base "_law_pool" 1 ["_law_script"] (spPool K)) (GPr : Glb P w K mg base "_law_prices" 10 ["_law_pool_here"] (spPrices C D))
    (GDe : Glb P w K mg base "_law_deed" 6 ["_law_pool_here"] (spDeed P w K mg base)) (GDu : Glb P w K mg base "_law_due" 8 ["_law_deeds", "_law_told"] (spDue C)) (DC : Dun P w K mg base D "change" 8 ["self", "name", "price"] (spChange C D CP))
    (EQ : Dun P w K mg base C (cmpInfo .Eq).2.1 2 ["self", "other"] (spEq C false)) (NE : Dun P w K mg base C (cmpInfo .NotEq).2.1 3 ["self", "other"] (spEq C true)) :
    FnG P w K mg base (L2.CX P w) 12 f fd ["_law_script"] (spLaw K) := by
  obtain ⟨fI, fdI, ds, mk, GI, b3, d2, b2⟩ := M.ex
  obtain ⟨_, _, _, mC, kC, GC, bC, dC, bC2⟩ := CS.ex
  obtain ⟨_, _, mN, kN, GN, bN⟩ := GN.ex
  obtain ⟨_, _, mPo, kPo, GPo, bPo⟩ := GPo.ex
  obtain ⟨_, _, mPr, kPr, GPr, bPr⟩ := GPr.ex
  obtain ⟨_, _, mDe, kDe, GDe, bDe⟩ := GDe.ex
  obtain ⟨_, _, mDu, kDu, GDu, bDu⟩ := GDu.ex
  obtain ⟨_, _, ca, cf, ck, Gc, bc⟩ := DC.ex
  obtain ⟨_, _, eqa, eqf, _, eqG, eqb⟩ := EQ.ex
  obtain ⟨_, _, nea, nef, _, neG, neb⟩ := NE.ex
  obtain ⟨_, _, _, h1, G1, c1⟩ := PP.g1.ex
  obtain ⟨_, _, _, h2, G2, c2⟩ := PP.g2.ex
  obtain ⟨_, _, _, h3, G3, c3⟩ := PP.g3.ex
  obtain ⟨_, _, _, h4, G4, c4⟩ := PP.g4.ex
  have sc : FnScope NL ["_law_script"] (defScope sLaw) := ⟨rfl, rfl, rfl, by decide +kernel, rfl, by decide +kernel, by decide +kernel⟩
  refine okG F sc (fun vs H Q E h => ?_) (fun cdv A outer s H vs Q E hr gd h => ?_)
  · obtain ⟨a, ns, rfl, _⟩ := h
    rfl
  · obtain ⟨a, ns, rfl, hS, n63, k⟩ := h
    have gd1 : (A.deeper (PyProof.Rows.envOfC "law" (defScope sLaw) s.heap.objs.size f cdv)).guards = some [] := gd
    have gd2 : (A.deeper (PyProof.Rows.envOfC "law" (defScope sLaw) s.heap.objs.size f cdv)).units + (220 + 3) < cLine := by have := hr.un; omega
    have gd3 : (A.deeper (PyProof.Rows.envOfC "law" (defScope sLaw) s.heap.objs.size f cdv)).depth + (12 + 2) < recursionLimit := by have := hr.dp; omega
    refine ⟨_, 
(pss_cons (ps_set (i := 1) sc.nd rfl (Or.inr rfl) (pe_call GPo (hr.mono (by decide)) (by rfl) mPo kPo bPo .nil passL (pa_cons (pv 0) pa_nil)))
      (pss_cons (ps_set (i := 2) sc.nd rfl (Or.inl rfl) (pe_call GPr (hr.mono (by decide)) (by rfl) mPr kPr bPr .nil passL (pa_cons (pv 1) pa_nil)))
      (pss_cons (ps_setLc (i := 3) (own := [("_law_k", 10)]) (g := gName 10) (tt := tYes)  rfl sc.nd rfl rfl rfl (pi_range1 (by rfl) N.range (pa_cons (pe_call GN (hr.mono (by decide)) (by rfl) mN kN bN .nil passL (pa_cons (pv 1) (pa_cons pe_int pa_nil))) pa_nil)) (blkOk_by (N := NL) (sc := defScope sLaw) (by decide +kernel)) (fun _ _ _ _ _ => pg_name (i := 10) sc.nd rfl (Or.inl rfl)) (fun _ _ _ _ _ => pts_nil)
          (fun _ _ _ _ _ => (pe_call GDe (hr.mono (by decide)) (by rfl) mDe kDe bDe .nil passL (pa_cons (pv 1) pa_nil))))
      (pss_cons (ps_set (i := 4) sc.nd rfl (Or.inl rfl) (pe_ifExp (pt_cmpR op_eq (pe_call GN (hr.mono (by decide)) (by rfl) mN kN bN .nil passL (pa_cons (pv 1) (pa_cons pe_int pa_nil))) pe_int (nomark _)) (pe_callTy call_list_of (by rfl) N.list (by decide +kernel) (pa_cons (pv 3) pa_nil)) (pe_callTy call_tuple_of (by rfl) N.tuple (by decide +kernel) (pa_cons (pv 3) pa_nil))))
      (pss_cons (ps_set (i := 5) sc.nd rfl (Or.inl rfl) (pe_callB (show CallR _ (.builtin "repr") (rRepr _ 220 12) from call_reprJ gd1 gd2 gd3) (by rfl) N.repr (by decide +kernel) (pa_cons (pv 4) pa_nil)))
      (pss_cons (ps_set (i := 6) sc.nd rfl (Or.inl rfl) (pe_lst (pa_cons (pe_prop (E := E0) (pv 2) U.cl h1 G1 (hr.mono (by decide)) c1 .nil passL rfl) (pa_cons (pe_prop (E := E0) (pv 2) U.cl h2 G2 (hr.mono (by decide)) c2 .nil passL rfl) (pa_cons (pe_prop (E := E0) (pv 2) U.cl h3 G3 (hr.mono (by decide)) c3 .nil passL rfl) (pa_cons (pe_prop (E := E0) (pv 2) U.cl h4 G4 (hr.mono (by decide)) c4 .nil passL rfl) pa_nil))))))
      (pss_cons (ps_set (i := 7) sc.nd rfl (Or.inl rfl) (pe_call GC (hr.mono (by decide)) (by rfl) mC kC bC .nil passL (pa_cons (pv 4) (pa_cons (pv 2) pa_nil))))
      (pss_cons (ps_if (PW.pt (pw_or (pt_not (pt_val (pe_callB call_isi (by rfl) T.isi (by decide +kernel) (pa_cons (pv 7) (pa_cons (pe_glob (v := .ref C) (by rfl) T.gC rfl) pa_nil))))) (pw_or (pt_cmpR (op := .NotEq) (cmp_own (op := .NotEq) (C := C) (E := E0) (R := RAny C) (fun _ _ => rfl) nea nef neG (hr.mono (by decide)) neb passL (looks_any Z)) (pv 7) (pe_call GDu (hr.mono (by decide)) (by rfl) mDu kDu bDu .nil passL (pa_cons (pv 3) (pa_cons (pv 6) pa_nil))) (nomark _)) (pw_or1 (pt_cmpR op_ne (pe_callB (show CallR _ (.builtin "repr") (rRepr _ 220 12) from call_reprJ gd1 gd2 gd3) (by rfl) N.repr (by decide +kernel) (pa_cons (pv 4) pa_nil)) (pv 5) (nomark _)))))) (pss_one (ps_ret pe_bl)) pss_nil)
      (pss_cons (ps_if (pt_cmpR (op := .NotEq) (cmp_own (op := .NotEq) (C := C) (E := E0) (R := RAny C) (fun _ _ => rfl) nea nef neG (hr.mono (by decide)) neb passL (looks_any Z)) (pe_call GC (hr.mono (by decide)) (by rfl) mC kC bC .nil passL (pa_cons (pe_revL (pv 3)) (pa_cons (pv 2) pa_nil))) (pv 7) (nomark _)) (pss_one (ps_ret pe_bl)) pss_nil)
      (pss_cons (ps_set (i := 8) sc.nd rfl (Or.inl rfl) (pe_call GC (hr.mono (by decide)) (by rfl) mC kC bC2 dC passL (pa_cons (pv 4) pa_nil)))
      (pss_cons (ps_if (PW.pt (pw_or (pt_not (pt_val (pe_callB call_isi (by rfl) T.isi (by decide +kernel) (pa_cons (pv 8) (pa_cons (pe_glob (v := .ref C) (by rfl) T.gC rfl) pa_nil))))) (pw_or (pt_cmpR op_ne (pe_fld (pv 8) rfl) (pe_callB call_len_seq (by rfl) N.len PySem.boot_len (pa_cons (pv 3) pa_nil)) (nomark _)) (pw_or1 (pt_cmpR op_ne (pe_fld (pv 8) rfl) pe_int (nomark _)))))) (pss_one (ps_ret pe_bl)) pss_nil)
      (pss_cons (ps_set (i := 9) sc.nd rfl (Or.inl rfl) (pe_call GN (hr.mono (by decide)) (by rfl) mN kN bN .nil passL (pa_cons (pv 1) (pa_cons pe_int pa_nil))))
      (pss_cons (ps_asg (pe_make mk GI (hr.mono (by decide)) (by rfl) T.gC b2 d2 passL (pa_cons (pe_op op_add pe_int (pe_call GN (hr.mono (by decide)) (by rfl) mN kN bN .nil passL (pa_cons (pv 1) (pa_cons (pe_op op_pow pe_int pe_int) pa_nil)))) pa_nil)) (pg_sub (pv 6) (pv 9) set_list))
      (pss_cons (ps_expr (pe_meth (E := E0) (pv 2) U.cl ⟨ca, cf, ck⟩ Gc (hr.mono (by decide)) bc .nil passL (pa_cons (pe_ix ix_list (pe_lst (pa_cons pe_str (pa_cons pe_str (pa_cons pe_str (pa_cons pe_str pa_nil))))) (pv 9) (fun _ _ => rfl)) (pa_cons (pe_ix ix_list (pv 6) (pv 9) (fun _ _ => rfl)) pa_nil))))
      (pss_one (ps_ret (pe_and (pe_cmpR (op := .Eq) (cmp_own (op := .Eq) (C := C) (E := E0) (R := RAny C) (fun _ _ => rfl) eqa eqf eqG (hr.mono (by decide)) eqb passL (looks_any Z)) (pe_call GC (hr.mono (by decide)) (by rfl) mC kC bC .nil passL (pa_cons (pv 4) (pa_cons (pv 2) pa_nil))) (pe_call GDu (hr.mono (by decide)) (by rfl) mDu kDu bDu .nil passL (pa_cons (pv 3) (pa_cons (pv 6) pa_nil))) (nomark _)) (pe_one (pe_cmpR (op := .Eq) (cmp_own (op := .Eq) (C := C) (E := E0) (R := RAny C) (fun _ _ => rfl) eqa eqf eqG (hr.mono (by decide)) eqb passL (looks_any Z)) (pe_call GC (hr.mono (by decide)) (by rfl) mC kC bC .nil passL (pa_cons (pv 4) (pa_cons pe_non pa_nil))) (pv 8) (nomark _)))))))))))))))))))), ?_⟩
    refine ⟨_, rfl, a, ns, rfl, hS, n63, fun l H1 s1 S1 nl => ?_⟩
    refine ⟨_, rfl, l, l, 0, rfl, S1, S1.l0, by decide, fun p TT BB H2 np sx2 S2 pr2 pb => ?_⟩
    have s2 := keepX s1 nl sx2
    have npH : H p = none := s1.free np
    refine ⟨_, rfl, l, l, 9, _, rfl, by decide, sm9 (by decide), S2, S2.l0, by decide, fun n H3 n0 n9 sx3 S3 => ?_⟩
    obtain ⟨M, rfl⟩ : ∃ M : Nat, n = M := ⟨n.toNat, by omega⟩
    have s3 := keepX s2 nl sx3
    have pr3 := pr2.sx S2 sx3
    refine ⟨M, rfl, by omega, by omega, fun W0 nD => ?_⟩
    have Dl : W0 ≠ l := fun z => S3.l0 (by rw [← z]; exact nD)
    refine lc_range (lo := 0) (n := M) (fun j G => SameX l H3 G ∧ St W0 G l (9 + 3 * j) ∧ ∃ (qs : List Addr) (ss : List Nat) (dd : List (List Addr × Str)), qs.length = j ∧ ss.length = j ∧ dd.length = j ∧ (∀ (i : Nat) (q : Addr) (s : Nat), qs[i]? = some q → ss[i]? = some s → Ded G q s) ∧ (∀ (i : Nat) (q : Addr) (x : List Addr × Str), qs[i]? = some q → dd[i]? = some x → DedR P w K mg base l W0 G q x.1 x.2) ∧ G W0 = some (.lst (qs.map V.ref)))
      ⟨sx_put (SameX.refl l H3) nD, (S3.avoid nD).at Dl, [], [], [], rfl, rfl, rfl, fun i q s h => by simp at h, fun i q x h => by simp at h, upd_same⟩ (fun j G hj ⟨sx, S, qs, ss, dd, lq, ls, ld, de, dr, hD⟩ => ⟨rfl, yes_go ?_⟩) (fun G ⟨sx, S, qs, ss, dd, lq, ls, ld, de, dr, hD⟩ => ?_)
    · refine iteT ⟨_, rfl, l, W0, _, rfl, S, by rw [hD]; exact Option.some_ne_none _, by omega, fun q sq asq t G' sx' S' de' dr' => ?_⟩
      have hD' := sx' _ _ Dl hD
      refine ⟨_, hD', by rw [List.length_map, lq]; exact Nat.lt_of_lt_of_le hj (Nat.le_trans (show M ≤ 9 by omega) (by decide)), sx_put (sx.trans sx') nD, (S'.more (by omega)).at Dl, qs ++ [q], ss ++ [sq], dd ++ [(asq, t)], by rw [List.length_append, lq]; rfl, by rw [List.length_append, ls]; rfl, by rw [List.length_append, ld]; rfl, ?_, ?_, by rw [upd_same, List.map_append]; rfl⟩
      · intro i q' s' h1 h2
        rcases snoc_get h1 with ⟨h1, g1⟩ | ⟨e1, rfl⟩ <;> rcases snoc_get h2 with ⟨h2, g2⟩ | ⟨e2, rfl⟩
        · exact ((de i q' s' h1 h2).sx S sx').put hD'
        · omega
        · omega
        · exact de'.put hD'
      · intro i q' x' h1 h2
        rcases snoc_get h1 with ⟨h1, g1⟩ | ⟨e1, rfl⟩ <;> rcases snoc_get h2 with ⟨h2, g2⟩ | ⟨e2, rfl⟩
        · exact ((dr i q' x' h1 h2).sx sx' S').put
        · omega
        · omega
        · exact dr'.put
    have sG := keepX s3 nl sx
    have prG := pr3.sx S3 sx
    have n8 : qs.length ≤ 8 := by omega
    have lqs : qs.length = ss.length := by omega
    refine ⟨_, rfl, l, W0, 2, _, rfl, by decide, sm9 (by decide), S, by rw [hD]; exact Option.some_ne_none _, by omega, fun b H5 _ _ sx5 S5 => ⟨rfl, _, rfl, ?_⟩⟩
    have s5 := keepX sG nl sx5
    have pr5 := prG.sx S sx5
    have hD5 := sx5 _ _ Dl hD
    have de5 := fun (i : Nat) (q : Addr) (s : Nat) (h1 : qs[i]? = some q) (h2 : ss[i]? = some s) => (de i q s h1 h2).sx S sx5
    have dr5 := fun (i : Nat) (q : Addr) (x : List Addr × Str) (h1 : qs[i]? = some q) (h2 : dd[i]? = some x) => (dr i q x h1 h2).sx sx5 S5
    apply cut3 (α := V) (β := Hp) (F := fun v G => ∃ (h : Addr) (bb : Bool), v = .ref h ∧ H5 h = none ∧ Same H5 G ∧ G h = some (if bb = true then .lst (qs.map V.ref) else .tup (qs.map V.ref)))
    case body =>
      intro nxt
      refine ite2 (fun _ => ?_) (fun _ => ?_)
      · refine ⟨_, rfl, W0, _, rfl, .inl (SqL.of hD5), fun hd nh => ?_⟩
        have e1 := same_upd (o := .lst (qs.map V.ref)) nh
        have e2 : (upd H5 hd (.lst (qs.map V.ref))) hd = some (.lst (qs.map V.ref)) := upd_same
        generalize hv : V.ref hd = v0
        generalize upd H5 hd (.lst (qs.map V.ref)) = G0 at e1 e2 ⊢
        exact nxt v0 G0 ⟨hd, true, hv.symm, nh, e1, e2⟩
      · refine ⟨_, rfl, W0, _, rfl, .inl ⟨SqL.of hD5, fun hd nh => ?_⟩⟩
        have e1 := same_upd (o := .tup (qs.map V.ref)) nh
        have e2 : (upd H5 hd (.tup (qs.map V.ref))) hd = some (.tup (qs.map V.ref)) := upd_same
        generalize hv : V.ref hd = v0
        generalize upd H5 hd (.tup (qs.map V.ref)) = G0 at e1 e2 ⊢
        exact nxt v0 G0 ⟨hd, false, hv.symm, nh, e1, e2⟩
    rintro v G6 ⟨hd, bb, rfl, nh, s6, hh⟩
    have n8' : ss.length ≤ 8 := by omega
    have get_q : ∀ {i : Nat} {x : V}, (qs.map V.ref)[i]? = some x → ∃ q, qs[i]? = some q ∧ x = .ref q := fun {i x} h => by
      rw [List.getElem?_map] at h
      cases e : qs[i]? with
      | none => rw [e] at h; cases h
      | some q => rw [e] at h; cases h; exact ⟨q, rfl, rfl⟩
    have get_t : ∀ {i : Nat} {t : Str}, (dd.map fun x => x.2)[i]? = some t → ∃ x, dd[i]? = some x ∧ t = x.2 := fun {i t} h => by
      rw [List.getElem?_map] at h
      cases e : dd[i]? with
      | none => rw [e] at h; cases h
      | some q => rw [e] at h; cases h; exact ⟨q, rfl, rfl⟩
    have mem_d : ∀ {x : List Addr × Str}, x ∈ dd → ∃ q, DedR P w K mg base l W0 H5 q x.1 x.2 := fun {x} m => by
      obtain ⟨i, hi, e⟩ := List.getElem_of_mem m
      have hq : i < qs.length := by omega
      exact ⟨qs[i], dr5 i _ x (List.getElem?_eq_getElem hq) (by rw [List.getElem?_eq_getElem hi, e])⟩
    have hna : hd ∉ (dd.map fun x => x.1).flatten := fun z => by
      obtain ⟨as', h1, h2⟩ := List.mem_flatten.mp z
      obtain ⟨x, m, rfl⟩ := List.mem_map.mp h1
      obtain ⟨q, dq⟩ := mem_d m
      exact dq.1 hd h2 nh
    have tl5 : ∀ t ∈ dd.map fun x => x.2, t.length ≤ 5000 := fun t m => by
      obtain ⟨x, m2, rfl⟩ := List.mem_map.mp m
      obtain ⟨q, dq⟩ := mem_d m2
      exact dq.2.1
    have plen := piled_le _ tl5
    rw [List.length_map] at plen
    have hsz : (if bb = true then listText (dd.map fun x => x.2) else tupleText (dd.map fun x => x.2)).length ≤ sizeLine := by
      have l1 := lt_len (dd.map fun x => x.2)
      have l2 := tt_len (dd.map fun x => x.2)
      rw [sizeLine_eq]
      split <;> omega
    have el : ∀ (X : Cx), X.prog = P → X.w = w → X.K = K → X.mg = mg → X.base = base → X.A.handled = none → ∀ G, Same G6 G → ∀ (pins : List (Addr × Obj)) (σ : L2.St) (i : Nat) (x : V) (t : Str), (qs.map V.ref)[i]? = some x → (dd.map fun x => x.2)[i]? = some t → RV X pins σ G (dd.map fun x => x.1).flatten 220 12 x t := fun X a1 a2 a3 a4 a5 a6 G sG pins σ i x t hx ht => by
      obtain ⟨q, hq, rfl⟩ := get_q hx
      obtain ⟨y, hy, rfl⟩ := get_t ht
      have r := (dr5 i q y hq hy).2.2 X pins σ a1 a2 a3 a4 a5 a6
      exact (r.more (fun b m => List.mem_flatten.mpr ⟨y.1, List.mem_map.mpr ⟨y, List.mem_of_getElem? hy, rfl⟩, m⟩) (Nat.le_refl _) (Nat.le_refl _)).at fun b o e => sG _ _ (s6 _ _ (del_sub _ _ e))
    have lts : (qs.map V.ref).length = (dd.map fun x => x.2).length := by rw [List.length_map, List.length_map]; omega
    refine ⟨_, rfl, hd, _, _, _, bb, rfl, hh, hna, lts, hsz, el _ rfl rfl rfl rfl rfl hr.hd G6 (Same.refl _), fun G7 s7 => ?_⟩
    replace s7 : Same G6 G7 := s7
    have pr7 := pr5.same (s6.trans s7)
    obtain ⟨dxp, rp, hp7, hr4⟩ := id pr7
    refine ⟨_, rfl, p, dxp, _, rfl, hp7, ⟨p, dxp, _, _, rfl, hp7, lk0, _, rfl, p, dxp, _, rfl, hp7, ⟨p, dxp, _, _, rfl, hp7, lk1, _, rfl, p, dxp, _, rfl, hp7, ⟨p, dxp, _, _, rfl, hp7, lk2, _, rfl, p, dxp, _, rfl, hp7, ⟨p, dxp, _, _, rfl, hp7, lk3, (by show 4 ≤ sizeLine; decide), fun tl ntl => ?_⟩⟩⟩⟩⟩
    have e8 := same_upd (o := .lst [.ref (rp 0), .ref (rp 1), .ref (rp 2), .ref (rp 3)]) ntl
    have htl8 : (upd G7 tl (.lst [.ref (rp 0), .ref (rp 1), .ref (rp 2), .ref (rp 3)])) tl = some (.lst [.ref (rp 0), .ref (rp 1), .ref (rp 2), .ref (rp 3)]) := upd_same
    have ntlH : H tl = none := (s5.trans (s6.trans s7)).free ntl
    generalize upd G7 tl (.lst [.ref (rp 0), .ref (rp 1), .ref (rp 2), .ref (rp 3)]) = G8 at e8 htl8 ⊢
    have s68 := s7.trans e8
    have s58 := s6.trans s68
    have pr8 := pr7.same e8
    have hh8 : G8 hd = some (if bb = true then .lst (qs.map V.ref) else .tup (qs.map V.ref)) := s68 _ _ hh
    have de8 := fun (i : Nat) (q : Addr) (s : Nat) (h1 : qs[i]? = some q) (h2 : ss[i]? = some s) => (de5 i q s h1 h2).same s58
    have rt8 : ∀ i, i < 4 → Rat C G8 (rp i) (TT i) (BB i) := fun i hi => (hr4 i hi).same e8
    have hD8 := s58 _ _ hD5
    refine ⟨_, rfl, _, rfl, hd, .ref p, qs, ss, bb, TT, BB, rfl, hh8, lqs, n8', de8, .inr ⟨p, rfl, pr8⟩, pb, fun f9 G9 s9 r9 => ?_⟩
    obtain ⟨dxf, hf9⟩ := id r9
    refine ⟨_, rfl, _, _, _, _, _, rfl, .own C, .base (.ins hf9 T.cl T.ha T.hn T.htk T.hm), T.kCC, _, rfl, if_neg' rfl ?_⟩
    refine ⟨_, rfl, _, rfl, _, rfl, W0, tl, qs, ss, rp, TT, BB, rfl, s9 _ _ hD8, lqs, n8', fun i q s h1 h2 => (de8 i q s h1 h2).same s9, s9 _ _ htl8, fun i hi => (rt8 i hi).same s9, pb, fun d9 G10 s10 r10 => ?_⟩
    have r9' := r9.same s10
    obtain ⟨dxf', hf10⟩ := id r9'
    obtain ⟨dxd, hd10⟩ := id r10
    refine ⟨f9, dxf', _, rfl, hf10, .inl ⟨d9, dxd, _, rfl, hd10⟩, f9, .ref d9, _, _, rfl, r9', .inl ⟨d9, _, _, rfl, r10, _, rfl, if_neg' (by rw [decide_eq_true rfl, decide_eq_true rfl]; rfl) ?_⟩⟩
    have s610 := s68.trans (s9.trans s10)
    refine ⟨_, rfl, hd, _, _, _, bb, rfl, s610 _ _ hh, hna, lts, hsz, el _ rfl rfl rfl rfl rfl hr.hd G10 s610, fun G11 s11 => ?_⟩
    replace s11 : Same G10 G11 := s11
    refine ⟨_, rfl, rfl, _, rfl, if_neg' (by rw [decide_eq_true rfl]; rfl) ?_⟩
    have s811 := s9.trans (s10.trans s11)
    have hD11 := s811 _ _ hD8
    -- reversed
    refine ⟨_, rfl, W0, _, rfl, SqL.of hD11, fun v nv => ?_⟩
    have e12 := same_upd (o := .lst (qs.map V.ref).reverse) nv
    have hv : (upd G11 v (.lst (qs.map V.ref).reverse)) v = some (.lst (qs.reverse.map V.ref)) := by rw [upd_same, List.map_reverse]
    generalize upd G11 v (.lst (qs.map V.ref).reverse) = G12 at e12 hv ⊢
    have s812 := s811.trans e12
    have de12 := fun (i : Nat) (q : Addr) (s : Nat) (h1 : qs.reverse[i]? = some q) (h2 : ss.reverse[i]? = some s) => (show Ded G12 q s from by
      obtain ⟨l1, g1⟩ := rev_at h1
      obtain ⟨l2, g2⟩ := rev_at h2
      rw [← lqs] at g2
      exact (de8 _ q s g1 g2).same s812)
    refine ⟨_, rfl, v, .ref p, qs.reverse, ss.reverse, true, TT, BB, rfl, hv, by rw [List.length_reverse, List.length_reverse]; exact lqs, by rw [List.length_reverse]; exact n8', de12, .inr ⟨p, rfl, pr8.same s812⟩, pb, fun f13 G13 s13 r13 => ?_⟩
    rw [(s_perm (List.reverse_perm ss)).1, (s_perm (List.reverse_perm ss)).2] at r13
    have s813 := s812.trans s13
    have r9b := r9.same (s10.trans (s11.trans (e12.trans s13)))
    obtain ⟨dx13, hf13⟩ := id r13
    obtain ⟨dx9b, hf9b⟩ := id r9b
    refine ⟨_, rfl, f13, dx13, _, rfl, hf13, .inl ⟨f9, dx9b, _, rfl, hf9b⟩, f13, .ref f9, _, _, rfl, r13, .inl ⟨f9, _, _, rfl, r9b, _, rfl, if_neg' (by rw [decide_eq_true rfl, decide_eq_true rfl]; rfl) ?_⟩⟩
    -- plain
    refine ⟨_, rfl, hd, .non, qs, ss, bb, (fun _ => 1), (fun _ => 1), rfl, s813 _ _ hh8, lqs, n8', fun i q s h1 h2 => (de8 i q s h1 h2).same s813, .inl ⟨rfl, rfl, rfl⟩, fun _ _ => pb_one, fun f14 G14 s14 r14 => ?_⟩
    have s814 := s813.trans s14
    have r14o := r14
    rw [(s_ones ss).1, (s_ones ss).2] at r14
    obtain ⟨dx14, hf14⟩ := id r14
    have hD14 := s814 _ _ hD8
    refine ⟨_, rfl, _, _, _, _, _, rfl, .own C, .base (.ins hf14 T.cl T.ha T.hn T.htk T.hm), T.kCC, _, rfl, if_neg' rfl ?_⟩
    refine ⟨_, rfl, f14, C, dx14, _, _, rfl, hf14, T.cl, T.nT, flds_top _ _, _, rfl, W0, _, rfl, .inl (SqL.of hD14), rfl, _, rfl, if_neg' (by rw [List.length_map, lqs, decide_eq_true rfl]; rfl) ?_⟩
    refine ⟨_, rfl, f14, C, dx14, _, _, rfl, hf14, T.cl, T.nB, flds_bot _ _, rfl, _, rfl, if_neg' (by rw [decide_eq_true rfl]; rfl) ?_⟩
    -- another price
    have s514 := s58.trans s814
    have S14 := S5.same s514
    have Dn : G14 W0 ≠ none := by rw [hD14]; exact Option.some_ne_none _
    refine ⟨_, rfl, l, W0, 4, _, rfl, by decide, sm9 (by decide), S14, Dn, by omega, fun z G15 z0 z4 sx15 S15 => ?_⟩
    obtain ⟨jz, rfl⟩ : ∃ j : Nat, z = j := ⟨z.toNat, by omega⟩
    have hj : jz < 4 := by omega
    have p12 : ((10 : Int) ^ (12 : Int).toNat) = 1000000000000 := by decide +kernel
    refine ⟨_, rfl, _, _, rfl, rfl, ⟨by decide, by decide, by decide +kernel⟩, l, W0, _, _, rfl, (by rw [p12]; decide), sm9 (by rw [p12]; decide), S15, S15.nn Dn sx15, by omega, fun y G16 y0 y12 sx16 S16 => ⟨_, _, rfl, rfl, ?_⟩⟩
    rw [p12] at y12
    have sxl := sx15.trans sx16
    have tll : tl ≠ l := fun z => (S5.same (s6.trans s7)).l0 (by rw [← z]; exact ntl)
    have hdl : hd ≠ l := fun z => S5.l0 (by rw [← z]; exact nh)
    have pr16 := (pr8.same s814).sx S14 sxl
    have rt16 : ∀ i, i < 4 → Rat C G16 (rp i) (TT i) (BB i) := fun i hi => ((rt8 i hi).same s814).sx S14 sxl
    have de16 := fun (i : Nat) (q : Addr) (s : Nat) (h1 : qs[i]? = some q) (h2 : ss[i]? = some s) => ((de8 i q s h1 h2).same s814).sx S14 sxl
    have r16 := r14o.sx S14 sxl
    have hD16 := sxl _ _ Dl hD14
    have hh16 := sxl _ _ hdl (s814 _ _ hh8)
    have htl16 := sxl _ _ tll (s814 _ _ htl8)
    have H16 := keepX (s5.trans s514) nl sxl
    intro q dq nq ndq neq
    refine mkR_one (t := 1 + y) nq ndq fun G17 s17 r17 => ⟨rfl, ?_⟩
    refine ⟨_, rfl, _, rfl, tl, _, _, jz, rfl, rfl, s17 _ _ htl16, ix4 jz hj, ?_⟩
    rw [set4 jz hj]
    have tlx : ∀ {a C' dx : Addr} {fs : List (Str × V)}, G17 a = some (.ins C' dx fs) → a ≠ tl := fun e z => by
      have := s17 _ _ htl16
      rw [← z, e] at this
      cases this
    have H18 : Same H (upd G17 tl (.lst [.ref (put jz q rp 0), .ref (put jz q rp 1), .ref (put jz q rp 2), .ref (put jz q rp 3)])) := same_put (H16.trans s17) ntlH
    have sxt : SameX tl G17 (upd G17 tl (.lst [.ref (put jz q rp 0), .ref (put jz q rp 1), .ref (put jz q rp 2), .ref (put jz q rp 3)])) := SameX.upd
    have htl18 : (upd G17 tl (.lst [.ref (put jz q rp 0), .ref (put jz q rp 1), .ref (put jz q rp 2), .ref (put jz q rp 3)])) tl = some (.lst [.ref (put jz q rp 0), .ref (put jz q rp 1), .ref (put jz q rp 2), .ref (put jz q rp 3)]) := upd_same
    generalize upd G17 tl (.lst [.ref (put jz q rp 0), .ref (put jz q rp 1), .ref (put jz q rp 2), .ref (put jz q rp 3)]) = G18 at H18 sxt htl18 ⊢
    have htl17 := s17 _ _ htl16
    have toR : ∀ {a : Addr} {t' b' : Int}, Rat C G17 a t' b' → Rat C G18 a t' b' := fun ⟨dx, h⟩ => ⟨dx, sxt _ _ (tlx h) h⟩
    have rq18 := toR r17
    have rt18 : ∀ i, i < 4 → Rat C G18 (rp i) (TT i) (BB i) := fun i hi => toR ((rt16 i hi).same s17)
    have pr18 : Prc C D G18 p TT BB := by
      obtain ⟨dx', r', e1, e2⟩ := pr16.same s17
      exact ⟨dx', r', sxt _ _ (tlx e1) e1, fun i hi => toR (e2 i hi)⟩
    have de18 := fun (i : Nat) (q : Addr) (s : Nat) (h1 : qs[i]? = some q) (h2 : ss[i]? = some s) => ((de16 i q s h1 h2).same s17).sxt htl17 sxt
    have r18 := toR (r16.same s17)
    have hdtl : hd ≠ tl := ne_of_none (s7 _ _ hh) ntl
    have Dtl : W0 ≠ tl := ne_of_none ((s6.trans s7) _ _ hD5) ntl
    have hh18 := sxt _ _ hdtl (s17 _ _ hh16)
    have hD18 := sxt _ _ Dtl (s17 _ _ hD16)
    obtain ⟨dx18, rp18, hp18, _⟩ := id pr18
    have nc : ∀ {r : Nat → Addr}, (pf r).lookup ("change" : Str) = none := (lk_cons (by decide +kernel)).trans ((lk_cons (by decide +kernel)).trans ((lk_cons (by decide +kernel)).trans ((lk_cons (by decide +kernel)).trans rfl)))
    refine ⟨_, rfl, p, dx18, _, rfl, hp18, nc, (by show 4 ≤ sizeLine; decide), fun u nu => ?_⟩
    have e19 := same_upd (o := .lst [.str "lost", .str "surplus", .str "value", .str "junction"]) nu
    have hu19 : (upd G18 u (.lst [.str "lost", .str "surplus", .str "value", .str "junction"])) u = some (.lst [.str "lost", .str "surplus", .str "value", .str "junction"]) := upd_same
    generalize upd G18 u (.lst [.str "lost", .str "surplus", .str "value", .str "junction"]) = G19 at e19 hu19 ⊢
    have hp19 := e19 _ _ hp18
    have pbj : Pb (1 + y) 1 := by
      have := pb_of (t := 1 + y) (b := 1) (by decide) (by omega) (by omega)
      rw [(nt_one (1 + y)).1, (nt_one (1 + y)).2] at this
      exact this
    have eput : put jz q rp jz = q := if_pos rfl
    have htl19 := e19 _ _ htl18
    refine ⟨_, rfl, u, _, _, _, rfl, rfl, SqL.of hu19, atw4 hj, _, rfl, _, rfl, tl, _, _, _, rfl, rfl, SqL.of htl19, at4 (r := put jz q rp) hj, p, .str (wd jz), .ref (put jz q rp jz), TT, BB, rfl, pr18.same e19, .inl ⟨jz, hj, rfl, .inl ⟨1 + y, 1, pbj.nm.good (.inl ⟨_, rfl, by rw [eput]; exact rq18.same e19⟩), fun G20 sx20 pr20 => ?_⟩⟩⟩
    have H20 := keepX (H18.trans e19) npH sx20
    have toP : ∀ {a : Addr} {t' b' : Int}, Rat C G19 a t' b' → Rat C G20 a t' b' := fun r => r.sameX hp19 noTop4 sx20
    have pb20 : ∀ i, i < 4 → Pb (R1.set jz (1 + y) TT i) (R1.set jz 1 BB i) := fun i hi => by
      unfold R1.set
      by_cases h : i = jz
      · rw [if_pos h, if_pos h]; exact pbj
      · rw [if_neg h, if_neg h]; exact pb i hi
    have rt20 : ∀ i, i < 4 → Rat C G20 (put jz q rp i) (R1.set jz (1 + y) TT i) (R1.set jz 1 BB i) := fun i hi => by
      unfold R1.set put
      by_cases h : i = jz
      · rw [if_pos h, if_pos h, if_pos h]; exact toP (rq18.same e19)
      · rw [if_neg h, if_neg h, if_neg h]; exact toP ((rt18 i hi).same e19)
    have de20 := fun (i : Nat) (q : Addr) (s : Nat) (h1 : qs[i]? = some q) (h2 : ss[i]? = some s) => ((de18 i q s h1 h2).same e19).sxp hp19 sx20
    have hh19 := e19 _ _ hh18
    have hdp : hd ≠ p := fun z => by
      rw [z, hp19] at hh19
      cases bb <;> cases hh19
    have Dp : W0 ≠ p := fun z => by
      have := e19 _ _ hD18
      rw [z, hp19] at this
      cases this
    have tlp : tl ≠ p := fun z => by
      rw [z, hp19] at htl19
      cases htl19
    have hh20 := sx20 _ _ hdp hh19
    have hD20 := sx20 _ _ Dp (e19 _ _ hD18)
    have htl20 := sx20 _ _ tlp htl19
    have r20 := toP (r18.same e19)
    -- the end
    refine ⟨_, rfl, _, rfl, hd, .ref p, qs, ss, bb, _, _, rfl, hh20, lqs, n8', de20, .inr ⟨p, rfl, pr20⟩, pb20, fun fa GA sA ra => ?_⟩
    refine ⟨_, rfl, _, rfl, W0, tl, qs, ss, put jz q rp, _, _, rfl, sA _ _ hD20, lqs, n8', fun i q s h1 h2 => (de20 i q s h1 h2).same sA, sA _ _ htl20, fun i hi => (rt20 i hi).same sA, pb20, fun da GB sB rb => ?_⟩
    have ra' := ra.same sB
    obtain ⟨dxa, hfa⟩ := id ra'
    obtain ⟨dxb, hfb⟩ := id rb
    refine ⟨fa, dxa, _, rfl, hfa, .inl ⟨da, dxb, _, rfl, hfb⟩, fa, .ref da, _, _, rfl, ra', .inl ⟨da, _, _, rfl, rb, _, rfl, if_pos' (by rw [decide_eq_true rfl, decide_eq_true rfl]; rfl) ?_⟩⟩
    have sAB := sA.trans sB
    refine ⟨_, rfl, hd, .non, qs, ss, bb, (fun _ => 1), (fun _ => 1), rfl, sAB _ _ hh20, lqs, n8', fun i q s h1 h2 => (de20 i q s h1 h2).same sAB, .inl ⟨rfl, rfl, rfl⟩, fun _ _ => pb_one, fun fc GC sC rc => ?_⟩
    have r14c := r20.same (sAB.trans sC)
    obtain ⟨dxc, hfc⟩ := id rc
    obtain ⟨dxe, hfe⟩ := id r14c
    refine ⟨_, rfl, fc, dxc, _, rfl, hfc, .inl ⟨f14, dxe, _, rfl, hfe⟩, fc, .ref f14, _, _, rfl, rc, .inl ⟨f14, _, _, rfl, r14c, ?_⟩⟩
    rw [decide_eq_true rfl, decide_eq_true rfl]
    exact k GC (H20.trans (sAB.trans sC))
end
end R1
end

-- U7x
section
set_option Elab.async false
set_option linter.all false
set_option maxRecDepth 100000
set_option exponentiation.threshold 10000
namespace R1
open PySem L2 OwnOps RatM OwnNe FnGd
section
variable {K : PySem.W.Frag} {f : Addr} {fd : FuncData}
theorem bd0 (F : InitP K f fd) : ∃ ds, Vals [.int 1, .int 1, .int 1, .int 1] ds ∧ L2.Binds K fd psI ds :=
  F.binds0 (ps := psI) 1 (by simp) rfl fun D doc pm an cdv ct us ks hu hk => match us, ks, hu, hk with
    | [a], [k1, k2, k3, k4], _, _ => ⟨_, _, _, _, _, _, rfl, rfl, _, _, _, _, _, _, rfl, rfl, _, _, _, _, _, _, rfl, rfl, _, _, _, _, _, _, rfl, rfl, rfl⟩
end
/-- a def of the top -/
structure DefG (K : PySem.W.Frag) (x : Str) (st : Stmt) (f : Addr) : Prop where
  here : PySem.W.nsIn K mainGlobals x = some (some (.ref f))
  fn : ∃ fd, Fun K x x st f fd
theorem defG_mk {K : PySem.W.Frag} {x : Str} {st : Stmt} {f : Addr} {oc kV doc pm cdv ct : Value} {od an : Option Addr} {osl : Array (Option Value)} (a : PySem.W.nsIn K mainGlobals x = some (some (.ref f)))
    (l : K.lookup f = some ⟨oc, od, .func (PySem.W.fnOf x x (defArgs st) (defBody st) (defScope st) .none kV doc pm an cdv ct), osl⟩) (c : PySem.W.codeIn K cdv x = true) (k : PySem.W.keepIn K (.ref f) = true) : DefG K x st f := ⟨a, _, fun_mk l c k⟩
/-- a def of the class -/
structure DefM (K : PySem.W.Frag) (C : Addr) (x qual : Str) (st : Stmt) (f : Addr) : Prop where
  here : PySem.W.findIn K (.ref C) x = some (some (.ref f))
  is : PySem.W.isFn K (.ref f) = true
  kp : PySem.W.keepIn K (.ref f) = true
  fn : ∃ fd, Fun K x qual st f fd
theorem defM_mk {K : PySem.W.Frag} {C : Addr} {x qual : Str} {st : Stmt} {f : Addr} {oc kV doc pm cdv ct : Value} {od an : Option Addr} {osl : Array (Option Value)} (a : PySem.W.findIn K (.ref C) x = some (some (.ref f))) (i : PySem.W.isFn K (.ref f) = true)
    (l : K.lookup f = some ⟨oc, od, .func (PySem.W.fnOf x qual (defArgs st) (defBody st) (defScope st) .none kV doc pm an cdv ct), osl⟩) (c : PySem.W.codeIn K cdv qual = true) (k : PySem.W.keepIn K (.ref f) = true) : DefM K C x qual st f := ⟨a, i, k, _, fun_mk l c k⟩
/-- the class's __init__, with its default -/
structure DefI (K : PySem.W.Frag) (C : Addr) (f : Addr) : Prop where
  here : PySem.W.findIn K (.ref C) "__init__" = some (some (.ref f))
  is : PySem.W.isFn K (.ref f) = true
  fn : ∃ fd, InitD K f fd
theorem defI_mk {K : PySem.W.Frag} {C f Td : Addr} {oc kV doc pm cdv ct tc : Value} {od an td : Option Addr} {osl tsl : Array (Option Value)} {tk : Tok} {n : Nat} (a : PySem.W.findIn K (.ref C) "__init__" = some (some (.ref f))) (i : PySem.W.isFn K (.ref f) = true)
    (l : K.lookup f = some ⟨oc, od, .func (PySem.W.fnOf "__init__" "Ratio.__init__" (defArgs (sRat 0)) (defBody (sRat 0)) (defScope (sRat 0)) (.ref Td) kV doc pm an cdv ct), osl⟩) (t : K.lookup Td = some ⟨tc, td, .seq #[.int 1 tk] n, tsl⟩)
    (c : PySem.W.codeIn K cdv "Ratio.__init__" = true) (k : PySem.W.keepIn K (.ref f) = true) : DefI K C f :=
  ⟨a, i, _, ⟨oc, od, .ref Td, kV, doc, pm, an, cdv, ct, osl, rfl, l, c, .inr ⟨by simp, Td, _, [.int 1 tk], n, rfl, t, rfl, .cons ⟨tk, rfl⟩ .nil⟩, .inl rfl⟩, k⟩
section
variable {P : Program} {w : World} {K : PySem.W.Frag} {h base : Heap} {mg : Str → Option Value} {C : Addr}
theorem glb {x : Str} {st : Stmt} {f : Addr} {k : Nat} {ps : List Str} {sp : Sp} (X : K.In h) (G : h.Ns mainGlobals mg) (d : DefG K x st f) (ok : ∀ fd, Fun K x x st f fd → FnOk P w K mg base (L2.CX P w) k f fd ps sp)
    (b : ∀ fd, Fun K x x st f fd → L2.Binds K fd ps []) : Glb P w K mg base x k ps sp :=
  let ⟨fd, F⟩ := d.fn
  ⟨f, fd, PySem.W.mg_of X G d.here, F.kp, ok fd F, b fd F⟩
theorem dun {nm x qual : Str} {st : Stmt} {f : Addr} {k : Nat} {ps : List Str} {sp : Sp} (hn : nm = x) (d : DefM K C x qual st f) (ok : ∀ fd, Fun K x qual st f fd → FnOk P w K mg base (L2.CX P w) k f fd ps sp)
    (b : ∀ fd, Fun K x qual st f fd → L2.Binds K fd ps []) : Dun P w K mg base C nm k ps sp := by
  subst hn
  obtain ⟨fd, F⟩ := d.fn
  exact ⟨f, fd, d.here, d.is, d.kp, ok fd F, b fd F⟩
theorem kit_rt {T : String} {b : Bool} (m : PySem.W.kitMeta T = true) (e : PySem.W.subIn K (.ref C) (.type T) = some b) : PySem.W.kitOne K (.ref C) (.type T) = some b := by
  show (if (Value.ref C == Value.type T) = true then some true else if PySem.W.kitMeta T = true then PySem.W.subIn K (.ref C) (.type T) else none) = some b
  rw [if_neg (fun q => by cases beq_iff_eq.mp q), if_pos m, e]
theorem kit_tr {T : String} {b : Bool} (i : PySem.W.isClsIn K C = true) (t : PySem.W.typeIn K (.ref C) = some (.type "type")) (e : PySem.W.subIn K (.type T) (.ref C) = some b) : PySem.W.kitOne K (.type T) (.ref C) = some b := by
  have q : ((PySem.W.clsIn K C).isSome && PySem.W.typeIn K (.ref C) == some (.type "type")) = true := by
    rw [show (PySem.W.clsIn K C).isSome = true from i, t]
    rfl
  show (if (Value.type T == Value.ref C) = true then some true else if ((PySem.W.clsIn K C).isSome && PySem.W.typeIn K (.ref C) == some (.type "type")) = true then PySem.W.subIn K (.type T) (.ref C) else none) = some b
  rw [if_neg (fun q => by cases beq_iff_eq.mp q), if_pos q, e]
theorem kit_rr : PySem.W.kitOne K (.ref C) (.ref C) = some true := by
  show (if (Value.ref C == Value.ref C) = true then some true else _) = some true
  rw [if_pos (beq_self_eq_true _)]
/-- the error classes, as the top has made them -/
structure DefE (K : PySem.W.Frag) (cn qn : Str) (newId : String) (bt : List Value) (E fE : Addr) : Prop where
  here : PySem.W.nsIn K mainGlobals cn = some (some (.ref E))
  txt : ∀ mg : Str → Option Value, mg cn = some (.ref E) → PySem.Giv.ErrTxt K mg cn qn newId bt E fE
  ty : PySem.W.typeIn K (.ref E) = some (.type "type")
  ex : PySem.W.subIn K (.ref E) (.type "BaseException") = some true
  hd : PySem.W.hasDictIn K E = true
theorem defE_mk {cn qn : Str} {newId : String} {bt bm : List Value} {E fE N : Addr} {nm q : Str} {bs : List Value} {sn : List Str} {sub : List Value} {ab : Bool} {col : Option Bool} {dd an od : Option Addr} {k0 k1 k2 k3 k5 : Option Value} {oc doc pm cdv ct : Value} {osl : Array (Option Value)} {p1 p2 q1 q2 q3 q4 : Pos}
    (a : PySem.W.nsIn K mainGlobals cn = some (some (.ref E))) (xL : K.lookup E = some (PySem.excClassObj nm q E N bs bm true sn sub ab col dd k0 k1 k2 k3 k5 newId)) (tl : PySem.Giv.tailIs bt bm = true)
    (sa : PySem.W.findIn K (.ref E) "__setattr__" = some (some (.builtin "object.__setattr__"))) (ga : PySem.W.findIn K (.ref E) "__getattribute__" = some (some (.builtin "BaseException.__getattribute__"))) (gg : PySem.W.findIn K (.ref E) "__getattr__" = some none)
    (no : PySem.W.findIn K (.ref E) "given" = some none) (iC : PySem.W.findIn K (.ref E) "__init__" = some (some (.ref fE))) (tC : PySem.W.typeIn K (.ref fE) = some (.type "function"))
    (l : K.lookup fE = some ⟨oc, od, .func (PySem.W.fnOf "__init__" qn (PySem.Giv.gA p1 p2) (PySem.Giv.gB q1 q2 q3 q4) PySem.Giv.gS .none .none doc pm an cdv ct), osl⟩) (c : PySem.W.codeIn K cdv qn = true)
    (kC : PySem.W.keepIn K (.ref E) = true) (ex : PySem.W.subIn K (.ref E) (.type "BaseException") = some true) (ty : PySem.W.typeIn K (.ref E) = some (.type "type")) (hd : PySem.W.hasDictIn K E = true) (ss : PySem.W.subIn K (.ref E) (.ref E) = some true) : DefE K cn qn newId bt E fE :=
  ⟨a, fun mg hg => { gC := hg, cls := ⟨nm, q, N, bs, bm, sn, sub, ab, col, dd, k0, k1, k2, k3, k5, xL, tl⟩, sa := sa, ga := ga, gg := gg, noN := no, iC := iC, tC := tC, kC := kC, exC := ex, tyC := ty, hdC := hd, te := (PySem.W.exm_ref ex hd ty ss), fn := ⟨oc, od, doc, pm, an, cdv, ct, osl, p1, p2, q1, q2, q3, q4, l, c⟩ }, ty, ex, hd⟩
/-- the class itself -/
structure DefC (K : PySem.W.Frag) (C : Addr) : Prop where
  here : PySem.W.nsIn K mainGlobals "Ratio" = some (some (.ref C))
  cl : Cls K C
  nT : NoAttr K C "top"
  nB : NoAttr K C "bottom"
  ha : PySem.W.findIn K (.ref C) "__class__" = some (some (.builtin "object.__class__"))
  hn : PySem.W.specialIn K (.builtin "object.__class__") "__get__" = some (some (.builtin "getset_descriptor.__get__"))
  htk : PySem.W.takesIn K (.builtin "object.__class__") = some true
  hm : PySem.W.mroIn K C (.type "object") = some true
  mks : PySem.W.makesIn K C = true
  kp : PySem.W.keepIn K (.ref C) = true
  ic : PySem.W.isClsIn K C = true
  ty : PySem.W.typeIn K (.ref C) = some (.type "type")
  sf : PySem.W.selfFirst K C = true
  nCC : PySem.W.notFirst K C (.ref C) = true
/-- the class beside the built-in types -/
structure DefT (K : PySem.W.Frag) (C : Addr) (T : String) : Prop where
  nf : PySem.W.notFirst K C (.type T) = true
  tr : PySem.W.subIn K (.type T) (.ref C) = some false
  rt : PySem.W.subIn K (.ref C) (.type T) = some false
end



/-- the class Prices itself -/
structure DefP (K : PySem.W.Frag) (D : Addr) : Prop where
  here : PySem.W.nsIn K mainGlobals "Prices" = some (some (.ref D))
  cl : Cls K D
  n1 : NoAttr K D "_lost"
  n2 : NoAttr K D "_surplus"
  n3 : NoAttr K D "_value"
  n4 : NoAttr K D "_junction"
  ha : PySem.W.findIn K (.ref D) "__class__" = some (some (.builtin "object.__class__"))
  hn : PySem.W.specialIn K (.builtin "object.__class__") "__get__" = some (some (.builtin "getset_descriptor.__get__"))
  htk : PySem.W.takesIn K (.builtin "object.__class__") = some true
  hm : PySem.W.mroIn K D (.type "object") = some true
  mks : PySem.W.makesIn K D = true
  kp : PySem.W.keepIn K (.ref D) = true
  ic : PySem.W.isClsIn K D = true
  ty : PySem.W.typeIn K (.ref D) = some (.type "type")
  nDD : PySem.W.notFirst K D (.ref D) = true
  nDi : PySem.W.notFirst K D (.type "int") = true
  tr : PySem.W.subIn K (.type "int") (.ref D) = some false
  neD : PySem.W.findIn K (.ref D) "__ne__" = some (some (.builtin "object.__ne__"))
/-- its __init__, with its keyword-only defaults -/
structure DefPI (K : PySem.W.Frag) (D f : Addr) : Prop where
  here : PySem.W.findIn K (.ref D) "__init__" = some (some (.ref f))
  is : PySem.W.isFn K (.ref f) = true
  fn : ∃ fd, InitP K f fd
theorem defPI_mk {K : PySem.W.Frag} {D f Kd : Addr} {oc doc pm cdv ct u1 u2 u3 u4 : Value} {od an : Option Addr} {osl : Array (Option Value)} (a : PySem.W.findIn K (.ref D) "__init__" = some (some (.ref f))) (i : PySem.W.isFn K (.ref f) = true)
    (l : K.lookup f = some ⟨oc, od, .func (PySem.W.fnOf "__init__" "Prices.__init__" (defArgs (sPri 0)) (defBody (sPri 0)) (defScope (sPri 0)) .none (.ref Kd) doc pm an cdv ct), osl⟩)
    (k1 : PySem.W.nsIn K Kd "lost" = some (some u1)) (k2 : PySem.W.nsIn K Kd "surplus" = some (some u2)) (k3 : PySem.W.nsIn K Kd "value" = some (some u3)) (k4 : PySem.W.nsIn K Kd "junction" = some (some u4))
    (r1 : RelV (.int 1) u1) (r2 : RelV (.int 1) u2) (r3 : RelV (.int 1) u3) (r4 : RelV (.int 1) u4)
    (c : PySem.W.codeIn K cdv "Prices.__init__" = true) (k : PySem.W.keepIn K (.ref f) = true) : DefPI K D f :=
  ⟨a, i, _, ⟨oc, od, .none, .ref Kd, doc, pm, an, cdv, ct, osl, rfl, l, c, .inl ⟨rfl, rfl⟩, .inr ⟨Kd, rfl, fun q hq => by
    rcases List.mem_cons.mp hq with rfl | hq
    · exact ⟨u1, k1, r1⟩
    · rcases List.mem_cons.mp hq with rfl | hq
      · exact ⟨u2, k2, r2⟩
      · rcases List.mem_cons.mp hq with rfl | hq
        · exact ⟨u3, k3, r3⟩
        · rcases List.mem_cons.mp hq with rfl | hq
          · exact ⟨u4, k4, r4⟩
          · cases hq⟩⟩, k⟩
/-- a property of it -/
structure DefPr (K : PySem.W.Frag) (D : Addr) (x qual : Str) (st : Stmt) (p g : Addr) : Prop where
  of : PropOf K D x p g
  fn : ∃ fd, Fun K x qual st g fd
theorem defPr_mk {K : PySem.W.Frag} {D p g : Addr} {x qual : Str} {st : Stmt} {rest : List Value} {oc kV doc pm cdv ct : Value} {od an : Option Addr} {osl : Array (Option Value)} (a : PySem.W.findIn K (.ref D) x = some (some (.ref p)))
    (pge : PySem.W.specialIn K (.ref p) "__get__" = some (some (.builtin "property.__get__"))) (ptk : PySem.W.takesIn K (.ref p) = some true) (prc : PySem.W.recIn K p "property" = some (.ref g :: rest))
    (l : K.lookup g = some ⟨oc, od, .func (PySem.W.fnOf x qual (defArgs st) (defBody st) (defScope st) .none kV doc pm an cdv ct), osl⟩) (c : PySem.W.codeIn K cdv qual = true) (k : PySem.W.keepIn K (.ref g) = true) : DefPr K D x qual st p g :=
  ⟨⟨a, pge, ptk, rest, prc⟩, _, fun_mk l c k⟩
/-- cost, with its default -/
structure DefK (K : PySem.W.Frag) (f : Addr) : Prop where
  here : PySem.W.nsIn K mainGlobals "cost" = some (some (.ref f))
  kp : PySem.W.keepIn K (.ref f) = true
  fn : ∃ fd, FunD K "cost" "cost" (defArgs sCost) (defBody sCost) (defScope sCost) [.non] [] f fd
theorem defK_mk {K : PySem.W.Frag} {f Td : Addr} {oc kV doc pm cdv ct tc : Value} {od an td : Option Addr} {osl tsl : Array (Option Value)} {n : Nat} (a : PySem.W.nsIn K mainGlobals "cost" = some (some (.ref f)))
    (l : K.lookup f = some ⟨oc, od, .func (PySem.W.fnOf "cost" "cost" (defArgs sCost) (defBody sCost) (defScope sCost) (.ref Td) kV doc pm an cdv ct), osl⟩) (t : K.lookup Td = some ⟨tc, td, .seq #[.none] n, tsl⟩)
    (c : PySem.W.codeIn K cdv "cost" = true) (k : PySem.W.keepIn K (.ref f) = true) : DefK K f :=
  ⟨a, k, _, ⟨oc, od, .ref Td, kV, doc, pm, an, cdv, ct, osl, rfl, l, c, .inr ⟨by simp, Td, _, [.none], n, rfl, t, rfl, .cons rfl .nil⟩, .inl rfl⟩, k⟩
theorem all_mk {l : PySem.W.OpenLaw} {w : World} {K : PySem.W.Frag} {h : Heap} {mg : Str → Option Value} {fa C fI CI fCI CZ fCZ D fP CP fCP fK a0 a1 a2 a3 a4 a5 a6 a7 a8 b0 b1 b2 b3 b4 b5 b6 b7 c0 p0 g0 p1 g1 p2 g2 p3 g3 : Addr} (X : K.In h) (G : h.Ns mainGlobals mg) (hfa : mg "law" = some (.ref fa))
    (dC : DefC K C)
    (dI : DefI K C fI)
    (eI : DefE K "InvalidNumber" "InvalidNumber.__init__" "ValueError.__new__" veT CI fCI)
    (eZ : DefE K "NoDivision" "NoDivision.__init__" "ZeroDivisionError.__new__" zdT CZ fCZ)
    (eP : DefE K "InvalidPrices" "InvalidPrices.__init__" "ValueError.__new__" veT CP fCP)
    (dP : DefP K D)
    (dPI : DefPI K D fP)
    (dK : DefK K fK)
    (gc : PySem.W.nsIn K mainGlobals "gcd" = some (some (.builtin "math.gcd")))
    (fg0 : DefG K "is_whole" sWhole a0)
    (fg1 : DefG K "_as_ratio" sAs a1)
    (fg2 : DefG K "_checked_price" sChk a2)
    (fg3 : DefG K "_law_pool" sPool a3)
    (fg4 : DefG K "_law_next" sNext a4)
    (fg5 : DefG K "_law_prices" sPrices a5)
    (fg6 : DefG K "_law_deed" sDeed a6)
    (fg7 : DefG K "_law_due" sDue a7)
    (fg8 : DefG K "law" sLaw a8)
    (fm0 : DefM K C "__mul__" "Ratio.__mul__" (sRat 7) b0)
    (fm1 : DefM K C "__rmul__" "Ratio.__rmul__" (sRat 8) b1)
    (fm2 : DefM K C "__eq__" "Ratio.__eq__" (sRat 11) b2)
    (fm3 : DefM K C "__lt__" "Ratio.__lt__" (sRat 13) b3)
    (fm4 : DefM K C "__add__" "Ratio.__add__" (sRat 3) b4)
    (fm5 : DefM K C "__radd__" "Ratio.__radd__" (sRat 4) b5)
    (fm6 : DefM K C "__ne__" "Ratio.__ne__" (sRat 12) b6)
    (fm7 : DefM K C "__repr__" "Ratio.__repr__" (sRat 19) b7)
    (fp0 : DefM K D "change" "Prices.change" (sPri 9) c0)
    (fr0 : DefPr K D "lost" "Prices.lost" (sPri 1) p0 g0)
    (fr1 : DefPr K D "surplus" "Prices.surplus" (sPri 3) p1 g1)
    (fr2 : DefPr K D "value" "Prices.value" (sPri 5) p2 g2)
    (fr3 : DefPr K D "junction" "Prices.junction" (sPri 7) p3 g3)
    (tint : DefT K C "int")
    (tbool : DefT K C "bool")
    (tNoneType : DefT K C "NoneType")
    (tstr : DefT K C "str")
    (tlist : DefT K C "list")
    (ttuple : DefT K C "tuple")
    (nisinstance : PySem.W.nsIn K mainGlobals "isinstance" = some none)
    (nint : PySem.W.nsIn K mainGlobals "int" = some none)
    (nbool : PySem.W.nsIn K mainGlobals "bool" = some none)
    (nabs : PySem.W.nsIn K mainGlobals "abs" = some none)
    (nstr : PySem.W.nsIn K mainGlobals "str" = some none)
    (nrepr : PySem.W.nsIn K mainGlobals "repr" = some none)
    (nlen : PySem.W.nsIn K mainGlobals "len" = some none)
    (nrange : PySem.W.nsIn K mainGlobals "range" = some none)
    (nlist : PySem.W.nsIn K mainGlobals "list" = some none)
    (ntuple : PySem.W.nsIn K mainGlobals "tuple" = some none) :
    ∃ fd : FuncData, (∀ (s : Shared) (v : Value), BindsTo s fd ⟨[v], []⟩ [("_law_script", v)]) ∧ ∀ base : Heap, K.In base → base.Ns mainGlobals mg → FnG l.prog w K mg base (L2.CX l.prog w) 12 fa fd ["_law_script"] (spLaw K) := by
  have e := hfa.symm.trans (PySem.W.mg_of X G fg8.here)
  cases e
  obtain ⟨fdL, FL⟩ := fg8.fn
  refine ⟨fdL, fun s v => ?_, fun base KX KG => ?_⟩
  · obtain ⟨oc, od, kV, doc, pm, an, cdv, ct, osl, rfl, _, _⟩ := FL.ex
    exact .of_eq rfl
  have T : Txt K mg C CI fCI CZ fCZ :=
    { cl := dC.cl, nT := dC.nT, nB := dC.nB, gC := PySem.W.mg_of KX KG dC.here, eI := eI.txt mg (PySem.W.mg_of KX KG eI.here), eZ := eZ.txt mg (PySem.W.mg_of KX KG eZ.here), ha := dC.ha, hn := dC.hn, htk := dC.htk, hm := dC.hm,
      kCC := kit_rr, kCi := kit_rt (by decide +kernel) tint.rt, kiC := kit_tr dC.ic dC.ty tint.tr, kbC := kit_tr dC.ic dC.ty tbool.tr, knC := kit_tr dC.ic dC.ty tNoneType.tr, ksC := kit_tr dC.ic dC.ty tstr.tr, klC := kit_tr dC.ic dC.ty tlist.tr, ktC := kit_tr dC.ic dC.ty ttuple.tr,
      isi := PySem.W.mg_none_of KX KG nisinstance, int := PySem.W.mg_none_of KX KG nint, bool := PySem.W.mg_none_of KX KG nbool, abs := PySem.W.mg_none_of KX KG nabs, str := PySem.W.mg_none_of KX KG nstr, repr := PySem.W.mg_none_of KX KG nrepr, gcd := PySem.W.mg_of KX KG gc }
  have N : Nms mg := ⟨PySem.W.mg_none_of KX KG nlen, PySem.W.mg_none_of KX KG nint, PySem.W.mg_none_of KX KG nstr, PySem.W.mg_none_of KX KG nrange, PySem.W.mg_none_of KX KG nlist, PySem.W.mg_none_of KX KG ntuple, PySem.W.mg_none_of KX KG nrepr⟩
  have Z : Tys K C := ⟨dC.sf, dC.nCC, tint.nf, tbool.nf, tNoneType.nf, tstr.nf, tlist.nf, ttuple.nf, tint.rt⟩
  have U : PTxt K mg D CP fCP :=
    { cl := dP.cl, n1 := dP.n1, n2 := dP.n2, n3 := dP.n3, n4 := dP.n4, gD := PySem.W.mg_of KX KG dP.here, eP := eP.txt mg (PySem.W.mg_of KX KG eP.here), ha := dP.ha, hn := dP.hn, htk := dP.htk, hm := dP.hm, kDD := kit_rr, kiD := kit_tr dP.ic dP.ty dP.tr }
  have GW : Glb l.prog w K mg base "is_whole" 1 ["value"] (spWhole C) := glb KX KG fg0 (fun fd F => ok_whole F T) (fun fd F => F.binds (ps := ["value"]) fun _ _ _ _ _ _ us hl => match us, hl with | [_], _ => rfl)
  obtain ⟨fdI, FI⟩ := dI.fn
  have M : Mak l.prog w K mg base C CI CZ := by
    obtain ⟨fW, fdW, mW, kW, okW, bW⟩ := GW.ex
    obtain ⟨ds3, v3, b3⟩ := FI.binds1 (ps := ["self", "top", "bottom"]) 3 1 (by simp) rfl fun _ _ _ _ _ _ _ us its hu hi => match us, its, hu, hi with | [_, _, _], [_], _, _ => ⟨_, rfl, rfl⟩
    obtain ⟨ds2, v2, b2⟩ := FI.binds1 (ps := ["self", "top", "bottom"]) 2 0 (by simp) rfl fun _ _ _ _ _ _ _ us its hu hi => match us, its, hu, hi with | [_, _], [_], _, _ => ⟨_, rfl, rfl⟩
    cases v3
    exact ⟨fI, fdI, ds2, ⟨dC.mks, dI.here, dI.is, dC.kp⟩, ok_init FI T okW mW kW bW, b3, v2, b2⟩
  have GA : Glb l.prog w K mg base "_as_ratio" 5 ["value"] (spAs C CI) := glb KX KG fg1 (fun fd F => ok_as F T M) (fun fd F => F.binds (ps := ["value"]) fun _ _ _ _ _ _ us hl => match us, hl with | [_], _ => rfl)
  have ML : Dun l.prog w K mg base C (PySem.dunder "mul") 6 ["self", "other"] (spAr C CI (fun t b t' b' => t * t') (fun t b t' b' => b * b')) := dun rfl fm0 (fun fd F => ok_mul F T M GA) (fun fd F => F.binds (ps := ["self", "other"]) fun _ _ _ _ _ _ us hl => match us, hl with | [_, _], _ => rfl)
  have EQ : Dun l.prog w K mg base C (cmpInfo .Eq).2.1 2 ["self", "other"] (spEq C false) := dun rfl fm2 (fun fd F => ok_eq F T GW) (fun fd F => F.binds (ps := ["self", "other"]) fun _ _ _ _ _ _ us hl => match us, hl with | [_, _], _ => rfl)
  have LT : Dun l.prog w K mg base C (cmpInfo .Lt).2.1 6 ["self", "other"] (spCm C CI (fun t b t' b' => decide (t * b' < t' * b))) := dun rfl fm3 (fun fd F => ok_lt F T GA) (fun fd F => F.binds (ps := ["self", "other"]) fun _ _ _ _ _ _ us hl => match us, hl with | [_, _], _ => rfl)
  have GC : Glb l.prog w K mg base "_checked_price" 7 ["name", "price"] (spChk C CP) := glb KX KG fg2 (fun fd F => ok_chk F T Z U M GW ML LT ⟨_, fm1.here, .inr ⟨_, rfl⟩⟩ ⟨⟨_, rfl⟩, ⟨_, rfl⟩, tint.tr⟩) (fun fd F => F.binds (ps := ["name", "price"]) fun _ _ _ _ _ _ us hl => match us, hl with | [_, _], _ => rfl)
  obtain ⟨fdP, FP⟩ := dPI.fn
  have AD : Dun l.prog w K mg base C (PySem.dunder "add") 6 ["self", "other"] (spAr C CI (fun t b t' b' => t * b' + t' * b) (fun t b t' b' => b * b')) := dun rfl fm4 (fun fd F => ok_add F T M GA) (fun fd F => F.binds (ps := ["self", "other"]) fun _ _ _ _ _ _ us hl => match us, hl with | [_, _], _ => rfl)
  have NE : Dun l.prog w K mg base C (cmpInfo .NotEq).2.1 3 ["self", "other"] (spEq C true) := dun rfl fm6 (fun fd F => ok_ne F Z EQ) (fun fd F => F.binds (ps := ["self", "other"]) fun _ _ _ _ _ _ us hl => match us, hl with | [_, _], _ => rfl)
  have RP : Dun l.prog w K mg base C "__repr__" 1 ["self"] (spStr C reprT) := dun rfl fm7 (fun fd F => ok_repr F T) (fun fd F => F.binds (ps := ["self"]) fun _ _ _ _ _ _ us hl => match us, hl with | [_], _ => rfl)
  have AA : Adds l.prog w K mg base C CI := ⟨AD, ⟨_, fm5.here, .inr ⟨_, rfl⟩⟩⟩
  have MP : MkQ l.prog w K mg base C D CP := by
    obtain ⟨ds, v0, b0⟩ := bd0 FP
    exact ⟨fP, fdP, ds, ⟨dP.mks, dPI.here, dPI.is, dP.kp⟩, ok_pinit FP U GC, b0, v0⟩
  have CH : Dun l.prog w K mg base D "change" 8 ["self", "name", "price"] (spChange C D CP) := dun rfl fp0 (fun fd F => ok_change F U GC) (fun fd F => F.binds (ps := ["self", "name", "price"]) fun _ _ _ _ _ _ us hl => match us, hl with | [_, _, _], _ => rfl)
  have G0 : PropG l.prog w K mg base D "lost" "_lost" := by
    obtain ⟨fd, F⟩ := fr0.fn
    refine ⟨p0, g0, fd, fr0.of, ?_, F.binds (ps := ["self"]) fun _ _ _ _ _ _ us hl => match us, hl with | [_], _ => rfl⟩
    obtain ⟨oc, od, kV, doc, pm, an, cdv, ct, osl, rfl, lk, hc⟩ := F.ex
    exact fn_getter (k := 0) (N := ["self"]) lk hc ⟨rfl, rfl, rfl, by decide +kernel, rfl, by decide +kernel, by decide +kernel⟩ rfl rfl U.cl U.n1
  have G1 : PropG l.prog w K mg base D "surplus" "_surplus" := by
    obtain ⟨fd, F⟩ := fr1.fn
    refine ⟨p1, g1, fd, fr1.of, ?_, F.binds (ps := ["self"]) fun _ _ _ _ _ _ us hl => match us, hl with | [_], _ => rfl⟩
    obtain ⟨oc, od, kV, doc, pm, an, cdv, ct, osl, rfl, lk, hc⟩ := F.ex
    exact fn_getter (k := 0) (N := ["self"]) lk hc ⟨rfl, rfl, rfl, by decide +kernel, rfl, by decide +kernel, by decide +kernel⟩ rfl rfl U.cl U.n2
  have G2 : PropG l.prog w K mg base D "value" "_value" := by
    obtain ⟨fd, F⟩ := fr2.fn
    refine ⟨p2, g2, fd, fr2.of, ?_, F.binds (ps := ["self"]) fun _ _ _ _ _ _ us hl => match us, hl with | [_], _ => rfl⟩
    obtain ⟨oc, od, kV, doc, pm, an, cdv, ct, osl, rfl, lk, hc⟩ := F.ex
    exact fn_getter (k := 0) (N := ["self"]) lk hc ⟨rfl, rfl, rfl, by decide +kernel, rfl, by decide +kernel, by decide +kernel⟩ rfl rfl U.cl U.n3
  have G3 : PropG l.prog w K mg base D "junction" "_junction" := by
    obtain ⟨fd, F⟩ := fr3.fn
    refine ⟨p3, g3, fd, fr3.of, ?_, F.binds (ps := ["self"]) fun _ _ _ _ _ _ us hl => match us, hl with | [_], _ => rfl⟩
    obtain ⟨oc, od, kV, doc, pm, an, cdv, ct, osl, rfl, lk, hc⟩ := F.ex
    exact fn_getter (k := 0) (N := ["self"]) lk hc ⟨rfl, rfl, rfl, by decide +kernel, rfl, by decide +kernel, by decide +kernel⟩ rfl rfl U.cl U.n4
  have PP : Props l.prog w K mg base D := ⟨G0, G1, G2, G3⟩
  have CS : Cst l.prog w K mg base C D := by
    obtain ⟨fd, F⟩ := dK.fn
    obtain ⟨ds3, v3, b3⟩ := F.binds1 (ps := ["deeds", "prices"]) 2 1 (by simp) rfl fun _ _ _ _ _ _ _ us its hu hi => match us, its, hu, hi with | [_, _], [_], _, _ => ⟨_, rfl, rfl⟩
    obtain ⟨ds2, v2, b2⟩ := F.binds1 (ps := ["deeds", "prices"]) 1 0 (by simp) rfl fun _ _ _ _ _ _ _ us its hu hi => match us, its, hu, hi with | [_], [_], _, _ => ⟨_, rfl, rfl⟩
    cases v3
    exact ⟨fK, fd, ds2, PySem.W.mg_of KX KG dK.here, dK.kp, ok_cost F T Z U M MP AA PP, b3, v2, b2⟩
  have GNx : Glb l.prog w K mg base "_law_next" 1 ["_law_pool_here", "_law_size"] spNext := glb KX KG fg4 (fun fd F => ok_next F N) (fun fd F => F.binds (ps := ["_law_pool_here", "_law_size"]) fun _ _ _ _ _ _ us hl => match us, hl with | [_, _], _ => rfl)
  have GPo : Glb l.prog w K mg base "_law_pool" 1 ["_law_script"] (spPool K) := glb KX KG fg3 (fun fd F => ok_pool F N) (fun fd F => F.binds (ps := ["_law_script"]) fun _ _ _ _ _ _ us hl => match us, hl with | [_], _ => rfl)
  have GPr : Glb l.prog w K mg base "_law_prices" 10 ["_law_pool_here"] (spPrices C D) := glb KX KG fg5 (fun fd F => ok_prices F T U M MP GNx CH) (fun fd F => F.binds (ps := ["_law_pool_here"]) fun _ _ _ _ _ _ us hl => match us, hl with | [_], _ => rfl)
  have GDe : Glb l.prog w K mg base "_law_deed" 6 ["_law_pool_here"] (spDeed l.prog w K mg base) := glb KX KG fg6 (fun fd F => ok_deed F T N M GNx RP) (fun fd F => F.binds (ps := ["_law_pool_here"]) fun _ _ _ _ _ _ us hl => match us, hl with | [_], _ => rfl)
  have GDu : Glb l.prog w K mg base "_law_due" 8 ["_law_deeds", "_law_told"] (spDue C) := glb KX KG fg7 (fun fd F => ok_due F T Z N M AA) (fun fd F => F.binds (ps := ["_law_deeds", "_law_told"]) fun _ _ _ _ _ _ us hl => match us, hl with | [_, _], _ => rfl)
  exact ok_law FL T Z N U M PP CS GNx GPo GPr GDe GDu CH EQ NE

theorem walk {l : PySem.W.OpenLaw} {q : Program} {loose : List Str} {XP : (Str → Option Value) → Heap → Prop} {YP : World → Heap → Prop} {d : DefRec} {K : Params → PySem.W.Frag} (hn : l.most = some 63) (hdf : d.params.defaults = [])
    (hY : ∀ (w : World) (h : Heap), YP w h → (K w.params).In h)
    (F : ∀ (w : World) (mg : Str → Option Value) (fa : Addr) (h : Heap), (K w.params).In h → h.Ns mainGlobals mg → mg d.name = some (.ref fa) →
      ∃ fd : FuncData, (∀ (s : Shared) (u : Value), BindsTo s fd ⟨[u], []⟩ [("_law_script", u)]) ∧ ∀ base : Heap, (K w.params).In base → base.Ns mainGlobals mg → FnG l.prog w (K w.params) mg base (L2.CX l.prog w) 12 fa fd ["_law_script"] (spLaw (K w.params))) :
    PySem.W.WalkO q loose XP YP l.row.toRowW d [] (fun f vs => PySem.call f vs) :=
  walk_ofG (n := 63) (k := 12) (x := "_law_script") (CX := fun w => L2.CX l.prog w) (sp := fun w => spLaw (K w.params)) hn (by decide) hdf ⟨rfl, by decide, by decide⟩ hY F (fun _ _ a ns hl _ hS => ⟨a, ns, rfl, hS, hl, fun _ _ => rfl⟩) fun w H s e s' z => by
    obtain ⟨_, _, _, _, _, _, _, _, _, _, _, _, z⟩ := z
    exact z
end R1
end

-- U7y
section
set_option Elab.async false
set_option linter.all false
open PySem PySem.W PyProof.Rows
set_option maxRecDepth 100000 in
set_option maxHeartbeats 0 in
theorem PySem.Challenge.cw_wishedwires_k73_cost_of_deeds_holds : PySem.Challenge.rw_wishedwires_k73_cost_of_deeds.Holds := by
  w_on; o_law; k_head; (case hw => w_witness2)
  k_fill
  refine R1.walk (l := PySem.Challenge.rw_wishedwires_k73_cost_of_deeds) rfl rfl (fun w h Y => PySem.W.kIn_of Y) ?F
  case F =>
    intro w mg fa h KX G hmg
    refine' R1.all_mk KX G hmg ?dC ?dI ?eI ?eZ ?eP ?dP ?dPI ?dK ?gc ?fg0 ?fg1 ?fg2 ?fg3 ?fg4 ?fg5 ?fg6 ?fg7 ?fg8 ?fm0 ?fm1 ?fm2 ?fm3 ?fm4 ?fm5 ?fm6 ?fm7 ?fp0 ?fr0 ?fr1 ?fr2 ?fr3 ?tint ?tbool ?tNoneType ?tstr ?tlist ?ttuple ?nisinstance ?nint ?nbool ?nabs ?nstr ?nrepr ?nlen ?nrange ?nlist ?ntuple
    case dC => (refine' ⟨?here, ⟨?pg, ?hd, ?po, ?sa⟩, ?nT, ?nB, ?ha, ?hn, ?htk, ?hm, ?mks, ?kp, ?ic, ?ty, ?sf, ?nCC⟩); (case here => k_is); (case pg => k_is); (case hd => k_is); (case po => k_is); (case sa => k_is); (case nT => unfold L2.NoAttr; k_is); (case nB => unfold L2.NoAttr; k_is); (case ha => k_is); (case hn => k_is); (case htk => k_is); (case hm => k_is); (case mks => k_is); (case kp => k_is); (case ic => k_is); (case ty => k_is); (case sf => k_is); (case nCC => k_is)
    case dI => (refine' R1.defI_mk ?a ?i ?l ?t ?c ?k); (case a => k_is); (case i => k_is); (case l => k_is); (case t => k_is); (case c => k_is); (case k => k_is)
    case eI => (refine' R1.defE_mk ?a ?xL ?tl ?sa ?ga ?gg ?no ?iC ?tC ?l ?c ?kC ?ex ?ty ?hd ?ss); (case a => k_is); (case xL => k_is); (case tl => decide +kernel); (case sa => k_is); (case ga => k_is); (case gg => k_is); (case no => k_is); (case iC => k_is); (case tC => k_is); (case l => k_is); (case c => k_is); (case kC => k_is); (case ex => k_is); (case ty => k_is); (case hd => k_is); (case ss => first | rfl | k_is)
    case eZ => (refine' R1.defE_mk ?a ?xL ?tl ?sa ?ga ?gg ?no ?iC ?tC ?l ?c ?kC ?ex ?ty ?hd ?ss); (case a => k_is); (case xL => k_is); (case tl => decide +kernel); (case sa => k_is); (case ga => k_is); (case gg => k_is); (case no => k_is); (case iC => k_is); (case tC => k_is); (case l => k_is); (case c => k_is); (case kC => k_is); (case ex => k_is); (case ty => k_is); (case hd => k_is); (case ss => first | rfl | k_is)
    case eP => (refine' R1.defE_mk ?a ?xL ?tl ?sa ?ga ?gg ?no ?iC ?tC ?l ?c ?kC ?ex ?ty ?hd ?ss); (case a => k_is); (case xL => k_is); (case tl => decide +kernel); (case sa => k_is); (case ga => k_is); (case gg => k_is); (case no => k_is); (case iC => k_is); (case tC => k_is); (case l => k_is); (case c => k_is); (case kC => k_is); (case ex => k_is); (case ty => k_is); (case hd => k_is); (case ss => first | rfl | k_is)
    case dP => (refine' ⟨?here, ⟨?pg, ?hd, ?po, ?sa⟩, ?n1, ?n2, ?n3, ?n4, ?ha, ?hn, ?htk, ?hm, ?mks, ?kp, ?ic, ?ty, ?nDD, ?nDi, ?tr, ?neD⟩); (case here => k_is); (case pg => k_is); (case hd => k_is); (case po => k_is); (case sa => k_is); (case n1 => unfold L2.NoAttr; k_is); (case n2 => unfold L2.NoAttr; k_is); (case n3 => unfold L2.NoAttr; k_is); (case n4 => unfold L2.NoAttr; k_is); (case ha => k_is); (case hn => k_is); (case htk => k_is); (case hm => k_is); (case mks => k_is); (case kp => k_is); (case ic => k_is); (case ty => k_is); (case nDD => k_is); (case nDi => k_is); (case tr => k_is); (case neD => k_is)
    case dPI => (refine' R1.defPI_mk ?a ?i ?l ?k1 ?k2 ?k3 ?k4 ?r1 ?r2 ?r3 ?r4 ?c ?k); (case a => k_is); (case i => k_is); (case l => k_is); (case k1 => k_is); (case k2 => k_is); (case k3 => k_is); (case k4 => k_is); (case r1 => exact ⟨_, rfl⟩); (case r2 => exact ⟨_, rfl⟩); (case r3 => exact ⟨_, rfl⟩); (case r4 => exact ⟨_, rfl⟩); (case c => k_is); (case k => k_is)
    case dK => (refine' R1.defK_mk ?a ?l ?t ?c ?k); (case a => k_is); (case l => k_is); (case t => k_is); (case c => k_is); (case k => k_is)
    case gc => k_is
    case fg0 => (refine' R1.defG_mk ?a ?l ?c ?k); (case a => k_is); (case l => k_is); (case c => k_is); (case k => k_is)
    case fg1 => (refine' R1.defG_mk ?a ?l ?c ?k); (case a => k_is); (case l => k_is); (case c => k_is); (case k => k_is)
    case fg2 => (refine' R1.defG_mk ?a ?l ?c ?k); (case a => k_is); (case l => k_is); (case c => k_is); (case k => k_is)
    case fg3 => (refine' R1.defG_mk ?a ?l ?c ?k); (case a => k_is); (case l => k_is); (case c => k_is); (case k => k_is)
    case fg4 => (refine' R1.defG_mk ?a ?l ?c ?k); (case a => k_is); (case l => k_is); (case c => k_is); (case k => k_is)
    case fg5 => (refine' R1.defG_mk ?a ?l ?c ?k); (case a => k_is); (case l => k_is); (case c => k_is); (case k => k_is)
    case fg6 => (refine' R1.defG_mk ?a ?l ?c ?k); (case a => k_is); (case l => k_is); (case c => k_is); (case k => k_is)
    case fg7 => (refine' R1.defG_mk ?a ?l ?c ?k); (case a => k_is); (case l => k_is); (case c => k_is); (case k => k_is)
    case fg8 => (refine' R1.defG_mk ?a ?l ?c ?k); (case a => k_is); (case l => k_is); (case c => k_is); (case k => k_is)
    case fm0 => (refine' R1.defM_mk ?a ?i ?l ?c ?k); (case a => k_is); (case i => k_is); (case l => k_is); (case c => k_is); (case k => k_is)
    case fm1 => (refine' R1.defM_mk ?a ?i ?l ?c ?k); (case a => k_is); (case i => k_is); (case l => k_is); (case c => k_is); (case k => k_is)
    case fm2 => (refine' R1.defM_mk ?a ?i ?l ?c ?k); (case a => k_is); (case i => k_is); (case l => k_is); (case c => k_is); (case k => k_is)
    case fm3 => (refine' R1.defM_mk ?a ?i ?l ?c ?k); (case a => k_is); (case i => k_is); (case l => k_is); (case c => k_is); (case k => k_is)
    case fm4 => (refine' R1.defM_mk ?a ?i ?l ?c ?k); (case a => k_is); (case i => k_is); (case l => k_is); (case c => k_is); (case k => k_is)
    case fm5 => (refine' R1.defM_mk ?a ?i ?l ?c ?k); (case a => k_is); (case i => k_is); (case l => k_is); (case c => k_is); (case k => k_is)
    case fm6 => (refine' R1.defM_mk ?a ?i ?l ?c ?k); (case a => k_is); (case i => k_is); (case l => k_is); (case c => k_is); (case k => k_is)
    case fm7 => (refine' R1.defM_mk ?a ?i ?l ?c ?k); (case a => k_is); (case i => k_is); (case l => k_is); (case c => k_is); (case k => k_is)
    case fp0 => (refine' R1.defM_mk ?a ?i ?l ?c ?k); (case a => k_is); (case i => k_is); (case l => k_is); (case c => k_is); (case k => k_is)
    case fr0 => (refine' R1.defPr_mk ?a ?pge ?ptk ?prc ?l ?c ?k); (case a => k_is); (case pge => k_is); (case ptk => k_is); (case prc => k_is); (case l => k_is); (case c => k_is); (case k => k_is)
    case fr1 => (refine' R1.defPr_mk ?a ?pge ?ptk ?prc ?l ?c ?k); (case a => k_is); (case pge => k_is); (case ptk => k_is); (case prc => k_is); (case l => k_is); (case c => k_is); (case k => k_is)
    case fr2 => (refine' R1.defPr_mk ?a ?pge ?ptk ?prc ?l ?c ?k); (case a => k_is); (case pge => k_is); (case ptk => k_is); (case prc => k_is); (case l => k_is); (case c => k_is); (case k => k_is)
    case fr3 => (refine' R1.defPr_mk ?a ?pge ?ptk ?prc ?l ?c ?k); (case a => k_is); (case pge => k_is); (case ptk => k_is); (case prc => k_is); (case l => k_is); (case c => k_is); (case k => k_is)
    case tint => (refine' ⟨?nf, ?tr, ?rt⟩); (case nf => k_is); (case tr => k_is); (case rt => k_is)
    case tbool => (refine' ⟨?nf, ?tr, ?rt⟩); (case nf => k_is); (case tr => k_is); (case rt => k_is)
    case tNoneType => (refine' ⟨?nf, ?tr, ?rt⟩); (case nf => k_is); (case tr => k_is); (case rt => k_is)
    case tstr => (refine' ⟨?nf, ?tr, ?rt⟩); (case nf => k_is); (case tr => k_is); (case rt => k_is)
    case tlist => (refine' ⟨?nf, ?tr, ?rt⟩); (case nf => k_is); (case tr => k_is); (case rt => k_is)
    case ttuple => (refine' ⟨?nf, ?tr, ?rt⟩); (case nf => k_is); (case tr => k_is); (case rt => k_is)
    case nisinstance => k_is
    case nint => k_is
    case nbool => k_is
    case nabs => k_is
    case nstr => k_is
    case nrepr => k_is
    case nlen => k_is
    case nrange => k_is
    case nlist => k_is
    case ntuple => k_is
end
