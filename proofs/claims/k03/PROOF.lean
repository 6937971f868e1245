import PyProof.Rows.All
import Wide.All
import OpenK.AllK
import Wide.FinOn
import HandS.ForExc
import KE.KOpsOwn
import KE.KCallOwn
import HandS.OwnEq
import KE.KExcInit
import HandS.ExcOwn
import HandS.TryMany
import HandS.Wide
import HandS.Gcd
import HandS.IsInst
import HandS.Defaults
import HandS.FStr
import HandS.Flow
import HandS.Head0
import HandS.Head1
import HandS.Head2
import HandS.HeadHook1
import HandS.HeadHook2
import HandS.Words
import HandS.ExcValue
import PyProof.NeKinds
import KE.KExcIs
import HandS.Comp
import HandS.DictComp
import HandS.ListItems
import KE.KEqSeq
import HandS.ForMost
import HandS.Deep
import PyProof.EqKinds
import PyProof.P3In
import PyProof.FactsAll.dict_1
import PyProof.Rows.FactsN_isinstance2
import HandS.Exc
import HandS.Star
import HandS.CallLocal
import PyProof.ReprRoads
import HandS.RaiseMore
import HandS.Walk
import HandS.ExcIs
import PySem.Challenge.RW_wishedwires_k03_rules_and_errors
-- OwnOps
section
set_option Elab.async false
set_option linter.all false
set_option maxRecDepth 100000
/-! Operators of own classes, as rules over values: by this text's own hand. -/
namespace OwnOps
open PySem L2

section
variable {X : Cx} {pins : List (Addr × Obj)} {σ : St} {H : Hp} {s : Shared} {a b C dx dy g : Addr} {fs fs' : List (Str × V)}

theorem inst_at (I : Inv X pins σ H s) (e : H a = some (.ins C dx fs)) : ∃ od, PySem.W.InstAt s.heap a (PySem.W.instObj C dx) C (some od) := by
  obtain ⟨mA, O, _⟩ := ins_get I.hok e
  obtain ⟨od, J, _⟩ := O.look
  exact ⟨od, J⟩

theorem back_of {Q : Value → Shared → Prop} {s' : Shared} {v : V} {u : Value} (r : RelV v u) (q : Q u s') : PySem.W.CmpBack Q u s' := by
  cases v with
  | non => cases (show u = Value.none from r); exact q
  | bl b => cases (show u = Value.bool b from r); exact q
  | int i => obtain ⟨t, rfl⟩ := (show ∃ t, u = Value.int i t from r); exact q
  | str y => obtain ⟨t, rfl⟩ := (show ∃ t, u = Value.str y t from r); exact q
  | byt y => obtain ⟨t, rfl⟩ := (show ∃ t, u = Value.bytes y t from r); exact q
  | flt y => obtain ⟨t, rfl⟩ := (show ∃ t, u = Value.float y t from r); exact q
  | ref c => cases (show u = Value.ref c from r); exact q
  | ty n => cases (show u = Value.type n from r); exact q

variable {CX : CXT} {k : Nat} {fd : FuncData} {ps : List Str} {sp : Sp} {E : XK} {A : Around}

/-- a def's call wherever the builtins around it stand -/
theorem run_any {Q : VK} {us : List Value} {vs : List V} (F : FnOk X.prog X.w X.K X.mg X.base CX k g fd ps sp) (hr : Room k A) (e0 : Env0 X.prog X.w X.K X.mg X.base A X.stack s H)
    (hb : Binds X.K fd ps []) (hx : Passes CX X E) (I : Inv X pins σ H s) (r : Vals vs us) (h : sp vs H Q E) :
    wpAny (model X.prog X.w) A (call (.ref g) us) (EP X pins σ Q) X.xe s := by
  have hl : (us ++ []).length = ps.length := by rw [List.append_nil, ← r.length]; exact F.len _ _ _ _ h
  have hb' := hb s us I.kIn hl
  rw [List.append_nil] at hb'
  refine wpAny_call (codeAny_mono (F.run A X.stack s H ⟨us, []⟩ us vs Q E hr e0 hb' r h) fun res s' hq => ?_)
  cases res with
  | error e => exact hx pins σ H s e s' I hq
  | ok fl =>
    cases fl with
    | ret u => exact I.after hq
    | next => exact False.elim hq
    | brk => exact False.elim hq
    | cont => exact False.elim hq
end

/-- what an own class says of a two-place operator: its def, of this class -/
structure Op2 (K : PySem.W.Frag) (C g : Addr) (nm : String) : Prop where
  at_ : PySem.W.findIn K (.ref C) (PySem.dunder nm) = some (some (.ref g))
  rf : ∃ rc, PySem.W.findIn K (.ref C) (PySem.dunderR nm) = some rc ∧ (rc = none ∨ ∃ q : Addr, rc = some (.ref q))
  fn : PySem.W.isFn K (.ref g) = true
  first : PySem.W.selfFirst K C = true
/-- what is known of a built-in type beside the class at C, for the operator -/
structure Ty2 (K : PySem.W.Frag) (C : Addr) (nm T : String) : Prop where
  lf : ∃ fo, PySem.W.findIn K (.type T) (PySem.dunder nm) = some fo
  rt : ∃ ro, PySem.W.findIn K (.type T) (PySem.dunderR nm) = some ro
  sub : PySem.W.subIn K (.type T) (.ref C) = some false

/-- the reading of x op y by x's own def -/
def rOwn2 (C : Addr) (R : V → Hp → Prop) (sp : Sp) (E : XK) : R2 := fun x y H Q => ∃ a dx fs, x = .ref a ∧ H a = some (.ins C dx fs) ∧ R y H ∧ sp [x, y] H Q E
def RIns (C : Addr) : V → Hp → Prop := fun y H => ∃ b dy fs, y = .ref b ∧ H b = some (.ins C dy fs)
def RInt : V → Hp → Prop := fun y _ => ∃ i, y = .int i

section
variable {X : Cx} {CX : CXT} {C g : Addr} {k : Nat} {fd : FuncData} {ps : List Str} {sp : Sp} {E : XK} {op : Operator} {T : String}

/-- x op y, both of the class at C -/
theorem op_ins (O : Op2 X.K C g op.info.2) (F : FnOk X.prog X.w X.K X.mg X.base CX k g fd ps sp) (hr : Room k X.A) (hb : Binds X.K fd ps []) (hx : Passes CX X E) :
    OpR X (binaryOp op) (rOwn2 C (RIns C) sp E) := by
  intro pins s σ H x y v u Q I rx ry h
  obtain ⟨a, dx, fs, rfl, ha, ⟨b, dy, fs', rfl, hb'⟩, q⟩ := h
  cases (show v = Value.ref a from rx)
  cases (show u = Value.ref b from ry)
  obtain ⟨od, J⟩ := inst_at I ha
  obtain ⟨od', J'⟩ := inst_at I hb'
  obtain ⟨m, hF⟩ := I.fr
  refine PySem.W.binop_K hF I.ok.mod.kin J J'.type O.first O.at_ O.fn ?_
  refine wpAny_mono (run_any (us := [.ref a, .ref b]) (vs := [.ref a, .ref b]) F hr I.env0 hb hx I (.cons rfl (.cons rfl .nil)) q) (fun w s' z => ?_) fun _ _ e => e
  obtain ⟨z', H', I', rz, qz⟩ := id z
  exact back_of rz z

/-- x op y, y of a built-in type that tells its type at once -/
theorem op_val (O : Op2 X.K C g op.info.2) (Y : Ty2 X.K C op.info.2 T) (F : FnOk X.prog X.w X.K X.mg X.base CX k g fd ps sp) (hr : Room k X.A) (hb : Binds X.K fd ps []) (hx : Passes CX X E)
    {R : V → Hp → Prop} (hR : ∀ {y : V} {H : Hp} {u : Value}, R y H → RelV y u → typeOf u = pure (.type T)) :
    OpR X (binaryOp op) (rOwn2 C R sp E) := by
  intro pins s σ H x y v u Q I rx ry h
  obtain ⟨a, dx, fs, rfl, ha, hy, q⟩ := h
  cases (show v = Value.ref a from rx)
  obtain ⟨od, J⟩ := inst_at I ha
  obtain ⟨m, hF⟩ := I.fr
  obtain ⟨fo, hfo⟩ := Y.lf
  obtain ⟨ro, hro⟩ := Y.rt
  obtain ⟨rc, hrc, hp⟩ := O.rf
  refine PySem.W.ksp_binT hF I.ok.mod.kin J (hR hy ry) O.first O.at_ O.fn hrc hp hfo hro Y.sub ?_
  refine wpAny_mono (run_any (us := [.ref a, u]) (vs := [.ref a, y]) F hr I.env0 hb hx I (.cons rfl (.cons ry .nil)) q) (fun w s' z => ?_) fun _ _ e => e
  obtain ⟨z', H', I', rz, qz⟩ := id z
  exact back_of rz z
end
end OwnOps
end

-- OwnOps2
section
set_option Elab.async false
set_option linter.all false
set_option maxRecDepth 100000
namespace OwnOps
open PySem L2

section
variable {prog : Program} {w : World} {A : Around} {E : Value → Shared → Prop} {s : Shared} {K : PySem.W.Frag} {y C f g : Addr} {oy : Obj} {od : Option Obj} {u : Value} {T : String}

/-- u op y by y's reflected def: u's own type has no slot for it, or declines -/
theorem refl_K {op : Operator} {left : Bool} {Q : Value → Shared → Prop} (Y : K.In s.heap) (I : PySem.W.InstAt s.heap y oy C od)
    (ht : PySem.W.Looks (model prog w) s.heap (typeOf u) (.type T)) (hc : PySem.W.selfFirst K C = true)
    (hs : PySem.W.findIn K (.ref C) (PySem.dunder op.info.2) = some (some (.ref f))) (hr : PySem.W.findIn K (.ref C) (PySem.dunderR op.info.2) = some (some (.ref g)))
    (hg : PySem.W.isFn K (.ref g) = true) (hl : PySem.W.Looks (model prog w) s.heap (fillsNumberSlot (.type T) op.info.2) left)
    (hsub : PySem.W.subIn K (.ref C) (.type T) = some false)
    (hd : left = true → ∀ {Q : Option Value → Shared → Prop}, Q none s → wpAny (model prog w) A (tryMethod u (PySem.dunder op.info.2) (.ref y)) Q E s)
    (h : wpAny (model prog w) A (call (.ref g) [.ref y, u]) (PySem.W.CmpBack Q) E s) : wpAny (model prog w) A (binaryOp op u (.ref y)) Q E s := by
  obtain ⟨cd, rest, hcd, hm⟩ := PySem.W.ksp_first hc
  rcases hi : op.info with ⟨sym, nm⟩
  rw [hi] at hs hr hl hd
  dsimp only at hs hr hl hd
  have one := PySem.W.ksp_try Y I hr hg h
  obtain ⟨hh, gg, d, tt, os⟩ := s
  have L1 : PySem.W.Looks (model prog w) hh (typeOf (.ref y)) (.ref C) := I.type
  have L3 : PySem.W.Looks (model prog w) hh (fillsNumberSlot (.ref C) nm) true := PySem.W.fills_K Y hcd hm hs
  have L5 : PySem.W.Looks (model prog w) hh (isSubtype (.ref C) (.type T)) false := PySem.W.looks_subIn Y hsub
  have L7 : PySem.W.Looks (model prog w) hh (numberSlotInPython (.type T) nm) false := PySem.W.Looks.of_pure rfl
  have hne : (Value.type T == Value.ref C) = false := Bool.eq_false_iff.mpr fun q => by cases beq_iff_eq.mp q
  simp only [binaryOp, hi]
  refine wpAny_holding (wpAny_bind ?_)
  unfold binaryOp1
  refine wpAny_bind (ht.at (wpAny_bind (L1.at (wpAny_bind (hl.at ?_)))))
  simp only [hne, Bool.false_eq_true, if_false]
  cases left with
  | false =>
    ksp_lk
    refine wpAny_mono one (fun r s' hr' => ?_) fun _ _ e => e
    obtain ⟨v, rfl, hq⟩ := hr'
    ksp_lk
    exact hq
  | true =>
    ksp_lk
    refine hd rfl ?_
    ksp_lk
    refine wpAny_mono one (fun r s' hr' => ?_) fun _ _ e => e
    obtain ⟨v, rfl, hq⟩ := hr'
    ksp_lk
    exact hq
end
end OwnOps
end

-- OwnOps3
section
set_option Elab.async false
set_option linter.all false
set_option maxRecDepth 100000
namespace OwnOps
open PySem L2

section
variable {prog : Program} {w : World} {A : Around} {E : Value → Shared → Prop} {s : Shared} {K : PySem.W.Frag} {y C f g : Addr} {oy : Obj} {od : Option Obj} {n : Int} {t : Tok}
open MeetsSeq MeetsSeq2 MeetsSeq3 SeqRoads2 AutoSeq1
theorem int_call_add {Q : Value → Shared → Prop} (hy : s.heap.get? y = some oy) (hp : oy.data = .plain) (h : Q .notImplemented s) :
    wpAny (model prog w) A (call (.builtin "int.__add__") [.int n t, .ref y]) Q E s := by
  refine GQ.call_here F.slot_int_add (typeIs_int s n t) F.entry_int_add (F.args_int_add_2 _ _) ?_
  obtain ⟨c, dd, dt, sl⟩ := oy
  cases hp
  obtain ⟨hh, gg, d, tt, os⟩ := s
  wp_walk using wpAny_loadPart' hy
  exact h
theorem int_call_sub {Q : Value → Shared → Prop} (hy : s.heap.get? y = some oy) (hp : oy.data = .plain) (h : Q .notImplemented s) :
    wpAny (model prog w) A (call (.builtin "int.__sub__") [.int n t, .ref y]) Q E s := by
  refine GQ.call_here F.slot_int_sub (typeIs_int s n t) F.entry_int_sub (F.args_int_sub_2 _ _) ?_
  obtain ⟨c, dd, dt, sl⟩ := oy
  cases hp
  obtain ⟨hh, gg, d, tt, os⟩ := s
  wp_walk using wpAny_loadPart' hy
  exact h
theorem int_call_mul {Q : Value → Shared → Prop} (hy : s.heap.get? y = some oy) (hp : oy.data = .plain) (h : Q .notImplemented s) :
    wpAny (model prog w) A (call (.builtin "int.__mul__") [.int n t, .ref y]) Q E s := by
  refine GQ.call_here F.slot_int_mul (typeIs_int s n t) F.entry_int_mul (F.args_int_mul_2 _ _) ?_
  obtain ⟨c, dd, dt, sl⟩ := oy
  cases hp
  obtain ⟨hh, gg, d, tt, os⟩ := s
  wp_walk using wpAny_loadPart' hy
  exact h
theorem bool_call_mul {k : Bool} {Q : Value → Shared → Prop} (hy : s.heap.get? y = some oy) (hp : oy.data = .plain) (h : Q .notImplemented s) :
    wpAny (model prog w) A (call (.builtin "int.__mul__") [.bool k, .ref y]) Q E s := by
  refine GQ.call_here F.slot_bool_mul (typeIs_bool s k) F.entry_int_mul (F.args_int_mul_2 _ _) ?_
  obtain ⟨c, dd, dt, sl⟩ := oy
  cases hp
  obtain ⟨hh, gg, d, tt, os⟩ := s
  wp_walk using wpAny_loadPart' hy
  exact h
/-- how an int meets an instance of no built-in kind -/
theorem int_cmp_eq {Q : Value → Shared → Prop} (hy : s.heap.get? y = some oy) (hp : oy.data = .plain) (h : Q .notImplemented s) :
    wpAny (model prog w) A (call (.builtin "int.__eq__") [.int n t, .ref y]) Q E s := by
  refine GQ.call_here F.slot_int_eq (typeIs_int s n t) F.entry_int_eq (F.args_int_eq_2 _ _) ?_
  obtain ⟨c, dd, dt, sl⟩ := oy
  cases hp
  obtain ⟨hh, gg, d, tt, os⟩ := s
  wp_walk using wpAny_loadPart' hy
  exact h
theorem int_cmp_ne {Q : Value → Shared → Prop} (hy : s.heap.get? y = some oy) (hp : oy.data = .plain) (h : Q .notImplemented s) :
    wpAny (model prog w) A (call (.builtin "int.__ne__") [.int n t, .ref y]) Q E s := by
  refine GQ.call_here F.slot_int_ne (typeIs_int s n t) F.entry_int_ne (F.args_int_ne_2 _ _) ?_
  obtain ⟨c, dd, dt, sl⟩ := oy
  cases hp
  obtain ⟨hh, gg, d, tt, os⟩ := s
  wp_walk using wpAny_loadPart' hy
  exact h
theorem int_cmp_lt {Q : Value → Shared → Prop} (hy : s.heap.get? y = some oy) (hp : oy.data = .plain) (h : Q .notImplemented s) :
    wpAny (model prog w) A (call (.builtin "int.__lt__") [.int n t, .ref y]) Q E s := by
  refine GQ.call_here F.slot_int_lt (typeIs_int s n t) F.entry_int_lt (F.args_int_lt_2 _ _) ?_
  obtain ⟨c, dd, dt, sl⟩ := oy
  cases hp
  obtain ⟨hh, gg, d, tt, os⟩ := s
  wp_walk using wpAny_loadPart' hy
  exact h
theorem int_cmp_le {Q : Value → Shared → Prop} (hy : s.heap.get? y = some oy) (hp : oy.data = .plain) (h : Q .notImplemented s) :
    wpAny (model prog w) A (call (.builtin "int.__le__") [.int n t, .ref y]) Q E s := by
  refine GQ.call_here F.slot_int_le (typeIs_int s n t) F.entry_int_le (F.args_int_le_2 _ _) ?_
  obtain ⟨c, dd, dt, sl⟩ := oy
  cases hp
  obtain ⟨hh, gg, d, tt, os⟩ := s
  wp_walk using wpAny_loadPart' hy
  exact h
theorem int_cmp_gt {Q : Value → Shared → Prop} (hy : s.heap.get? y = some oy) (hp : oy.data = .plain) (h : Q .notImplemented s) :
    wpAny (model prog w) A (call (.builtin "int.__gt__") [.int n t, .ref y]) Q E s := by
  refine GQ.call_here F.slot_int_gt (typeIs_int s n t) F.entry_int_gt (F.args_int_gt_2 _ _) ?_
  obtain ⟨c, dd, dt, sl⟩ := oy
  cases hp
  obtain ⟨hh, gg, d, tt, os⟩ := s
  wp_walk using wpAny_loadPart' hy
  exact h
theorem int_cmp_ge {Q : Value → Shared → Prop} (hy : s.heap.get? y = some oy) (hp : oy.data = .plain) (h : Q .notImplemented s) :
    wpAny (model prog w) A (call (.builtin "int.__ge__") [.int n t, .ref y]) Q E s := by
  refine GQ.call_here F.slot_int_ge (typeIs_int s n t) F.entry_int_ge (F.args_int_ge_2 _ _) ?_
  obtain ⟨c, dd, dt, sl⟩ := oy
  cases hp
  obtain ⟨hh, gg, d, tt, os⟩ := s
  wp_walk using wpAny_loadPart' hy
  exact h
end
/-- int op instance, declined -/
def IntDec (op : CmpOp) : Prop := ∀ {prog : Program} {w : World} {A : Around} {E : Value → Shared → Prop} {s : Shared} {y : Addr} {oy : Obj} {n : Int} {t : Tok} {Q : Option Value → Shared → Prop}, s.heap.get? y = some oy → oy.data = .plain → Q none s →
  wpAny (model prog w) A (tryCompare (.int n t) (cmpInfo op).2.1 (.ref y)) Q E s
theorem dec_eq : IntDec .Eq := fun hy hp h => wpAny_tryCompare_declines (typeIs_int _ _ _) F.slot_int_eq (int_cmp_eq hy hp ⟨rfl, h⟩)
theorem dec_ne : IntDec .NotEq := fun hy hp h => wpAny_tryCompare_declines (typeIs_int _ _ _) F.slot_int_ne (int_cmp_ne hy hp ⟨rfl, h⟩)
theorem dec_lt : IntDec .Lt := fun hy hp h => wpAny_tryCompare_declines (typeIs_int _ _ _) F.slot_int_lt (int_cmp_lt hy hp ⟨rfl, h⟩)
theorem dec_le : IntDec .LtE := fun hy hp h => wpAny_tryCompare_declines (typeIs_int _ _ _) F.slot_int_le (int_cmp_le hy hp ⟨rfl, h⟩)
theorem dec_gt : IntDec .Gt := fun hy hp h => wpAny_tryCompare_declines (typeIs_int _ _ _) F.slot_int_gt (int_cmp_gt hy hp ⟨rfl, h⟩)
theorem dec_ge : IntDec .GtE := fun hy hp h => wpAny_tryCompare_declines (typeIs_int _ _ _) F.slot_int_ge (int_cmp_ge hy hp ⟨rfl, h⟩)
def IntDecB (op : Operator) : Prop := ∀ {prog : Program} {w : World} {A : Around} {E : Value → Shared → Prop} {s : Shared} {y : Addr} {oy : Obj} {n : Int} {t : Tok} {Q : Option Value → Shared → Prop}, s.heap.get? y = some oy → oy.data = .plain → Q none s →
  wpAny (model prog w) A (tryMethod (.int n t) (PySem.dunder op.info.2) (.ref y)) Q E s
theorem dec_add : IntDecB .Add := by
  intro prog w A E s y oy n t Q hy hp h
  show wpAny (model prog w) A (tryMethod (.int n t) (PySem.dunder "add") (.ref y)) Q E s
  have hc : wpAny (model prog w) A (call (.builtin "int.__add__") [.int n t, .ref y]) (fun v s' => v = .notImplemented ∧ Q none s') E s := int_call_add hy hp ⟨rfl, h⟩
  exact wpAny_tryMethod_declines (name := PySem.dunder "add") (id := "int.__add__") (typeIs_int s n t) F.slot_int_add hc
theorem dec_sub : IntDecB .Sub := by
  intro prog w A E s y oy n t Q hy hp h
  show wpAny (model prog w) A (tryMethod (.int n t) (PySem.dunder "sub") (.ref y)) Q E s
  have hc : wpAny (model prog w) A (call (.builtin "int.__sub__") [.int n t, .ref y]) (fun v s' => v = .notImplemented ∧ Q none s') E s := int_call_sub hy hp ⟨rfl, h⟩
  exact wpAny_tryMethod_declines (name := PySem.dunder "sub") (id := "int.__sub__") (typeIs_int s n t) F.slot_int_sub hc
theorem dec_mul : IntDecB .Mult := by
  intro prog w A E s y oy n t Q hy hp h
  show wpAny (model prog w) A (tryMethod (.int n t) (PySem.dunder "mul") (.ref y)) Q E s
  have hc : wpAny (model prog w) A (call (.builtin "int.__mul__") [.int n t, .ref y]) (fun v s' => v = .notImplemented ∧ Q none s') E s := int_call_mul hy hp ⟨rfl, h⟩
  exact wpAny_tryMethod_declines (name := PySem.dunder "mul") (id := "int.__mul__") (typeIs_int s n t) F.slot_int_mul hc

section
variable {prog : Program} {w : World} {A : Around} {E : Value → Shared → Prop} {s : Shared} {K : PySem.W.Frag} {y C f g : Addr} {oy : Obj} {od : Option Obj} {n : Int} {t : Tok}
/-- n op y by y's def for the comparison turned round -/
theorem cmp_refl {op : CmpOp} {Q : Value → Shared → Prop} (hu : A.units < cLine) (Y : K.In s.heap) (I : PySem.W.InstAt s.heap y oy C od) (hp : oy.data = .plain) (dec : IntDec op)
    (hsub : PySem.W.subIn K (.ref C) (.type "int") = some false) (hr : PySem.W.findIn K (.ref C) (cmpInfo op).2.2 = some (some (.ref g))) (hg : PySem.W.isFn K (.ref g) = true)
    (h : wpAny (model prog w) A (call (.ref g) [.ref y, .int n t]) (PySem.W.CmpBack Q) E s) : wpAny (model prog w) A (richCompare op (.int n t) (.ref y)) Q E s := by
  have one : wpAny (model prog w) A (tryCompare (.ref y) (cmpInfo op).2.2 (.int n t)) (fun r s' => ∃ v, r = some v ∧ Q v s') E s := by
    unfold tryCompare
    refine wpAny_bind (PySem.W.ifBound_K Y I hr hg (wpAny_mono h (fun v s' hv => ?_) fun _ _ e => e))
    cases v <;> first | exact hv.elim | exact wpAny_pure ⟨_, rfl, hv⟩
  have h1 : oneThing? op (.int n t) (.ref y) = none := rfl
  have hne : (Value.type "int" != Value.ref C) = true := rfl
  unfold richCompare
  simp only [h1]
  refine wpAny_holding (wpAny_bind (wpAny_cRoomFor hu ?_))
  refine wpAny_bind ((PySem.W.Looks.of_pure rfl : PySem.W.Looks (model prog w) s.heap (typeOf (.int n t)) (.type "int")).here (wpAny_bind (I.type.here ?_)))
  rw [hne]
  simp only [if_true]
  refine wpAny_bind ((PySem.W.looks_subIn Y hsub).here ?_)
  simp only [Bool.false_eq_true, if_false]
  refine wpAny_bind (dec I.at_ hp ?_)
  simp only [Bool.not_false, if_true]
  refine wpAny_bind (wpAny_mono one (fun r s' z => ?_) fun _ _ e => e)
  obtain ⟨v, rfl, hq⟩ := z
  exact wpAny_pure hq
end
end OwnOps
end

-- OwnOps4
section
set_option Elab.async false
set_option linter.all false
set_option maxRecDepth 100000
namespace OwnOps
open PySem L2

section
variable {X : Cx} {CX : CXT} {C g f : Addr} {k : Nat} {fd : FuncData} {ps : List Str} {sp : Sp} {E : XK} {op : Operator} {T : String}

/-- the reading of n op y by y's def -/
def rRef2 (C : Addr) (sp : Sp) (E : XK) : R2 := fun x y H Q => ∃ (i : Int) (b dy : Addr) (fs : List (Str × V)), x = .int i ∧ y = .ref b ∧ H b = some (.ins C dy fs) ∧ sp [y, x] H Q E

theorem op_refl {nm : String} (hnm : op.info.2 = nm) (O : Op2 X.K C f nm) (hrf : PySem.W.findIn X.K (.ref C) (PySem.dunderR nm) = some (some (.ref g))) (hg : PySem.W.isFn X.K (.ref g) = true) (hl : fillsNumberSlot (.type "int") nm = pure true)
    (hsub : PySem.W.subIn X.K (.ref C) (.type "int") = some false) (dec : IntDecB op)
    (F : FnOk X.prog X.w X.K X.mg X.base CX k g fd ps sp) (hr : Room k X.A) (hb : Binds X.K fd ps []) (hx : Passes CX X E) : OpR X (binaryOp op) (rRef2 C sp E) := by
  subst hnm
  intro pins s σ H x y v u Q I rx ry h
  obtain ⟨i, b, dy, fs, rfl, rfl, hb', q⟩ := h
  obtain ⟨t, rfl⟩ := (show ∃ t, v = Value.int i t from rx)
  cases (show u = Value.ref b from ry)
  obtain ⟨od, J⟩ := inst_at I hb'
  refine refl_K I.kIn J (PySem.W.Looks.of_pure rfl) O.first O.at_ hrf hg (PySem.W.Looks.of_pure hl) hsub (fun _ Q' q' => dec J.at_ rfl q') ?_
  refine wpAny_mono (run_any (us := [.ref b, .int i t]) (vs := [.ref b, .int i]) F hr I.env0 hb hx I (.cons rfl (.cons ⟨t, rfl⟩ .nil)) q) (fun w s' z => ?_) fun _ _ e => e
  obtain ⟨z', H', I', rz, qz⟩ := id z
  exact back_of rz z

/-- x op y (a comparison), x of the class at C -/
theorem cmp_own {op : CmpOp} (hop : ∀ a b, compareOp op a b = richCompare op a b) (hs : PySem.W.findIn X.K (.ref C) (cmpInfo op).2.1 = some (some (.ref g))) (hf : PySem.W.isFn X.K (.ref g) = true)
    (F : FnOk X.prog X.w X.K X.mg X.base CX k g fd ps sp) (hr : Room k X.A) (hb : Binds X.K fd ps []) (hx : Passes CX X E)
    {R : V → Hp → Prop} (hR : ∀ {y : V} {H : Hp} {u : Value} {pins : List (Addr × Obj)} {σ : St} {s : Shared}, L2.Inv X pins σ H s → R y H → RelV y u → ∃ tb, PySem.W.Looks (model X.prog X.w) s.heap (typeOf u) tb ∧ PySem.W.notFirst X.K C tb = true) :
    OpR X (compareOp op) (rOwn2 C R sp E) := by
  intro pins s σ H x y v u Q I rx ry h
  obtain ⟨a, dx, fs, rfl, ha, hy, q⟩ := h
  cases (show v = Value.ref a from rx)
  obtain ⟨od, J⟩ := inst_at I ha
  obtain ⟨m, hF⟩ := I.fr
  obtain ⟨tb, ht, hn⟩ := hR I hy ry
  rw [hop]
  refine PySem.W.cmp_K (op := op) hr.units0 hF I.ok.mod.kin J ht hn hs hf ?_
  refine wpAny_mono (run_any (us := [.ref a, u]) (vs := [.ref a, y]) F hr I.env0 hb hx I (.cons rfl (.cons ry .nil)) q) (fun w s' z => ?_) fun _ _ e => e
  obtain ⟨z', H', I', rz, qz⟩ := id z
  exact back_of rz z
theorem looks_ins (hsame : PySem.W.notFirst X.K C (.ref C) = true) {y : V} {H : Hp} {u : Value} {pins : List (Addr × Obj)} {σ : St} {s : Shared} (I : L2.Inv X pins σ H s) (h : RIns C y H) (ry : RelV y u) :
    ∃ tb, PySem.W.Looks (model X.prog X.w) s.heap (typeOf u) tb ∧ PySem.W.notFirst X.K C tb = true := by
  obtain ⟨b, dy, fs, rfl, hb⟩ := h
  cases (show u = Value.ref b from ry)
  obtain ⟨od, J⟩ := inst_at I hb
  exact ⟨_, J.type, hsame⟩
theorem looks_int (hi : PySem.W.notFirst X.K C (.type "int") = true) {y : V} {H : Hp} {u : Value} {pins : List (Addr × Obj)} {σ : St} {s : Shared} (I : L2.Inv X pins σ H s) (h : RInt y H) (ry : RelV y u) :
    ∃ tb, PySem.W.Looks (model X.prog X.w) s.heap (typeOf u) tb ∧ PySem.W.notFirst X.K C tb = true := by
  obtain ⟨i, rfl⟩ := h
  obtain ⟨t, rfl⟩ := (show ∃ t, u = Value.int i t from ry)
  exact ⟨_, PySem.W.Looks.of_pure rfl, hi⟩

theorem cmp_refl2 {op : CmpOp} (hop : ∀ a b, compareOp op a b = richCompare op a b) (dec : IntDec op) (hs : PySem.W.findIn X.K (.ref C) (cmpInfo op).2.2 = some (some (.ref g))) (hf : PySem.W.isFn X.K (.ref g) = true)
    (hsub : PySem.W.subIn X.K (.ref C) (.type "int") = some false)
    (F : FnOk X.prog X.w X.K X.mg X.base CX k g fd ps sp) (hr : Room k X.A) (hb : Binds X.K fd ps []) (hx : Passes CX X E) : OpR X (compareOp op) (rRef2 C sp E) := by
  intro pins s σ H x y v u Q I rx ry h
  obtain ⟨i, b, dy, fs, rfl, rfl, hb', q⟩ := h
  obtain ⟨t, rfl⟩ := (show ∃ t, v = Value.int i t from rx)
  cases (show u = Value.ref b from ry)
  obtain ⟨od, J⟩ := inst_at I hb'
  rw [hop]
  refine cmp_refl hr.units0 I.kIn J rfl dec hsub hs hf ?_
  refine wpAny_mono (run_any (us := [.ref b, .int i t]) (vs := [.ref b, .int i]) F hr I.env0 hb hx I (.cons rfl (.cons ⟨t, rfl⟩ .nil)) q) (fun w s' z => ?_) fun _ _ e => e
  obtain ⟨z', H', I', rz, qz⟩ := id z
  exact back_of rz z

/-- one-place: what x's own def hands back -/
def rOwn1 (C : Addr) (sp : Sp) (E : XK) (R : V → Prop) : V → Hp → VK → Prop := fun x H Q => ∃ a dx fs, x = .ref a ∧ H a = some (.ins C dx fs) ∧ sp [x] H (fun z H' => R z ∧ Q z H') E
theorem neg_own (hs : PySem.W.findIn X.K (.ref C) "__neg__" = some (some (.ref g))) (hf : PySem.W.isFn X.K (.ref g) = true)
    (F : FnOk X.prog X.w X.K X.mg X.base CX k g fd ps sp) (hr : Room k X.A) (hb : Binds X.K fd ps []) (hx : Passes CX X E) : UnR X (unaryOp .USub) (rOwn1 C sp E fun _ => True) := by
  intro pins s σ H x v Q I rx h
  obtain ⟨a, dx, fs, rfl, ha, q⟩ := h
  cases (show v = Value.ref a from rx)
  obtain ⟨od, J⟩ := inst_at I ha
  obtain ⟨m, hF⟩ := I.fr
  refine PySem.W.ksp_neg hF I.ok.mod.kin J hs hf ?_
  refine wpAny_mono (run_any (us := [.ref a]) (vs := [.ref a]) F hr I.env0 hb hx I (.cons rfl .nil) q) (fun w s' z => ?_) fun _ _ e => e
  obtain ⟨z', H', I', rz, _, qz⟩ := z
  exact ⟨z', H', I', rz, qz⟩

open Builtin in
theorem abs_K {prog : Program} {w : World} {A : Around} {E : Value → Shared → Prop} {s : Shared} {K : PySem.W.Frag} {x C f : Addr} {ox : Obj} {od : Option Obj} {Q : Value → Shared → Prop} (Y : K.In s.heap) (I : PySem.W.InstAt s.heap x ox C od)
    (hs : PySem.W.findIn K (.ref C) "__abs__" = some (some (.ref f))) (hf : PySem.W.isFn K (.ref f) = true)
    (h : wpAny (model prog w) A.in1 (call (.ref f) [.ref x]) Q E s) : wpAny (model prog w) A (call (.builtin "abs") [.ref x]) Q E s := by
  refine Calls.call_function_entry PyProof.Rows.kind_abs PyProof.Rows.plain_abs PyProof.Rows.entry_abs (PyProof.Rows.args_abs _) ?_
  unfold Builtin.«abs»
  refine wpAny_bind (m := oneArg "abs" _) (wpAny_pure ?_)
  refine wpAny_bind (m := callSpecial? (.ref x) (Str.ofString "__abs__")) (PySem.W.special_fn Y I hs (beq_iff_eq.mp hf) (wpAny_mono h (fun r s' z => ?_) fun _ _ e => e))
  exact wpAny_pure ⟨_, rfl, z⟩

theorem room2 {k : Nat} {A : Around} (r : Room (k + 2) A) : Room k A.in1.in1 := (Room.in1 (r.in1))

theorem call_absO (hs : PySem.W.findIn X.K (.ref C) "__abs__" = some (some (.ref g))) (hf : PySem.W.isFn X.K (.ref g) = true)
    (F : FnOk X.prog X.w X.K X.mg X.base CX k g fd ps sp) (hr : Room (k + 1) X.A) (hb : Binds X.K fd ps []) (hx : Passes CX X E) : CallR X (.builtin "abs") (fun xs H Q => ∃ x, xs = [x] ∧ rOwn1 C sp E (fun _ => True) x H Q) := by
  intro pins s σ H xs us Q I rx h
  obtain ⟨x, rfl, a, dx, fs, rfl, ha, q⟩ := h
  obtain ⟨u, rfl, ru⟩ := vals1 rx
  cases (show u = Value.ref a from ru)
  obtain ⟨od, J⟩ := inst_at I ha
  refine abs_K I.kIn J hs hf ?_
  refine wpAny_mono (run_any (us := [.ref a]) (vs := [.ref a]) F hr.in1 I.env0.in1 hb hx I (.cons rfl .nil) q) (fun w s' z => ?_) fun _ _ e => e
  obtain ⟨z', H', I', rz, _, qz⟩ := z
  exact ⟨z', H', I', rz, qz⟩

def IsStr : V → Prop := fun z => ∃ y, z = .str y
theorem strback {Q : Value → Shared → Prop} {z : V} {u : Value} {s' : Shared} (hz : IsStr z) (r : RelV z u) (q : Q u s') : PySem.W.StrBack Q u s' := by
  obtain ⟨y, rfl⟩ := hz
  obtain ⟨t, rfl⟩ := (show ∃ t, u = Value.str y t from r)
  exact q
theorem call_reprO (hs : PySem.W.findIn X.K (.ref C) "__repr__" = some (some (.ref g))) (hf : PySem.W.isFn X.K (.ref g) = true)
    (F : FnOk X.prog X.w X.K X.mg X.base CX k g fd ps sp) (hr : Room (k + 1) X.A) (hb : Binds X.K fd ps []) (hx : Passes CX X E) : CallR X (.builtin "repr") (fun xs H Q => ∃ x, xs = [x] ∧ rOwn1 C sp E IsStr x H Q) := by
  intro pins s σ H xs us Q I rx h
  obtain ⟨x, rfl, a, dx, fs, rfl, ha, q⟩ := h
  obtain ⟨u, rfl, ru⟩ := vals1 rx
  cases (show u = Value.ref a from ru)
  obtain ⟨od, J⟩ := inst_at I ha
  obtain ⟨m, hF⟩ := I.fr
  refine PySem.W.repr_K hr.in1.units0 hF I.ok.mod.kin J hs hf ?_
  refine wpAny_mono (run_any (us := [.ref a]) (vs := [.ref a]) F hr.in1 I.env0.in1 hb hx I (.cons rfl .nil) q) (fun w s' z => ?_) fun _ _ e => e
  obtain ⟨z', H', I', rz, hz, qz⟩ := z
  exact strback hz rz ⟨z', H', I', rz, qz⟩
theorem call_strO (hs : PySem.W.findIn X.K (.ref C) "__str__" = some (some (.ref g))) (hf : PySem.W.isFn X.K (.ref g) = true)
    (F : FnOk X.prog X.w X.K X.mg X.base CX k g fd ps sp) (hr : Room (k + 2) X.A) (hb : Binds X.K fd ps []) (hx : Passes CX X E) : CallR X (.type "str") (fun xs H Q => ∃ x, xs = [x] ∧ rOwn1 C sp E IsStr x H Q) := by
  intro pins s σ H xs us Q I rx h
  obtain ⟨x, rfl, a, dx, fs, rfl, ha, q⟩ := h
  obtain ⟨u, rfl, ru⟩ := vals1 rx
  cases (show u = Value.ref a from ru)
  obtain ⟨od, J⟩ := inst_at I ha
  refine PySem.W.kso_call (room2 hr).units0 I.kIn J hs hf ?_
  refine wpAny_mono (run_any (us := [.ref a]) (vs := [.ref a]) F (room2 hr) I.env0.in1.in1 hb hx I (.cons rfl .nil) q) (fun w s' z => ?_) fun _ _ e => e
  obtain ⟨z', H', I', rz, hz, qz⟩ := z
  exact strback hz rz ⟨z', H', I', rz, qz⟩

open Builtin in
theorem bool_K {prog : Program} {w : World} {A : Around} {E : Value → Shared → Prop} {s : Shared} {K : PySem.W.Frag} {x C f : Addr} {ox : Obj} {od : Option Obj} {Q : Value → Shared → Prop} {m : Str → Option Value} {h₀ : Heap} {L : Addr} (F : PyProof.Rows.Fr h₀ L s.heap m) (Y : K.In h₀) (I : PySem.W.InstAt s.heap x ox C od)
    (hs : PySem.W.findIn K (.ref C) "__bool__" = some (some (.ref f))) (hf : PySem.W.isFn K (.ref f) = true)
    (h : wpAny (model prog w) A.in1.in1 (call (.ref f) [.ref x]) (PySem.W.BoolBack fun b s' => Q (.bool b) s') E s) : wpAny (model prog w) A (call (.type "bool") [.ref x]) Q E s := by
  refine callType_codes (T := "bool") (Bi := Builtin.«object.__init__») (Q₁ := fun r s₁ => ∃ y, r = .bool y ∧ Q r s₁) PySem.F.called_bool (PySem.F.typeCall_bool_1 _) PySem.F.entry_object_init ?_ ?_
  · refine codeAny_of_tree ?_
    show wpAny _ A.in1.in1 (do checkBuiltinCall "bool.__new__" ⟨[.type "bool", .ref x], []⟩; again (.builtin "bool.__new__" ⟨[.type "bool", .ref x], []⟩)) _ _ s
    refine wpAny_bind (wpAny_of_eq (PySem.F.newCall_bool_1 _) (wpAny_pure ⟨plainId_quiet (by decide +kernel) _, codeAny_builtin PySem.F.entry_bool_new ?_⟩))
    rw [Around.under_plainId (by decide +kernel) _]
    have key : wpAny (model prog w) A.in1.in1 (truthy (.ref x)) (fun b s₁ => Q (.bool b) s₁) E s := PySem.W.truthy_K F Y I hs hf h
    have f1 := PySem.F.conv_sub_bool
    obtain ⟨hp, gg, d, tk, os⟩ := s
    repeat (any_goals (first | assumption | (with_reducible refine wpAny_bind (wpAny_mono key (fun b s1 z => ?_) fun _ _ e => e)) | wp_step))
    all_goals first | exact ⟨_, rfl, z⟩ | exact ⟨_, rfl, _, rfl, z⟩ | skip
  · rintro obj s₁ ⟨y, rfl, hq⟩
    exact ⟨typeIs_bool _ _, PySem.F.args_object_init_2 _ _, object_init_meets PySem.F.called_bool.init.lookup PySem.F.called_bool.made (by decide) prog w A.in1 _ s₁ ⟨typeIs_bool _ _, rfl, hq⟩⟩
end
end OwnOps
end

-- GivErr
section
set_option Elab.async false
set_option linter.all false
set_option maxRecDepth 100000
set_option maxHeartbeats 2000000
/-! An own error class, over any of three built-in ones, that keeps its one argument in the field `given`. -/
namespace PySem
namespace Giv
open PySem.W PySem.Calls PyProof.Rows PySem.HandSPX Builtin Builtin.ObjectAttr
/-- own classes, then the given tail -/
def tailIs (bt : List Value) : List Value → Bool
  | .ref _ :: r => tailIs bt r
  | l => l == bt
theorem tail_cases (bt : List Value) : ∀ l : List Value, tailIs bt l = true → (∃ c r, l = .ref c :: r ∧ tailIs bt r = true) ∨ l = bt := fun l e => by
  cases l with
  | nil => exact .inr (beq_iff_eq.mp e)
  | cons a r => cases a <;> first | exact .inl ⟨_, _, rfl, e⟩ | exact .inr (beq_iff_eq.mp e)
theorem tail_pass {bt : List Value} (hb : ∀ self, refuseLoop self "__setattr__" bt = pure ()) (self : Value) : ∀ l : List Value, tailIs bt l = true → refuseLoop self "__setattr__" l = pure () := fun l => by
  induction l with
  | nil => intro e; rcases tail_cases bt _ e with ⟨_, _, q, _⟩ | q; cases q; rw [q]; exact hb self
  | cons a r ih =>
    intro e
    rcases tail_cases bt (a :: r) e with ⟨c, r', q, h⟩ | q
    · cases q; rw [refuseLoop_ref]; exact ih h
    · rw [q]; exact hb self
theorem tail_has {bt : List Value} (Y : String) : ∀ l : List Value, tailIs bt l = true → l.contains (.type Y) = bt.contains (.type Y) := fun l => by
  induction l with
  | nil => intro e; rcases tail_cases bt _ e with ⟨_, _, q, _⟩ | q; cases q; rw [q]
  | cons a r ih =>
    intro e
    rcases tail_cases bt (a :: r) e with ⟨c, r', q, h⟩ | q
    · cases q; rw [List.contains_cons, ih h]; rfl
    · rw [q]
/-- what is used of the built-in base -/
structure BaseOk (B newId initId : String) (bt : List Value) : Prop where
  facts : ExcBaseFacts B newId initId bt
  pass : ∀ self, refuseLoop self "__setattr__" bt = pure ()
  obj : bt.contains (.type "object") = true
theorem ok_VE : BaseOk "ValueError" "ValueError.__new__" "ValueError.__init__" [.type "ValueError", .type "Exception", .type "BaseException", .type "object"] :=
  ⟨F.excBase_ValueError, fun self => F.store_ValueError.passes self, by decide +kernel⟩
theorem ok_ZD : BaseOk "ZeroDivisionError" "ZeroDivisionError.__new__" "ZeroDivisionError.__init__" [.type "ZeroDivisionError", .type "ArithmeticError", .type "Exception", .type "BaseException", .type "object"] :=
  ⟨F.excBase_ZeroDivisionError, fun self => F.store_ZeroDivisionError.passes self, by decide +kernel⟩

section
variable {prog : Program} {w : World} {A : Around} {E : Value → Shared → Prop} {R : Result → Shared → Prop} {hp : Heap} {g : Array GenState} {d : Drawn} {t : Nat} {os : OsState}
/-- self.name = v on a new exception -/
theorem osa_giv {K : W.Frag} {name : Str} {tk : Tok} {v : Value} {x C : Addr} {fv : Array Value} {cd : ClassData} {bt bm : List Value} (hb : ∀ self, refuseLoop self "__setattr__" bt = pure ()) (hbo : bt.contains (.type "object") = true)
    (Y : K.In hp) (hx : hp.get? x = some { cls := .ref C, data := .fields fv }) (hcd : W.clsIn K C = some cd) (hm : cd.mro = .ref C :: bm) (htl : tailIs bt bm = true) (hh : cd.hasDict = true) (hno : W.findIn K (.ref C) name = some none)
    (fin : ∀ h' tk' dx, (∀ b o, b ≠ x → hp.get? b = some o → h'.get? b = some o) → hp.objs.size ≤ dx → dx ≠ x → h'.get? x = some { cls := .ref C, dict := some dx, data := .fields fv } →
      h'.Ns1 dx (fun y => if y = name then some v else none) → R (.ok (.ret .none)) ⟨h', g, d, tk', os⟩) :
    codeAny (model prog w) A (.call (.builtin "object.__setattr__") ⟨[.ref x, .str name tk, v], []⟩) R ⟨hp, g, d, t, os⟩ := by
  have J : W.InstAt hp x { cls := .ref C, data := .fields fv } C none := ⟨hx, rfl, rfl, trivial⟩
  have SO := F.store_object
  have htail : tailIs bt cd.mro = true := by rw [hm]; exact htl
  have hob2 : cd.mro.contains (.type "object") = true := by rw [tail_has "object" _ htail]; exact hbo
  have hemp : cd.mro.isEmpty = false := by rw [hm]; rfl
  have apart : x ≠ hp.objs.size := Nat.ne_of_lt (Heap.lt_size hx)
  have Lsub : W.Looks (model prog w) hp (isInstance (.ref x) (.type "object")) true :=
    J.type.andThen (W.looks_mroIn Y (by unfold W.mroIn; rw [hcd, Option.bind_some, if_neg (by rw [hemp]; decide), hob2]))
  refine codeAny_call_builtin SO.slot.plain SO.entry (@W.check_slot (model prog w) _ _ ⟨hp, g, d, t, os⟩ "object.__setattr__" "object" "__setattr__" (.ref x)
    [.str name tk, v] [] _ SO.kind SO.split Lsub (SO.args (.ref x) (.str name tk) v) ?_)
  have Lmro : W.Looks (model prog w) hp (mroOf (.ref C)) cd.mro := (W.looks_clsIn Y hcd).andThen .now
  have Lno : W.Looks (model prog w) hp (storeTaker? none) none := .now
  have Lcd : W.Looks (model prog w) hp (classData C) cd := W.looks_clsIn Y hcd
  rw [W.osa_eq, refuse_eq]
  refine wpAny_bind (wpAny_bind (J.type.at (wpAny_bind (Lmro.at ?_))))
  rw [tail_pass hb _ _ htail]
  refine wpAny_pure (wpAny_bind (J.type.at (wpAny_bind ((W.looks_findIn Y hno).at (wpAny_bind (Lno.at ?_))))))
  show wpAny _ _ (storeInOwnDict (.ref x) (.ref C) (.str name tk) name v false) _ _ _
  obtain ⟨c1, c2, c3, c4, c5, c6, c7, c8, c9, c10, c11⟩ := cd
  dsimp only at hh
  subst hh
  unfold storeInOwnDict ownDictForStores
  repeat (first | (with_reducible refine store_in_new ?_ ?_) | (with_reducible refine wpAny_loadPart_at hx ?_) | (with_reducible refine Lcd.at ?_) | wp_step)
  · exact ⟨_, #[], _, (Heap.get?_update_ne _ _ _ _ apart.symm).trans (Heap.get?_push_at rfl rfl), rfl, fun e he => absurd he (by simp), fun _ => rfl⟩
  · intro h' tk' hn' hs
    have hx1 : (hp.push { cls := .type "dict", data := .dict #[] }).get? x = some { cls := .ref C, data := .fields fv } := Heap.get?_push_of_some _ hx
    refine fin h' tk' hp.objs.size (fun b o hb ho => ?_) (Nat.le_refl _) apart.symm ?_ hn'
    · exact (hs.2 b (Nat.ne_of_lt (Heap.lt_size ho))).trans ((Heap.get?_update_ne _ _ _ _ hb).trans (Heap.get?_push_of_some _ ho))
    · exact (hs.2 x apart).trans (Heap.get?_update_self _ hx1 rfl)
end

/-! ### the text of __init__ -/
def gA (p1 p2 : Pos) : Arguments := { posonlyargs := [], args := [{ arg := "self", annotation := none, pos := p1 }, { arg := "given", annotation := none, pos := p2 }], vararg := none, kwonlyargs := [], kw_defaults := [], kwarg := none, defaults := [] }
def gB (q1 q2 q3 q4 : Pos) : List Stmt := [.Assign [.Attribute (.Name "self" q1) "given" q2] (.Name "given" q3) q4]
def gS : Scope := { kind := .function, names := [(PySem.Str.ofString "self", .local), (PySem.Str.ofString "given", .local)], isGenerator := false, isCoroutine := false, more := [] }
/-- what the written part says of the class called cn, at C, and of its __init__, at fI -/
structure ErrTxt (K : Frag) (mg : Str → Option Value) (cn qn : Str) (newId : String) (bt : List Value) (C fI : Addr) : Prop where
  gC : mg cn = some (.ref C)
  cls : ∃ nm q N bs bm sn sub ab col dd k0 k1 k2 k3 k5, K.lookup C = some (excClassObj nm q C N bs bm true sn sub ab col dd k0 k1 k2 k3 k5 newId) ∧ tailIs bt bm = true
  sa : findIn K (.ref C) "__setattr__" = some (some (.builtin "object.__setattr__"))
  ga : findIn K (.ref C) "__getattribute__" = some (some (.builtin "BaseException.__getattribute__"))
  gg : findIn K (.ref C) "__getattr__" = some none
  noN : findIn K (.ref C) "given" = some none
  iC : findIn K (.ref C) "__init__" = some (some (.ref fI))
  tC : typeIn K (.ref fI) = some (.type "function")
  kC : keepIn K (.ref C) = true
  exC : subIn K (.ref C) (.type "BaseException") = some true
  tyC : typeIn K (.ref C) = some (.type "type")
  hdC : hasDictIn K C = true
  te : exmOne K (.ref C) (.ref C) = some true
  fn : ∃ (oc : Value) (od : Option Addr) (doc pm : Value) (an : Option Addr) (cdv ct : Value) (osl : Array (Option Value)) (p1 p2 q1 q2 q3 q4 : Pos),
    K.lookup fI = some ⟨oc, od, .func (fnOf "__init__" qn (gA p1 p2) (gB q1 q2 q3 q4) gS .none .none doc pm an cdv ct), osl⟩ ∧ codeIn K cdv qn = true
theorem one_fits (v : Value) : [v].length ≤ sizeLine := by
  rw [sizeLine_eq]
  exact (by decide : 1 ≤ 16777216)
theorem ldG {M : Model} {s : Shared} {name : Str} {scope : Scope} {L a : Addr} {cd : Value} {m : Str → Option Value} {x : Str} {pos : Pos} {v : Value} {Q : Value → Shared → Prop} {A : Around} {E : Value → Shared → Prop} (hn : s.heap.Ns L m) (hv : m x = some v) (h : Q v s)
    (hk : scope.kind = .function := by rfl) (hl : (envOfC name scope L a cd).kindOf x = some .local := by rfl) (hd : (x == ("__debug__" : Str)) = false := by decide) :
    wpAny M A (eval (.Name x pos) (envOfC name scope L a cd)) Q E s := wpAny_Name (wpAny_loadName_local hk hl hn hv h) hd
/-- what __init__ leaves -/
structure GivEnd (h h' : Heap) (x C dx t1 : Addr) (v : Value) : Prop where
  keep : ∀ b o, b ≠ x → h.get? b = some o → h'.get? b = some o
  obj : h'.get? x = some { cls := .ref C, dict := some dx, data := .fields #[.ref t1, .none, .none, .none, .bool false, .none] }
  dbig : h.objs.size ≤ dx
  dne : dx ≠ x
  ns : h'.Ns1 dx (fun y => if y = "given" then some v else none)
/-- a made one -/
structure GivMade (h h' : Heap) (e C d : Addr) (v : Value) : Prop where
  keep : ∀ b o, h.get? b = some o → h'.get? b = some o
  new : h.objs.size ≤ e
  obj : ∃ oe vs, h'.get? e = some oe ∧ oe.cls = .ref C ∧ oe.dict = some d ∧ oe.data = .fields vs ∧ vs[1]? = some .none
  dbig : h.objs.size ≤ d
  dne : d ≠ e
  ns : h'.Ns1 d (fun y => if y = "given" then some v else none)
section
variable {prog : Program} {w : World} {A : Around} {E : Value → Shared → Prop} {R : Result → Shared → Prop} {s : Shared} {K : Frag} {mg : Str → Option Value} {C fI : Addr} {cn qn : Str} {B newId initId : String} {bt : List Value}
theorem giv_init (Z : BaseOk B newId initId bt) (T : ErrTxt K mg cn qn newId bt C fI) {x t0 : Addr} {v : Value} (X : K.In s.heap) (hlim : s.heap.NoLimit) (hx : s.heap.get? x = some (excO C t0)) (hroom : A.depth < recursionLimit)
    (hq : ∀ h' tk dx, GivEnd s.heap h' x C dx t0 v → R (.ok (.ret .none)) { s with heap := h', toks := tk }) :
    codeAny (model prog w) A (.call (.ref fI) ⟨[.ref x, v], []⟩) R s := by
  obtain ⟨oc, od, doc, pm, an, cdv, ct, osl, p1, p2, q1, q2, q3, q4, ho, hcd⟩ := T.fn
  obtain ⟨nm, q, N, bs, bm, sn, sub, ab, col, dd, k0, k1, k2, k3, k5, hC, hbm⟩ := T.cls
  have hcl : clsIn K C = some { name := nm, bases := bs, mro := .ref C :: bm, ns := N, qualname := q, hasDict := true, slotNames := sn, subclasses := sub, abstract := ab, collection := col, hasDel := false } := by unfold clsIn; rw [hC] <;> rfl
  refine Att.call_fn (binds := [("self", .ref x), ("given", v)]) X hlim ho hcd hroom (BindsTo.of_eq (by first | rfl | with_unfolding_all rfl)) (by first | rfl | decide | with_unfolding_all rfl) (fun s₁ IC => ?_) rfl rfl rfl
  obtain ⟨h₁, tk₁, rfl⟩ := IC.toInCall.same
  have k : ∀ b o, s.heap.get? b = some o → h₁.get? b = some o := IC.toInCall.keep
  have hn := IC.toInCall.ns
  have X₁ : K.In h₁ := X.keeps k
  have hx₁ := k _ _ hx
  show wpAny _ _ (execs _ _) _ _ _
  refine wpAny_execs_cons (plainObj_wpAny_Assign_Attribute ?_)
  refine ldG (v := v) hn (by first | rfl | with_unfolding_all rfl | kernel_rfl) (ldG (v := .ref x) hn (by first | rfl | with_unfolding_all rfl | kernel_rfl) ?_)
  refine set_plain X₁ (ox := excO C t0) (od := none) ⟨hx₁, rfl, rfl, trivial⟩ T.sa ?_
  refine osa_giv Z.pass Z.obj X₁ hx₁ hcl rfl hbm rfl T.noN (fun h₃ tk₃ dx k₃ dn dne hx₃ hn₃ => ?_)
  show wpAny _ _ (execs _ _) _ _ _
  have z : s.heap.objs.size < h₁.objs.size := hn.lt
  exact wpAny_execs_nil (hq h₃ tk₃ dx ⟨fun b o hb e => k₃ b o hb (k b o e), hx₃, Nat.le_of_lt (Nat.lt_of_lt_of_le z dn), dne, hn₃⟩)
theorem giv_made (Z : BaseOk B newId initId bt) (T : ErrTxt K mg cn qn newId bt C fI) {v : Value} (X : K.In s.heap) (hlim : s.heap.NoLimit) (hroom : A.depth + 1 < recursionLimit)
    (hq : ∀ h' tk e d, GivMade s.heap h' e C d v → R (.ok (.ret (.ref e))) { s with heap := h', toks := tk }) :
    codeAny (model prog w) A (.call (.ref C) ⟨[v], []⟩) R s := by
  obtain ⟨nm, q, N, bs, bm, sn, sub, ab, col, dd, k0, k1, k2, k3, k5, hC, hbm⟩ := T.cls
  obtain ⟨hp, g, dr, tk, os⟩ := s
  have k : ∀ b o, hp.get? b = some o → ((hp.push (kdv_tup [v])).push (excO C hp.objs.size)).get? b = some o := fun b o e => Heap.get?_push_of_some _ (Heap.get?_push_of_some _ e)
  have hget : ((hp.push (kdv_tup [v])).push (excO C hp.objs.size)).get? (hp.objs.size + 1) = some (excO C hp.objs.size) := by heap_get
  refine call_own Z.facts (fun X => tail_has X bm hbm) (X _ _ hC) (looks_findIn X T.iC) (fun self => bind_fn X self T.tC) (one_fits v) ?_
  refine giv_init (s := ⟨(hp.push (kdv_tup [v])).push (excO C hp.objs.size), g, dr, tk, os⟩) Z T (X.keeps k) (hlim.keeps k) hget ?_ fun h' tk' dx ⟨k', hx, dn, dne, hns⟩ => ?_
  · show A.depth + 1 < recursionLimit
    exact hroom
  · have old : ∀ b o, hp.get? b = some o → h'.get? b = some o := fun b o e => k' b o (Nat.ne_of_lt (Nat.lt_succ_of_lt (Heap.lt_size e))) (k b o e)
    have z : hp.objs.size + 1 + 1 ≤ dx := by
      first
        | (simpa only [Heap.size_push] using dn)
        | exact dn
        | (have q := dn; rw [Heap.size_push, Heap.size_push] at q; exact q)
    exact ⟨rfl, hq h' tk' (hp.objs.size + 1) dx ⟨old, Nat.le_succ _, ⟨_, _, hx, rfl, rfl, rfl, rfl⟩, Nat.le_trans (Nat.le_trans (Nat.le_succ _) (Nat.le_succ _)) z, dne, hns⟩⟩
end
end Giv
end PySem
end

-- GivErr2
section
set_option Elab.async false
set_option linter.all false
set_option maxRecDepth 100000
set_option maxHeartbeats 2000000
namespace L2
open PySem PySem.Spec PyProof.Rows
theorem relO_giv {v : V} {v' : Value} (r : RelV v v') (f : Str) : RelO (List.lookup f [(("given" : Str), v)]) (if f = "given" then some v' else none) := by
  by_cases hw : f = "given"
  · subst hw
    rw [if_pos rfl]
    have q : List.lookup ("given" : Str) [(("given" : Str), v)] = some v := by simp [List.lookup]
    rw [q]
    exact r
  · rw [if_neg hw]
    have qw : (f == ("given" : Str)) = false := by simpa using hw
    have q2 : List.lookup f [(("given" : Str), v)] = none := by simp [List.lookup, qw]
    rw [q2]
    trivial
section
variable {X : Cx} {C fI : Addr} {cn qn : Str} {B newId initId : String} {bt : List Value}
/-- Err(e) -/
def tMkGiv (C : Addr) (ta : TA) : L2.St → Hp → XK → Prop := fun σ H Q => ta σ H fun vs H1 => ∃ v, vs = [v] ∧ ∀ d, H1 d = none → Q (.ref C) (some d) (upd H1 d (.xd [(("given" : Str), v)]))
theorem pmk_giv {a : Expr} {ta : TA} {p pos : Pos} {k : Nat} (Z : PySem.Giv.BaseOk B newId initId bt) (T : PySem.Giv.ErrTxt X.K X.mg cn qn newId bt C fI) (hr : Room k X.A) (ha : PA X [a] ta) (hg : Gl X cn) (hdb : (cn == ("__debug__" : Str)) = false)
    (he : starEach (a :: []) X.env = (false, eval a X.env) :: starEach [] X.env := by rfl) (hpl : (backTo pos (starEach [] X.env)).any (·.1) = false := by rfl) :
    PMk X (.Call (.Name cn p) [a] [] pos) (tMkGiv C ta) := by
  intro pins s σ H Q I h
  refine wpAny_Call_Name_kw (ld_glob I hg T.gC ?_ hdb)
  refine PySem.W.callWith_K (h₀ := X.base) I.ok.mod.kin T.kC (thn (ha.run pos pins s σ H _ I h) fun us s1 hh => ?_) he hpl
  obtain ⟨vs, H1, I1, r1, v, ev, q1⟩ := hh
  subst ev
  refine ⟨I1.kIn, ?_⟩
  cases r1 with
  | cons rv rn =>
    rename_i v' us'
    cases rn
    show wpAny _ _ (call (.ref C) [v']) _ _ _
    have hlim := I1.nolimit
    obtain ⟨hp, g, dr, tk, os⟩ := s1
    refine wpAny_call (PySem.Giv.giv_made Z T I1.kIn hlim (by have := hr.dp; omega) fun h' tk' e d M => ?_)
    show MkP X pins σ Q (.ref e) ⟨h', g, dr, tk', os⟩
    obtain ⟨oe, fv, hoe, hc, hd, hdat, h1⟩ := M.obj
    have hns := M.ns
    obtain ⟨G', g1, g2⟩ := restrict h' fun b => decide (b ≠ e)
    have gk : ∀ b, b ≠ e → G'.get? b = h'.get? b := fun b hb => g1 b (decide_eq_true hb)
    have ge : G'.get? e = none := g2 e (by simp)
    have old : ∀ b o, hp.get? b = some o → G'.get? b = some o := fun b o q => (gk b (Nat.ne_of_lt (Nat.lt_of_lt_of_le (Heap.lt_size q) M.new))).trans (M.keep b o q)
    have ob : ObjOk X.prog X.w (upd H1 d (.xd [(("given" : Str), v)])) G' d (.xd [(("given" : Str), v)]) :=
      ⟨_, hns.at (fun o q => (gk d M.dne).trans q), fun f => relO_giv rv f⟩
    have J : L2.Inv X pins σ (upd H1 d (.xd [(("given" : Str), v)])) ⟨G', g, dr, tk', os⟩ := I1.laid (t' := tk') old M.dbig ob
    refine ⟨e, oe, fv, ⟨G', g, dr, tk', os⟩, _, .ref C, some d, rfl, J, fun b o q => ?_, ge, hoe, ⟨hc, hd⟩, hdat, h1, ?_, rfl, I1.bare, raises_own T.exC T.tyC, q1 d (I1.hok.fresh M.dbig)⟩
    · by_cases hb : b = e
      · have q' : G'.get? b = some o := q
        rw [hb, ge] at q'; cases q'
      · exact (gk b hb).symm.trans q
    · rw [upd_ne (Ne.symm M.dne)]
      exact I1.hok.fresh M.new
/-- raise Err(e) -/
def tRaiseGiv (C : Addr) (W : WX) (ta : TA) : TS := fun _ σ H => tMkGiv C ta σ H fun cls d H' => W cls d σ H'
theorem ps_raiseGiv {a : Expr} {ta : TA} {W : WX} {p pos pos2 : Pos} {k : Nat} (hc : X.calm = true) (Z : PySem.Giv.BaseOk B newId initId bt) (T : PySem.Giv.ErrTxt X.K X.mg cn qn newId bt C fI) (hr : Room k X.A) (tk : Takes X W) (ha : PA X [a] ta) (hg : Gl X cn) (hdb : (cn == ("__debug__" : Str)) = false := by decide)
    (he : starEach (a :: []) X.env = (false, eval a X.env) :: starEach [] X.env := by rfl) (hpl : (backTo pos (starEach [] X.env)).any (·.1) = false := by rfl) :
    PS X (.Raise (some (.Call (.Name cn p) [a] [] pos)) none pos2) (tRaiseGiv C W ta) := ps_raise hc tk (pmk_giv Z T hr ha hg hdb he hpl)
/-- err.given, err the exception that the suite holds (at a; its class cls, its dict d) -/
def tByGiv (C : Addr) (a : Addr) (cls : Value) (d : Option Addr) (te : TE) : TE := fun σ H Q => te σ H fun x H1 => x = .ref a ∧ cls = .ref C ∧ ∃ (dd : Addr) (v : V), d = some dd ∧ H1 dd = some (.xd [(("given" : Str), v)]) ∧ Q v H1
theorem pe_byGiv {a : Addr} {oe : Obj} {cls : Value} {d : Option Addr} {pn : List (Addr × Obj)} {e : Expr} {te : TE} {pos : Pos} (T : PySem.Giv.ErrTxt X.K X.mg cn qn newId bt C fI) (hz : Zc cls d oe) (hf : ∃ vs, oe.data = .fields vs) (he : PE (X.suite a ((a, oe) :: pn)) e te)
    (hb : attributeBase e "given" X.env (eval e X.env) = eval e X.env := by rfl) :
    PE (X.suite a ((a, oe) :: pn)) (.Attribute e "given" pos) (tByGiv C a cls d te) := by
  refine ⟨fun pins s σ H Q I h => ?_⟩
  refine attr_of hb (thn (he.run pins s σ H _ I h) fun u s1 hh => ?_)
  obtain ⟨x, H1, I1, rx, ex, ec, dd, v, ed, ea, q⟩ := hh
  subst ex
  obtain rfl : u = Value.ref a := rx
  subst ec
  subst ed
  obtain ⟨ha, _⟩ := I1.pin (a, oe) (List.mem_append_left _ List.mem_cons_self)
  obtain ⟨vs, hd⟩ := hf
  have hx : ObjOk X.prog X.w H1 s1.heap dd (.xd [(("given" : Str), v)]) := I1.hok dd _ ea
  obtain ⟨mA, hns, hr⟩ := hx
  obtain ⟨od, ho, hl⟩ := lookIn_ns hns
  have l : List.lookup ("given" : Str) [(("given" : Str), v)] = some v := by simp [List.lookup]
  obtain ⟨u, hu, ru⟩ := RelO.some_of (v := v) (o := mA "given") (by rw [← l]; exact hr "given")
  have J : PySem.W.InstAt s1.heap a oe C (some od) := ⟨ha, hz.1, by unfold PySem.W.notCls; rw [hd] <;> rfl, by rw [hz.2]; exact ho⟩
  exact HandSPX.exc_get I1.kIn J T.ga T.gg T.exC (PySem.W.findObj_own T.hdC T.noN rfl (by rw [hl, hu])) (handed_of ru) ⟨v, H1, I1.tok _, ru, q⟩
end
end L2
end

-- TryAs
section
set_option Elab.async false
set_option linter.all false
set_option maxRecDepth 100000
/-! try: with several clauses «except X as n». -/
namespace TryAs
open PySem L2
/-- the ends of a clause's suite: slot i is emptied on every way out -/
def endsAs (D : Ends) (i : Nat) : Ends where
  nx := fun t K => D.nx (t.set i none) K
  rt := D.rt
  bk := fun t K => D.bk (t.set i none) K
  ct := fun t K => D.ct (t.set i none) K
abbrev Cl := Value × Nat × (Addr → Value → Option Addr → TS)
def wAll (K : PySem.W.Frag) (Wout : WX) (D : Ends) : List Cl → WX
  | [] => Wout
  | (c, i, ts) :: r => fun cls d σ H => ∃ b, PySem.W.exmOne K cls c = some b ∧
      (b = true → ∀ a, H a = none → ts a cls d (endsAs D i) (σ.set i (some (.ref a))) H) ∧ (b = false → wAll K Wout D r cls d σ H)
inductive Clauses (X : Cx) : List ExceptHandler → List Cl → Prop
  | nil : Clauses X [] []
  | cons {x n : Str} {c : Value} {i : Nat} {ts : Addr → Value → Option Addr → TS} {fst : Stmt} {suite : List Stmt} {np hpos : Pos} {hds : List ExceptHandler} {l : List Cl}
      (at_ : X.N[i]? = some n) (loc : X.env.kindOf n = some .local) (nam : Names X x c)
      (run : ∀ (a : Addr) (oe : Obj) (cls : Value) (d : Option Addr) (pn : List (Addr × Obj)), Zc cls d oe → (∃ vs, oe.data = .fields vs) → PSs (X.suite a ((a, oe) :: pn)) (fst :: suite) (ts a cls d))
      (more : Clauses X hds l) : Clauses X (.ExceptHandler (some (.Name x np)) (some n) (fst :: suite) hpos :: hds) ((c, i, ts) :: l)
section
variable {X : Cx} {body : List Stmt} {hd0 : ExceptHandler} {hds : List ExceptHandler} {l : List Cl} {pos : Pos} {tb : WX → TS} {Wout : WX}
theorem ps_try_all (stk : X.stack = X.env :: X.outer) (frm : X.env.frame = some X.env.locals) (nod : X.N.Nodup) (tk : Takes X Wout)
    (hb : ∀ (W : WX) (pn : List (Addr × Obj)) (xe : Value → Shared → Prop), Takes (X.tr pn xe) W → PassesOwn (model X.prog X.w) X.A X.env xe → PSs (X.tr pn xe) body (tb W))
    (cl : Clauses X (hd0 :: hds) l) : PS X (.Try body (hd0 :: hds) [] [] pos) (fun D σ H => tb (wAll X.K Wout D l) D σ H) := by
  constructor
  intro pins s σ H D I h
  have okX := I.ok
  have frs2 : X.A.frames = some (X.env :: X.outer) := by rw [okX.frames, stk]
  refine wpAny_Try_except ?_
  refine wpAny_mono ((hb (wAll X.K Wout D l) (X.pn ++ pins)
    (fun e s₁ => wpAny (model X.prog X.w) X.A (noteFrame e X.env)
      (fun _ s₂ => wpAny (model X.prog X.w) X.A (setFlight e none)
        (fun _ s₃ => wpAny (model X.prog X.w) X.A (handleBy e X.env (hd0 :: hds)) (SP X pins D) X.xe s₃) X.xe s₂) X.xe s₁)
    (fun u s' xx => ?_) PassesOwn.looking).run [] s σ H D (I.toTry _) h) (fun f s1 hsp => ?_) (fun e s1 he => he)
  · obtain ⟨a, B, sI, pins1, σ1, H1, cls, d, rfl, J0, nb, up, sky, na, os, ag, w⟩ := xx
    have J1 : L2.Inv X pins σ1 H1 sI := J0.ofTry okX
    have sky1 : Sky B (X.env :: X.outer) a (Zc cls d) X.env.locals s'.heap := by rw [← stk]; exact sky
    show wpAny (model X.prog X.w) X.A (noteFrame (.ref a) X.env) _ _ _
    refine Sky.land Zc.steady frs2 frm sky1 fun h3 fl3 up3 => ?_
    have J3 : L2.Inv X pins σ1 H1 { s' with heap := h3 } := J1.landed nb fl3.1 (up.trans up3) os ag
    obtain ⟨oe3, vs3, he3, hz3, hd3⟩ := fl3.there
    have apart : a ∉ frs (X.env :: X.outer) := fun hm => by
      obtain ⟨_, o', e', hnf⟩ := fl3.2.2.1.mem hm
      have q : some o' = some oe3 := e'.symm.trans he3
      cases q
      exact hnf _ hd3
    have notL : a ≠ X.env.locals := fun z => apart (List.mem_filterMap.mpr ⟨X.env, List.mem_cons_self, by rw [frm, z]⟩)
    have notF : a ∉ X.fs := fun hm => by
      obtain ⟨e, he, q⟩ := List.mem_filterMap.mp hm
      exact apart (List.mem_filterMap.mpr ⟨e, List.mem_cons_of_mem _ he, q⟩)
    have S3 := J3.suite he3 hd3 na notL notF
    have go : ∀ {hs2 : List ExceptHandler} {l2 : List Cl}, Clauses X hs2 l2 → wAll X.K Wout D l2 cls d σ1 H1 →
        wpAny (model X.prog X.w) X.A (handleBy (.ref a) X.env hs2) (SP X pins D) X.xe { s' with heap := h3 } := by
      intro hs2 l2 hk
      induction hk with
      | nil =>
        intro w
        refine wpAny_handleBy_nil ?_
        obtain ⟨k1, k2, k3, oe, vs, T, oT, ts', he, hz, hd, h1, hr⟩ := id fl3
        unfold PySem.passOn
        refine wpAny_bind (wpAny_field he hd h1 ?_)
        have tn : ¬ ((Value.ref T == Value.none) = true) := by simp
        rw [if_neg tn]
        have fin : wpAny (model X.prog X.w) X.A (setFlight (.ref a) X.env.frame) (fun _ s4 => wpAny (model X.prog X.w) X.A (throw (.ref a) : Sem Flow) (SP X pins D) X.xe s4) X.xe { s' with heap := h3 } := by
          rw [frm]
          refine HandSPX.setFlight_upZ fl3 fun h4 hh4 up4 => wpAny_throw (tk _ _ ?_)
          exact ⟨a, B, sI, pins, σ1, H1, cls, d, rfl, J1, nb, (up.trans up3).trans up4, .inr (.inr (by rw [stk]; exact hh4)), na, os, ag, w⟩
        first | exact (wpAny_bind (wpAny_pure (wpAny_bind fin))) | exact (wpAny_bind fin)
      | @cons x n c i ts fst suite np hpos hs3 l3 at_ loc nam run more ih =>
        intro w
        obtain ⟨b, hb1, yes, no⟩ := w
        have slot : Loc X.env.scope n := .inl loc
        refine wpAny_handleBy_cons (codeAny_handlers_test ?_) (by intro q; cases q)
        have Lty : PySem.W.Looks (model X.prog X.w) h3 (typeOf (.ref a)) cls := fun A Q E s k q => wpAny_typeOf_ref (k _ _ he3) (by rw [hz3.1]; exact q)
        have Lex := PySem.W.exm_one (M := model X.prog X.w) (J3.kIn) Lty hb1
        have tst : ∀ {Q : Value → Shared → Prop} {E : Value → Shared → Prop}, Q c { s' with heap := h3 } → wpAny (model X.prog X.w) (X.A.mark (some (.ref a))) (eval (.Name x np) X.env) Q E { s' with heap := h3 } := fun {Q E} q => by
          obtain ⟨hg, ndb, hm | ⟨hm, hv, nn⟩⟩ := nam
          · exact (ld_glob (X := X.suite a ((a, oe3) :: (X.pn ++ pins))) S3 hg hm q ndb)
          · exact (ld_blt (X := X.suite a ((a, oe3) :: (X.pn ++ pins))) S3 hg hm hv q nn ndb)
        refine tst (Lex.here ?_)
        cases b with
        | true =>
          refine codeAny_handlers_suite_as ?_
          refine HandSPX.lands_againZ fl3 fun h4 fl4 up4 => ?_
          have J4 : L2.Inv X pins σ1 H1 { s' with heap := h4 } := J1.landed nb fl4.1 ((up.trans up3).trans up4) os ag
          obtain ⟨oe4, vs4, he4, hz4, hd4⟩ := fl4.there
          have S4 := J4.suite he4 hd4 na notL notF
          refine store_ok (X := X.suite a ((a, oe4) :: (X.pn ++ pins))) (v := .ref a) S4 nod at_ slot rfl (fun s5 S5 => ?_) (.inr loc)
          refine wpAny_mono ((run a oe4 cls d (X.pn ++ pins) hz4 ⟨_, hd4⟩).run [] s5 _ H1 _ S5 (yes rfl a na)) (fun f s6 hsp => ?_) (fun _ _ z => False.elim z)
          have wipe : ∀ {t6 : L2.St} {K6 : Hp} {Q : Shared → Prop}, L2.Inv (X.suite a ((a, oe4) :: (X.pn ++ pins))) [] t6 K6 s6 → (∀ s7, L2.Inv X pins (t6.set i none) K6 s7 → Q s7) →
              wpAny (model X.prog X.w) X.A (do bindName X.env n .none; unbindBehindTheSuite X.env n hpos) (fun _ s7 => Q s7) X.xe s6 := fun {t6 K6 Q} S6 hq => gone_ok (S6.unsuite okX) nod at_ loc hq
          cases f with
          | next =>
            obtain ⟨t6, K6, S6, q6⟩ := hsp
            exact (wipe S6 fun s7 J7 => ⟨_, _, J7, q6⟩)
          | brk =>
            obtain ⟨t6, K6, S6, q6⟩ := hsp
            exact (wipe S6 fun s7 J7 => ⟨_, _, J7, q6⟩)
          | cont =>
            obtain ⟨t6, K6, S6, q6⟩ := hsp
            exact (wipe S6 fun s7 J7 => ⟨_, _, J7, q6⟩)
          | ret u =>
            obtain ⟨v6, t6, K6, S6, r6, q6⟩ := hsp
            exact (wipe S6 fun s7 J7 => ⟨_, _, _, J7, r6, q6⟩)
        | false =>
          show wpAny _ X.A (handleBy (.ref a) X.env hs3) _ _ _
          exact ih (no rfl)
    exact go cl w
  · cases f with
    | next =>
      obtain ⟨t1, K1, J1, q⟩ := hsp
      exact wpAny_execs_nil ⟨t1, K1, J1.ofTry okX, q⟩
    | brk =>
      obtain ⟨t1, K1, J1, q⟩ := hsp
      exact ⟨t1, K1, J1.ofTry okX, q⟩
    | cont =>
      obtain ⟨t1, K1, J1, q⟩ := hsp
      exact ⟨t1, K1, J1.ofTry okX, q⟩
    | ret u =>
      obtain ⟨v1, t1, K1, J1, r, q⟩ := hsp
      exact ⟨v1, t1, K1, J1.ofTry okX, r, q⟩
/-- an exception of a callee, wished for at every state of the slots that fits -/
def EAll (X : Cx) (W : WX) : XK := fun cls d H' => ∀ t : L2.St, t.length = X.N.length → W cls d t H'
theorem pass_all {W : WX} (tk : Takes X W) : Passes (L2.CX X.prog X.w) X (EAll X W) := fun _ _ _ _ _ _ I c =>
  tk _ _ (XE.of_call I (fun _ _ _ z => z _ I.len) c)
end
end TryAs
end

-- RatMath
section
namespace RatM
/-- the divisor that Ratio's __init__ takes: the gcd with the bottom's sign -/
def cmn (t b : Int) : Int := if b > 0 then (Nat.gcd t.natAbs b.natAbs : Int) else -(Nat.gcd t.natAbs b.natAbs : Int)
def nt (t b : Int) : Int := t.fdiv (cmn t b)
def nb (t b : Int) : Int := b.fdiv (cmn t b)

theorem gpos {t b : Int} (h : b ≠ 0) : 0 < Nat.gcd t.natAbs b.natAbs := Nat.gcd_pos_of_pos_right _ (by omega)
theorem cmn_ne {t b : Int} (h : b ≠ 0) : cmn t b ≠ 0 := by
  have := gpos (t := t) h
  unfold cmn
  split <;> omega
theorem cmn_scale {t b k : Int} (hb : b ≠ 0) (hk : k ≠ 0) : cmn (t * k) (b * k) = cmn t b * k := by
  unfold cmn
  rw [Int.natAbs_mul, Int.natAbs_mul, Nat.gcd_mul_right, Int.natCast_mul]
  rcases Int.lt_or_gt_of_ne hk with h | h
  · have e : ((k.natAbs : Nat) : Int) = -k := by omega
    rw [e]
    rcases Int.lt_or_gt_of_ne hb with h2 | h2
    · rw [if_pos (show b * k > 0 from Int.mul_pos_of_neg_of_neg h2 h), if_neg (show ¬ b > 0 by omega), Int.mul_neg, Int.neg_mul]
    · rw [if_neg (show ¬ b * k > 0 from by have := Int.mul_neg_of_pos_of_neg h2 h; omega), if_pos (show b > 0 by omega), Int.mul_neg, Int.neg_neg]
  · have e : ((k.natAbs : Nat) : Int) = k := by omega
    rw [e]
    rcases Int.lt_or_gt_of_ne hb with h2 | h2
    · rw [if_neg (show ¬ b * k > 0 from by have := Int.mul_neg_of_neg_of_pos h2 h; omega), if_neg (show ¬ b > 0 by omega), Int.neg_mul]
    · rw [if_pos (show b * k > 0 from Int.mul_pos h2 h), if_pos (show b > 0 by omega)]
theorem cmn_dvd_t (t b : Int) : cmn t b ∣ t := by
  have h : ((Nat.gcd t.natAbs b.natAbs : Nat) : Int) ∣ t := Int.dvd_natAbs.mp (Int.natCast_dvd_natCast.mpr (Nat.gcd_dvd_left _ _))
  unfold cmn
  split
  · exact h
  · exact Int.neg_dvd.mpr h
theorem cmn_dvd_b (t b : Int) : cmn t b ∣ b := by
  have h : ((Nat.gcd t.natAbs b.natAbs : Nat) : Int) ∣ b := Int.dvd_natAbs.mp (Int.natCast_dvd_natCast.mpr (Nat.gcd_dvd_right _ _))
  unfold cmn
  split
  · exact h
  · exact Int.neg_dvd.mpr h
theorem nt_mul {t b : Int} : nt t b * cmn t b = t := Int.fdiv_mul_cancel (cmn_dvd_t t b)
theorem nb_mul {t b : Int} : nb t b * cmn t b = b := Int.fdiv_mul_cancel (cmn_dvd_b t b)
theorem nb_pos {t b : Int} (h : b ≠ 0) : 0 < nb t b := by
  have e := nb_mul (t := t) (b := b)
  have g := gpos (t := t) h
  have hc : cmn t b = if b > 0 then (Nat.gcd t.natAbs b.natAbs : Int) else -(Nat.gcd t.natAbs b.natAbs : Int) := rfl
  rcases Int.lt_trichotomy (nb t b) 0 with h1 | h1 | h1
  · exfalso
    split at hc
    · have := Int.mul_neg_of_neg_of_pos h1 (show 0 < cmn t b by omega); omega
    · have := Int.mul_pos_of_neg_of_neg h1 (show cmn t b < 0 by omega); omega
  · rw [h1, Int.zero_mul] at e; omega
  · exact h1
theorem nt_scale {t b k : Int} (hb : b ≠ 0) (hk : k ≠ 0) : nt (t * k) (b * k) = nt t b := by
  have e : t * k = nt t b * (cmn t b * k) := by rw [← Int.mul_assoc, nt_mul]
  show (t * k).fdiv (cmn (t * k) (b * k)) = nt t b
  rw [cmn_scale hb hk, e]
  exact Int.mul_fdiv_cancel _ (Int.mul_ne_zero (cmn_ne hb) hk)
theorem nb_scale {t b k : Int} (hb : b ≠ 0) (hk : k ≠ 0) : nb (t * k) (b * k) = nb t b := by
  have e : b * k = nb t b * (cmn t b * k) := by rw [← Int.mul_assoc, nb_mul]
  show (b * k).fdiv (cmn (t * k) (b * k)) = nb t b
  rw [cmn_scale hb hk, e]
  exact Int.mul_fdiv_cancel _ (Int.mul_ne_zero (cmn_ne hb) hk)
/-- pairs that are in proportion have one normal form -/
theorem nrm_of {t b t' b' k k' : Int} (hb : b ≠ 0) (hb' : b' ≠ 0) (hk : k ≠ 0) (hk' : k' ≠ 0) (e1 : t * k = t' * k') (e2 : b * k = b' * k') : nt t b = nt t' b' ∧ nb t b = nb t' b' := by
  refine ⟨?_, ?_⟩
  · rw [← nt_scale hb hk, e1, e2, nt_scale hb' hk']
  · rw [← nb_scale hb hk, e1, e2, nb_scale hb' hk']
theorem nrm_cross {t b t' b' : Int} (hb : b ≠ 0) (hb' : b' ≠ 0) (e : t * b' = t' * b) : nt t b = nt t' b' ∧ nb t b = nb t' b' :=
  nrm_of hb hb' hb' hb e (Int.mul_comm b b')
theorem nrm_id {t b : Int} (hb : b ≠ 0) : nt (nt t b) (nb t b) = nt t b ∧ nb (nt t b) (nb t b) = nb t b := by
  have p := nb_pos (t := t) hb
  have h := nrm_of (t := nt t b) (b := nb t b) (t' := t) (b' := b) (k := cmn t b) (k' := 1) (by omega) hb (cmn_ne hb) (by decide) (by rw [nt_mul, Int.mul_one]) (by rw [nb_mul, Int.mul_one])
  exact h
/-- equal normal forms are pairs in proportion -/
theorem cross_of {t b t' b' : Int} (e1 : nt t b = nt t' b') (e2 : nb t b = nb t' b') : t * b' = t' * b := by
  have a := nt_mul (t := t) (b := b); have c := nb_mul (t := t) (b := b)
  have a' := nt_mul (t := t') (b := b'); have c' := nb_mul (t := t') (b := b')
  rw [e1] at a
  rw [e2] at c
  generalize nt t' b' = x at a a'
  generalize nb t' b' = y at c c'
  generalize cmn t b = g at a c
  generalize cmn t' b' = g' at a' c'
  rw [← a, ← c', ← a', ← c]
  simp only [Int.mul_assoc, Int.mul_left_comm, Int.mul_comm]
theorem natAbs_le_mul {x y : Int} (hy : y ≠ 0) : x.natAbs ≤ (x * y).natAbs := by
  rw [Int.natAbs_mul]
  exact Nat.le_mul_of_pos_right _ (by omega)
theorem nt_le {t b : Int} (hb : b ≠ 0) : (nt t b).natAbs ≤ t.natAbs := by
  have h := natAbs_le_mul (x := nt t b) (cmn_ne (t := t) hb)
  rwa [nt_mul] at h
theorem nb_le {t b : Int} (hb : b ≠ 0) : (nb t b).natAbs ≤ b.natAbs := by
  have h := natAbs_le_mul (x := nb t b) (cmn_ne (t := t) hb)
  rwa [nb_mul] at h
theorem cmn_le {t b : Int} (hb : b ≠ 0) : (cmn t b).natAbs ≤ b.natAbs := by
  have p := nb_pos (t := t) hb
  have h := natAbs_le_mul (x := cmn t b) (y := nb t b) (by omega)
  rwa [Int.mul_comm, nb_mul] at h
theorem nt_one (t : Int) : nt t 1 = t ∧ nb t 1 = 1 := by
  have c : cmn t 1 = 1 := by
    unfold cmn
    rw [if_pos (by decide), show (1 : Int).natAbs = 1 from rfl, Nat.gcd_one_right]
    rfl
  exact ⟨by show t.fdiv (cmn t 1) = t; rw [c, Int.fdiv_one], by show (1 : Int).fdiv (cmn t 1) = 1; rw [c, Int.fdiv_one]⟩
end RatM
end

-- E3a
section
set_option Elab.async false
set_option linter.all false
set_option maxRecDepth 100000
namespace R1
open PySem L2 OwnOps RatM
/-! ### 1. the text by places -/
def top (i : Nat) : Stmt := PySem.Challenge.pw_wishedwires_k03_rules_and_errors.main.body.getD i (.Pass ⟨0, 0, 0, 0⟩)
abbrev sWhole : Stmt := top 29
abbrev sRat (j : Nat) : Stmt := inClass (top 31) j
abbrev sAs : Stmt := top 33
/-! ### 2. what the written part holds -/
abbrev veT : List Value := [.type "ValueError", .type "Exception", .type "BaseException", .type "object"]
abbrev zdT : List Value := [.type "ZeroDivisionError", .type "ArithmeticError", .type "Exception", .type "BaseException", .type "object"]
structure Txt (K : PySem.W.Frag) (mg : Str → Option Value) (C CI fCI CZ fCZ : Addr) : Prop where
  cl : Cls K C
  nT : NoAttr K C "top"
  nB : NoAttr K C "bottom"
  gC : mg "Ratio" = some (.ref C)
  eI : PySem.Giv.ErrTxt K mg "InvalidNumber" "InvalidNumber.__init__" "ValueError.__new__" veT CI fCI
  eZ : PySem.Giv.ErrTxt K mg "NoDivision" "NoDivision.__init__" "ZeroDivisionError.__new__" zdT CZ fCZ
  ha : PySem.W.findIn K (.ref C) "__class__" = some (some (.builtin "object.__class__"))
  hn : PySem.W.specialIn K (.builtin "object.__class__") "__get__" = some (some (.builtin "getset_descriptor.__get__"))
  htk : PySem.W.takesIn K (.builtin "object.__class__") = some true
  hm : PySem.W.mroIn K C (.type "object") = some true
  kCC : PySem.W.kitOne K (.ref C) (.ref C) = some true
  kCi : PySem.W.kitOne K (.ref C) (.type "int") = some false
  kiC : PySem.W.kitOne K (.type "int") (.ref C) = some false
  kbC : PySem.W.kitOne K (.type "bool") (.ref C) = some false
  knC : PySem.W.kitOne K (.type "NoneType") (.ref C) = some false
  ksC : PySem.W.kitOne K (.type "str") (.ref C) = some false
  klC : PySem.W.kitOne K (.type "list") (.ref C) = some false
  ktC : PySem.W.kitOne K (.type "tuple") (.ref C) = some false
  isi : mg "isinstance" = none
  int : mg "int" = none
  bool : mg "bool" = none
  abs : mg "abs" = none
  str : mg "str" = none
  repr : mg "repr" = none
  gcd : mg "gcd" = some (.builtin "math.gcd")
/-- the values that are met where a number is wanted -/
inductive Kd (C : Addr) (H : Hp) : V → Prop
  | int (i : Int) : Kd C H (.int i)
  | bl (b : Bool) : Kd C H (.bl b)
  | non : Kd C H .non
  | str (x : Str) : Kd C H (.str x)
  | ins {a dx : Addr} {fs : List (Str × V)} (e : H a = some (.ins C dx fs)) : Kd C H (.ref a)
  | lst {a : Addr} {xs : List V} (e : H a = some (.lst xs)) : Kd C H (.ref a)
  | tup {a : Addr} {xs : List V} (e : H a = some (.tup xs)) : Kd C H (.ref a)
def isW : V → Bool
  | .int _ => true
  | _ => false
/-- an instance of Ratio with these two -/
def flds (t b : Int) : List (Str × V) := putF "bottom" (.int b) (putF "top" (.int t) [])
theorem tb : ¬ (("top" : Str) = "bottom") := by decide +kernel
theorem flds_eq (t b : Int) : flds t b = ([("top", V.int t), ("bottom", V.int b)] : List (Str × V)) := by
  show (if ("top" : Str) = "bottom" then [(("top" : Str), V.int b)] else (("top" : Str), V.int t) :: putF "bottom" (V.int b) []) = ([("top", V.int t), ("bottom", V.int b)] : List (Str × V))
  rw [if_neg tb]
  all_goals rfl
theorem flds_top (t b : Int) : (flds t b).lookup ("top" : Str) = some (.int t) := by
  unfold flds
  rw [lookup_putF, if_neg tb, lookup_putF, if_pos rfl]
theorem flds_bot (t b : Int) : (flds t b).lookup ("bottom" : Str) = some (.int b) := by
  unfold flds
  rw [lookup_putF, if_pos rfl]
theorem flds_no (t b : Int) {m : Str} (h1 : ¬ m = "bottom") (h2 : ¬ m = "top") : (flds t b).lookup m = none := by
  unfold flds
  rw [lookup_putF, if_neg h1, lookup_putF, if_neg h2]
  all_goals rfl
def Rat (C : Addr) (H : Hp) (p : Addr) (t b : Int) : Prop := ∃ dx, H p = some (.ins C dx (flds t b))
theorem Rat.same {C : Addr} {H H' : Hp} {p : Addr} {t b : Int} (r : Rat C H p t b) (e : Same H H') : Rat C H' p t b := let ⟨dx, h⟩ := r; ⟨dx, e _ _ h⟩
/-- what may be told of a number -/
def Sm (n : Nat) (x : Int) : Prop := x.natAbs < 2 ^ n

section
variable {P : Program} {w : World} {K : PySem.W.Frag} {mg : Str → Option Value} {base : Heap} {C CI fCI CZ fCZ : Addr}
/-! ### 3. is_whole -/
def spWhole (C : Addr) : Sp := fun vs H Q _ => ∃ v, vs = [v] ∧ Kd C H v ∧ Q (.bl (isW v)) H
theorem scW : FnScope ["value"] ["value"] (defScope sWhole) := ⟨rfl, rfl, rfl, by decide +kernel, rfl, by decide +kernel, by decide +kernel⟩
theorem ok_whole {f : Addr} {fd : FuncData} (F : Fun K "is_whole" "is_whole" sWhole f fd) (T : Txt K mg C CI fCI CZ fCZ) : FnOk P w K mg base (L2.CX P w) 1 f fd ["value"] (spWhole C) := by
  refine F.okX scW (fun vs H Q E h => ?_) (fun cdv A outer s H vs Q E hr h => ?_)
  · obtain ⟨v, rfl, _⟩ := h
    rfl
  · obtain ⟨v, rfl, kd, k⟩ := h
    refine ⟨_, pss_one (ps_ret (pe_and (pe_callB call_isi (by rfl) T.isi (by decide +kernel) (pa_cons (pv 0) (pa_cons (pe_bltn (v := .ty "int") (by rfl) T.int (by decide +kernel) rfl) pa_nil)))
      (pe_one (pe_not (pe_callB call_isi (by rfl) T.isi (by decide +kernel) (pa_cons (pv 0) (pa_cons (pe_bltn (v := .ty "bool") (by rfl) T.bool (by decide +kernel) rfl) pa_nil))))))), ?_⟩
    cases kd with
    | int i => exact ⟨_, rfl, _, _, _, _, _, rfl, .ty _, .base (.int i), kit_ty (by decide +kernel), _, rfl, iteT ⟨_, rfl, _, _, _, _, _, rfl, .ty _, .base (.int i), kit_ty (r := false) (by decide +kernel), _, rfl, k⟩⟩
    | bl b => exact ⟨_, rfl, _, _, _, _, _, rfl, .ty _, .base (.bl b), kit_ty (by decide +kernel), _, rfl, iteT ⟨_, rfl, _, _, _, _, _, rfl, .ty _, .base (.bl b), kit_ty (r := true) (by decide +kernel), _, rfl, k⟩⟩
    | non => exact ⟨_, rfl, _, _, _, _, _, rfl, .ty _, .base .non, kit_ty (by decide +kernel), _, rfl, iteF k⟩
    | str x => exact ⟨_, rfl, _, _, _, _, _, rfl, .ty _, .base (.str x), kit_ty (by decide +kernel), _, rfl, iteF k⟩
    | ins e => exact ⟨_, rfl, _, _, _, _, _, rfl, .ty _, .base (.ins e T.cl T.ha T.hn T.htk T.hm), T.kCi, _, rfl, iteF k⟩
    | lst e => exact ⟨_, rfl, _, _, _, _, _, rfl, .ty _, .base (.lst e), kit_ty (by decide +kernel), _, rfl, iteF k⟩
    | tup e => exact ⟨_, rfl, _, _, _, _, _, rfl, .ty _, .base (.tup e), kit_ty (by decide +kernel), _, rfl, iteF k⟩

theorem if_pos' {c : Bool} {A B : Prop} (hc : c = true) (h : A) : if c = true then A else B := by
  rw [if_pos hc]
  exact h
theorem if_neg' {c : Bool} {A B : Prop} (hc : c = false) (h : B) : if c = true then A else B := by
  rw [hc, if_neg Bool.false_ne_true]
  exact h
/-! ### 4. __init__ -/
def CDivG (_ j : Int) : Prop := j ≠ 0 ∧ j.natAbs.log2 < 9000
theorem op_fdivG {X : Cx} : OpR X (binaryOp .FloorDiv) (rI CDivG fun i j => .int (i.fdiv j)) := opI fun i j _ _ _ _ _ hc q =>
  PyProof.Rows.floordiv_int hc.1 q (.inl (PyProof.noPylong_of_log2 hc.2))
theorem wide_divG {i j : Int} {n : Nat} (h : j ≠ 0) (hb : j.natAbs < 2 ^ n) (h0 : 0 < n) (h9 : n ≤ 9000) : CDivG i j := ⟨h, Nat.lt_of_lt_of_le (PySem.Flt.log2_lt_of h0 hb) h9⟩
abbrev xd (v : V) : HO := .xd [(("given" : Str), v)]
def spInit (C CI CZ : Addr) : Sp := fun vs H Q E => ∃ (p dx : Addr) (vt vb : V), vs = [.ref p, vt, vb] ∧ H p = some (.ins C dx []) ∧ Kd C H vt ∧ (isW vt = true → Kd C H vb) ∧
  ((isW vt = false ∧ ∀ d, H d = none → E (.ref CI) (some d) (upd H d (xd vt))) ∨
   (isW vt = true ∧ isW vb = false ∧ ∀ d, H d = none → E (.ref CI) (some d) (upd H d (xd vb))) ∨
   (∃ t b, vt = .int t ∧ vb = .int b ∧ ((b = 0 ∧ ∀ d, H d = none → E (.ref CZ) (some d) (upd H d (xd vt))) ∨
     (b ≠ 0 ∧ Sm 5000 b ∧ Q .non (upd H p (.ins C dx (flds (nt t b) (nb t b))))))))
theorem scI : FnScope ["self", "top", "bottom", "common"] ["self", "top", "bottom"] (defScope (sRat 0)) := ⟨rfl, rfl, rfl, by decide +kernel, rfl, by decide +kernel, by decide +kernel⟩
theorem Kd.whole {C : Addr} {H : Hp} {v : V} (k : Kd C H v) (h : isW v = true) : ∃ i, v = .int i := by
  cases k <;> first | exact ⟨_, rfl⟩ | exact absurd h (by simp [isW])
abbrev InitD (K : PySem.W.Frag) (f : Addr) (fd : FuncData) := FunD K "__init__" "Ratio.__init__" (defArgs (sRat 0)) (defBody (sRat 0)) (defScope (sRat 0)) [.int 1] [] f fd
theorem ok_init {f fW : Addr} {fd fdW : FuncData} (F : InitD K f fd) (T : Txt K mg C CI fCI CZ fCZ)
    (GW : FnOk P w K mg base (L2.CX P w) 1 fW fdW ["value"] (spWhole C)) (mW : mg "is_whole" = some (.ref fW)) (kW : PySem.W.keepIn K (.ref fW) = true) (bW : L2.Binds K fdW ["value"] []) :
    FnOk P w K mg base (L2.CX P w) 3 f fd ["self", "top", "bottom"] (spInit C CI CZ) := by
  refine F.ok scI (fun vs H Q E h => ?_) (fun cdv A outer s H vs Q E hr h => ?_)
  · obtain ⟨p, dx, vt, vb, rfl, _⟩ := h
    rfl
  · obtain ⟨p, dx, vt, vb, rfl, hp, kt, kb, k⟩ := h
    have hr1 : Room 1 _ := hr.mono (by decide)
    refine ⟨_, pss_cons (ps_if (pt_not (pt_val (pe_call GW hr1 (by rfl) mW kW bW .nil passL (pa_cons (pv 1) pa_nil)))) (pss_one (ps_raiseGiv rfl PySem.Giv.ok_VE T.eI hr (takes_of rfl rfl rfl rfl) (pa_cons (pv 1) pa_nil) (by rfl))) pss_nil)
      (pss_cons (ps_if (pt_not (pt_val (pe_call GW hr1 (by rfl) mW kW bW .nil passL (pa_cons (pv 2) pa_nil)))) (pss_one (ps_raiseGiv rfl PySem.Giv.ok_VE T.eI hr (takes_of rfl rfl rfl rfl) (pa_cons (pv 2) pa_nil) (by rfl))) pss_nil)
      (pss_cons (ps_if (pt_cmpR op_eq (pv 2) pe_int (nomark _)) (pss_one (ps_raiseGiv rfl PySem.Giv.ok_ZD T.eZ hr (takes_of rfl rfl rfl rfl) (pa_cons (pv 1) pa_nil) (by rfl))) pss_nil)
      (pss_cons (ps_set (i := 3) scI.nd rfl (Or.inl rfl) (pe_ifExp (pt_cmpR op_gt (pv 2) pe_int (nomark _)) (pe_callBfun cr_gcd (by rfl) T.gcd (pa_cons (pv 1) (pa_cons (pv 2) pa_nil)))
        (pe_un un_neg (pe_callBfun cr_gcd (by rfl) T.gcd (pa_cons (pv 1) (pa_cons (pv 2) pa_nil))))))
      (pss_cons (ps_fld (pv 0) (pe_op op_fdivG (pv 1) (pv 3)) rfl)
      (pss_one (ps_fld (pv 0) (pe_op op_fdivG (pv 2) (pv 3)) rfl)))))), ?_⟩
    refine ⟨_, rfl, _, rfl, kt, _, rfl, ?_⟩
    rcases k with ⟨n1, k⟩ | ⟨y1, n2, k⟩ | ⟨t, b, rfl, rfl, k⟩
    · rw [n1]
      exact iteT ⟨_, rfl, _, rfl, k⟩
    · rw [y1]
      refine iteF ⟨_, rfl, _, rfl, kb y1, _, rfl, ?_⟩
      rw [n2]
      exact iteT ⟨_, rfl, _, rfl, k⟩
    · refine iteF ⟨_, rfl, _, rfl, kb rfl, _, rfl, iteF ⟨_, rfl, rfl, _, rfl, ?_⟩⟩
      rcases k with ⟨b0, k⟩ | ⟨b0, bs, k⟩
      · refine if_pos' (decide_eq_true (show V.int b = V.int 0 by rw [b0])) ?_
        exact ⟨_, rfl, _, rfl, k⟩
      · refine if_neg' (decide_eq_false (fun z => b0 (V.int.inj z))) ?_
        have cb : (cmn t b).natAbs < 2 ^ 5000 := Nat.lt_of_le_of_lt (cmn_le b0) bs
        have dv : ∀ x, CDivG x (cmn t b) := fun x => wide_divG (cmn_ne b0) cb (by decide) (by decide)
        have e0 : upd (upd H p (.ins C dx (putF "top" (.int (nt t b)) []))) p (.ins C dx (flds (nt t b) (nb t b))) = upd H p (.ins C dx (flds (nt t b) (nb t b))) := upd_upd
        rw [← e0] at k
        have nxt : ∀ c : Int, c = cmn t b → (tSeq (sFld K (tVar 0) (tOp (rI CDivG fun i j => V.int (i.fdiv j)) (tVar 1) (tVar 3)) "top") (sFld K (tVar 0) (tOp (rI CDivG fun i j => V.int (i.fdiv j)) (tVar 2) (tVar 3)) "bottom"))
            { nx := fun _ H' => Q .non H', rt := Q } [some (.ref p), some (.int t), some (.int b), some (.int c)] H := by
          rintro c rfl
          exact ⟨_, rfl, _, rfl, _, _, rfl, rfl, dv t, _, rfl, p, C, dx, _, rfl, hp, T.cl, T.nT, (by show 0 < 1000; decide), _, rfl, _, rfl, _, _, rfl, rfl, dv b, _, rfl, p, C, dx, _, rfl, upd_same, T.cl, T.nB, (by show 1 < 1000; decide), k⟩
        refine ⟨_, rfl, _, _, rfl, rfl, _, rfl, ?_⟩
        refine ite2 (fun hb => ?_) (fun hb => ?_)
        · exact ⟨_, rfl, _, rfl, _, _, rfl, nxt _ (if_pos (of_decide_eq_true hb)).symm⟩
        · exact ⟨_, rfl, _, rfl, _, _, rfl, _, rfl, nxt _ (if_neg (fun z => hb (decide_eq_true z))).symm⟩
end
end R1
end

-- OwnOps5
section
set_option Elab.async false
set_option linter.all false
set_option maxRecDepth 100000
namespace OwnOps
open PySem L2

section
variable {prog : Program} {w : World} {A : Around} {E : Value → Shared → Prop} {s : Shared} {K : PySem.W.Frag} {x C g : Addr} {ox : Obj} {od : Option Obj} {u : Value} {T : String}
/-- x op u by x's own def, u of a built-in type that is told by a look -/
theorem left_K {op : Operator} {fo ro rc : Option Value} {Q : Value → Shared → Prop} (Y : K.In s.heap) (I : PySem.W.InstAt s.heap x ox C od)
    (ht : PySem.W.Looks (model prog w) s.heap (typeOf u) (.type T)) (hc : PySem.W.selfFirst K C = true)
    (hs : PySem.W.findIn K (.ref C) (PySem.dunder op.info.2) = some (some (.ref g))) (hg : PySem.W.isFn K (.ref g) = true)
    (hrc : PySem.W.findIn K (.ref C) (PySem.dunderR op.info.2) = some rc) (hp : rc = none ∨ ∃ q : Addr, rc = some (.ref q))
    (hfo : PySem.W.findIn K (.type T) (PySem.dunder op.info.2) = some fo) (hro : PySem.W.findIn K (.type T) (PySem.dunderR op.info.2) = some ro) (hsub : PySem.W.subIn K (.type T) (.ref C) = some false)
    (h : wpAny (model prog w) A (call (.ref g) [.ref x, u]) (PySem.W.CmpBack Q) E s) : wpAny (model prog w) A (binaryOp op (.ref x) u) Q E s := by
  obtain ⟨dat, tl, hcd, hmro⟩ := PySem.W.ksp_first hc
  rcases hi : op.info with ⟨sy, nam⟩
  rw [hi] at hs hrc hfo hro
  dsimp only at hs hrc hfo hro
  have one := PySem.W.ksp_try Y I hs hg h
  obtain ⟨hh, gg, d, tt, os⟩ := s
  have M1 : PySem.W.Looks (model prog w) hh (typeOf (.ref x)) (.ref C) := I.type
  have M3 : PySem.W.Looks (model prog w) hh (fillsNumberSlot (.ref C) nam) true := PySem.W.fills_K Y hcd hmro hs
  have M4 : PySem.W.Looks (model prog w) hh (fillsNumberSlot (.type T) nam) ((fo.isSome && !isSeqSlot fo) || (ro.isSome && !isSeqSlot ro)) := PySem.W.ksp_fillsT Y hfo hro
  have M5 : PySem.W.Looks (model prog w) hh (isSubtype (.type T) (.ref C)) false := PySem.W.looks_subIn Y hsub
  have M6 : PySem.W.Looks (model prog w) hh (numberSlotInPython (.ref C) nam) true := PySem.W.ksp_inPy Y hs hrc hp
  have M7 : PySem.W.Looks (model prog w) hh (numberSlotInPython (.type T) nam) false := PySem.W.Looks.of_pure rfl
  have M8 : PySem.W.Looks (model prog w) hh (typeLookup (.type T) (PySem.dunderR nam)) ro := PySem.W.looks_findIn Y hro
  generalize ((fo.isSome && !isSeqSlot fo) || (ro.isSome && !isSeqSlot ro)) = fills at M4
  have differ : (Value.ref C == Value.type T) = false := Bool.eq_false_iff.mpr fun q => by cases beq_iff_eq.mp q
  simp only [binaryOp, hi]
  refine wpAny_holding (wpAny_bind ?_)
  unfold binaryOp1
  refine wpAny_bind (M1.at (wpAny_bind (ht.at (wpAny_bind (M3.at ?_)))))
  simp only [differ, Bool.false_eq_true, if_false]
  cases fills
  all_goals
    ksp_lk
    refine wpAny_mono one (fun r s' back => ?_) fun _ _ e => e
    obtain ⟨v, rfl, hq⟩ := back
    ksp_lk
    exact hq
end
end OwnOps
end

-- FnGd
section
set_option Elab.async false
set_option linter.all false
set_option maxRecDepth 100000
/-! what a def promises where no repr is under way (the law itself, and what it calls): so that a repr of lists and tuples may be asked. -/
namespace FnGd
open PySem L2 OwnOps PyProof.Rows
structure FnG (P : Program) (w : World) (K : PySem.W.Frag) (mg : Str → Option Value) (base : Heap) (CX : CXT) (k : Nat) (f : Addr) (fd : FuncData) (ps : List Str) (sp : Sp) : Prop where
  len : ∀ vs H Q E, sp vs H Q E → vs.length = ps.length
  run : ∀ (A : Around) (outer : List Env) (s : Shared) (H : Hp) (args : Args) (us : List Value) (vs : List V) (Q : VK) (E : XK), Room k A → A.guards = some [] → Env0 P w K mg base A outer s H → BindsTo s fd args (ps.zip us) → Vals vs us → sp vs H Q E →
    codeAny (model P w) A (.call (.ref f) args) (CR CX outer P w H s Q E) s
section
variable {P : Program} {w : World} {K : PySem.W.Frag} {mg : Str → Option Value} {base : Heap} {CX : CXT}
theorem okG {x qual : Str} {st : Stmt} {f : Addr} {fd : FuncData} {N ps : List Str} {k : Nat} {sp : Sp} (F : Fun K x qual st f fd) (S : FnScope N ps (defScope st)) (len : ∀ vs H Q E, sp vs H Q E → vs.length = ps.length)
    (hbody : ∀ (cdv : Value) (A : Around) (outer : List Env) (s : Shared) (H : Hp) (vs : List V) (Q : VK) (E : XK), Room k (A.deeper (envOfC qual (defScope st) s.heap.objs.size f cdv)) → A.guards = some [] → sp vs H Q E →
      ∃ t, PSs (cxOf CX P w K mg base N qual (defScope st) f cdv A outer s H E) (defBody st) t ∧ t { nx := fun _ H' => Q .non H', rt := Q } (start N vs) H) : FnG P w K mg base CX (k + 1) f fd ps sp := by
  obtain ⟨oc, od, kV, doc, pm, an, cdv, ct, osl, rfl, lk, hcd⟩ := F.ex
  refine ⟨len, fun A outer s H args us vs Q E room gd e0 bi rel told => ?_⟩
  have inn : K.In s.heap := e0.mod.kin.keeps fun b o e => (e0.bs b o e).1
  have free : s.heap.NoLimit := e0.mod.nolimit.keeps fun b o e => (e0.bs b o e).1
  refine codeAny_call_function room.depth (inn _ _ lk) rfl S.co S.gen rfl (PySem.W.codeRec_of inn hcd) (bi _ _ _ _ (wpAny_newFunctionEnv_cells S.kind (fun y hy => ?_) fun env he s1 x => ?_))
  · rcases S.par y.1 (List.of_mem_zip hy).1 with q | q
    · exact .inl q
    · exact .inr ⟨q, PySem.W.cellsFrom_some _ _ _ (.inl q)⟩
  subst he
  obtain ⟨t, ht, goal⟩ := hbody cdv A outer s H vs Q E (room.deeper _) gd told
  have I := inv_start (CX := CX) (E := E) (A := A) S room.hd e0 (len _ _ _ _ told) rel x
  refine ⟨free.keeps x.toInCall.keep, codeAny_func (wpAny_mono (ht.run [] s1 (start N vs) H _ I goal) (fun fl s' got => ?_) fun e s' got => got)⟩
  match fl, got with
  | .ret u, ⟨v, σ', H', J, rv, q⟩ => exact ⟨v, H', J.os, J.bare, J.base, J.hok, rv, q⟩
  | .next, ⟨σ', H', J, q⟩ => exact ⟨V.non, H', J.os, J.bare, J.base, J.hok, rfl, q⟩
  | .brk, ⟨_, _, _, q⟩ => exact q.elim
  | .cont, ⟨_, _, _, q⟩ => exact q.elim
theorem FnG.of {f : Addr} {fd : FuncData} {ps : List Str} {k : Nat} {sp : Sp} (F : FnOk P w K mg base CX k f fd ps sp) : FnG P w K mg base CX k f fd ps sp := ⟨F.len, fun A outer s H args us vs Q E r _ => F.run A outer s H args us vs Q E r⟩
end
theorem law_callG {P : Program} {w : World} {K : PySem.W.Frag} {mg mb : Str → Option Value} {CX : CXT} {k : Nat} {fa a : Addr} {fd : FuncData} {x : Str} {sp : Sp} {s₁ : Shared} {vs : List Value} {ns : List Int} (KX : K.In s₁.heap) (hns : s₁.heap.Ns mainGlobals mg) (hb : s₁.heap.Ns builtinsNs mb) (hbb : ∀ x : Str, x ≠ Str.ofString "__name__" → mb x = bootBuiltins x)
    (hlim : s₁.heap.NoLimit) (hg : s₁.gens = #[]) (ha : s₁.heap.get? a = some { cls := .type "list", data := .seq vs.toArray }) (hi : IntsAre vs ns) (hl : ns.length ≤ sizeLine) (hr : Room k callerA) (F : ∀ base : Heap, K.In base → base.Ns mainGlobals mg → FnG P w K mg base CX k fa fd [x] sp)
    (hbind : ∀ (s : Shared) (u : Value), BindsTo s fd { pos := [u] } [(x, u)]) (hsp : ∀ H : Hp, Only H → SqL K H a (ns.map V.int) → sp [.ref a] H (fun v _ => v = .bl true) fun _ _ _ => False) (hCX : ∀ (H : Hp) (e : Value) (s' : Shared), CX [] H s₁ (fun _ _ _ => False) e s' → False) :
    codeAny (model P w) callerA (.call (.ref fa) { pos := [.ref a] }) (fun r s' => r = .ok (.ret (.bool true)) ∧ OldK s₁.heap s'.heap ∧ s'.os = s₁.os ∧ AllBare s'.gens) s₁ := by
  have rv := vals_ints hi
  have lenV := hi.length
  have core : ∀ H : Hp, Only H → SqL K H a (ns.map V.int) → HOk P w H s₁.heap → (∀ b, H b ≠ none → b = a) → (H a ≠ none → K.lookup a = none) →
      codeAny (model P w) callerA (.call (.ref fa) { pos := [.ref a] }) (fun r s' => r = .ok (.ret (.bool true)) ∧ OldK s₁.heap s'.heap ∧ s'.os = s₁.os ∧ AllBare s'.gens) s₁ := by
    intro H hO hS hok hA hK
    have out : ∀ b, b ≠ a → H b = none := fun b n => by
      cases q : H b with
      | none => rfl
      | some u => exact absurd (hA b (by rw [q]; exact Option.some_ne_none _)) n
    have noA : ∀ {b o es ep}, s₁.heap.get? b = some o → o.data = .dict es ep → H b = none := fun {b o es ep} e d => out b fun z => by
      subst z
      rw [ha] at e
      cases e
      cases d
    have nsK : ∀ {b m}, s₁.heap.Ns b m → (hidT s₁.heap H).Ns b m := fun ⟨o, es, ep, e, d, r⟩ => ⟨o, es, ep, hidT_get e (noA e d), d, r⟩
    have hKb : K.In (hidT s₁.heap H) := fun b o e => by
      refine hidT_get (KX b o e) ?_
      by_cases z : b = a
      · subst z
        cases q : H b with
        | none => rfl
        | some u =>
          have := hK (by rw [q]; exact Option.some_ne_none _)
          rw [e] at this
          cases this
      · exact out b z
    have hM : L2.Mod K mg (hidT s₁.heap H) := ⟨hKb, nsK hns, ⟨mb, nsK hb, hbb⟩, let ⟨mc, h1, h2⟩ := hlim; ⟨mc, nsK h1, h2⟩⟩
    have e0 : Env0 P w K mg (hidT s₁.heap H) callerA [] s₁ H := ⟨rfl, hM, fun b o e => of_hidT e, Nat.le_of_eq (hidT_size _ _), trivial, fun b hb => (nomatch hb), hok, AllBare.of_eq hg⟩
    refine codeAny_mono ((F (hidT s₁.heap H) hKb (nsK hns)).run callerA [] s₁ H { pos := [.ref a] } [.ref a] [.ref a] (fun v _ => v = .bl true) (fun _ _ _ => False) hr rfl e0 (hbind s₁ _) (.cons rfl .nil) (hsp H hO hS)) fun r s' h => ?_
    match r, h with
    | .error e, h => exact (hCX H e s' h).elim
    | .ok .next, h => exact h.elim
    | .ok .brk, h => exact h.elim
    | .ok .cont, h => exact h.elim
    | .ok (.ret u), ⟨v, H', os, bare, un, hok', r', q⟩ =>
      subst q
      rw [show u = .bool true from r']
      refine ⟨rfl, OldK.of_keep fun b o e => ?_, os, bare⟩
      rcases hO b with z | ⟨ob, xs, z⟩
      · exact un.keep b o e z (fun z => nomatch z) (fun z => nomatch z)
      · have h1 := (hok b _ z).1
        have h2 := (hok' b _ (un.frzs b ob _ z)).1
        rw [e] at h1
        cases h1
        exact h2
  cases hk : K.lookup a with
  | none =>
    refine core (fun b => if b = a then some (.frz { cls := .type "list", data := .seq vs.toArray } (.lst (ns.map V.int))) else none) (fun b => ?_) (.inl (.inr ⟨_, if_pos rfl⟩)) (fun b u z => ?_) (fun b z => ?_) fun _ => hk
    · by_cases h : b = a
      · exact .inr ⟨_, _, if_pos h⟩
      · exact .inl (if_neg h)
    · by_cases h : b = a
      · have z' := (if_pos h).symm.trans z
        cases z'
        subst h
        exact ⟨ha, by rw [List.length_map]; exact hl, vs, 0, rv, ha⟩
      · have z' := (if_neg h).symm.trans z
        cases z'
    · by_cases h : b = a
      · exact h
      · exact absurd (if_neg h) z
  | some o =>
    have e := KX a o hk
    rw [ha] at e
    cases e
    exact core (fun _ => none) (fun _ => .inl rfl) (.inr ⟨_, vs.toArray, 0, hk, rfl, rfl, rfl, by rw [List.size_toArray, lenV]; exact hl, rv⟩) (fun b u z => nomatch z) (fun b z => absurd rfl z) fun z => absurd rfl z
theorem walk_ofG {l : PySem.W.OpenLaw} {n k : Nat} {q : Program} {loose : List Str} {XP : (Str → Option Value) → Heap → Prop} {YP : World → Heap → Prop} {d : DefRec} {K : Params → PySem.W.Frag} {CX : World → CXT} {sp : World → Sp} {x : Str} (hn : l.most = some n) (hn2 : n ≤ sizeLine) (hdf : d.params.defaults = []) (hr : Room k callerA)
    (hY : ∀ (w : World) (h : Heap), YP w h → (K w.params).In h)
    (F : ∀ (w : World) (mg : Str → Option Value) (fa : Addr) (h : Heap), (K w.params).In h → h.Ns mainGlobals mg → mg d.name = some (.ref fa) → ∃ fd, (∀ (s : Shared) (u : Value), BindsTo s fd { pos := [u] } [(x, u)]) ∧ ∀ base : Heap, (K w.params).In base → base.Ns mainGlobals mg → FnG l.prog w (K w.params) mg base (CX w) k fa fd [x] (sp w))
    (hsp : ∀ (w : World) (H : Hp) (a : Addr) (ns : List Int), ns.length ≤ n → Only H → SqL (K w.params) H a (ns.map V.int) → sp w [.ref a] H (fun v _ => v = .bl true) fun _ _ _ => False)
    (hCX : ∀ (w : World) (H : Hp) (s : Shared) (e : Value) (s' : Shared), CX w [] H s (fun _ _ _ => False) e s' → False) :
    PySem.W.WalkO q loose XP YP l.row.toRowW d [] (fun f vs => PySem.call f vs) :=
  Att.attach_call hn hdf fun w s₀ s₁ mg mb fa o pm cd doc a vs ns G Y ho hd hcd hmg hobj hints hlen hg => by
    have KX := hY w s₁.heap Y
    obtain ⟨fd, hb, hF⟩ := F w mg fa s₁.heap KX G.T.g hmg
    exact law_callG KX G.T.g G.T.b G.T.builtins G.T.nolimit hg hobj hints (Nat.le_trans hlen hn2) hr hF hb (fun H hO hS => hsp w H a ns hlen hO hS) fun H e s' => hCX w H s₁ e s'
end FnGd
end

-- HeadB
section
set_option Elab.async false
set_option linter.all false
set_option maxRecDepth 100000
set_option maxHeartbeats 2000000
/-! a law's end over a head that is one kernel run: the facts are one Bool over the written part, its addresses are told by names; nothing of the heap is written out. -/
namespace HdB
open PySem PySem.Spec PyProof.Rows L2 He
abbrev AlB : Type := Bool × AlD
def obsB (ck : List (PySem.W.Frag → Bool)) (fn : List DefD) (K : PySem.W.Frag) : AlB := (ck.all fun f => f K, obsD [] fn K)
def valB (fn : List DefD) : AlB := (true, valD fn)
abbrev SaysB (ck : List (PySem.W.Frag → Bool)) (fn : List DefD) (K : PySem.W.Frag) : Prop := obsB ck fn K = valB fn
def hookB (as : List Addr) (ck : List (PySem.W.Frag → Bool)) (fn : List DefD) : PySem.W.Hook where
  α := AlB
  obs := fun s => obsB ck fn (frG s.heap.get? as)
  val := fun _ => valB fn
  says := fun _ h => ∃ K : PySem.W.Frag, K.In h ∧ SaysB ck fn K
  of := fun _ _ e => ⟨_, frG_in, e⟩
  keeps := fun _ _ _ ⟨K, hK, c⟩ k => ⟨K, PySem.W.Frag.In.keeps hK k, c⟩
def obB (as : List Addr) (ck : List (PySem.W.Frag → Bool)) (fn : List DefD) (s : PySem.W.SharedT) : AlB := obsB ck fn (frG (HandSHeadRun.getT s) as)
theorem obB_eq (as : List Addr) (ck : List (PySem.W.Frag → Bool)) (fn : List DefD) (s : PySem.W.SharedT) : obB as ck fn s = (hookB as ck fn).obs s.abs := by
  have e : HandSHeadRun.getT s = s.abs.heap.get? := funext (HandSHeadRun.getT_eq s)
  unfold obB
  rw [e]
  rfl
section
variable {ck : List (PySem.W.Frag → Bool)} {fn : List DefD} {K : PySem.W.Frag}
theorem SaysB.fact (c : SaysB ck fn K) (i : Nat) {f : PySem.W.Frag → Bool} (h : ck[i]? = some f := by rfl) : f K = true := by
  have c1 : (ck.all fun f => f K) = true := congrArg (fun z : AlB => z.1) c
  exact List.all_eq_true.mp c1 f (List.mem_of_getElem? h)
theorem SaysB.isP (c : SaysB ck fn K) (i : Nat) {p : PySem.W.Frag → Prop} [∀ K, Decidable (p K)] (h : ck[i]? = some (fun K => decide (p K)) := by rfl) : p K := of_decide_eq_true (c.fact i h)
theorem SaysB.def_ (c : SaysB ck fn K) (i : Nat) {d : DefD} (h : fn[i]? = some d := by rfl) : ∃ fd, FunD K d.name d.qual d.params d.body d.scope (d.dvs K) (d.kws K) (fAd K d.at_) fd := by
  have c2 : SaysD [] fn K := congrArg (fun z : AlB => z.2) c
  exact c2.def_ i h
end
/-- a def without defaults -/
theorem funOf {K : PySem.W.Frag} {x q : Str} {st : Stmt} {f : Addr} (h : ∃ fd, FunD K x q (defArgs st) (defBody st) (defScope st) [] [] f fd) : ∃ fd, Fun K x q st f fd := by
  obtain ⟨fd, ⟨⟨oc, od, dV, kV, doc, pm, an, cdv, ct, osl, e, l, c, dd, kk⟩, kp⟩⟩ := h
  rcases dd with ⟨_, q⟩ | ⟨n, _⟩
  · subst q
    exact ⟨fd, ⟨⟨oc, od, kV, doc, pm, an, cdv, ct, osl, e, l, c⟩, kp⟩⟩
  · exact (n rfl).elim
/-- an own error class, seen by a Bool -/
def clsX (K : PySem.W.Frag) (C : Addr) (bt : List Value) (newId : String) : Bool := match K.lookup C with
  | some ⟨.type "type", _, .cls cd, sl⟩ => (match cd.mro, sl.toList with
    | .ref C' :: bm, [_, _, _, _, some (.builtin n), _] => C' == C && (n == newId && (!cd.hasDel && (cd.hasDict && PySem.Giv.tailIs bt bm)))
    | _, _ => false)
  | _ => false
theorem clsX_ok {K : PySem.W.Frag} {C : Addr} {bt : List Value} {newId : String} (q : clsX K C bt newId = true) :
    ∃ nm qn N bs bm sn sub ab col dd k0 k1 k2 k3 k5, K.lookup C = some (PySem.excClassObj nm qn C N bs bm true sn sub ab col dd k0 k1 k2 k3 k5 newId) ∧ PySem.Giv.tailIs bt bm = true := by
  unfold clsX at q
  split at q
  · rename_i dd cd sl ho
    split at q
    · rename_i C' bm k0 k1 k2 k3 n k5 hm hs
      obtain ⟨a1, q⟩ := ba q
      obtain ⟨a2, q⟩ := ba q
      obtain ⟨a3, q⟩ := ba q
      obtain ⟨a4, a5⟩ := ba q
      have b1 := beq_iff_eq.mp a1
      have b2 := beq_iff_eq.mp a2
      have b3 : cd.hasDel = false := by
        cases z : cd.hasDel with
        | false => rfl
        | true => rw [z] at a3; cases a3
      clear a1 a2 a3
      obtain ⟨nm, bs, mro, ns, qn, hd, sn, sub, ab, col, del⟩ := cd
      dsimp only at hm b3 a4
      subst hm b3 a4 b1 b2
      have hsl : sl = #[k0, k1, k2, k3, some (.builtin n), k5] := by
        obtain ⟨l⟩ := sl
        simp only at hs
        rw [hs]
      subst hsl
      exact ⟨nm, qn, ns, bs, bm, sn, sub, ab, col, dd, k0, k1, k2, k3, k5, ho, a5⟩
    · cases q
  · cases q
instance {K : PySem.W.Frag} {C : Addr} : Decidable (Cls K C) := decidable_of_iff (PySem.W.plainGet K C Str.empty = true ∧ PySem.W.hasDictIn K C = true ∧ PySem.W.plainOver K C = true ∧ PySem.W.findIn K (.ref C) "__setattr__" = some (some (.builtin "object.__setattr__")))
  ⟨fun ⟨a, b, c, d⟩ => ⟨a, b, c, d⟩, fun ⟨a, b, c, d⟩ => ⟨a, b, c, d⟩⟩
instance {K : PySem.W.Frag} {C : Addr} {f : Str} : Decidable (NoAttr K C f) := inferInstanceAs (Decidable (PySem.W.findIn K (.ref C) f = some none))
/-- an own error class that keeps its argument in the field given: all that is asked of it, by one Bool -/
def kwN (K : PySem.W.Frag) (f : Addr) : Bool := match K.lookup f with
  | some ⟨_, _, .func fd, _⟩ => (match fd.kwdefaults with
    | .none => true
    | _ => false)
  | _ => false
structure ErrB (K : PySem.W.Frag) (E f : Addr) (cn : Str) (bt : List Value) (newId : String) : Prop where
  here : PySem.W.nsIn K mainGlobals cn = some (some (.ref E))
  xL : clsX K E bt newId = true
  sa : PySem.W.findIn K (.ref E) "__setattr__" = some (some (.builtin "object.__setattr__"))
  ga : PySem.W.findIn K (.ref E) "__getattribute__" = some (some (.builtin "BaseException.__getattribute__"))
  gg : PySem.W.findIn K (.ref E) "__getattr__" = some none
  no : PySem.W.findIn K (.ref E) "given" = some none
  iC : PySem.W.findIn K (.ref E) "__init__" = some (some (.ref f))
  tC : PySem.W.typeIn K (.ref f) = some (.type "function")
  kC : PySem.W.keepIn K (.ref E) = true
  ex : PySem.W.subIn K (.ref E) (.type "BaseException") = some true
  ty : PySem.W.typeIn K (.ref E) = some (.type "type")
  hd : PySem.W.hasDictIn K E = true
  te : PySem.W.exmOne K (.ref E) (.ref E) = some true
  kn : kwN K f = true
instance {K : PySem.W.Frag} {E f : Addr} {cn : Str} {bt : List Value} {newId : String} : Decidable (ErrB K E f cn bt newId) := decidable_of_iff ((PySem.W.nsIn K mainGlobals cn = some (some (.ref E))) ∧ (clsX K E bt newId = true) ∧ (PySem.W.findIn K (.ref E) "__setattr__" = some (some (.builtin "object.__setattr__"))) ∧ (PySem.W.findIn K (.ref E) "__getattribute__" = some (some (.builtin "BaseException.__getattribute__"))) ∧ (PySem.W.findIn K (.ref E) "__getattr__" = some none) ∧ (PySem.W.findIn K (.ref E) "given" = some none) ∧ (PySem.W.findIn K (.ref E) "__init__" = some (some (.ref f))) ∧ (PySem.W.typeIn K (.ref f) = some (.type "function")) ∧ (PySem.W.keepIn K (.ref E) = true) ∧ (PySem.W.subIn K (.ref E) (.type "BaseException") = some true) ∧ (PySem.W.typeIn K (.ref E) = some (.type "type")) ∧ (PySem.W.hasDictIn K E = true) ∧ (PySem.W.exmOne K (.ref E) (.ref E) = some true) ∧ (kwN K f = true))
  ⟨fun ⟨here_, xL_, sa_, ga_, gg_, no_, iC_, tC_, kC_, ex_, ty_, hd_, te_, kn_⟩ => ⟨here_, xL_, sa_, ga_, gg_, no_, iC_, tC_, kC_, ex_, ty_, hd_, te_, kn_⟩, fun ⟨here_, xL_, sa_, ga_, gg_, no_, iC_, tC_, kC_, ex_, ty_, hd_, te_, kn_⟩ => ⟨here_, xL_, sa_, ga_, gg_, no_, iC_, tC_, kC_, ex_, ty_, hd_, te_, kn_⟩⟩
theorem ErrB.txt {K : PySem.W.Frag} {E f : Addr} {cn qn : Str} {bt : List Value} {newId : String} {p1 p2 q1 q2 q3 q4 : Pos} (b : ErrB K E f cn bt newId)
    (F : ∃ fd, FunD K "__init__" qn (PySem.Giv.gA p1 p2) (PySem.Giv.gB q1 q2 q3 q4) PySem.Giv.gS [] [] f fd) (mg : Str → Option Value) (hg : mg cn = some (.ref E)) : PySem.Giv.ErrTxt K mg cn qn newId bt E f := by
  obtain ⟨fd, ⟨⟨oc, od, dV, kV, doc, pm, an, cdv, ct, osl, e, l, c, dd, kk⟩, kp⟩⟩ := F
  subst e
  have k := b.kn
  unfold kwN at k
  rw [l] at k
  have hk : kV = .none := by
    cases kV with
    | none => rfl
    | _ => cases k
  have hd : dV = .none := by
    rcases dd with ⟨_, q⟩ | ⟨n, _⟩
    · exact q
    · exact (n rfl).elim
  subst hk hd
  exact { gC := hg, cls := clsX_ok b.xL, sa := b.sa, ga := b.ga, gg := b.gg, noN := b.no, iC := b.iC, tC := b.tC, kC := b.kC, exC := b.ex, tyC := b.ty, hdC := b.hd, te := b.te, fn := ⟨oc, od, doc, pm, an, cdv, ct, osl, p1, p2, q1, q2, q3, q4, l, c⟩ }
/-- where a class stands, where a method of it does -/
abbrev gaX (K : PySem.W.Frag) (x : Str) : Addr := He.ga K x
abbrev maX (K : PySem.W.Frag) (x m : Str) : Addr := He.ma K (He.ga K x) m
abbrev gD (x : Str) (st : Stmt) : DefD := ⟨(x, none), x, x, defArgs st, defBody st, defScope st, [], []⟩
abbrev mD (c x q : Str) (st : Stmt) : DefD := ⟨(c, some x), x, q, defArgs st, defBody st, defScope st, [], []⟩
/-- the law's end: K and what is known of it come out of the Hook -/
theorem walk_ofB {l : PySem.W.OpenLaw} {n k : Nat} {q : Program} {loose : List Str} {XP : (Str → Option Value) → Heap → Prop} {YP : World → Heap → Prop} {d : DefRec} {CX : World → CXT} {x : Str} (hn : l.most = some n) (hn2 : n ≤ sizeLine) (hdf : d.params.defaults = []) (hr : Room k callerA)
    (F : ∀ (w : World) (mg : Str → Option Value) (fa : Addr) (h : Heap), YP w h → h.Ns mainGlobals mg → mg d.name = some (.ref fa) → ∃ (K : PySem.W.Frag) (fd : FuncData) (sp : Sp), K.In h ∧ (∀ (s : Shared) (u : Value), BindsTo s fd { pos := [u] } [(x, u)]) ∧
      (∀ (H : Hp) (a : Addr) (ns : List Int), ns.length ≤ n → Only H → SqL K H a (ns.map V.int) → sp [.ref a] H (fun v _ => v = .bl true) fun _ _ _ => False) ∧
      ∀ base : Heap, K.In base → base.Ns mainGlobals mg → FnGd.FnG l.prog w K mg base (CX w) k fa fd [x] sp)
    (hCX : ∀ (w : World) (H : Hp) (s : Shared) (e : Value) (s' : Shared), CX w [] H s (fun _ _ _ => False) e s' → False) :
    PySem.W.WalkO q loose XP YP l.row.toRowW d [] (fun f vs => PySem.call f vs) :=
  Att.attach_call hn hdf fun w s₀ s₁ mg mb fa o pm cd doc a vs ns G Y ho hd hcd hmg hobj hints hlen hg => by
    obtain ⟨K, fd, sp, KX, hb, hsp, hF⟩ := F w mg fa s₁.heap Y G.T.g hmg
    exact FnGd.law_callG KX G.T.g G.T.b G.T.builtins G.T.nolimit hg hobj hints (Nat.le_trans hlen hn2) hr hF hb (fun H hO hS => hsp H a ns hlen hO hS) fun H e s' => hCX w H s₁ e s'
end HdB
end

-- HeadI
section
set_option Elab.async false
set_option linter.all false
set_option maxRecDepth 100000
/-! the head of a program that opens with imports: its opening run in the kernel too, then the top (HandS.Head0 to Head2 serve a program without imports). -/
noncomputable section
namespace HdI
open PySem PySem.W PySem.Calls PyProof.Rows HandSHeadRun
/-- the opening, to its end -/
def impF (st : SharedT → Thread → Option (SharedT × Thread)) : Nat → SharedT → Thread → Option SharedT
  | 0, _, _ => none
  | m + 1, s, t => match t.atExitBegin with
    | some [] => some s
    | some (_ :: _) => none
    | none => match st s t with
      | some (s', t') => frS s' fun s' => impF st m s' t'
      | none => none
theorem impF_ok {tb : String → Option Builtin} {p : Program} {w : World} : ∀ {m : Nat} {s s' : SharedT} {t : Thread}, impF (stepT (denote tb) p w) m s t = some s' → importEnds tb p w m s.abs t = some s'.abs
  | 0, _, _, _, h => by cases h
  | m + 1, s, s', t, h => by
    unfold impF at h
    unfold importEnds
    cases ht : t.atExitBegin with
    | some l =>
      rw [ht] at h
      cases l with
      | nil => cases h; rfl
      | cons a r => cases h
    | none =>
      rw [ht] at h
      cases hs : stepT (denote tb) p w s t with
      | none => rw [hs] at h; cases h
      | some r =>
        obtain ⟨s2, t2⟩ := r
        rw [hs] at h
        have h3 : (frS s2 fun s' => impF (stepT (denote tb) p w) m s' t2) = some s' := h
        rw [frS_eq] at h3
        have q := impF_ok h3
        show (match step (denote tb) p w s.abs t with
          | .go s' t' => importEnds tb p w m s' t'
          | .halt _ _ => none) = some s'.abs
        rw [stepT_spec hs]
        exact q
def s0T (p : Program) : SharedT := ⟨.nil, 0, (start p).1.heap.life, #[], (start p).1.drawn, (start p).1.toks, (start p).1.os⟩
theorem s0T_abs (p : Program) : (s0T p).abs = (start p).1 := rfl
/-- a shared state as a tree -/
def asT {α : Type} (s : Shared) (k : SharedT → Option α) : Option α := match putAll s.heap.objs.toList .nil 0 with
  | some (t, n) => frNat n fun n => k ⟨t, n, s.heap.life, s.gens, s.drawn, s.toks, s.os⟩
  | none => none
theorem asT_ok {α : Type} {s : Shared} {k : SharedT → Option α} {x : α} (h : asT s k = some x) : ∃ z : SharedT, z.abs = s ∧ k z = some x := by
  unfold asT at h
  cases e : putAll s.heap.objs.toList .nil 0 with
  | none => rw [e] at h; cases h
  | some r =>
    obtain ⟨t, n⟩ := r
    rw [e] at h
    have h1 : (frNat n fun n => k ⟨t, n, s.heap.life, s.gens, s.drawn, s.toks, s.os⟩) = some x := h
    rw [frNat_eq] at h1
    refine ⟨_, ?_, h1⟩
    show (⟨absHeap t n s.heap.life, s.gens, s.drawn, s.toks, s.os⟩ : Shared) = s
    rw [putAll_heap e]
/-- the opening's steps, the fence, the top's steps, the looks -/
def endI {α : Type} (st st' : SharedT → Thread → Option (SharedT × Thread)) (M1 M : Nat) (p : Program) (look : Shared → SharedT → α) : Option α :=
  match impF st' M1 (s0T (opening p)) (start (opening p)).2 with
  | some s => match fenceModules? p s.abs with
    | some s2 => asT s2 fun z => match s2.heap.isNs mainGlobals && s2.gens.size == 0 with
      | true => (goF st z.n (s2.heap.nsMap mainGlobals "__annotations__") M z (topStub p)).map (look s2)
      | false => none
    | none => none
  | none => none
theorem endI_ok {α : Type} {M1 M : Nat} {p : Program} {w : World} {look : Shared → SharedT → α} {x : α} (h : endI (stepT (denote treeTable) p w) (stepT (denote treeTable) (opening p) w) M1 M p look = some x) :
    ∃ s2 s3, fencedOpening treeTable p w M1 = some s2 ∧ (s2.heap.isNs mainGlobals && s2.gens.size == 0) = true ∧ topRun treeTable p w s2.heap.objs.size (s2.heap.nsMap mainGlobals "__annotations__") M s2 (topStub p) = some s3.abs ∧ look s2 s3 = x := by
  unfold endI at h
  cases e : impF (stepT (denote treeTable) (opening p) w) M1 (s0T (opening p)) (start (opening p)).2 with
  | none => rw [e] at h; cases h
  | some s =>
    rw [e] at h
    have q := impF_ok e
    rw [s0T_abs] at q
    have h1 : (match fenceModules? p s.abs with
      | some s2 => asT s2 fun z => match s2.heap.isNs mainGlobals && s2.gens.size == 0 with
        | true => (goF (stepT (denote treeTable) p w) z.n (s2.heap.nsMap mainGlobals "__annotations__") M z (topStub p)).map (look s2)
        | false => none
      | none => none) = some x := h
    cases e2 : fenceModules? p s.abs with
    | none => rw [e2] at h1; cases h1
    | some s2 =>
      rw [e2] at h1
      obtain ⟨z, hz, h2⟩ := asT_ok h1
      cases e3 : (s2.heap.isNs mainGlobals && s2.gens.size == 0) with
      | false =>
        rw [e3] at h2
        cases h2
      | true =>
        rw [e3] at h2
        obtain ⟨s3, h3, h4⟩ := Option.map_eq_some_iff.mp h2
        refine ⟨s2, s3, ?_, e3, ?_, h4⟩
        · unfold fencedOpening
          rw [q]
          exact e2
        · have r := goF_ok h3
          have en : s2.heap.objs.size = z.n := by
            rw [← hz]
            exact absHeap_size _ _ _
          rw [hz] at r
          rw [en]
          exact r
def looksI (p : Program) (s2 : Shared) (s : Shared) : Bool := staticsOk (importedModules p.main.body) s2.heap s.heap && namesBound p s.heap && gensDone s && laidKept s2.heap s.heap
theorem left_two {p q : Program} {loose : List Str} {Xt : Shared → Bool} {α : Type} {Yf : Shared → α} {Ya : World → α} {N M1 M : Nat} (le1 : Nat.ble M1 N = true) (le : Nat.ble M N = true)
    (run : ∀ w : World, endI (stepT (denote treeTable) p w) (stepT (denote treeTable) (opening p) w) M1 M p (fun s2 s => (looksI p s2 s.abs, openSeen q loose (importedModules p.main.body) Xt true s.abs, Yf s.abs)) = some (true, openGood q loose, Ya w)) :
    LeftO p q loose Xt Yf Ya N true := fun w => by
  obtain ⟨s2, s3, h1, h2, h3, h4⟩ := endI_ok (run w)
  obtain ⟨l1, l2, l3⟩ : _ ∧ _ ∧ _ := by simpa only [Prod.mk.injEq] using h4
  have r := topRun_mono (N - M) _ _ _ _ h3
  rw [show M + (N - M) = N by have := Nat.le_of_ble_eq_true le; omega] at r
  have l1' : (staticsOk (importedModules p.main.body) s2.heap s3.abs.heap && namesBound p s3.abs.heap && gensDone s3.abs && laidKept s2.heap s3.abs.heap) = true := l1
  have t : topFrom treeTable p w N s2 = some s3.abs := by
    unfold topFrom
    rw [h2]
    show (topRun treeTable p w s2.heap.objs.size (s2.heap.nsMap mainGlobals "__annotations__") N s2 (topStub p)).bind _ = _
    rw [r]
    show (match staticsOk (importedModules p.main.body) s2.heap s3.abs.heap && namesBound p s3.abs.heap && gensDone s3.abs && laidKept s2.heap s3.abs.heap with | true => some s3.abs | false => none) = _
    rw [l1']
  have f : fencedOpening treeTable p w N = some s2 := by
    unfold fencedOpening at h1 ⊢
    obtain ⟨a, b, c⟩ := Option.bind_eq_some_iff.mp h1
    have m := importEnds_mono (N - M1) _ _ _ _ b
    rw [show M1 + (N - M1) = N by have := Nat.le_of_ble_eq_true le1; omega] at m
    rw [m]
    exact c
  unfold openEnds
  rw [f]
  show (topFrom treeTable p w N _).map _ = _
  rw [t]
  exact congrArg some (Prod.ext l2 l3)
/-- the run's equation at a world, by the library's twins -/
def RunI (r : OpenRow) (q : Program) (H : Hook) (ob : SharedT → H.α) (M1 M : Nat) (loose : List PySem.Str) (w : World) : Prop :=
  endI (stepQ (denQ tabQ) r.prog w) (stepQ (denQ tabQ) (opening r.prog) w) M1 M r.prog (fun s2 s => (looksI r.prog s2 s.abs, seenQ q loose (importedModules r.prog.main.body) (fun s => xlAt q [] s && recOk r.toRowW.records s) s.abs, ob s)) = some (true, openGood q loose, H.val w)
theorem head_imp {r : OpenRow} {q : Program} {H : Hook} {ob : SharedT → H.α} {M1 M : Nat} {loose : List PySem.Str} {d : DefRec} {kwd : List (PySem.Str × PySem.Expr)} (ho : ∀ s : SharedT, ob s = H.obs s.abs)
    (run : ∀ w, RunI r q H ob M1 M loose w)
    (hdef : defOf q r.name = some (d, kwd)) (hp : r.prog.theDef r.name = some (d.params, d.body, d.scope)) (hk : kwWritten? d.params.kwonlyargs d.params.kw_defaults = some kwd)
    (hwr : (!r.writes || r.records.isEmpty) = true) (k1 : r.wellSaid = true) (ok : (chainsOk q && opensWell r.prog && (frees r.toRowW && r.within.isEmpty)) = true) (hb : r.prog.bare) (hw : r.toRowW.promised)
    (call : WalkO q loose (XL q []) H.says r.toRowW d kwd fun f vs => PySem.call f vs) : r.Holds := by
  have left : LeftO r.prog q loose (fun s => xlAt q [] s && recOk r.toRowW.records s) H.obs H.val (M + M1) true :=
    left_two (M1 := M1) (M := M) (Nat.ble_eq_true_of_le (by omega)) (Nat.ble_eq_true_of_le (by omega)) fun w => by
      have z := run w
      have eo : ob = fun s => H.obs s.abs := funext ho
      unfold RunI at z
      rw [eo] at z
      rw [stepQ_eq, denQ_eq, tabQ_eq]
      simp only [seenQ_eq]
      exact z
  exact holds_open (r := r) (q := q) (loose := loose) (XP := XL q []) (YP := H.says) (d := d) (kwd := kwd) left H.of H.keeps (fun s z => xl_of s (Bool.and_eq_true_iff.mp z).1) XL.keeps hdef hp hk (fun s z => recFacts_of (Bool.and_eq_true_iff.mp z).2) hwr k1 ok hb hw call
end HdI
end

-- ErrVal
section
set_option Elab.async false
set_option linter.all false
set_option maxRecDepth 100000
set_option maxHeartbeats 2000000
/-! An own error with the field `given`, held as a value. -/
namespace L2
open PySem PySem.Spec PyProof.Rows
/-- an error of the class cls at e, its dict at d -/
def ExG (cls : Value) (e d : Addr) : HO := .ext fun h => ∃ (oe : Obj) (vs : Array Value), h.get? e = some oe ∧ Zc cls (some d) oe ∧ oe.data = .fields vs ∧ vs[1]? = some .none
section
variable {X : Cx} {C fI : Addr} {cn qn : Str} {B newId initId : String} {bt : List Value}
/-- Err(x), as a value -/
theorem pe_mkGiv {a : Expr} {ta : TA} {p pos : Pos} {k : Nat} (Z : PySem.Giv.BaseOk B newId initId bt) (T : PySem.Giv.ErrTxt X.K X.mg cn qn newId bt C fI) (hr : Room k X.A) (ha : PA X [a] ta) (hg : Gl X cn) (hdb : (cn == ("__debug__" : Str)) = false := by decide)
    (he : starEach (a :: []) X.env = (false, eval a X.env) :: starEach [] X.env := by rfl) (hpl : (backTo pos (starEach [] X.env)).any (·.1) = false := by rfl) :
    PE X (.Call (.Name cn p) [a] [] pos) (fun σ H Q => ta σ H fun vs H1 => ∃ v, vs = [v] ∧ ∀ e d, H1 e = none → H1 d = none → d ≠ e → Q (.ref e) (upd (upd H1 d (.xd [(("given" : Str), v)])) e (ExG (.ref C) e d))) := by
  refine ⟨fun pins s σ H Q I h => ?_⟩
  refine wpAny_Call_Name_kw (ld_glob I hg T.gC ?_ hdb)
  refine PySem.W.callWith_K (h₀ := X.base) I.ok.mod.kin T.kC (thn (ha.run pos pins s σ H _ I h) fun us s1 hh => ?_) he hpl
  obtain ⟨vs, H1, I1, r1, v, ev, q1⟩ := hh
  subst ev
  refine ⟨I1.kIn, ?_⟩
  cases r1 with
  | cons rv rn =>
    rename_i v' us'
    cases rn
    show wpAny _ _ (call (.ref C) [v']) _ _ _
    have hlim := I1.nolimit
    obtain ⟨hp, g, dr, tk, os⟩ := s1
    refine wpAny_call (PySem.Giv.giv_made Z T I1.kIn hlim (by have := hr.dp; omega) fun h' tk' e d M => ?_)
    show EP X pins σ Q (.ref e) ⟨h', g, dr, tk', os⟩
    obtain ⟨oe, fv, hoe, hc, hd, hdat, h1⟩ := M.obj
    have hns := M.ns
    obtain ⟨G', g1, g2⟩ := restrict h' fun b => decide (b ≠ e)
    have gk : ∀ b, b ≠ e → G'.get? b = h'.get? b := fun b hb => g1 b (decide_eq_true hb)
    have ge : G'.get? e = none := g2 e (by simp)
    have old : ∀ b o, hp.get? b = some o → G'.get? b = some o := fun b o q => (gk b (Nat.ne_of_lt (Nat.lt_of_lt_of_le (Heap.lt_size q) M.new))).trans (M.keep b o q)
    have ob : ObjOk X.prog X.w (upd H1 d (.xd [(("given" : Str), v)])) G' d (.xd [(("given" : Str), v)]) :=
      ⟨_, hns.at (fun o q => (gk d M.dne).trans q), fun f => relO_giv rv f⟩
    have J : L2.Inv X pins σ (upd H1 d (.xd [(("given" : Str), v)])) ⟨G', g, dr, tk', os⟩ := I1.laid (t' := tk') old M.dbig ob
    have en : (upd H1 d (.xd [(("given" : Str), v)])) e = none := by
      rw [upd_ne (Ne.symm M.dne)]
      exact I1.hok.fresh M.new
    have J2 : L2.Inv X pins σ (upd (upd H1 d (.xd [(("given" : Str), v)])) e (ExG (.ref C) e d)) ⟨h', g, dr, tk', os⟩ := J.laidN (t' := tk') (fun b o q => by
      by_cases hb : b = e
      · rw [hb, ge] at q; cases q
      · exact (gk b hb).symm.trans q) ge en ⟨⟨oe, fv, hoe, ⟨hc, hd⟩, hdat, h1⟩, ⟨oe, hoe⟩, fun _ _ ⟨o, u, q, r⟩ k => ⟨o, u, k o q, r⟩⟩
    exact ⟨.ref e, _, J2, rfl, q1 e d (I1.hok.fresh M.new) (I1.hok.fresh M.dbig) M.dne⟩
/-- err.given, err an error held as a value -/
theorem pe_givVal {e : Expr} {te : TE} {pos : Pos} (T : PySem.Giv.ErrTxt X.K X.mg cn qn newId bt C fI) (he : PE X e te) (hb : attributeBase e "given" X.env (eval e X.env) = eval e X.env := by rfl) :
    PE X (.Attribute e "given" pos) (fun σ H Q => te σ H fun x H1 => ∃ a d v, x = .ref a ∧ H1 a = some (ExG (.ref C) a d) ∧ H1 d = some (.xd [(("given" : Str), v)]) ∧ Q v H1) := by
  refine ⟨fun pins s σ H Q I h => ?_⟩
  refine attr_of hb (thn (he.run pins s σ H _ I h) fun u s1 hh => ?_)
  obtain ⟨x, H1, I1, rx, a, d, v, ex, ea, ed, q⟩ := hh
  subst ex
  obtain rfl : u = Value.ref a := rx
  obtain ⟨⟨oe, vs, ha, hz, hd, h1⟩, _, _⟩ := (show ObjOk X.prog X.w H1 s1.heap a (ExG (.ref C) a d) from I1.hok a _ ea)
  have hx : ObjOk X.prog X.w H1 s1.heap d (.xd [(("given" : Str), v)]) := I1.hok d _ ed
  obtain ⟨mA, hns, hr⟩ := hx
  obtain ⟨od, ho, hl⟩ := lookIn_ns hns
  have l : List.lookup ("given" : Str) [(("given" : Str), v)] = some v := by simp [List.lookup]
  obtain ⟨u, hu, ru⟩ := RelO.some_of (v := v) (o := mA "given") (by rw [← l]; exact hr "given")
  have J : PySem.W.InstAt s1.heap a oe C (some od) := ⟨ha, hz.1, by unfold PySem.W.notCls; rw [hd] <;> rfl, by rw [hz.2]; exact ho⟩
  exact HandSPX.exc_get I1.kIn J T.ga T.gg T.exC (PySem.W.findObj_own T.hdC T.noN rfl (by rw [hl, hu])) (handed_of ru) ⟨v, H1, I1.tok _, ru, q⟩
end
end L2
end

-- KeyErr
section
set_option Elab.async false
set_option linter.all false
set_option maxRecDepth 100000
set_option maxHeartbeats 2000000
/-! An own error class over KeyError: it is made by LookupError's __new__, so its line of classes is longer than that one's. -/
namespace PySem
namespace Giv
open PySem.W PySem.Calls PyProof.Rows PySem.HandSPX Builtin Builtin.ObjectAttr
abbrev keT : List Value := [.type "KeyError", .type "LookupError", .type "Exception", .type "BaseException", .type "object"]
theorem ke_pass (self : Value) : refuseLoop self "__setattr__" keT = pure () := by
  kernel_rfl
section
variable {M : Model} {A : Around} {E : Value → Shared → Prop} {hp : Heap} {gs : Array GenState} {dw : Drawn} {tk : Nat} {ot : OsState}
variable {n1 n2 : Str} {D N : Addr} {bl ln l0 : List Value} {hs : Bool} {sn : List Str} {su : List Value} {ab : Bool} {co : Option Bool} {dd : Option Addr} {j0 j1 j2 j3 j5 : Option Value} {B nw ini : String}
/-- what the class's line of classes is asked -/
structure Line (B : String) (ln : List Value) : Prop where
  own : ln.contains (.type B) = true
  att : ln.contains (.type "AttributeError") = false
  nam : ln.contains (.type "NameError") = false
theorem Line.own' (z : Line B ln) : (Value.ref D :: ln).contains (.type B) = true := by rw [List.contains_cons, z.own, Bool.or_true]
theorem Line.att' (z : Line B ln) : (Value.ref D :: ln).contains (.type "AttributeError") = false := by rw [List.contains_cons, z.att] <;> rfl
theorem Line.nam' (z : Line B ln) : (Value.ref D :: ln).contains (.type "NameError") = false := by rw [List.contains_cons, z.nam] <;> rfl
abbrev clsO (n1 n2 : Str) (D N : Addr) (bl ln : List Value) (hs : Bool) (sn : List Str) (su : List Value) (ab : Bool) (co : Option Bool) (dd : Option Addr) (j0 j1 j2 j3 j5 : Option Value) (nw : String) : Obj := excClassObj n1 n2 D N bl ln hs sn su ab co dd j0 j1 j2 j3 j5 nw
theorem asks_new (Z : ExcBaseFacts B nw ini l0) (z : Line B ln) {more : List Value} {Q : Unit → Shared → Prop} (at_ : hp.get? D = some (clsO n1 n2 D N bl ln hs sn su ab co dd j0 j1 j2 j3 j5 nw)) (q : Q () ⟨hp, gs, dw, tk, ot⟩) :
    wpAny M A (checkBuiltinCall nw ⟨.ref D :: more, []⟩) Q E ⟨hp, gs, dw, tk, ot⟩ := by
  have y := z.own' (D := D)
  have st := Z.noStar
  simp only [checkBuiltinCall, Z.newKind, Z.newSplit, Z.newRow]
  repeat (first
    | refine wpAny_loadPart_at at_ ?_
    | (refine wpAny_isSubtype_exc at_ ?_; rw [y])
    | refine wpAny_staticBase_exc at_ ?_
    | refine wpAny_madeBy_exc at_ ?_
    | simp only [bne_self_eq_false, Bool.false_eq_true, if_false]
    | wp_step)
  exact q
end
section
variable {prog : Program} {w : World} {A : Around} {E : Value → Shared → Prop} {R : Result → Shared → Prop} {hp : Heap} {gs : Array GenState} {dw : Drawn} {tk : Nat} {ot : OsState}
variable {n1 n2 : Str} {D N : Addr} {bl ln l0 : List Value} {hs : Bool} {sn : List Str} {su : List Value} {ab : Bool} {co : Option Bool} {dd : Option Addr} {j0 j1 j2 j3 j5 : Option Value} {B nw ini : String}
theorem runs_new (Z : ExcBaseFacts B nw ini l0) (z : Line B ln) {more : List Value} (at_ : hp.get? D = some (clsO n1 n2 D N bl ln hs sn su ab co dd j0 j1 j2 j3 j5 nw)) (few : more.length ≤ sizeLine)
    (q : R (.ok (.ret (.ref (hp.objs.size + 1)))) ⟨(hp.push (W.kdv_tup more)).push (excO D hp.objs.size), gs, dw, tk, ot⟩) :
    codeAny (model prog w) A (.builtin nw ⟨.ref D :: more, []⟩) R ⟨hp, gs, dw, tk, ot⟩ := by
  have e0 := Z.ends
  have y0 := z.own' (D := D)
  have y1 := z.att' (D := D)
  have y2 := z.nam' (D := D)
  refine codeAny_builtinAt Z.entry ?_
  unfold Builtin.«BaseException.__new__»
  refine wpAt_bind ?_
  show wpAt _ _ _ (stack >>= _) _ _ _
  refine wpAt_bind (wpAt_stack fun _ _ => wpAt_of_wpAny ?_)
  wp_walk
  refine wpAt_of_wpAny ?_
  rw [Z.owner]
  repeat (first
    | with_reducible refine wpAny_madeHere_exc Z.canon at_ ?_
    | with_reducible refine wpAny_loadPart_at at_ ?_
    | (with_reducible refine wpAny_isSubtype_exc at_ ?_
       first | rw [y0] | rw [y1] | rw [y2])
    | wp_step)
  show R _ _
  rw [Heap.size_push]
  exact q
theorem makes (Z : ExcBaseFacts B nw ini l0) (z : Line B ln) {more : List Value} {fi : Addr} {Q : Fin → Shared → Prop} (at_ : hp.get? D = some (clsO n1 n2 D N bl ln hs sn su ab co dd j0 j1 j2 j3 j5 nw)) (few : more.length ≤ sizeLine)
    (li : W.Looks (model prog w) hp (typeLookup (.ref D) "__init__") (some (.ref fi))) (lb : ∀ x, W.Looks (model prog w) hp (bindSpecial (.ref fi) x) (.ref fi, [x]))
    (q : codeAny (model prog w) A (.call (.ref fi) ⟨.ref (hp.objs.size + 1) :: more, []⟩)
      (fun r s' => match r with
        | .ok (.ret v) => v = .none ∧ Q (.done (.ret (.ref (hp.objs.size + 1)))) s'
        | .ok _ => False
        | .error e => E e s') ⟨(hp.push (W.kdv_tup more)).push (excO D hp.objs.size), gs, dw, tk, ot⟩) :
    wpAny (model prog w) A (Builtin.«type.__call__» ⟨.ref D :: more, []⟩) Q E ⟨hp, gs, dw, tk, ot⟩ := by
  repeat (first
    | with_reducible refine wpAny_loadPart_at at_ ?_
    | with_reducible refine wpAny_madeBy_exc at_ ?_
    | wp_step)
  refine codeAny_call_builtin_code (Code.quiet_builtin _ Z.quiet) (asks_new Z z at_ (runs_new Z z at_ few ?_))
  show wpAny _ _ _ _ _ _
  have old : ∀ b o, hp.get? b = some o → ((hp.push (W.kdv_tup more)).push (excO D hp.objs.size)).get? b = some o := fun b o e => Heap.get?_push_of_some _ (Heap.get?_push_of_some _ e)
  have at2 := old _ _ at_
  have new : ((hp.push (W.kdv_tup more)).push (excO D hp.objs.size)).get? (hp.objs.size + 1) = some (excO D hp.objs.size) := by heap_get
  have self : (Value.ref D :: ln).contains (.ref D) = true := by simp
  have l1 := li.keeps old
  have l2 := (lb (.ref (hp.objs.size + 1))).keeps old
  unfold isInstance
  repeat (first
    | with_reducible refine wpAny_loadPart_at new ?_
    | (with_reducible refine wpAny_isSubtype_exc at2 ?_; rw [self])
    | wp_step)
  show wpAny _ _ (typeLookup (.ref D) _) _ _ _
  refine l1.at ?_
  refine wpAny_holding (wpAny_bind (l2.at ?_))
  refine wpAny_bind (wpAny_call (codeAny_mono q fun r s' x => ?_))
  rcases r with e | (v | _ | _ | _) <;> first | exact x | exact x.elim | skip
  obtain ⟨rfl, x⟩ := x
  first | exact wpAny_pure (wpAny_pure x) | (wp_walk; exact x)
theorem called (Z : ExcBaseFacts B nw ini l0) (z : Line B ln) {more : List Value} {fi : Addr} (at_ : hp.get? D = some (clsO n1 n2 D N bl ln hs sn su ab co dd j0 j1 j2 j3 j5 nw)) (few : more.length ≤ sizeLine)
    (li : W.Looks (model prog w) hp (typeLookup (.ref D) "__init__") (some (.ref fi))) (lb : ∀ x, W.Looks (model prog w) hp (bindSpecial (.ref fi) x) (.ref fi, [x]))
    (q : codeAny (model prog w) (A.under (.builtin "type.__call__" ⟨.ref D :: more, []⟩)) (.call (.ref fi) ⟨.ref (hp.objs.size + 1) :: more, []⟩) (W.InitBack (hp.objs.size + 1) R)
      ⟨(hp.push (W.kdv_tup more)).push (excO D hp.objs.size), gs, dw, tk, ot⟩) :
    codeAny (model prog w) A (.call (.ref D) ⟨more, []⟩) R ⟨hp, gs, dw, tk, ot⟩ := by
  have a1 := tc_lookup
  have a2 := tc_bind (.ref D)
  have ty : (⟨hp, gs, dw, tk, ot⟩ : Shared).TypeIs (.ref D) "type" := ⟨_, at_, rfl⟩
  refine codeAny_of_tree ?_
  show wpAny _ _ (callAny (.ref D) _) _ _ _
  repeat (any_goals (first
    | assumption
    | with_reducible refine wpAny_loadPart_at at_ ?_
    | wp_step))
  refine ⟨rfl, ?_⟩
  refine codeAny_call_builtin_at (Code.quiet_builtin _ (by decide +kernel)) entry_typeCall ?_
  refine wpAny_check_type_call_sub at_ (makes Z z at_ few li lb ?_)
  refine codeAny_mono q fun r s' x => ?_
  rcases r with e | (v | _ | _ | _) <;> exact x
end
end Giv
end PySem
end

-- KeyErr2
section
set_option Elab.async false
set_option linter.all false
set_option maxRecDepth 100000
set_option maxHeartbeats 2000000
namespace PySem
namespace Giv
open PySem.W PySem.Calls PyProof.Rows PySem.HandSPX Builtin Builtin.ObjectAttr
theorem line_of {B : String} {bt bm : List Value} (h : tailIs bt bm = true) (z : Line B bt) : Line B bm := ⟨(tail_has _ _ h).trans z.own, (tail_has _ _ h).trans z.att, (tail_has _ _ h).trans z.nam⟩
/-- a class of errors whose line ends with bt, made by newId -/
structure BaseL (newId : String) (bt : List Value) : Prop where
  base : ∃ B ini l0, ExcBaseFacts B newId ini l0 ∧ Line B bt
  pass : ∀ self, refuseLoop self "__setattr__" bt = pure ()
  obj : bt.contains (.type "object") = true
theorem ke_L : BaseL "LookupError.__new__" keT := ⟨⟨_, _, _, F.excBase_LookupError, ⟨by decide +kernel, by decide +kernel, by decide +kernel⟩⟩, ke_pass, by decide +kernel⟩
section
variable {prog : Program} {w : World} {A : Around} {E : Value → Shared → Prop} {R : Result → Shared → Prop} {s : Shared} {K : Frag} {mg : Str → Option Value} {C fI : Addr} {cn qn : Str} {newId : String} {bt : List Value}
theorem giv_initL (Z : BaseL newId bt) (T : ErrTxt K mg cn qn newId bt C fI) {x t0 : Addr} {v : Value} (X : K.In s.heap) (hlim : s.heap.NoLimit) (hx : s.heap.get? x = some (excO C t0)) (hroom : A.depth < recursionLimit)
    (hq : ∀ h' tk dx, GivEnd s.heap h' x C dx t0 v → R (.ok (.ret .none)) { s with heap := h', toks := tk }) :
    codeAny (model prog w) A (.call (.ref fI) ⟨[.ref x, v], []⟩) R s := by
  obtain ⟨oc, od, doc, pm, an, cdv, ct, osl, p1, p2, q1, q2, q3, q4, ho, hcd⟩ := T.fn
  obtain ⟨nm, q, N, bs, bm, sn, sub, ab, col, dd, k0, k1, k2, k3, k5, hC, hbm⟩ := T.cls
  have hcl : clsIn K C = some { name := nm, bases := bs, mro := .ref C :: bm, ns := N, qualname := q, hasDict := true, slotNames := sn, subclasses := sub, abstract := ab, collection := col, hasDel := false } := by unfold clsIn; rw [hC] <;> rfl
  refine Att.call_fn (binds := [("self", .ref x), ("given", v)]) X hlim ho hcd hroom (BindsTo.of_eq (by first | rfl | with_unfolding_all rfl)) (by first | rfl | decide | with_unfolding_all rfl) (fun s₁ IC => ?_) rfl rfl rfl
  obtain ⟨h₁, tk₁, rfl⟩ := IC.toInCall.same
  have k : ∀ b o, s.heap.get? b = some o → h₁.get? b = some o := IC.toInCall.keep
  have hn := IC.toInCall.ns
  have X₁ : K.In h₁ := X.keeps k
  have hx₁ := k _ _ hx
  show wpAny _ _ (execs _ _) _ _ _
  refine wpAny_execs_cons (plainObj_wpAny_Assign_Attribute ?_)
  refine ldG (v := v) hn (by first | rfl | with_unfolding_all rfl | kernel_rfl) (ldG (v := .ref x) hn (by first | rfl | with_unfolding_all rfl | kernel_rfl) ?_)
  refine set_plain X₁ (ox := excO C t0) (od := none) ⟨hx₁, rfl, rfl, trivial⟩ T.sa ?_
  refine osa_giv Z.pass Z.obj X₁ hx₁ hcl rfl hbm rfl T.noN (fun h₃ tk₃ dx k₃ dn dne hx₃ hn₃ => ?_)
  show wpAny _ _ (execs _ _) _ _ _
  have z : s.heap.objs.size < h₁.objs.size := hn.lt
  exact wpAny_execs_nil (hq h₃ tk₃ dx ⟨fun b o hb e => k₃ b o hb (k b o e), hx₃, Nat.le_of_lt (Nat.lt_of_lt_of_le z dn), dne, hn₃⟩)
theorem giv_madeL (Z : BaseL newId bt) (T : ErrTxt K mg cn qn newId bt C fI) {v : Value} (X : K.In s.heap) (hlim : s.heap.NoLimit) (hroom : A.depth + 1 < recursionLimit)
    (hq : ∀ h' tk e d, GivMade s.heap h' e C d v → R (.ok (.ret (.ref e))) { s with heap := h', toks := tk }) :
    codeAny (model prog w) A (.call (.ref C) ⟨[v], []⟩) R s := by
  obtain ⟨nm, q, N, bs, bm, sn, sub, ab, col, dd, k0, k1, k2, k3, k5, hC, hbm⟩ := T.cls
  obtain ⟨B, ini, l0, ZF, ZL⟩ := Z.base
  obtain ⟨hp, g, dr, tk, os⟩ := s
  have k : ∀ b o, hp.get? b = some o → ((hp.push (kdv_tup [v])).push (excO C hp.objs.size)).get? b = some o := fun b o e => Heap.get?_push_of_some _ (Heap.get?_push_of_some _ e)
  have hget : ((hp.push (kdv_tup [v])).push (excO C hp.objs.size)).get? (hp.objs.size + 1) = some (excO C hp.objs.size) := by heap_get
  refine called ZF (line_of hbm ZL) (X _ _ hC) (one_fits v) (looks_findIn X T.iC) (fun self => bind_fn X self T.tC) ?_
  refine giv_initL (s := ⟨(hp.push (kdv_tup [v])).push (excO C hp.objs.size), g, dr, tk, os⟩) Z T (X.keeps k) (hlim.keeps k) hget ?_ fun h' tk' dx ⟨k', hx, dn, dne, hns⟩ => ?_
  · show A.depth + 1 < recursionLimit
    exact hroom
  · have old : ∀ b o, hp.get? b = some o → h'.get? b = some o := fun b o e => k' b o (Nat.ne_of_lt (Nat.lt_succ_of_lt (Heap.lt_size e))) (k b o e)
    have z : hp.objs.size + 1 + 1 ≤ dx := by
      first
        | (simpa only [Heap.size_push] using dn)
        | exact dn
        | (have q := dn; rw [Heap.size_push, Heap.size_push] at q; exact q)
    exact ⟨rfl, hq h' tk' (hp.objs.size + 1) dx ⟨old, Nat.le_succ _, ⟨_, _, hx, rfl, rfl, rfl, rfl⟩, Nat.le_trans (Nat.le_trans (Nat.le_succ _) (Nat.le_succ _)) z, dne, hns⟩⟩
end
end Giv
end PySem
namespace L2
open PySem PySem.Spec PyProof.Rows
section
variable {X : Cx} {C fI : Addr} {cn qn : Str} {newId : String} {bt : List Value}
theorem pmk_givL {a : Expr} {ta : TA} {p pos : Pos} {k : Nat} (Z : PySem.Giv.BaseL newId bt) (T : PySem.Giv.ErrTxt X.K X.mg cn qn newId bt C fI) (hr : Room k X.A) (ha : PA X [a] ta) (hg : Gl X cn) (hdb : (cn == ("__debug__" : Str)) = false)
    (he : starEach (a :: []) X.env = (false, eval a X.env) :: starEach [] X.env := by rfl) (hpl : (backTo pos (starEach [] X.env)).any (·.1) = false := by rfl) :
    PMk X (.Call (.Name cn p) [a] [] pos) (tMkGiv C ta) := by
  intro pins s σ H Q I h
  refine wpAny_Call_Name_kw (ld_glob I hg T.gC ?_ hdb)
  refine PySem.W.callWith_K (h₀ := X.base) I.ok.mod.kin T.kC (thn (ha.run pos pins s σ H _ I h) fun us s1 hh => ?_) he hpl
  obtain ⟨vs, H1, I1, r1, v, ev, q1⟩ := hh
  subst ev
  refine ⟨I1.kIn, ?_⟩
  cases r1 with
  | cons rv rn =>
    rename_i v' us'
    cases rn
    show wpAny _ _ (call (.ref C) [v']) _ _ _
    have hlim := I1.nolimit
    obtain ⟨hp, g, dr, tk, os⟩ := s1
    refine wpAny_call (PySem.Giv.giv_madeL Z T I1.kIn hlim (by have := hr.dp; omega) fun h' tk' e d M => ?_)
    show MkP X pins σ Q (.ref e) ⟨h', g, dr, tk', os⟩
    obtain ⟨oe, fv, hoe, hc, hd, hdat, h1⟩ := M.obj
    have hns := M.ns
    obtain ⟨G', g1, g2⟩ := restrict h' fun b => decide (b ≠ e)
    have gk : ∀ b, b ≠ e → G'.get? b = h'.get? b := fun b hb => g1 b (decide_eq_true hb)
    have ge : G'.get? e = none := g2 e (by simp)
    have old : ∀ b o, hp.get? b = some o → G'.get? b = some o := fun b o q => (gk b (Nat.ne_of_lt (Nat.lt_of_lt_of_le (Heap.lt_size q) M.new))).trans (M.keep b o q)
    have ob : ObjOk X.prog X.w (upd H1 d (.xd [(("given" : Str), v)])) G' d (.xd [(("given" : Str), v)]) :=
      ⟨_, hns.at (fun o q => (gk d M.dne).trans q), fun f => relO_giv rv f⟩
    have J : L2.Inv X pins σ (upd H1 d (.xd [(("given" : Str), v)])) ⟨G', g, dr, tk', os⟩ := I1.laid (t' := tk') old M.dbig ob
    refine ⟨e, oe, fv, ⟨G', g, dr, tk', os⟩, _, .ref C, some d, rfl, J, fun b o q => ?_, ge, hoe, ⟨hc, hd⟩, hdat, h1, ?_, rfl, I1.bare, raises_own T.exC T.tyC, q1 d (I1.hok.fresh M.dbig)⟩
    · by_cases hb : b = e
      · have q' : G'.get? b = some o := q
        rw [hb, ge] at q'; cases q'
      · exact (gk b hb).symm.trans q
    · rw [upd_ne (Ne.symm M.dne)]
      exact I1.hok.fresh M.new
theorem ps_raiseL {a : Expr} {ta : TA} {W : WX} {p pos pos2 : Pos} {k : Nat} (hc : X.calm = true) (Z : PySem.Giv.BaseL newId bt) (T : PySem.Giv.ErrTxt X.K X.mg cn qn newId bt C fI) (hr : Room k X.A) (tk : Takes X W) (ha : PA X [a] ta) (hg : Gl X cn) (hdb : (cn == ("__debug__" : Str)) = false := by decide)
    (he : starEach (a :: []) X.env = (false, eval a X.env) :: starEach [] X.env := by rfl) (hpl : (backTo pos (starEach [] X.env)).any (·.1) = false := by rfl) :
    PS X (.Raise (some (.Call (.Name cn p) [a] [] pos)) none pos2) (tRaiseGiv C W ta) := ps_raise hc tk (pmk_givL Z T hr ha hg hdb he hpl)
end
end L2
end

-- ErrValL
section
set_option Elab.async false
set_option linter.all false
set_option maxRecDepth 100000
set_option maxHeartbeats 2000000
/-! own errors over KeyError, LookupError, OverflowError, RuntimeError and the like, held as values. -/
namespace L2
open PySem PySem.Spec PyProof.Rows
section
variable {X : Cx} {C fI : Addr} {cn qn : Str} {newId : String} {bt : List Value}
/-- Err(x), as a value -/
theorem pe_mkGivL {a : Expr} {ta : TA} {p pos : Pos} {k : Nat} (Z : PySem.Giv.BaseL newId bt) (T : PySem.Giv.ErrTxt X.K X.mg cn qn newId bt C fI) (hr : Room k X.A) (ha : PA X [a] ta) (hg : Gl X cn) (hdb : (cn == ("__debug__" : Str)) = false := by decide)
    (he : starEach (a :: []) X.env = (false, eval a X.env) :: starEach [] X.env := by rfl) (hpl : (backTo pos (starEach [] X.env)).any (·.1) = false := by rfl) :
    PE X (.Call (.Name cn p) [a] [] pos) (fun σ H Q => ta σ H fun vs H1 => ∃ v, vs = [v] ∧ ∀ e d, H1 e = none → H1 d = none → d ≠ e → Q (.ref e) (upd (upd H1 d (.xd [(("given" : Str), v)])) e (ExG (.ref C) e d))) := by
  refine ⟨fun pins s σ H Q I h => ?_⟩
  refine wpAny_Call_Name_kw (ld_glob I hg T.gC ?_ hdb)
  refine PySem.W.callWith_K (h₀ := X.base) I.ok.mod.kin T.kC (thn (ha.run pos pins s σ H _ I h) fun us s1 hh => ?_) he hpl
  obtain ⟨vs, H1, I1, r1, v, ev, q1⟩ := hh
  subst ev
  refine ⟨I1.kIn, ?_⟩
  cases r1 with
  | cons rv rn =>
    rename_i v' us'
    cases rn
    show wpAny _ _ (call (.ref C) [v']) _ _ _
    have hlim := I1.nolimit
    obtain ⟨hp, g, dr, tk, os⟩ := s1
    refine wpAny_call (PySem.Giv.giv_madeL Z T I1.kIn hlim (by have := hr.dp; omega) fun h' tk' e d M => ?_)
    show EP X pins σ Q (.ref e) ⟨h', g, dr, tk', os⟩
    obtain ⟨oe, fv, hoe, hc, hd, hdat, h1⟩ := M.obj
    have hns := M.ns
    obtain ⟨G', g1, g2⟩ := restrict h' fun b => decide (b ≠ e)
    have gk : ∀ b, b ≠ e → G'.get? b = h'.get? b := fun b hb => g1 b (decide_eq_true hb)
    have ge : G'.get? e = none := g2 e (by simp)
    have old : ∀ b o, hp.get? b = some o → G'.get? b = some o := fun b o q => (gk b (Nat.ne_of_lt (Nat.lt_of_lt_of_le (Heap.lt_size q) M.new))).trans (M.keep b o q)
    have ob : ObjOk X.prog X.w (upd H1 d (.xd [(("given" : Str), v)])) G' d (.xd [(("given" : Str), v)]) :=
      ⟨_, hns.at (fun o q => (gk d M.dne).trans q), fun f => relO_giv rv f⟩
    have J : L2.Inv X pins σ (upd H1 d (.xd [(("given" : Str), v)])) ⟨G', g, dr, tk', os⟩ := I1.laid (t' := tk') old M.dbig ob
    have en : (upd H1 d (.xd [(("given" : Str), v)])) e = none := by
      rw [upd_ne (Ne.symm M.dne)]
      exact I1.hok.fresh M.new
    have J2 : L2.Inv X pins σ (upd (upd H1 d (.xd [(("given" : Str), v)])) e (ExG (.ref C) e d)) ⟨h', g, dr, tk', os⟩ := J.laidN (t' := tk') (fun b o q => by
      by_cases hb : b = e
      · rw [hb, ge] at q; cases q
      · exact (gk b hb).symm.trans q) ge en ⟨⟨oe, fv, hoe, ⟨hc, hd⟩, hdat, h1⟩, ⟨oe, hoe⟩, fun _ _ ⟨o, u, q, r⟩ k => ⟨o, u, k o q, r⟩⟩
    exact ⟨.ref e, _, J2, rfl, q1 e d (I1.hok.fresh M.new) (I1.hok.fresh M.dbig) M.dne⟩
end
end L2
namespace PySem
namespace Giv
open PySem.W PySem.Calls PyProof.Rows PySem.HandSPX Builtin Builtin.ObjectAttr
abbrev tVE : List Value := [.type "ValueError", .type "Exception", .type "BaseException", .type "object"]
theorem pass_VE (self : Value) : refuseLoop self "__setattr__" tVE = pure () := by
  kernel_rfl
theorem base_VE : BaseL "ValueError.__new__" tVE := ⟨⟨_, _, _, F.excBase_ValueError, ⟨by decide +kernel, by decide +kernel, by decide +kernel⟩⟩, pass_VE, by decide +kernel⟩
abbrev tZD : List Value := [.type "ZeroDivisionError", .type "ArithmeticError", .type "Exception", .type "BaseException", .type "object"]
theorem pass_ZD (self : Value) : refuseLoop self "__setattr__" tZD = pure () := by
  kernel_rfl
theorem base_ZD : BaseL "ZeroDivisionError.__new__" tZD := ⟨⟨_, _, _, F.excBase_ZeroDivisionError, ⟨by decide +kernel, by decide +kernel, by decide +kernel⟩⟩, pass_ZD, by decide +kernel⟩
abbrev tOE : List Value := [.type "OverflowError", .type "ArithmeticError", .type "Exception", .type "BaseException", .type "object"]
theorem pass_OE (self : Value) : refuseLoop self "__setattr__" tOE = pure () := by
  kernel_rfl
theorem base_OE : BaseL "OverflowError.__new__" tOE := ⟨⟨_, _, _, F.excBase_OverflowError, ⟨by decide +kernel, by decide +kernel, by decide +kernel⟩⟩, pass_OE, by decide +kernel⟩
abbrev tRE : List Value := [.type "RuntimeError", .type "Exception", .type "BaseException", .type "object"]
theorem pass_RE (self : Value) : refuseLoop self "__setattr__" tRE = pure () := by
  kernel_rfl
theorem base_RE : BaseL "RuntimeError.__new__" tRE := ⟨⟨_, _, _, F.excBase_RuntimeError, ⟨by decide +kernel, by decide +kernel, by decide +kernel⟩⟩, pass_RE, by decide +kernel⟩
abbrev tLE : List Value := [.type "LookupError", .type "Exception", .type "BaseException", .type "object"]
theorem pass_LE (self : Value) : refuseLoop self "__setattr__" tLE = pure () := by
  kernel_rfl
theorem base_LE : BaseL "LookupError.__new__" tLE := ⟨⟨_, _, _, F.excBase_LookupError, ⟨by decide +kernel, by decide +kernel, by decide +kernel⟩⟩, pass_LE, by decide +kernel⟩
end Giv
end PySem
end

-- E3t
section
set_option Elab.async false
set_option linter.all false
set_option maxRecDepth 100000
set_option maxHeartbeats 0
namespace R1
open PySem PySem.Spec PyProof.Rows L2 He HdB OwnOps
structure DefC (K : PySem.W.Frag) (C : Addr) : Prop where
  here : PySem.W.nsIn K mainGlobals "Ratio" = some (some (.ref C))
  cl : Cls K C
  nT : NoAttr K C "top"
  nB : NoAttr K C "bottom"
  ha : PySem.W.findIn K (.ref C) "__class__" = some (some (.builtin "object.__class__"))
  hn : PySem.W.specialIn K (.builtin "object.__class__") "__get__" = some (some (.builtin "getset_descriptor.__get__"))
  htk : PySem.W.takesIn K (.builtin "object.__class__") = some true
  hm : PySem.W.mroIn K C (.type "object") = some true
  mks : PySem.W.makesIn K C = true
  kp : PySem.W.keepIn K (.ref C) = true
  ic : PySem.W.isClsIn K C = true
  ty : PySem.W.typeIn K (.ref C) = some (.type "type")
  sf : PySem.W.selfFirst K C = true
  nCC : PySem.W.notFirst K C (.ref C) = true
structure DefT (K : PySem.W.Frag) (C : Addr) (T : String) : Prop where
  nf : PySem.W.notFirst K C (.type T) = true
  tr : PySem.W.subIn K (.type T) (.ref C) = some false
  rt : PySem.W.subIn K (.ref C) (.type T) = some false
structure DefD (K : PySem.W.Frag) (D : Addr) : Prop where
  here : PySem.W.nsIn K mainGlobals "ValueRule" = some (some (.ref D))
  cl : Cls K D
  nW : NoAttr K D "word"
  ha : PySem.W.findIn K (.ref D) "__class__" = some (some (.builtin "object.__class__"))
  hm : PySem.W.mroIn K D (.type "object") = some true
  mks : PySem.W.makesIn K D = true
  kp : PySem.W.keepIn K (.ref D) = true
  ic : PySem.W.isClsIn K D = true
  ty : PySem.W.typeIn K (.ref D) = some (.type "type")
  nDD : PySem.W.notFirst K D (.ref D) = true
  nS : PySem.W.notFirst K D (.type "str") = true
  ne : PySem.W.findIn K (.ref D) "__ne__" = some (some (.builtin "object.__ne__"))
  trS : PySem.W.subIn K (.type "str") (.ref D) = some false
structure ErrX (K : PySem.W.Frag) (E W : Addr) (x0 x1 x2 x3 x4 x5 x6 x7 x8 : Bool) : Prop where
  ic : PySem.W.isClsIn K E = true
  ha : PySem.W.findIn K (.ref E) "__class__" = some (some (.builtin "object.__class__"))
  hm : PySem.W.mroIn K E (.type "object") = some true
  ss : PySem.W.subIn K (.ref E) (.ref E) = some true
  s0 : PySem.W.subIn K (.ref E) (.ref W) = some x0
  s1 : PySem.W.subIn K (.ref E) (.type "ValueError") = some x1
  s2 : PySem.W.subIn K (.ref E) (.type "KeyError") = some x2
  s3 : PySem.W.subIn K (.ref E) (.type "IndexError") = some x3
  s4 : PySem.W.subIn K (.ref E) (.type "LookupError") = some x4
  s5 : PySem.W.subIn K (.ref E) (.type "OverflowError") = some x5
  s6 : PySem.W.subIn K (.ref E) (.type "ZeroDivisionError") = some x6
  s7 : PySem.W.subIn K (.ref E) (.type "RuntimeError") = some x7
  s8 : PySem.W.subIn K (.ref E) (.type "TypeError") = some x8
instance {K : PySem.W.Frag} {E W : Addr} {x0 x1 x2 x3 x4 x5 x6 x7 x8 : Bool} : Decidable (ErrX K E W x0 x1 x2 x3 x4 x5 x6 x7 x8) := decidable_of_iff ((PySem.W.isClsIn K E = true) ∧ (PySem.W.findIn K (.ref E) "__class__" = some (some (.builtin "object.__class__"))) ∧ (PySem.W.mroIn K E (.type "object") = some true) ∧ (PySem.W.subIn K (.ref E) (.ref E) = some true) ∧ (PySem.W.subIn K (.ref E) (.ref W) = some x0) ∧ (PySem.W.subIn K (.ref E) (.type "ValueError") = some x1) ∧ (PySem.W.subIn K (.ref E) (.type "KeyError") = some x2) ∧ (PySem.W.subIn K (.ref E) (.type "IndexError") = some x3) ∧ (PySem.W.subIn K (.ref E) (.type "LookupError") = some x4) ∧ (PySem.W.subIn K (.ref E) (.type "OverflowError") = some x5) ∧ (PySem.W.subIn K (.ref E) (.type "ZeroDivisionError") = some x6) ∧ (PySem.W.subIn K (.ref E) (.type "RuntimeError") = some x7) ∧ (PySem.W.subIn K (.ref E) (.type "TypeError") = some x8))
  ⟨fun ⟨ic_, ha_, hm_, ss_, s0_, s1_, s2_, s3_, s4_, s5_, s6_, s7_, s8_⟩ => ⟨ic_, ha_, hm_, ss_, s0_, s1_, s2_, s3_, s4_, s5_, s6_, s7_, s8_⟩, fun ⟨ic_, ha_, hm_, ss_, s0_, s1_, s2_, s3_, s4_, s5_, s6_, s7_, s8_⟩ => ⟨ic_, ha_, hm_, ss_, s0_, s1_, s2_, s3_, s4_, s5_, s6_, s7_, s8_⟩⟩
instance {K : PySem.W.Frag} {C : Addr} : Decidable (DefC K C) := decidable_of_iff ((PySem.W.nsIn K mainGlobals "Ratio" = some (some (.ref C))) ∧ (Cls K C) ∧ (NoAttr K C "top") ∧ (NoAttr K C "bottom") ∧ (PySem.W.findIn K (.ref C) "__class__" = some (some (.builtin "object.__class__"))) ∧ (PySem.W.specialIn K (.builtin "object.__class__") "__get__" = some (some (.builtin "getset_descriptor.__get__"))) ∧ (PySem.W.takesIn K (.builtin "object.__class__") = some true) ∧ (PySem.W.mroIn K C (.type "object") = some true) ∧ (PySem.W.makesIn K C = true) ∧ (PySem.W.keepIn K (.ref C) = true) ∧ (PySem.W.isClsIn K C = true) ∧ (PySem.W.typeIn K (.ref C) = some (.type "type")) ∧ (PySem.W.selfFirst K C = true) ∧ (PySem.W.notFirst K C (.ref C) = true))
  ⟨fun ⟨here_, cl_, nT_, nB_, ha_, hn_, htk_, hm_, mks_, kp_, ic_, ty_, sf_, nCC_⟩ => ⟨here_, cl_, nT_, nB_, ha_, hn_, htk_, hm_, mks_, kp_, ic_, ty_, sf_, nCC_⟩, fun ⟨here_, cl_, nT_, nB_, ha_, hn_, htk_, hm_, mks_, kp_, ic_, ty_, sf_, nCC_⟩ => ⟨here_, cl_, nT_, nB_, ha_, hn_, htk_, hm_, mks_, kp_, ic_, ty_, sf_, nCC_⟩⟩
instance {K : PySem.W.Frag} {D : Addr} : Decidable (DefD K D) := decidable_of_iff ((PySem.W.nsIn K mainGlobals "ValueRule" = some (some (.ref D))) ∧ (Cls K D) ∧ (NoAttr K D "word") ∧ (PySem.W.findIn K (.ref D) "__class__" = some (some (.builtin "object.__class__"))) ∧ (PySem.W.mroIn K D (.type "object") = some true) ∧ (PySem.W.makesIn K D = true) ∧ (PySem.W.keepIn K (.ref D) = true) ∧ (PySem.W.isClsIn K D = true) ∧ (PySem.W.typeIn K (.ref D) = some (.type "type")) ∧ (PySem.W.notFirst K D (.ref D) = true) ∧ (PySem.W.notFirst K D (.type "str") = true) ∧ (PySem.W.findIn K (.ref D) "__ne__" = some (some (.builtin "object.__ne__"))) ∧ (PySem.W.subIn K (.type "str") (.ref D) = some false))
  ⟨fun ⟨here_, cl_, nW_, ha_, hm_, mks_, kp_, ic_, ty_, nDD_, nS_, ne_, trS_⟩ => ⟨here_, cl_, nW_, ha_, hm_, mks_, kp_, ic_, ty_, nDD_, nS_, ne_, trS_⟩, fun ⟨here_, cl_, nW_, ha_, hm_, mks_, kp_, ic_, ty_, nDD_, nS_, ne_, trS_⟩ => ⟨here_, cl_, nW_, ha_, hm_, mks_, kp_, ic_, ty_, nDD_, nS_, ne_, trS_⟩⟩
instance {K : PySem.W.Frag} {C : Addr} {T : String} : Decidable (DefT K C T) := decidable_of_iff ((PySem.W.notFirst K C (.type T) = true) ∧ (PySem.W.subIn K (.type T) (.ref C) = some false) ∧ (PySem.W.subIn K (.ref C) (.type T) = some false))
  ⟨fun ⟨nf_, tr_, rt_⟩ => ⟨nf_, tr_, rt_⟩, fun ⟨nf_, tr_, rt_⟩ => ⟨nf_, tr_, rt_⟩⟩
abbrev P0 (K : PySem.W.Frag) : Prop := DefC K (gaX K "Ratio")
abbrev P1 (K : PySem.W.Frag) : Prop := DefD K (gaX K "ValueRule")
abbrev P2 (K : PySem.W.Frag) : Prop := PySem.W.nsIn K mainGlobals "WireError" = some (some (.ref (gaX K "WireError")))
abbrev P3 (K : PySem.W.Frag) : Prop := PySem.W.isClsIn K (gaX K "WireError") = true
abbrev P4 (K : PySem.W.Frag) : Prop := PySem.W.typeIn K (.ref (gaX K "WireError")) = some (.type "type")
abbrev P5 (K : PySem.W.Frag) : Prop := PySem.W.nsIn K mainGlobals "gcd" = some (some (.builtin "math.gcd"))
abbrev P6 (K : PySem.W.Frag) : Prop := PySem.W.findIn K (.ref (gaX K "Ratio")) "__init__" = some (some (.ref (maX K "Ratio" "__init__")))
abbrev P7 (K : PySem.W.Frag) : Prop := PySem.W.isFn K (.ref (maX K "Ratio" "__init__")) = true
abbrev P8 (K : PySem.W.Frag) : Prop := PySem.W.fnIn K (maX K "ValueRule" "__call__") = true
abbrev P9 (K : PySem.W.Frag) : Prop := ErrB K (gaX K "InvalidBlock") (maX K "InvalidBlock" "__init__") "InvalidBlock" PySem.Giv.tVE "ValueError.__new__"
abbrev P10 (K : PySem.W.Frag) : Prop := ErrX K (gaX K "InvalidBlock") (gaX K "WireError") true true false false false false false false false
abbrev P11 (K : PySem.W.Frag) : Prop := ErrB K (gaX K "InvalidCircuit") (maX K "InvalidCircuit" "__init__") "InvalidCircuit" PySem.Giv.tVE "ValueError.__new__"
abbrev P12 (K : PySem.W.Frag) : Prop := ErrX K (gaX K "InvalidCircuit") (gaX K "WireError") true true false false false false false false false
abbrev P13 (K : PySem.W.Frag) : Prop := ErrB K (gaX K "InvalidCommand") (maX K "InvalidCommand" "__init__") "InvalidCommand" PySem.Giv.tVE "ValueError.__new__"
abbrev P14 (K : PySem.W.Frag) : Prop := ErrX K (gaX K "InvalidCommand") (gaX K "WireError") true true false false false false false false false
abbrev P15 (K : PySem.W.Frag) : Prop := ErrB K (gaX K "InvalidEdit") (maX K "InvalidEdit" "__init__") "InvalidEdit" PySem.Giv.tVE "ValueError.__new__"
abbrev P16 (K : PySem.W.Frag) : Prop := ErrX K (gaX K "InvalidEdit") (gaX K "WireError") true true false false false false false false false
abbrev P17 (K : PySem.W.Frag) : Prop := ErrB K (gaX K "InvalidForm") (maX K "InvalidForm" "__init__") "InvalidForm" PySem.Giv.tVE "ValueError.__new__"
abbrev P18 (K : PySem.W.Frag) : Prop := ErrX K (gaX K "InvalidForm") (gaX K "WireError") true true false false false false false false false
abbrev P19 (K : PySem.W.Frag) : Prop := ErrB K (gaX K "InvalidKind") (maX K "InvalidKind" "__init__") "InvalidKind" PySem.Giv.tVE "ValueError.__new__"
abbrev P20 (K : PySem.W.Frag) : Prop := ErrX K (gaX K "InvalidKind") (gaX K "WireError") true true false false false false false false false
abbrev P21 (K : PySem.W.Frag) : Prop := ErrB K (gaX K "InvalidMatching") (maX K "InvalidMatching" "__init__") "InvalidMatching" PySem.Giv.tVE "ValueError.__new__"
abbrev P22 (K : PySem.W.Frag) : Prop := ErrX K (gaX K "InvalidMatching") (gaX K "WireError") true true false false false false false false false
abbrev P23 (K : PySem.W.Frag) : Prop := ErrB K (gaX K "InvalidMend") (maX K "InvalidMend" "__init__") "InvalidMend" PySem.Giv.tVE "ValueError.__new__"
abbrev P24 (K : PySem.W.Frag) : Prop := ErrX K (gaX K "InvalidMend") (gaX K "WireError") true true false false false false false false false
abbrev P25 (K : PySem.W.Frag) : Prop := ErrB K (gaX K "InvalidName") (maX K "InvalidName" "__init__") "InvalidName" PySem.Giv.tVE "ValueError.__new__"
abbrev P26 (K : PySem.W.Frag) : Prop := ErrX K (gaX K "InvalidName") (gaX K "WireError") true true false false false false false false false
abbrev P27 (K : PySem.W.Frag) : Prop := ErrB K (gaX K "InvalidNumber") (maX K "InvalidNumber" "__init__") "InvalidNumber" PySem.Giv.tVE "ValueError.__new__"
abbrev P28 (K : PySem.W.Frag) : Prop := ErrX K (gaX K "InvalidNumber") (gaX K "WireError") true true false false false false false false false
abbrev P29 (K : PySem.W.Frag) : Prop := ErrB K (gaX K "InvalidPaper") (maX K "InvalidPaper" "__init__") "InvalidPaper" PySem.Giv.tVE "ValueError.__new__"
abbrev P30 (K : PySem.W.Frag) : Prop := ErrX K (gaX K "InvalidPaper") (gaX K "WireError") true true false false false false false false false
abbrev P31 (K : PySem.W.Frag) : Prop := ErrB K (gaX K "InvalidPins") (maX K "InvalidPins" "__init__") "InvalidPins" PySem.Giv.tVE "ValueError.__new__"
abbrev P32 (K : PySem.W.Frag) : Prop := ErrX K (gaX K "InvalidPins") (gaX K "WireError") true true false false false false false false false
abbrev P33 (K : PySem.W.Frag) : Prop := ErrB K (gaX K "InvalidPrices") (maX K "InvalidPrices" "__init__") "InvalidPrices" PySem.Giv.tVE "ValueError.__new__"
abbrev P34 (K : PySem.W.Frag) : Prop := ErrX K (gaX K "InvalidPrices") (gaX K "WireError") true true false false false false false false false
abbrev P35 (K : PySem.W.Frag) : Prop := ErrB K (gaX K "InvalidStep") (maX K "InvalidStep" "__init__") "InvalidStep" PySem.Giv.tVE "ValueError.__new__"
abbrev P36 (K : PySem.W.Frag) : Prop := ErrX K (gaX K "InvalidStep") (gaX K "WireError") true true false false false false false false false
abbrev P37 (K : PySem.W.Frag) : Prop := ErrB K (gaX K "InvalidText") (maX K "InvalidText" "__init__") "InvalidText" PySem.Giv.tVE "ValueError.__new__"
abbrev P38 (K : PySem.W.Frag) : Prop := ErrX K (gaX K "InvalidText") (gaX K "WireError") true true false false false false false false false
abbrev P39 (K : PySem.W.Frag) : Prop := ErrB K (gaX K "InvalidWay") (maX K "InvalidWay" "__init__") "InvalidWay" PySem.Giv.tVE "ValueError.__new__"
abbrev P40 (K : PySem.W.Frag) : Prop := ErrX K (gaX K "InvalidWay") (gaX K "WireError") true true false false false false false false false
abbrev P41 (K : PySem.W.Frag) : Prop := ErrB K (gaX K "NotPositive") (maX K "NotPositive" "__init__") "NotPositive" PySem.Giv.tVE "ValueError.__new__"
abbrev P42 (K : PySem.W.Frag) : Prop := ErrX K (gaX K "NotPositive") (gaX K "WireError") true true false false false false false false false
abbrev P43 (K : PySem.W.Frag) : Prop := ErrB K (gaX K "PortsDiffer") (maX K "PortsDiffer" "__init__") "PortsDiffer" PySem.Giv.tVE "ValueError.__new__"
abbrev P44 (K : PySem.W.Frag) : Prop := ErrX K (gaX K "PortsDiffer") (gaX K "WireError") true true false false false false false false false
abbrev P45 (K : PySem.W.Frag) : Prop := ErrB K (gaX K "UnknownName") (maX K "UnknownName" "__init__") "UnknownName" PySem.Giv.keT "LookupError.__new__"
abbrev P46 (K : PySem.W.Frag) : Prop := ErrX K (gaX K "UnknownName") (gaX K "WireError") false false true false true false false false false
abbrev P47 (K : PySem.W.Frag) : Prop := ErrB K (gaX K "NameInUse") (maX K "NameInUse" "__init__") "NameInUse" PySem.Giv.keT "LookupError.__new__"
abbrev P48 (K : PySem.W.Frag) : Prop := ErrX K (gaX K "NameInUse") (gaX K "WireError") false false true false true false false false false
abbrev P49 (K : PySem.W.Frag) : Prop := ErrB K (gaX K "LimitExceeded") (maX K "LimitExceeded" "__init__") "LimitExceeded" PySem.Giv.tOE "OverflowError.__new__"
abbrev P50 (K : PySem.W.Frag) : Prop := ErrX K (gaX K "LimitExceeded") (gaX K "WireError") false false false false false true false false false
abbrev P51 (K : PySem.W.Frag) : Prop := ErrB K (gaX K "NothingToUndo") (maX K "NothingToUndo" "__init__") "NothingToUndo" PySem.Giv.tLE "LookupError.__new__"
abbrev P52 (K : PySem.W.Frag) : Prop := ErrX K (gaX K "NothingToUndo") (gaX K "WireError") false false false false true false false false false
abbrev P53 (K : PySem.W.Frag) : Prop := ErrB K (gaX K "NoDivision") (maX K "NoDivision" "__init__") "NoDivision" PySem.Giv.tZD "ZeroDivisionError.__new__"
abbrev P54 (K : PySem.W.Frag) : Prop := ErrX K (gaX K "NoDivision") (gaX K "WireError") false false false false false false true false false
abbrev P55 (K : PySem.W.Frag) : Prop := ErrB K (gaX K "RunFailed") (maX K "RunFailed" "__init__") "RunFailed" PySem.Giv.tRE "RuntimeError.__new__"
abbrev P56 (K : PySem.W.Frag) : Prop := ErrX K (gaX K "RunFailed") (gaX K "WireError") false false false false false false false true false
abbrev P57 (K : PySem.W.Frag) : Prop := PySem.W.nsIn K mainGlobals "is_whole" = some (some (.ref (gaX K "is_whole")))
abbrev P58 (K : PySem.W.Frag) : Prop := PySem.W.nsIn K mainGlobals "_as_ratio" = some (some (.ref (gaX K "_as_ratio")))
abbrev P59 (K : PySem.W.Frag) : Prop := PySem.W.nsIn K mainGlobals "value_of" = some (some (.ref (gaX K "value_of")))
abbrev P60 (K : PySem.W.Frag) : Prop := PySem.W.nsIn K mainGlobals "_total" = some (some (.ref (gaX K "_total")))
abbrev P61 (K : PySem.W.Frag) : Prop := PySem.W.nsIn K mainGlobals "_law_draws" = some (some (.ref (gaX K "_law_draws")))
abbrev P62 (K : PySem.W.Frag) : Prop := PySem.W.nsIn K mainGlobals "_law_draw" = some (some (.ref (gaX K "_law_draw")))
abbrev P63 (K : PySem.W.Frag) : Prop := PySem.W.nsIn K mainGlobals "_law_low" = some (some (.ref (gaX K "_law_low")))
abbrev P64 (K : PySem.W.Frag) : Prop := PySem.W.nsIn K mainGlobals "_law_joined" = some (some (.ref (gaX K "_law_joined")))
abbrev P65 (K : PySem.W.Frag) : Prop := PySem.W.nsIn K mainGlobals "_law_bases" = some (some (.ref (gaX K "_law_bases")))
abbrev P66 (K : PySem.W.Frag) : Prop := PySem.W.nsIn K mainGlobals "_law_errors_right" = some (some (.ref (gaX K "_law_errors_right")))
abbrev P67 (K : PySem.W.Frag) : Prop := PySem.W.nsIn K mainGlobals "_law_refused" = some (some (.ref (gaX K "_law_refused")))
abbrev P68 (K : PySem.W.Frag) : Prop := PySem.W.nsIn K mainGlobals "_law_no_rule" = some (some (.ref (gaX K "_law_no_rule")))
abbrev P69 (K : PySem.W.Frag) : Prop := PySem.W.nsIn K mainGlobals "law" = some (some (.ref (gaX K "law")))
abbrev P70 (K : PySem.W.Frag) : Prop := PySem.W.findIn K (.ref (gaX K "Ratio")) "over" = some (some (.ref (maX K "Ratio" "over"))) ∧ PySem.W.isFn K (.ref (maX K "Ratio" "over")) = true ∧ PySem.W.keepIn K (.ref (maX K "Ratio" "over")) = true
abbrev P71 (K : PySem.W.Frag) : Prop := PySem.W.findIn K (.ref (gaX K "Ratio")) "__add__" = some (some (.ref (maX K "Ratio" "__add__"))) ∧ PySem.W.isFn K (.ref (maX K "Ratio" "__add__")) = true ∧ PySem.W.keepIn K (.ref (maX K "Ratio" "__add__")) = true
abbrev P72 (K : PySem.W.Frag) : Prop := PySem.W.findIn K (.ref (gaX K "Ratio")) "__radd__" = some (some (.ref (maX K "Ratio" "__radd__"))) ∧ PySem.W.isFn K (.ref (maX K "Ratio" "__radd__")) = true ∧ PySem.W.keepIn K (.ref (maX K "Ratio" "__radd__")) = true
abbrev P73 (K : PySem.W.Frag) : Prop := PySem.W.findIn K (.ref (gaX K "Ratio")) "__eq__" = some (some (.ref (maX K "Ratio" "__eq__"))) ∧ PySem.W.isFn K (.ref (maX K "Ratio" "__eq__")) = true ∧ PySem.W.keepIn K (.ref (maX K "Ratio" "__eq__")) = true
abbrev P74 (K : PySem.W.Frag) : Prop := PySem.W.findIn K (.ref (gaX K "Ratio")) "__ne__" = some (some (.ref (maX K "Ratio" "__ne__"))) ∧ PySem.W.isFn K (.ref (maX K "Ratio" "__ne__")) = true ∧ PySem.W.keepIn K (.ref (maX K "Ratio" "__ne__")) = true
abbrev P75 (K : PySem.W.Frag) : Prop := PySem.W.findIn K (.ref (gaX K "Ratio")) "__repr__" = some (some (.ref (maX K "Ratio" "__repr__"))) ∧ PySem.W.isFn K (.ref (maX K "Ratio" "__repr__")) = true ∧ PySem.W.keepIn K (.ref (maX K "Ratio" "__repr__")) = true
abbrev P76 (K : PySem.W.Frag) : Prop := PySem.W.findIn K (.ref (gaX K "ValueRule")) "__init__" = some (some (.ref (maX K "ValueRule" "__init__"))) ∧ PySem.W.isFn K (.ref (maX K "ValueRule" "__init__")) = true ∧ PySem.W.keepIn K (.ref (maX K "ValueRule" "__init__")) = true
abbrev P77 (K : PySem.W.Frag) : Prop := PySem.W.findIn K (.ref (gaX K "ValueRule")) "__call__" = some (some (.ref (maX K "ValueRule" "__call__"))) ∧ PySem.W.isFn K (.ref (maX K "ValueRule" "__call__")) = true ∧ PySem.W.keepIn K (.ref (maX K "ValueRule" "__call__")) = true
abbrev P78 (K : PySem.W.Frag) : Prop := PySem.W.findIn K (.ref (gaX K "ValueRule")) "all_of" = some (some (.ref (maX K "ValueRule" "all_of"))) ∧ PySem.W.isFn K (.ref (maX K "ValueRule" "all_of")) = true ∧ PySem.W.keepIn K (.ref (maX K "ValueRule" "all_of")) = true
abbrev P79 (K : PySem.W.Frag) : Prop := PySem.W.findIn K (.ref (gaX K "ValueRule")) "__eq__" = some (some (.ref (maX K "ValueRule" "__eq__"))) ∧ PySem.W.isFn K (.ref (maX K "ValueRule" "__eq__")) = true ∧ PySem.W.keepIn K (.ref (maX K "ValueRule" "__eq__")) = true
abbrev P80 (K : PySem.W.Frag) : Prop := DefT K (gaX K "Ratio") "int"
abbrev P81 (K : PySem.W.Frag) : Prop := DefT K (gaX K "Ratio") "bool"
abbrev P82 (K : PySem.W.Frag) : Prop := DefT K (gaX K "Ratio") "NoneType"
abbrev P83 (K : PySem.W.Frag) : Prop := DefT K (gaX K "Ratio") "str"
abbrev P84 (K : PySem.W.Frag) : Prop := DefT K (gaX K "Ratio") "list"
abbrev P85 (K : PySem.W.Frag) : Prop := DefT K (gaX K "Ratio") "tuple"
abbrev P86 (K : PySem.W.Frag) : Prop := PySem.W.nsIn K mainGlobals "isinstance" = some none
abbrev P87 (K : PySem.W.Frag) : Prop := PySem.W.nsIn K mainGlobals "int" = some none
abbrev P88 (K : PySem.W.Frag) : Prop := PySem.W.nsIn K mainGlobals "bool" = some none
abbrev P89 (K : PySem.W.Frag) : Prop := PySem.W.nsIn K mainGlobals "abs" = some none
abbrev P90 (K : PySem.W.Frag) : Prop := PySem.W.nsIn K mainGlobals "str" = some none
abbrev P91 (K : PySem.W.Frag) : Prop := PySem.W.nsIn K mainGlobals "repr" = some none
abbrev P92 (K : PySem.W.Frag) : Prop := PySem.W.nsIn K mainGlobals "len" = some none
abbrev P93 (K : PySem.W.Frag) : Prop := PySem.W.nsIn K mainGlobals "min" = some none
abbrev P94 (K : PySem.W.Frag) : Prop := PySem.W.nsIn K mainGlobals "max" = some none
abbrev P95 (K : PySem.W.Frag) : Prop := PySem.W.nsIn K mainGlobals "range" = some none
abbrev P96 (K : PySem.W.Frag) : Prop := PySem.W.nsIn K mainGlobals "enumerate" = some none
abbrev P97 (K : PySem.W.Frag) : Prop := PySem.W.nsIn K mainGlobals "zip" = some none
abbrev P98 (K : PySem.W.Frag) : Prop := PySem.W.nsIn K mainGlobals "ValueError" = some none
abbrev P99 (K : PySem.W.Frag) : Prop := PySem.W.nsIn K mainGlobals "KeyError" = some none
abbrev P100 (K : PySem.W.Frag) : Prop := PySem.W.nsIn K mainGlobals "IndexError" = some none
abbrev P101 (K : PySem.W.Frag) : Prop := PySem.W.nsIn K mainGlobals "LookupError" = some none
abbrev P102 (K : PySem.W.Frag) : Prop := PySem.W.nsIn K mainGlobals "OverflowError" = some none
abbrev P103 (K : PySem.W.Frag) : Prop := PySem.W.nsIn K mainGlobals "ZeroDivisionError" = some none
abbrev P104 (K : PySem.W.Frag) : Prop := PySem.W.nsIn K mainGlobals "RuntimeError" = some none
abbrev P105 (K : PySem.W.Frag) : Prop := PySem.W.nsIn K mainGlobals "TypeError" = some none
def ck : List (PySem.W.Frag → Bool) := [fun K => decide (P0 K), fun K => decide (P1 K), fun K => decide (P2 K), fun K => decide (P3 K), fun K => decide (P4 K), fun K => decide (P5 K), fun K => decide (P6 K), fun K => decide (P7 K), fun K => decide (P8 K), fun K => decide (P9 K), fun K => decide (P10 K), fun K => decide (P11 K), fun K => decide (P12 K), fun K => decide (P13 K), fun K => decide (P14 K), fun K => decide (P15 K), fun K => decide (P16 K), fun K => decide (P17 K), fun K => decide (P18 K), fun K => decide (P19 K), fun K => decide (P20 K), fun K => decide (P21 K), fun K => decide (P22 K), fun K => decide (P23 K), fun K => decide (P24 K), fun K => decide (P25 K), fun K => decide (P26 K), fun K => decide (P27 K), fun K => decide (P28 K), fun K => decide (P29 K), fun K => decide (P30 K), fun K => decide (P31 K), fun K => decide (P32 K), fun K => decide (P33 K), fun K => decide (P34 K), fun K => decide (P35 K), fun K => decide (P36 K), fun K => decide (P37 K), fun K => decide (P38 K), fun K => decide (P39 K), fun K => decide (P40 K), fun K => decide (P41 K), fun K => decide (P42 K), fun K => decide (P43 K), fun K => decide (P44 K), fun K => decide (P45 K), fun K => decide (P46 K), fun K => decide (P47 K), fun K => decide (P48 K), fun K => decide (P49 K), fun K => decide (P50 K), fun K => decide (P51 K), fun K => decide (P52 K), fun K => decide (P53 K), fun K => decide (P54 K), fun K => decide (P55 K), fun K => decide (P56 K), fun K => decide (P57 K), fun K => decide (P58 K), fun K => decide (P59 K), fun K => decide (P60 K), fun K => decide (P61 K), fun K => decide (P62 K), fun K => decide (P63 K), fun K => decide (P64 K), fun K => decide (P65 K), fun K => decide (P66 K), fun K => decide (P67 K), fun K => decide (P68 K), fun K => decide (P69 K), fun K => decide (P70 K), fun K => decide (P71 K), fun K => decide (P72 K), fun K => decide (P73 K), fun K => decide (P74 K), fun K => decide (P75 K), fun K => decide (P76 K), fun K => decide (P77 K), fun K => decide (P78 K), fun K => decide (P79 K), fun K => decide (P80 K), fun K => decide (P81 K), fun K => decide (P82 K), fun K => decide (P83 K), fun K => decide (P84 K), fun K => decide (P85 K), fun K => decide (P86 K), fun K => decide (P87 K), fun K => decide (P88 K), fun K => decide (P89 K), fun K => decide (P90 K), fun K => decide (P91 K), fun K => decide (P92 K), fun K => decide (P93 K), fun K => decide (P94 K), fun K => decide (P95 K), fun K => decide (P96 K), fun K => decide (P97 K), fun K => decide (P98 K), fun K => decide (P99 K), fun K => decide (P100 K), fun K => decide (P101 K), fun K => decide (P102 K), fun K => decide (P103 K), fun K => decide (P104 K), fun K => decide (P105 K)]
def fn : List He.DefD := [gD "is_whole" (top 29),
  gD "_as_ratio" (top 33),
  gD "value_of" (top 32),
  gD "_total" (top 36),
  gD "_law_draws" (top 38),
  gD "_law_draw" (top 39),
  gD "_law_low" (top 40),
  gD "_law_joined" (top 41),
  gD "_law_bases" (top 42),
  gD "_law_errors_right" (top 43),
  gD "_law_refused" (top 44),
  gD "_law_no_rule" (top 45),
  gD "law" (top 46),
  mD "Ratio" "over" "Ratio.over" (inClass (top 31) 2),
  mD "Ratio" "__add__" "Ratio.__add__" (inClass (top 31) 3),
  mD "Ratio" "__radd__" "Ratio.__radd__" (inClass (top 31) 4),
  mD "Ratio" "__eq__" "Ratio.__eq__" (inClass (top 31) 11),
  mD "Ratio" "__ne__" "Ratio.__ne__" (inClass (top 31) 12),
  mD "Ratio" "__repr__" "Ratio.__repr__" (inClass (top 31) 19),
  mD "ValueRule" "__init__" "ValueRule.__init__" (inClass (top 35) 0),
  mD "ValueRule" "__call__" "ValueRule.__call__" (inClass (top 35) 1),
  mD "ValueRule" "all_of" "ValueRule.all_of" (inClass (top 35) 2),
  mD "ValueRule" "__eq__" "ValueRule.__eq__" (inClass (top 35) 3),
  ⟨("Ratio", some "__init__"), "__init__", "Ratio.__init__", defArgs (sRat 0), defBody (sRat 0), defScope (sRat 0), [.int 1], []⟩,
  mD "InvalidBlock" "__init__" "InvalidBlock.__init__" (inClass (top 4) 0),
  mD "InvalidCircuit" "__init__" "InvalidCircuit.__init__" (inClass (top 5) 0),
  mD "InvalidCommand" "__init__" "InvalidCommand.__init__" (inClass (top 6) 0),
  mD "InvalidEdit" "__init__" "InvalidEdit.__init__" (inClass (top 7) 0),
  mD "InvalidForm" "__init__" "InvalidForm.__init__" (inClass (top 8) 0),
  mD "InvalidKind" "__init__" "InvalidKind.__init__" (inClass (top 9) 0),
  mD "InvalidMatching" "__init__" "InvalidMatching.__init__" (inClass (top 10) 0),
  mD "InvalidMend" "__init__" "InvalidMend.__init__" (inClass (top 11) 0),
  mD "InvalidName" "__init__" "InvalidName.__init__" (inClass (top 12) 0),
  mD "InvalidNumber" "__init__" "InvalidNumber.__init__" (inClass (top 13) 0),
  mD "InvalidPaper" "__init__" "InvalidPaper.__init__" (inClass (top 14) 0),
  mD "InvalidPins" "__init__" "InvalidPins.__init__" (inClass (top 15) 0),
  mD "InvalidPrices" "__init__" "InvalidPrices.__init__" (inClass (top 16) 0),
  mD "InvalidStep" "__init__" "InvalidStep.__init__" (inClass (top 17) 0),
  mD "InvalidText" "__init__" "InvalidText.__init__" (inClass (top 18) 0),
  mD "InvalidWay" "__init__" "InvalidWay.__init__" (inClass (top 19) 0),
  mD "NotPositive" "__init__" "NotPositive.__init__" (inClass (top 20) 0),
  mD "PortsDiffer" "__init__" "PortsDiffer.__init__" (inClass (top 21) 0),
  mD "UnknownName" "__init__" "UnknownName.__init__" (inClass (top 24) 0),
  mD "NameInUse" "__init__" "NameInUse.__init__" (inClass (top 23) 0),
  mD "LimitExceeded" "__init__" "LimitExceeded.__init__" (inClass (top 22) 0),
  mD "NothingToUndo" "__init__" "NothingToUndo.__init__" (inClass (top 25) 0),
  mD "NoDivision" "__init__" "NoDivision.__init__" (inClass (top 26) 0),
  mD "RunFailed" "__init__" "RunFailed.__init__" (inClass (top 27) 0)]
abbrev RR : PySem.W.OpenRow := PySem.W.OpenLaw.row PySem.Challenge.rw_wishedwires_k03_rules_and_errors
def names : List PySem.Str := (["gcd", "_wall", "WireError", "InvalidBlock", "InvalidCircuit", "InvalidCommand", "InvalidEdit", "InvalidForm", "InvalidKind", "InvalidMatching", "InvalidMend", "InvalidName", "InvalidNumber", "InvalidPaper", "InvalidPins", "InvalidPrices", "InvalidStep", "InvalidText", "InvalidWay", "NotPositive", "PortsDiffer", "LimitExceeded", "NameInUse", "UnknownName", "NothingToUndo", "NoDivision", "RunFailed", "is_whole", "Ratio", "value_of"] : List PySem.Str) ++ (["_as_ratio", "ValueRule", "_total", "_law_draws", "_law_draw", "_law_low", "_law_joined", "_law_bases", "_law_errors_right", "_law_refused", "_law_no_rule"] : List PySem.Str)
def as : List Addr := 3 :: List.range' 39 771
abbrev hk : PySem.W.Hook := HdB.hookB as ck fn
def ob (s : PySem.W.SharedT) : HdB.AlB := HdB.obB as ck fn s
theorem ob_eq (s : PySem.W.SharedT) : ob s = hk.obs s.abs := HdB.obB_eq as ck fn s
theorem run (w : World) : HdI.RunI RR (PySem.W.view RR.prog [46]) hk ob 3000 20000 names w := by
  unfold HdI.RunI; kernel_rfl
end R1
end

-- E3b
section
set_option Elab.async false
set_option linter.all false
set_option maxRecDepth 100000
namespace R1
open PySem L2 OwnOps RatM
/-- the values that are no numbers -/
inductive Bd (H : Hp) : V → Prop
  | bl (b : Bool) : Bd H (.bl b)
  | non : Bd H .non
  | str (x : Str) : Bd H (.str x)
  | lst {a : Addr} {xs : List V} (e : H a = some (.lst xs)) : Bd H (.ref a)
  | tup {a : Addr} {xs : List V} (e : H a = some (.tup xs)) : Bd H (.ref a)
theorem Bd.kd {C : Addr} {H : Hp} {v : V} (h : Bd H v) : Kd C H v := by
  cases h with
  | bl b => exact .bl b
  | non => exact .non
  | str x => exact .str x
  | lst e => exact .lst e
  | tup e => exact .tup e
theorem Bd.w {H : Hp} {v : V} (h : Bd H v) : isW v = false := by
  cases h <;> rfl
theorem Kd.same {C : Addr} {H H' : Hp} {v : V} (h : Kd C H v) (e : Same H H') : Kd C H' v := by
  cases h with
  | int i => exact .int i
  | bl b => exact .bl b
  | non => exact .non
  | str x => exact .str x
  | ins q => exact .ins (e _ _ q)
  | lst q => exact .lst (e _ _ q)
  | tup q => exact .tup (e _ _ q)
theorem Bd.same {H H' : Hp} {v : V} (h : Bd H v) (e : Same H H') : Bd H' v := by
  cases h with
  | bl b => exact .bl b
  | non => exact .non
  | str x => exact .str x
  | lst q => exact .lst (e _ _ q)
  | tup q => exact .tup (e _ _ q)
/-- v stands for the ratio t / b -/
def Num (C : Addr) (H : Hp) (v : V) (t b : Int) : Prop := (∃ q, v = .ref q ∧ Rat C H q t b) ∨ (v = .int t ∧ b = 1)
theorem Num.same {C : Addr} {H H' : Hp} {v : V} {t b : Int} (h : Num C H v t b) (e : Same H H') : Num C H' v t b := by
  rcases h with ⟨q, rfl, r⟩ | ⟨rfl, rfl⟩
  · exact .inl ⟨q, rfl, r.same e⟩
  · exact .inr ⟨rfl, rfl⟩
theorem same_upd {H : Hp} {p : Addr} {o : HO} (h : H p = none) : Same H (upd H p o) := fun b u e => by
  rw [upd_ne (ne_of_none e h)]
  exact e
/-- a new instance in making -/
theorem same_new {H : Hp} {x dx C : Addr} (hx : H x = none) (hd : H dx = none) : Same H (upd (upd H dx (.own x)) x (.ins C dx [])) := fun b u e => by
  rw [upd_ne (ne_of_none e hx), upd_ne (ne_of_none e hd)]
  exact e
section
variable {C CI CZ : Addr} {H : Hp} {Q : VK} {E : XK}
theorem mk_good {t b : Int} (hb : b ≠ 0) (bs : Sm 5000 b) (k : ∀ p H', Same H H' → Rat C H' p (nt t b) (nb t b) → Q (.ref p) H') :
    ∀ x dx, H x = none → H dx = none → dx ≠ x → spInit C CI CZ [.ref x, .int t, .int b] (upd (upd H dx (.own x)) x (.ins C dx [])) (fun v H2 => v = .non ∧ Q (.ref x) H2) E := by
  intro x dx hx hd ne
  refine ⟨x, dx, .int t, .int b, rfl, upd_same, .int t, fun _ => .int b, .inr (.inr ⟨t, b, rfl, rfl, .inr ⟨hb, bs, rfl, ?_⟩⟩)⟩
  refine k x _ (fun c o e => ?_) ⟨dx, upd_same⟩
  rw [upd_ne (ne_of_none e hx)]
  exact same_new hx hd c o e
theorem mk_bad1 {v u : V} (kd : Bd H v ∨ ∃ a dx fs, v = .ref a ∧ H a = some (.ins C dx fs)) (k : ∀ d H', Same H H' → H' d = some (xd v) → E (.ref CI) (some d) H') :
    ∀ x dx, H x = none → H dx = none → dx ≠ x → spInit C CI CZ [.ref x, v, u] (upd (upd H dx (.own x)) x (.ins C dx [])) (fun v H2 => v = .non ∧ Q (.ref x) H2) E := by
  intro x dx hx hd ne
  have nw : isW v = false := by
    rcases kd with h | ⟨a, _, _, rfl, _⟩
    · exact h.w
    · rfl
  have kk : Kd C H v := by
    rcases kd with h | ⟨a, _, _, rfl, e⟩
    · exact h.kd
    · exact .ins e
  refine ⟨x, dx, v, u, rfl, upd_same, kk.same (same_new hx hd), fun y => absurd y (by rw [nw]; decide), .inl ⟨nw, fun d hdn => ?_⟩⟩
  refine k d _ (fun c o e => ?_) upd_same
  have e2 := same_new (C := C) hx hd c o e
  rw [upd_ne (ne_of_none e2 hdn)]
  exact e2
theorem mk_bad2 {t : Int} {v : V} (kd : Bd H v ∨ ∃ a dx fs, v = .ref a ∧ H a = some (.ins C dx fs)) (k : ∀ d H', Same H H' → H' d = some (xd v) → E (.ref CI) (some d) H') :
    ∀ x dx, H x = none → H dx = none → dx ≠ x → spInit C CI CZ [.ref x, .int t, v] (upd (upd H dx (.own x)) x (.ins C dx [])) (fun v H2 => v = .non ∧ Q (.ref x) H2) E := by
  intro x dx hx hd ne
  have nw : isW v = false := by
    rcases kd with h | ⟨a, _, _, rfl, _⟩
    · exact h.w
    · rfl
  have kk : Kd C H v := by
    rcases kd with h | ⟨a, _, _, rfl, e⟩
    · exact h.kd
    · exact .ins e
  refine ⟨x, dx, .int t, v, rfl, upd_same, .int t, fun _ => kk.same (same_new hx hd), .inr (.inl ⟨rfl, nw, fun d hdn => ?_⟩)⟩
  refine k d _ (fun c o e => ?_) upd_same
  have e2 := same_new (C := C) hx hd c o e
  rw [upd_ne (ne_of_none e2 hdn)]
  exact e2
theorem mk_zero {t : Int} (k : ∀ d H', Same H H' → H' d = some (xd (.int t)) → E (.ref CZ) (some d) H') :
    ∀ x dx, H x = none → H dx = none → dx ≠ x → spInit C CI CZ [.ref x, .int t, .int 0] (upd (upd H dx (.own x)) x (.ins C dx [])) (fun v H2 => v = .non ∧ Q (.ref x) H2) E := by
  intro x dx hx hd ne
  refine ⟨x, dx, .int t, .int 0, rfl, upd_same, .int t, fun _ => .int 0, .inr (.inr ⟨t, 0, rfl, rfl, .inl ⟨rfl, fun d hdn => ?_⟩⟩)⟩
  refine k d _ (fun c o e => ?_) upd_same
  have e2 := same_new (C := C) hx hd c o e
  rw [upd_ne (ne_of_none e2 hdn)]
  exact e2
end

/-- what is known of the class's making -/
structure Mak (P : Program) (w : World) (K : PySem.W.Frag) (mg : Str → Option Value) (base : Heap) (C CI CZ : Addr) : Prop where
  ex : ∃ (fI : Addr) (fd : FuncData) (ds : List Value), Mk K C fI ∧ FnOk P w K mg base (L2.CX P w) 3 fI fd ["self", "top", "bottom"] (spInit C CI CZ) ∧ L2.Binds K fd ["self", "top", "bottom"] [] ∧ Vals [.int 1] ds ∧ L2.Binds K fd ["self", "top", "bottom"] ds
/-- a def of the module, called by its name -/
structure Glb (P : Program) (w : World) (K : PySem.W.Frag) (mg : Str → Option Value) (base : Heap) (x : Str) (k : Nat) (ps : List Str) (sp : Sp) : Prop where
  ex : ∃ (f : Addr) (fd : FuncData), mg x = some (.ref f) ∧ PySem.W.keepIn K (.ref f) = true ∧ FnOk P w K mg base (L2.CX P w) k f fd ps sp ∧ L2.Binds K fd ps []

section
variable {P : Program} {w : World} {K : PySem.W.Frag} {mg : Str → Option Value} {base : Heap} {C CI fCI CZ fCZ : Addr}
/-! ### _as_ratio -/
def spAs (C CI : Addr) : Sp := fun vs H Q E => ∃ v, vs = [v] ∧ ((∃ t b, Num C H v t b ∧ ∀ r H', Same H H' → Rat C H' r t b → Q (.ref r) H') ∨
  (Bd H v ∧ ∀ d H', Same H H' → H' d = some (xd v) → E (.ref CI) (some d) H'))
theorem scAs : FnScope ["value"] ["value"] (defScope sAs) := ⟨rfl, rfl, rfl, by decide +kernel, rfl, by decide +kernel, by decide +kernel⟩
theorem ok_as {f : Addr} {fd : FuncData} (F : Fun K "_as_ratio" "_as_ratio" sAs f fd) (T : Txt K mg C CI fCI CZ fCZ) (M : Mak P w K mg base C CI CZ) : FnOk P w K mg base (L2.CX P w) 5 f fd ["value"] (spAs C CI) := by
  obtain ⟨fI, fdI, ds, mk, GI, b3, d2, b2⟩ := M.ex
  refine F.okX scAs (fun vs H Q E h => ?_) (fun cdv A outer s H vs Q E hr h => ?_)
  · obtain ⟨v, rfl, _⟩ := h
    rfl
  · obtain ⟨v, rfl, k⟩ := h
    refine ⟨_, pss_one (ps_ret (pe_ifExp (pt_val (pe_callB call_isi (by rfl) T.isi (by decide +kernel) (pa_cons (pv 0) (pa_cons (pe_glob (v := .ref C) (by rfl) T.gC rfl) pa_nil)))) (pv 0)
      (pe_make mk GI hr (by rfl) T.gC b2 d2 (passes_call (takes_of rfl rfl rfl rfl) (fun _ _ _ _ z => z)) (pa_cons (pv 0) pa_nil)))), ?_⟩
    rcases k with ⟨t, b, ⟨q, rfl, dx, e⟩ | ⟨rfl, rfl⟩, k⟩ | ⟨bd, k⟩
    · exact ⟨_, rfl, _, _, _, _, _, rfl, .own C, .base (.ins e T.cl T.ha T.hn T.htk T.hm), T.kCC, _, rfl, iteT ⟨_, rfl, k q H (Same.refl H) ⟨dx, e⟩⟩⟩
    · refine ⟨_, rfl, _, _, _, _, _, rfl, .own C, .base (.int t), T.kiC, _, rfl, iteF ⟨_, rfl, ?_⟩⟩
      refine mk_good (by decide) (show (1 : Int).natAbs < 2 ^ 5000 by decide +kernel) fun p H' sm r => k p H' sm ?_
      rw [(nt_one t).1, (nt_one t).2] at r
      exact r
    · have fin := mk_bad1 (Q := Q) (E := E) (C := C) (CI := CI) (CZ := CZ) (u := .int 1) (.inl bd) k
      cases bd with
      | bl b => exact ⟨_, rfl, _, _, _, _, _, rfl, .own C, .base (.bl b), T.kbC, _, rfl, iteF ⟨_, rfl, fin⟩⟩
      | non => exact ⟨_, rfl, _, _, _, _, _, rfl, .own C, .base .non, T.knC, _, rfl, iteF ⟨_, rfl, fin⟩⟩
      | str x => exact ⟨_, rfl, _, _, _, _, _, rfl, .own C, .base (.str x), T.ksC, _, rfl, iteF ⟨_, rfl, fin⟩⟩
      | lst e => exact ⟨_, rfl, _, _, _, _, _, rfl, .own C, .base (.lst e), T.klC, _, rfl, iteF ⟨_, rfl, fin⟩⟩
      | tup e => exact ⟨_, rfl, _, _, _, _, _, rfl, .own C, .base (.tup e), T.ktC, _, rfl, iteF ⟨_, rfl, fin⟩⟩
end
end R1
end

-- E3c
section
set_option Elab.async false
set_option linter.all false
set_option maxRecDepth 100000
set_option exponentiation.threshold 6000
namespace R1
open PySem L2 OwnOps RatM
/-- what a two-place operator asks of its two numbers -/
structure Small (t b t' b' : Int) : Prop where
  b0 : 0 < b
  b0' : 0 < b'
  t1 : Sm 1200 t
  b1 : Sm 1200 b
  t1' : Sm 1200 t'
  b1' : Sm 1200 b'
def ts (i : Int) : Str := Str.ofString (toString i)
def strT (t b : Int) : Str := if b = 1 then ts t else Str.empty ++ ts t ++ ("/" : Str) ++ ts b
def reprT (t b : Int) : Str := Str.empty ++ ("Ratio(" : Str) ++ ts t ++ (", " : Str) ++ ts b ++ (")" : Str)
def Pr (i : Int) : Prop := i.natAbs.log2 < 1920
theorem ts_len {i : Int} (h : Pr i) : (ts i).length ≤ 1921 := PyProof.Rows.int_text_len_1921 h
theorem app_len (a b : Str) : (a ++ b).length = a.length + b.length := Str.length_append a b
theorem len1 : ("/" : Str).length = 1 := by decide +kernel
theorem len2 : ("Ratio(" : Str).length = 6 := by decide +kernel
theorem len3 : (", " : Str).length = 2 := by decide +kernel
theorem len4 : (")" : Str).length = 1 := by decide +kernel
theorem len0 : Str.empty.length = 0 := by decide +kernel
theorem mulok {i j : Int} (a : Sm 1200 i) (b : Sm 1200 j) : CMulW i j := wide_mul a b (by decide) (by decide) (by decide)
theorem mul_sm {i j : Int} (a : Sm 1200 i) (b : Sm 1200 j) : Sm 5000 (i * j) := Nat.lt_of_lt_of_le (wide_lt a b) (Nat.pow_le_pow_right (by decide) (by decide))
def Raise1 (CI : Addr) (H : Hp) (v : V) (E : XK) : Prop := ∀ d H', Same H H' → H' d = some (xd v) → E (.ref CI) (some d) H'
/-- arithmetic: a new ratio, X / Y -/
def spAr (C CI : Addr) (X Y : Int → Int → Int → Int → Int) : Sp := fun vs H Q E => ∃ p v t b, vs = [.ref p, v] ∧ Rat C H p t b ∧ ((∃ t' b', Num C H v t' b' ∧ Small t b t' b' ∧
  ∀ r H', Same H H' → Rat C H' r (nt (X t b t' b') (Y t b t' b')) (nb (X t b t' b') (Y t b t' b')) → Q (.ref r) H') ∨ (Bd H v ∧ Raise1 CI H v E))
/-- a comparison -/
def spCm (C CI : Addr) (G : Int → Int → Int → Int → Bool) : Sp := fun vs H Q E => ∃ p v t b, vs = [.ref p, v] ∧ Rat C H p t b ∧ ((∃ t' b', Num C H v t' b' ∧ Small t b t' b' ∧
  ∀ H', Same H H' → Q (.bl (G t b t' b')) H') ∨ (Bd H v ∧ Raise1 CI H v E))
def spOver (C CI CZ : Addr) : Sp := fun vs H Q E => ∃ p v t b, vs = [.ref p, v] ∧ Rat C H p t b ∧ ((∃ t' b', Num C H v t' b' ∧ Small t b t' b' ∧
  ((t' = 0 ∧ ∀ d H', Same H H' → H' d = some (xd v) → E (.ref CZ) (some d) H') ∨
   (t' ≠ 0 ∧ ∀ r H', Same H H' → Rat C H' r (nt (t * b') (b * t')) (nb (t * b') (b * t')) → Q (.ref r) H'))) ∨ (Bd H v ∧ Raise1 CI H v E))
section
variable {P : Program} {w : World} {K : PySem.W.Frag} {mg : Str → Option Value} {base : Heap} {C CI fCI CZ fCZ : Addr}

theorem ok_add {f : Addr} {fd : FuncData} (F : Fun K "__add__" "Ratio.__add__" (sRat 3) f fd) (T : Txt K mg C CI fCI CZ fCZ) (M : Mak P w K mg base C CI CZ) (GG : Glb P w K mg base "_as_ratio" 5 ["value"] (spAs C CI)) :
    FnOk P w K mg base (L2.CX P w) 6 f fd ["self", "other"] (spAr C CI (fun t b t' b' => t * b' + t' * b) (fun t b t' b' => b * b')) := by
  obtain ⟨fI, fdI, ds, mk, GI, b3, d2, b2⟩ := M.ex
  obtain ⟨fA, fdA, mA, kA, GA, bA⟩ := GG.ex
  have sc : FnScope ["self", "other", "right"] ["self", "other"] (defScope (sRat 3)) := ⟨rfl, rfl, rfl, by decide +kernel, rfl, by decide +kernel, by decide +kernel⟩
  refine F.okX sc (fun vs H Q E h => ?_) (fun cdv A outer s H vs Q E hr h => ?_)
  · obtain ⟨p, v, t, b, rfl, _⟩ := h
    rfl
  · obtain ⟨p, v, t, b, rfl, ⟨dx, hp⟩, k⟩ := h
    refine ⟨_, pss_cons (ps_set (i := 2) sc.nd rfl (Or.inl rfl) (pe_call GA (hr.mono (by decide)) (by rfl) mA kA bA .nil (passes_call (takes_of rfl rfl rfl rfl) (fun _ _ _ _ z => z)) (pa_cons (pv 1) pa_nil)))
      (pss_one (ps_ret (pe_make mk GI (hr.mono (by decide)) (by rfl) T.gC b3 .nil passL (pa_cons (pe_op op_add (pe_op op_mulW (pe_fld (pv 0) rfl) (pe_fld (pv 2) rfl)) (pe_op op_mulW (pe_fld (pv 2) rfl) (pe_fld (pv 0) rfl))) (pa_cons (pe_op op_mulW (pe_fld (pv 0) rfl) (pe_fld (pv 2) rfl)) pa_nil))))), ?_⟩
    rcases k with ⟨t', b', nm, S, k⟩ | ⟨bd, k⟩
    · refine ⟨_, rfl, v, rfl, .inl ⟨t', b', nm, fun r H2 sm ⟨dr, hr2⟩ => ?_⟩⟩
      have hp2 := sm _ _ hp
      refine ⟨_, rfl, p, C, dx, _, _, rfl, hp2, T.cl, T.nT, flds_top _ _, _, rfl, r, C, dr, _, _, rfl, hr2, T.cl, T.nB, flds_bot _ _, _, _, rfl, rfl, mulok S.t1 S.b1', _, rfl, r, C, dr, _, _, rfl, hr2, T.cl, T.nT, flds_top _ _, _, rfl, p, C, dx, _, _, rfl, hp2, T.cl, T.nB, flds_bot _ _, _, _, rfl, rfl, mulok S.t1' S.b1, _, _, rfl, rfl, _, rfl, p, C, dx, _, _, rfl, hp2, T.cl, T.nB, flds_bot _ _, _, rfl, r, C, dr, _, _, rfl, hr2, T.cl, T.nB, flds_bot _ _, _, _, rfl, rfl, mulok S.b1 S.b1', ?_⟩
      exact mk_good (Int.ne_of_gt (Int.mul_pos S.b0 S.b0')) (mul_sm S.b1 S.b1') fun q H' sm' r' => k q H' (sm.trans sm') r'
    · exact ⟨_, rfl, v, rfl, .inr ⟨bd, k⟩⟩

theorem ok_over {f : Addr} {fd : FuncData} (F : Fun K "over" "Ratio.over" (sRat 2) f fd) (T : Txt K mg C CI fCI CZ fCZ) (M : Mak P w K mg base C CI CZ) (GG : Glb P w K mg base "_as_ratio" 5 ["value"] (spAs C CI)) :
    FnOk P w K mg base (L2.CX P w) 6 f fd ["self", "other"] (spOver C CI CZ) := by
  obtain ⟨fI, fdI, ds, mk, GI, b3, d2, b2⟩ := M.ex
  obtain ⟨fA, fdA, mA, kA, GA, bA⟩ := GG.ex
  have sc : FnScope ["self", "other", "right"] ["self", "other"] (defScope (sRat 2)) := ⟨rfl, rfl, rfl, by decide +kernel, rfl, by decide +kernel, by decide +kernel⟩
  refine F.okX sc (fun vs H Q E h => ?_) (fun cdv A outer s H vs Q E hr h => ?_)
  · obtain ⟨p, v, t, b, rfl, _⟩ := h
    rfl
  · obtain ⟨p, v, t, b, rfl, ⟨dx, hp⟩, k⟩ := h
    refine ⟨_, pss_cons (ps_set (i := 2) sc.nd rfl (Or.inl rfl) (pe_call GA (hr.mono (by decide)) (by rfl) mA kA bA .nil (passes_call (takes_of rfl rfl rfl rfl) (fun _ _ _ _ z => z)) (pa_cons (pv 1) pa_nil)))
      (pss_cons (ps_if (pt_cmpR op_eq (pe_fld (pv 2) rfl) pe_int (nomark _)) (pss_one (ps_raiseGiv rfl PySem.Giv.ok_ZD T.eZ hr (takes_of rfl rfl rfl rfl) (pa_cons (pv 1) pa_nil) (by rfl))) pss_nil)
      (pss_one (ps_ret (pe_make mk GI (hr.mono (by decide)) (by rfl) T.gC b3 .nil passL (pa_cons (pe_op op_mulW (pe_fld (pv 0) rfl) (pe_fld (pv 2) rfl)) (pa_cons (pe_op op_mulW (pe_fld (pv 0) rfl) (pe_fld (pv 2) rfl)) pa_nil)))))), ?_⟩
    rcases k with ⟨t', b', nm, S, k⟩ | ⟨bd, k⟩
    · refine ⟨_, rfl, v, rfl, .inl ⟨t', b', nm, fun r H2 sm ⟨dr, hr2⟩ => ?_⟩⟩
      have hp2 := sm _ _ hp
      refine ⟨_, rfl, r, C, dr, _, _, rfl, hr2, T.cl, T.nT, flds_top _ _, rfl, _, rfl, ?_⟩
      rcases k with ⟨z, k⟩ | ⟨z, k⟩
      · refine if_pos' (decide_eq_true (by rw [z])) ⟨_, rfl, _, rfl, fun d hd => k d _ (fun c o e => ?_) upd_same⟩
        rw [upd_ne (ne_of_none (sm c o e) hd)]
        exact sm c o e
      · refine if_neg' (decide_eq_false (fun y => z (V.int.inj y))) ?_
        refine ⟨_, rfl, p, C, dx, _, _, rfl, hp2, T.cl, T.nT, flds_top _ _, _, rfl, r, C, dr, _, _, rfl, hr2, T.cl, T.nB, flds_bot _ _, _, _, rfl, rfl, mulok S.t1 S.b1', _, rfl, p, C, dx, _, _, rfl, hp2, T.cl, T.nB, flds_bot _ _, _, rfl, r, C, dr, _, _, rfl, hr2, T.cl, T.nT, flds_top _ _, _, _, rfl, rfl, mulok S.b1 S.t1', ?_⟩
        exact mk_good (Int.mul_ne_zero (Int.ne_of_gt S.b0) z) (mul_sm S.b1 S.t1') fun q H' sm' r' => k q H' (sm.trans sm') r'
    · exact ⟨_, rfl, v, rfl, .inr ⟨bd, k⟩⟩
end
/-- a method of the class, by its name -/
structure Dun (P : Program) (w : World) (K : PySem.W.Frag) (mg : Str → Option Value) (base : Heap) (C : Addr) (nm : Str) (k : Nat) (ps : List Str) (sp : Sp) : Prop where
  ex : ∃ (f : Addr) (fd : FuncData), PySem.W.findIn K (.ref C) nm = some (some (.ref f)) ∧ PySem.W.isFn K (.ref f) = true ∧ PySem.W.keepIn K (.ref f) = true ∧ FnOk P w K mg base (L2.CX P w) k f fd ps sp ∧ L2.Binds K fd ps []
/-- what is known of the class beside the built-in types -/
structure Tys (K : PySem.W.Frag) (C : Addr) : Prop where
  sf : PySem.W.selfFirst K C = true
  nCC : PySem.W.notFirst K C (.ref C) = true
  nI : PySem.W.notFirst K C (.type "int") = true
  nB : PySem.W.notFirst K C (.type "bool") = true
  nN : PySem.W.notFirst K C (.type "NoneType") = true
  nS : PySem.W.notFirst K C (.type "str") = true
  nL : PySem.W.notFirst K C (.type "list") = true
  nT : PySem.W.notFirst K C (.type "tuple") = true
  sI : PySem.W.subIn K (.ref C) (.type "int") = some false
def RAny (C : Addr) : V → Hp → Prop := fun y H => RIns C y H ∨ RInt y H ∨ Bd H y
theorem looks_any {X : Cx} {C : Addr} (Y : Tys X.K C) {y : V} {H : Hp} {u : Value} {pins : List (Addr × Obj)} {σ : L2.St} {s : Shared} (I : L2.Inv X pins σ H s) (h : RAny C y H) (ry : RelV y u) :
    ∃ tb, PySem.W.Looks (model X.prog X.w) s.heap (typeOf u) tb ∧ PySem.W.notFirst X.K C tb = true := by
  rcases h with h | h | h
  · exact looks_ins Y.nCC I h ry
  · exact looks_int Y.nI I h ry
  · cases h with
    | bl b => cases (show u = Value.bool b from ry); exact ⟨_, PySem.W.Looks.of_pure rfl, Y.nB⟩
    | non => cases (show u = Value.none from ry); exact ⟨_, PySem.W.Looks.of_pure rfl, Y.nN⟩
    | str x => obtain ⟨t, rfl⟩ := (show ∃ t, u = Value.str x t from ry); exact ⟨_, PySem.W.Looks.of_pure rfl, Y.nS⟩
    | lst e =>
      cases (show u = Value.ref _ from ry)
      obtain ⟨_, _, n, _, h1⟩ := (show ObjOk X.prog X.w H s.heap _ (.lst _) from I.hok _ _ e)
      exact ⟨.type "list", fun A Q E s' k q => wpAny_typeOf_ref (k _ _ h1) q, Y.nL⟩
    | tup e =>
      cases (show u = Value.ref _ from ry)
      obtain ⟨_, _, _, o, h1, h2, _⟩ := (show ObjOk X.prog X.w H s.heap _ (.tup _) from I.hok _ _ e)
      exact ⟨.type "tuple", fun A Q E s' k q => wpAny_typeOf_ref (k _ _ h1) (by rw [h2]; exact q), Y.nT⟩

section
variable {P : Program} {w : World} {K : PySem.W.Frag} {mg : Str → Option Value} {base : Heap} {C CI fCI CZ fCZ : Addr}
def spEq (C : Addr) (neg : Bool) : Sp := fun vs H Q _ => ∃ p v t b, vs = [.ref p, v] ∧ Rat C H p t b ∧ ((∃ q t' b', v = .ref q ∧ Rat C H q t' b' ∧ Q (.bl (neg != (decide (t = t') && decide (b = b')))) H) ∨
  (∃ i, v = .int i ∧ Q (.bl (neg != (decide (b = 1) && decide (t = i)))) H) ∨ (Bd H v ∧ Q (.bl neg) H))
theorem dI (i j : Int) : decide (V.int i = V.int j) = decide (i = j) := by
  by_cases h : i = j
  · rw [decide_eq_true h, decide_eq_true (by rw [h])]
  · rw [decide_eq_false h, decide_eq_false (fun z => h (V.int.inj z))]
theorem ok_eq {f : Addr} {fd : FuncData} (F : Fun K "__eq__" "Ratio.__eq__" (sRat 11) f fd) (T : Txt K mg C CI fCI CZ fCZ) (GW : Glb P w K mg base "is_whole" 1 ["value"] (spWhole C)) :
    FnOk P w K mg base (L2.CX P w) 2 f fd ["self", "other"] (spEq C false) := by
  obtain ⟨fW, fdW, mW, kW, GW, bW⟩ := GW.ex
  have sc : FnScope ["self", "other"] ["self", "other"] (defScope (sRat 11)) := ⟨rfl, rfl, rfl, by decide +kernel, rfl, by decide +kernel, by decide +kernel⟩
  refine F.okX sc (fun vs H Q E h => ?_) (fun cdv A outer s H vs Q E hr h => ?_)
  · obtain ⟨p, v, t, b, rfl, _⟩ := h
    rfl
  · obtain ⟨p, v, t, b, rfl, ⟨dx, hp⟩, k⟩ := h
    refine ⟨_, pss_cons (ps_if (pt_val (pe_callB call_isi (by rfl) T.isi (by decide +kernel) (pa_cons (pv 1) (pa_cons (pe_glob (v := .ref C) (by rfl) T.gC rfl) pa_nil))))
        (pss_one (ps_ret (pe_and (pe_cmpR op_eq (pe_fld (pv 0) rfl) (pe_fld (pv 1) rfl) (nomark _)) (pe_one (pe_cmpR op_eq (pe_fld (pv 0) rfl) (pe_fld (pv 1) rfl) (nomark _)))))) pss_nil)
      (pss_one (ps_ret (pe_and (pe_call GW hr (by rfl) mW kW bW .nil passL (pa_cons (pv 1) pa_nil)) (pe_and (pe_cmpR op_eq (pe_fld (pv 0) rfl) pe_int (nomark _)) (pe_one (pe_cmpR op_eq (pe_fld (pv 0) rfl) (pv 1) (nomark _))))))), ?_⟩
    rcases k with ⟨q, t', b', rfl, ⟨dq, hq⟩, k⟩ | ⟨i, rfl, k⟩ | ⟨bd, k⟩
    · refine ⟨_, rfl, _, _, _, _, _, rfl, .own C, .base (.ins hq T.cl T.ha T.hn T.htk T.hm), T.kCC, _, rfl, iteT ?_⟩
      refine ⟨_, rfl, p, C, dx, _, _, rfl, hp, T.cl, T.nT, flds_top _ _, _, rfl, q, C, dq, _, _, rfl, hq, T.cl, T.nT, flds_top _ _, rfl, _, rfl, ?_⟩
      rw [dI]
      by_cases h : t = t'
      · rw [decide_eq_true h]
        refine iteT ⟨_, rfl, p, C, dx, _, _, rfl, hp, T.cl, T.nB, flds_bot _ _, _, rfl, q, C, dq, _, _, rfl, hq, T.cl, T.nB, flds_bot _ _, rfl, ?_⟩
        rw [dI]
        rw [decide_eq_true h] at k
        simpa using k
      · rw [decide_eq_false h]
        rw [decide_eq_false h] at k
        exact iteF (by simpa using k)
    · refine ⟨_, rfl, _, _, _, _, _, rfl, .own C, .base (.int i), T.kiC, _, rfl, iteF ?_⟩
      refine ⟨_, rfl, _, rfl, .int i, _, rfl, iteT ⟨_, rfl, p, C, dx, _, _, rfl, hp, T.cl, T.nB, flds_bot _ _, rfl, _, rfl, ?_⟩⟩
      rw [dI]
      by_cases h : b = 1
      · rw [decide_eq_true h]
        refine iteT ⟨_, rfl, p, C, dx, _, _, rfl, hp, T.cl, T.nT, flds_top _ _, _, rfl, rfl, ?_⟩
        rw [dI]
        rw [decide_eq_true h] at k
        simpa using k
      · rw [decide_eq_false h]
        rw [decide_eq_false h] at k
        exact iteF (by simpa using k)
    · cases bd with
      | bl b => exact ⟨_, rfl, _, _, _, _, _, rfl, .own C, .base (.bl b), T.kbC, _, rfl, iteF ⟨_, rfl, _, rfl, .bl b, _, rfl, iteF k⟩⟩
      | non => exact ⟨_, rfl, _, _, _, _, _, rfl, .own C, .base .non, T.knC, _, rfl, iteF ⟨_, rfl, _, rfl, .non, _, rfl, iteF k⟩⟩
      | str x => exact ⟨_, rfl, _, _, _, _, _, rfl, .own C, .base (.str x), T.ksC, _, rfl, iteF ⟨_, rfl, _, rfl, .str x, _, rfl, iteF k⟩⟩
      | lst e => exact ⟨_, rfl, _, _, _, _, _, rfl, .own C, .base (.lst e), T.klC, _, rfl, iteF ⟨_, rfl, _, rfl, .lst e, _, rfl, iteF k⟩⟩
      | tup e => exact ⟨_, rfl, _, _, _, _, _, rfl, .own C, .base (.tup e), T.ktC, _, rfl, iteF ⟨_, rfl, _, rfl, .tup e, _, rfl, iteF k⟩⟩
theorem ok_ne {f : Addr} {fd : FuncData} (F : Fun K "__ne__" "Ratio.__ne__" (sRat 12) f fd) (Z : Tys K C) (D : Dun P w K mg base C (cmpInfo .Eq).2.1 2 ["self", "other"] (spEq C false)) :
    FnOk P w K mg base (L2.CX P w) 3 f fd ["self", "other"] (spEq C true) := by
  obtain ⟨g, gd, ga, gf, _, GD, gb⟩ := D.ex
  have sc : FnScope ["self", "other"] ["self", "other"] (defScope (sRat 12)) := ⟨rfl, rfl, rfl, by decide +kernel, rfl, by decide +kernel, by decide +kernel⟩
  refine F.okX sc (fun vs H Q E h => ?_) (fun cdv A outer s H vs Q E hr h => ?_)
  · obtain ⟨p, v, t, b, rfl, _⟩ := h
    rfl
  · obtain ⟨p, v, t, b, rfl, ⟨dx, hp⟩, k⟩ := h
    refine ⟨_, pss_one (ps_ret (pe_not (pe_cmpR (op := .Eq) (cmp_own (C := C) (E := E0) (R := RAny C) (fun _ _ => rfl) ga gf GD hr gb passL (looks_any Z)) (pv 0) (pv 1) (nomark _)))), ?_⟩
    rcases k with ⟨q, t', b', rfl, ⟨dq, hq⟩, k⟩ | ⟨i, rfl, k⟩ | ⟨bd, k⟩
    · exact ⟨_, rfl, _, rfl, p, dx, _, rfl, hp, .inl ⟨q, dq, _, rfl, hq⟩, p, .ref q, t, b, rfl, ⟨dx, hp⟩, .inl ⟨q, t', b', rfl, ⟨dq, hq⟩, _, rfl, by cases hx : (decide (t = t') && decide (b = b')) <;> rw [hx] at k <;> exact k⟩⟩
    · exact ⟨_, rfl, _, rfl, p, dx, _, rfl, hp, .inr (.inl ⟨i, rfl⟩), p, .int i, t, b, rfl, ⟨dx, hp⟩, .inr (.inl ⟨i, rfl, _, rfl, by cases hx : (decide (b = 1) && decide (t = i)) <;> rw [hx] at k <;> exact k⟩)⟩
    · exact ⟨_, rfl, _, rfl, p, dx, _, rfl, hp, .inr (.inr bd), p, v, t, b, rfl, ⟨dx, hp⟩, .inr (.inr ⟨bd, _, rfl, k⟩)⟩
def spStr (C : Addr) (X : Int → Int → Str) : Sp := fun vs H Q _ => ∃ p t b, vs = [.ref p] ∧ Rat C H p t b ∧ Pr t ∧ Pr b ∧ Q (.str (X t b)) H
theorem ok_repr {f : Addr} {fd : FuncData} (F : Fun K "__repr__" "Ratio.__repr__" (sRat 19) f fd) (T : Txt K mg C CI fCI CZ fCZ) :
    FnOk P w K mg base (L2.CX P w) 1 f fd ["self"] (spStr C reprT) := by
  have sc : FnScope ["self"] ["self"] (defScope (sRat 19)) := ⟨rfl, rfl, rfl, by decide +kernel, rfl, by decide +kernel, by decide +kernel⟩
  refine F.okX sc (fun vs H Q E h => ?_) (fun cdv A outer s H vs Q E hr h => ?_)
  · obtain ⟨p, t, b, rfl, _⟩ := h
    rfl
  · obtain ⟨p, t, b, rfl, ⟨dx, hp⟩, pt, pb, k⟩ := h
    have lt := ts_len pt
    have lb := ts_len pb
    have ez := sizeLine_eq
    refine ⟨_, pss_one (ps_ret (pe_joined (.cons pe_str (.cons (pe_fmt (pe_fld (pv 0) rfl)) (.cons pe_str (.cons (pe_fmt (pe_fld (pv 0) rfl)) (.cons pe_str .nil))))))), ?_⟩
    refine ⟨("Ratio(" : Str), rfl, ?_, _, rfl, p, C, dx, _, _, rfl, hp, T.cl, T.nT, flds_top _ _, .inr ⟨_, rfl, pt, ts t, rfl, ?_, (", " : Str), rfl, ?_, _, rfl, p, C, dx, _, _, rfl, hp, T.cl, T.nB, flds_bot _ _, .inr ⟨_, rfl, pb, ts b, rfl, ?_, (")" : Str), rfl, ?_, k⟩⟩⟩
    · rw [app_len, len0, len2]; omega
    · rw [app_len, app_len, len0, len2]; omega
    · rw [app_len, app_len, app_len, len0, len2, len3]; omega
    · rw [app_len, app_len, app_len, app_len, len0, len2, len3]; omega
    · rw [app_len, app_len, app_len, app_len, app_len, len0, len2, len3, len4]; omega
end
end R1
end

-- E3g
section
set_option Elab.async false
set_option linter.all false
set_option maxRecDepth 100000
set_option exponentiation.threshold 10000
namespace R1
open PySem L2 OwnOps RatM
def SameX (l : Addr) (H H' : Hp) : Prop := ∀ b u, b ≠ l → H b = some u → H' b = some u
theorem SameX.refl (l : Addr) (H : Hp) : SameX l H H := fun _ _ _ e => e
theorem SameX.trans {l : Addr} {H H1 H2 : Hp} (a : SameX l H H1) (b : SameX l H1 H2) : SameX l H H2 := fun c o n h => b c o n (a c o n h)
theorem SameX.of {l : Addr} {H H' : Hp} (a : Same H H') : SameX l H H' := fun c o _ h => a c o h
theorem SameX.upd {l : Addr} {H : Hp} {o : HO} : SameX l H (upd H l o) := fun c u n h => by
  rw [upd_ne n]
  exact h
theorem SameX.put {l a : Addr} {H H1 : Hp} {o : HO} (s : SameX l H H1) (h : H1 a = none) : SameX l H (L2.upd H1 a o) := fun c u n e => by
  rw [upd_ne (ne_of_none (s c u n e) h)]
  exact s c u n e
end R1
end

-- OwnNe
section
set_option Elab.async false
set_option linter.all false
set_option maxRecDepth 100000
/-! != of two lists that are equal item by item, by an own == too. -/
namespace OwnNe
open PySem PySem.SeqAt GQ
open AutoSeq1 (wpAny_loadPart')
open MeetsSeq MeetsSeq2 MeetsSeq3 SeqRoads2
section
variable {prog : Program} {w : World} {A : Around} {R : Result → Shared → Prop} {E : Value → Shared → Prop}
/-- the loop over the items, from i on: all are equal, so the answer is no -/
theorem loopN (l b : Addr) (N : Nat) (I : Nat → Shared → Prop) (hl : ListI prog w A (fun e s' => R (.error e) s') l b N I) (fin : ∀ s, I N s → R (.ok (.ret (.bool false))) s) :
    ∀ (k i : Nat), N - i = k → i ≤ N → ∀ s, I i s → wpAny (model prog w) A.in1 (Builtin.«list.__eq__.loop» ⟨[.ref l, .ref b, rawInt i, rawInt 3], []⟩) (FinOf prog w A R) (fun e s' => R (.error e) s') s
  | 0, i, hk, hi, s, h => by
    obtain ⟨xs, ys, n, n2, hl1, hb1, z1, z2, _⟩ := hl _ _ h
    have last : i = N := by omega
    have done : R (.ok (.ret (.bool false))) s := fin s (last ▸ h)
    obtain ⟨hp, g, d, tk, os⟩ := s
    wp_walk using wpAny_loadPart' hl1, wpAny_loadPart' hb1
    have no1 : xs[((i : Nat) : Int).toNat]? = none := by simp; omega
    have no2 : ys[((i : Nat) : Int).toNat]? = none := by simp; omega
    rw [no1, no2]
    wp_walk using wpAny_loadPart' hl1, wpAny_loadPart' hb1
    show R (.ok (.ret (.bool (xs.size != ys.size)))) _
    rw [z1, z2]
    simpa using done
  | k + 1, i, hk, hi, s, h => by
    obtain ⟨xs, ys, n, n2, hl1, hb1, z1, z2, one⟩ := hl _ _ h
    have lt1 : i < xs.size := by omega
    have lt2 : i < ys.size := by omega
    have here := one lt1 lt2
    obtain ⟨hp, g, d, tk, os⟩ := s
    wp_walk using wpAny_loadPart' hl1, wpAny_loadPart' hb1
    have is1 : xs[((i : Nat) : Int).toNat]? = some xs[i] := by simp [lt1]
    have is2 : ys[((i : Nat) : Int).toNat]? = some ys[i] := by simp [lt2]
    have up : ((i : Int) + 1) = ((i + 1 : Nat) : Int) := by omega
    rw [is1, is2]
    refine wpAny_bind (wpAny_mono here (fun r s2 q => ?_) fun _ _ x => x)
    obtain ⟨hr, q⟩ := q
    subst hr
    have rest := loopN l b N I hl fin k (i + 1) (by omega) (by omega) s2 q
    obtain ⟨hp2, g2, d2, tk2, os2⟩ := s2
    wp_walk
    rw [up]
    exact ⟨plainId_quiet plain_eq_loop _, codeAny_builtin entry_eq_loop (by rw [Around.under_plainId plain_eq_loop _] <;> exact rest)⟩
theorem listN (l b : Addr) (N : Nat) (I : Nat → Shared → Prop) (hl : ListI prog w A (fun e s' => R (.error e) s') l b N I) (fin : ∀ s, I N s → R (.ok (.ret (.bool false))) s) {s : Shared} (h : I 0 s) :
    wpAny (model prog w) A.in1 (Builtin.«list.__ne__» ⟨[.ref l, .ref b], []⟩) (FinOf prog w A R) (fun e s' => R (.error e) s') s := by
  obtain ⟨xs, ys, n, n2, hl1, hb1, z1, z2, _⟩ := hl _ _ h
  have rest := loopN (A := A) (R := R) l b N I hl fin _ 0 rfl (Nat.zero_le _) s h
  obtain ⟨hp, g, d, tk, os⟩ := s
  have sub := AutoSeq1.sub_list_list
  have same : ¬ (xs.size != ys.size) = true := by simp [z1, z2]
  wp_walk using wpAny_loadPart' hl1, wpAny_loadPart' hb1
  exact ⟨plainId_quiet plain_eq_loop _, codeAny_builtin entry_eq_loop (by rw [Around.under_plainId plain_eq_loop _] <;> exact rest)⟩
theorem rcN {l b : Addr} {N : Nat} {Q : Value → Shared → Prop} {s : Shared} (hu : A.units < cLine) (I : Nat → Shared → Prop) (hl : ListI prog w A E l b N I)
    (fin : ∀ s, I N s → Q (.bool false) s) (h : I 0 s) : wpAny (model prog w) A (richCompare .NotEq (.ref l) (.ref b)) Q E s := by
  obtain ⟨xs, ys, n, n2, hl1, hb1, _, _, _⟩ := hl _ _ h
  refine wpAny_richCompare_same_room (op := .NotEq) ⟨_, hl1, rfl⟩ ⟨_, hb1, rfl⟩ F.slot_list_ne (call_here F.slot_list_ne ⟨_, hl1, rfl⟩ F.entry_list_ne (F.args_list_ne_2 _ _) ?_) hu
  exact listN (R := wants (fun v s' => v ≠ .notImplemented ∧ Q v s') E) l b N I hl (fun s' q => ⟨(fun x => nomatch x), fin s' q⟩) h
end
open L2
/-- x != y of two lists, item by item equal -/
def rNeG (D : Eqv) : R2 := fun x y H Q => DList D x y H ∧ ∀ H', Ext H H' → Q (.bl false) H'
theorem op_neG {X : Cx} {n : Nat} {D : Eqv} (hD : Mon D) (h : EqG X n D) (hr : Room (n + 1) X.A) : OpR X (compareOp .NotEq) (rNeG D) := by
  intro pins s σ H x y v u Q I rx ry hq
  obtain ⟨⟨a, b, xs, ys, rfl, rfl, ha, hb, p⟩, q⟩ := hq
  cases rx
  cases ry
  have sb : Sub X (n + 1) X.A := ⟨hr, rfl⟩
  show wpAny (model X.prog X.w) X.A (richCompare .NotEq (.ref a) (.ref b)) (EP X pins σ Q) X.xe s
  refine rcN (N := xs.length) hr.units0 (fun _ s' => LoopI X pins σ H s') (fun i s' z => ?_) (fun s' ⟨H', I', e⟩ => ⟨.bl false, H', I', rfl, q H' e⟩) ⟨H, I, Ext.rfl'⟩
  obtain ⟨H1, I1, e1⟩ := id z
  obtain ⟨zz, its, k, r, e⟩ := I1.hok a _ (e1 _ _ ha)
  obtain ⟨zz2, its2, k2, r2, e2⟩ := I1.hok b _ (e1 _ _ hb)
  refine ⟨its.toArray, its2.toArray, k, k2, e, e2, by rw [List.size_toArray, ← r.length], by rw [List.size_toArray, ← r2.length, ← p.1], fun h1 h2 => ?_⟩
  exact turnG hD h sb p r r2 i h1 h2 s' z
/-- the same thing -/
def DSame : Eqv := fun x y _ => x = y ∧ ∃ a, x = .ref a
theorem mon_same : Mon DSame := fun _ _ _ _ _ d => d
theorem eqG_same {X : Cx} {n : Nat} : EqG X n DSame := by
  intro A pins s σ H x y u v sb I rx ry d
  obtain ⟨rfl, a, rfl⟩ := d
  cases rx
  cases ry
  exact SeqAt.EqAt.same (A := A) (s := s) (.ref a) X.prog X.w X.xe _ ⟨rfl, H, I, Ext.rfl'⟩
end OwnNe
end

-- OwnNe2
section
set_option Elab.async false
set_option linter.all false
set_option maxRecDepth 100000
namespace OwnNe
open PySem L2
def rNeEmp : R2 := fun x y H Q => ∃ l b xs, x = .ref l ∧ y = .ref b ∧ H l = some (.lst xs) ∧ H b = some (.lst []) ∧ Q (.bl (!xs.isEmpty)) H
/-- a list != [] -/
theorem op_neEmp {X : Cx} (hu : X.A.units < cLine) : OpR X (compareOp .NotEq) rNeEmp := by
  intro pins s σ H x y v u Q I rx ry h
  obtain ⟨l, b, xs, rfl, rfl, hl, hb, q⟩ := h
  cases rx
  cases ry
  obtain ⟨_, its, n, r, _, e⟩ := I.lstM hl
  obtain ⟨_, its2, n2, r2, _, e2⟩ := I.lstM hb
  cases r2
  have L1 : s.heap.IsList l its.toArray := ⟨_, e, rfl, n, rfl⟩
  have L2' : s.heap.IsList b ([] : List Value).toArray := ⟨_, e2, rfl, n2, rfl⟩
  show wpAny (model X.prog X.w) X.A (richCompare .NotEq (.ref l) (.ref b)) (EP X pins σ Q) X.xe s
  cases r with
  | nil => exact PySem.SeqAt.RcNeAt.lists (e := fun _ => true) L1 L2' rfl hu (fun j h1 _ => absurd h1 (by simp)) X.prog X.w X.xe _ ⟨.bl false, H, I, rfl, q⟩
  | cons a r => exact PySem.SeqAt.RcNeAt.lists_lengths L1 L2' (by simp) hu X.prog X.w X.xe _ ⟨.bl true, H, I, rfl, q⟩
end OwnNe
end

-- OwnNe3
section
set_option Elab.async false
set_option linter.all false
set_option maxRecDepth 100000
/-! Either of two rules; != by an own == alone; == of two lists, told as a truth. -/
namespace OwnNe
open PySem PySem.SeqAt GQ L2 OwnOps
open AutoSeq1 (wpAny_loadPart')
open MeetsSeq MeetsSeq2 MeetsSeq3 SeqRoads2
theorem op_or {X : Cx} {f : Value → Value → Sem Value} {r1 r2 : R2} (h1 : OpR X f r1) (h2 : OpR X f r2) : OpR X f (fun x y H Q => r1 x y H Q ∨ r2 x y H Q) := by
  intro pins s σ H x y v u Q I rx ry h
  rcases h with h | h
  · exact h1 pins s σ H x y v u Q I rx ry h
  · exact h2 pins s σ H x y v u Q I rx ry h
section
variable {prog : Program} {w : World} {A : Around} {E : Value → Shared → Prop} {s : Shared} {K : PySem.W.Frag} {x C L f : Addr} {h₀ : Heap} {m : Str → Option Value} {ox : Obj} {od : Option Obj} {b tb : Value}
theorem entry_ne {Q : Fin → Shared → Prop} (hu : A.units < cLine) (X : K.In s.heap) (I : PySem.W.InstAt s.heap x ox C od) (he : PySem.W.findIn K (.ref C) "__eq__" = some (some (.ref f))) (hf : PySem.W.isFn K (.ref f) = true)
    (h : wpAny (model prog w) A (call (.ref f) [.ref x, b]) (fun v s' => ∃ r, v = .bool r ∧ Q (.done (.ret (.bool (!r)))) s') E s) :
    wpAny (model prog w) A (Builtin.«object.__ne__» ⟨[.ref x, b], []⟩) Q E s := by
  unfold Builtin.«object.__ne__»
  repeat (first
    | with_reducible refine wpAny_cRoomFor hu ?_
    | (refine wpAny_bind (m := callSpecialIfBound? (.ref x) (Str.ofString "__eq__") [b])
        (PySem.W.ifBound_K X I he hf (wpAny_mono h (fun r s' hr => by
          obtain ⟨b, rfl, hq⟩ := hr
          repeat (first | exact hq | exact wpAny_pure hq | exact wpAny_truthy_bool hq | (refine wpAny_bind (m := truthy (.bool _)) (wpAny_truthy_bool ?_)) | wp_step)) fun _ _ e => e)))
    | wp_step)
theorem ifBound_ne {M : Model} {args : List Value} {Q : Option Value → Shared → Prop} (X : K.In s.heap) (I : PySem.W.InstAt s.heap x ox C od) (hs : PySem.W.findIn K (.ref C) "__ne__" = some (some (.builtin "object.__ne__")))
    (h : wpAny M A (call (.builtin "object.__ne__") (.ref x :: args)) (fun v => Q (some v)) E s) : wpAny M A (callSpecialIfBound? (.ref x) "__ne__" args) Q E s := by
  simp only [callSpecialIfBound?, bindSpecialIfBound?]
  refine wpAny_holding (wpAny_bind (wpAny_bind (wpAny_bind (I.type.here ((PySem.W.looks_findIn X hs).here ?_)))))
  refine wpAny_bind (wpAny_askSetting (wpAny_ite ?_))
  have fin : wpAny M A (call (.builtin "object.__ne__") ([.ref x] ++ args) >>= fun v => pure (some v)) Q E s := wpAny_bind (wpAny_mono h (fun v s' h' => wpAny_pure h') fun _ _ h' => h')
  split
  · exact wpAny_bind (wpAny_of_eq (F.cmp_object.ne.bind _) (wpAny_pure (by exact fin)))
  · exact wpAny_tryCatch (wpAny_bind (wpAny_of_eq (F.cmp_object.ne.bind _) (wpAny_pure (by exact fin))))
/-- x != b by x's own ==: the class has no != of its own -/
theorem rc_neK {Q : Value → Shared → Prop} (hu : A.units + 1 < cLine) (X : K.In s.heap) (I : PySem.W.InstAt s.heap x ox C od) (hb : PySem.W.Looks (model prog w) s.heap (typeOf b) tb) (hn : PySem.W.notFirst K C tb = true)
    (hm : PySem.W.mroIn K C (.type "object") = some true) (hs : PySem.W.findIn K (.ref C) "__ne__" = some (some (.builtin "object.__ne__"))) (he : PySem.W.findIn K (.ref C) "__eq__" = some (some (.ref f))) (hf : PySem.W.isFn K (.ref f) = true)
    (h : wpAny (model prog w) A.in1 (call (.ref f) [.ref x, b]) (fun v s' => ∃ r, v = .bool r ∧ Q (.bool (!r)) s') E s) : wpAny (model prog w) A (richCompare .NotEq (.ref x) b) Q E s := by
  have one : wpAny (model prog w) A (tryCompare (.ref x) (cmpInfo .NotEq).2.1 b) (fun r s' => ∃ v, r = some v ∧ Q v s') E s := by
    show wpAny (model prog w) A (tryCompare (.ref x) "__ne__" b) _ E s
    unfold tryCompare
    refine wpAny_bind (ifBound_ne X I hs (wpAny_call (codeAny_call_builtin F.cmp_object.ne.plain F.cmpEntry_ne
      (PySem.W.check_slot F.cmpKind_ne F.cmpSplit_ne (I.type.andThen (PySem.W.looks_mroIn X hm)) (F.cmpArgs_ne _ _) (entry_ne (A := A.in1) hu X I he hf (wpAny_mono h (fun v s' hv => ?_) fun _ _ e => e))))))
    obtain ⟨r, rfl, q⟩ := hv
    first
      | exact ⟨r, rfl, wpAny_pure ⟨_, rfl, q⟩⟩
      | exact ⟨r, rfl, wpAny_pure (wpAny_pure ⟨_, rfl, q⟩)⟩
      | exact ⟨r, rfl, ⟨_, rfl, q⟩⟩
  unfold richCompare
  simp only [oneThing_ref]
  refine wpAny_holding (wpAny_bind (wpAny_cRoomFor (by omega) ?_))
  refine wpAny_bind (I.type.here (wpAny_bind (hb.here ?_)))
  split
  · rename_i q
    have e : PySem.W.subIn K tb (.ref C) = some false := by
      rcases Bool.or_eq_true_iff.mp hn with e | e
      · rw [beq_iff_eq.mp e] at q; simp at q
      · exact beq_iff_eq.mp e
    refine wpAny_bind ((PySem.W.looks_subIn X e).here ?_)
    simp only [Bool.false_eq_true, if_false]
    refine wpAny_bind (wpAny_mono one (fun r s' z => ?_) fun _ _ e => e)
    obtain ⟨v, rfl, hq⟩ := z
    exact wpAny_pure hq
  · refine wpAny_bind (wpAny_pure ?_)
    simp only [Bool.false_eq_true, if_false]
    refine wpAny_bind (wpAny_mono one (fun r s' z => ?_) fun _ _ e => e)
    obtain ⟨v, rfl, hq⟩ := z
    exact wpAny_pure hq
end
/-- x != y by x's own == -/
def rNeOwn (C : Addr) (R : V → Hp → Prop) (sp : Sp) (E : XK) : R2 := fun x y H Q => ∃ a dx fs, x = .ref a ∧ H a = some (.ins C dx fs) ∧ R y H ∧ sp [x, y] H (fun v H' => ∃ r, v = .bl r ∧ Q (.bl (!r)) H') E
theorem op_neOwn {X : Cx} {CX : CXT} {C g : Addr} {k : Nat} {fd : FuncData} {ps : List Str} {sp : Sp} {E : XK} (hm : PySem.W.mroIn X.K C (.type "object") = some true) (hn : PySem.W.findIn X.K (.ref C) "__ne__" = some (some (.builtin "object.__ne__")))
    (hs : PySem.W.findIn X.K (.ref C) "__eq__" = some (some (.ref g))) (hf : PySem.W.isFn X.K (.ref g) = true)
    (F : FnOk X.prog X.w X.K X.mg X.base CX k g fd ps sp) (hr : Room (k + 1) X.A) (hb : Binds X.K fd ps []) (hx : Passes CX X E)
    {R : V → Hp → Prop} (hR : ∀ {y : V} {H : Hp} {u : Value} {pins : List (Addr × Obj)} {σ : L2.St} {s : Shared}, L2.Inv X pins σ H s → R y H → RelV y u → ∃ tb, PySem.W.Looks (model X.prog X.w) s.heap (typeOf u) tb ∧ PySem.W.notFirst X.K C tb = true) :
    OpR X (compareOp .NotEq) (rNeOwn C R sp E) := by
  intro pins s σ H x y v u Q I rx ry h
  obtain ⟨a, dx, fs, rfl, ha, hy, q⟩ := h
  cases (show v = Value.ref a from rx)
  obtain ⟨od, J⟩ := inst_at I ha
  obtain ⟨tb, ht, hn2⟩ := hR I hy ry
  show wpAny (model X.prog X.w) X.A (richCompare .NotEq (.ref a) u) (EP X pins σ Q) X.xe s
  refine rc_neK (show X.A.units + 1 < cLine from hr.in1.units0) I.kIn J ht hn2 hm hn hs hf ?_
  refine wpAny_mono (run_any (us := [.ref a, u]) (vs := [.ref a, y]) F hr.in1 I.env0.in1 hb hx I (.cons rfl (.cons ry .nil)) q) (fun w s' z => ?_) fun _ _ e => e
  obtain ⟨z', H', I', rz, r, rfl, qz⟩ := id z
  cases (show w = Value.bool r from rz)
  exact ⟨r, rfl, .bl (!r), H', I', rfl, qz⟩
section
variable {prog : Program} {w : World} {A : Around} {R : Result → Shared → Prop} {E : Value → Shared → Prop}
/-- at each turn the two lists are read anew: N items each, the i-th two equal as r i says -/
def ListB (prog : Program) (w : World) (A : Around) (E : Value → Shared → Prop) (l b : Addr) (N : Nat) (r : Nat → Bool) (I : Nat → Shared → Prop) : Prop :=
  ∀ i s, I i s → ∃ (xs ys : Array Value) (n n2 : Nat), s.heap.get? l = some { cls := .type "list", data := .seq xs n } ∧ s.heap.get? b = some { cls := .type "list", data := .seq ys n2 } ∧ xs.size = N ∧ ys.size = N ∧
    ∀ (h1 : i < xs.size) (h2 : i < ys.size), wpAny (model prog w) A.in1 (eqBool xs[i] ys[i]) (fun q s' => q = r i ∧ I (i + 1) s') E s
theorem loopB (l b : Addr) (N : Nat) (r : Nat → Bool) (I : Nat → Shared → Prop) (hl : ListB prog w A (fun e s' => R (.error e) s') l b N r I)
    (fin : (∀ j, j < N → r j = true) → ∀ s, I N s → R (.ok (.ret (.bool true))) s) (bad : ∀ j, j < N → r j = false → ∀ s, I (j + 1) s → R (.ok (.ret (.bool false))) s) :
    ∀ (k i : Nat), N - i = k → i ≤ N → (∀ j, j < i → r j = true) → ∀ s, I i s → wpAny (model prog w) A.in1 (Builtin.«list.__eq__.loop» ⟨[.ref l, .ref b, rawInt i, rawInt 2], []⟩) (FinOf prog w A R) (fun e s' => R (.error e) s') s
  | 0, i, hk, hi, all, s, h => by
    obtain ⟨xs, ys, n, n2, hl1, hb1, z1, z2, _⟩ := hl _ _ h
    have last : i = N := by omega
    have done : R (.ok (.ret (.bool true))) s := fin (fun j hj => all j (by omega)) s (last ▸ h)
    obtain ⟨hp, g, d, tk, os⟩ := s
    wp_walk using wpAny_loadPart' hl1, wpAny_loadPart' hb1
    have no1 : xs[((i : Nat) : Int).toNat]? = none := by simp; omega
    have no2 : ys[((i : Nat) : Int).toNat]? = none := by simp; omega
    rw [no1, no2]
    wp_walk using wpAny_loadPart' hl1, wpAny_loadPart' hb1
    show R (.ok (.ret (.bool (xs.size == ys.size)))) _
    rw [z1, z2]
    simpa using done
  | k + 1, i, hk, hi, all, s, h => by
    obtain ⟨xs, ys, n, n2, hl1, hb1, z1, z2, one⟩ := hl _ _ h
    have lt1 : i < xs.size := by omega
    have lt2 : i < ys.size := by omega
    have here := one lt1 lt2
    obtain ⟨hp, g, d, tk, os⟩ := s
    wp_walk using wpAny_loadPart' hl1, wpAny_loadPart' hb1
    have is1 : xs[((i : Nat) : Int).toNat]? = some xs[i] := by simp [lt1]
    have is2 : ys[((i : Nat) : Int).toNat]? = some ys[i] := by simp [lt2]
    have up : ((i : Int) + 1) = ((i + 1 : Nat) : Int) := by omega
    rw [is1, is2]
    refine wpAny_bind (wpAny_mono here (fun q s2 hq => ?_) fun _ _ x => x)
    obtain ⟨hr, hq⟩ := hq
    subst hr
    cases hb : r i with
    | true =>
      have rest := loopB l b N r I hl fin bad k (i + 1) (by omega) (by omega) (fun j hj => if e : j = i then by rw [e]; exact hb else all j (by omega)) s2 hq
      obtain ⟨hp2, g2, d2, tk2, os2⟩ := s2
      wp_walk
      rw [up]
      exact ⟨plainId_quiet plain_eq_loop _, codeAny_builtin entry_eq_loop (by rw [Around.under_plainId plain_eq_loop _] <;> exact rest)⟩
    | false =>
      have done := bad i (by omega) hb s2 hq
      obtain ⟨xs2, ys2, m, m2, hl2, hb2, z3, z4, _⟩ := hl _ _ hq
      have is3 : xs2[((i : Nat) : Int).toNat]? = some (xs2[i]'(by omega)) := by
        have : i < xs2.size := by omega
        simp [this]
      have is4 : ys2[((i : Nat) : Int).toNat]? = some (ys2[i]'(by omega)) := by
        have : i < ys2.size := by omega
        simp [this]
      obtain ⟨hp2, g2, d2, tk2, os2⟩ := s2
      wp_walk using wpAny_loadPart' hl2, wpAny_loadPart' hb2
      rw [is3, is4]
      wp_walk
      exact done
theorem listB (l b : Addr) (N : Nat) (r : Nat → Bool) (I : Nat → Shared → Prop) (hl : ListB prog w A (fun e s' => R (.error e) s') l b N r I)
    (fin : (∀ j, j < N → r j = true) → ∀ s, I N s → R (.ok (.ret (.bool true))) s) (bad : ∀ j, j < N → r j = false → ∀ s, I (j + 1) s → R (.ok (.ret (.bool false))) s) {s : Shared} (h : I 0 s) :
    wpAny (model prog w) A.in1 (Builtin.«list.__eq__» ⟨[.ref l, .ref b], []⟩) (FinOf prog w A R) (fun e s' => R (.error e) s') s := by
  obtain ⟨xs, ys, n, n2, hl1, hb1, z1, z2, _⟩ := hl _ _ h
  have rest := loopB (A := A) (R := R) l b N r I hl fin bad _ 0 rfl (Nat.zero_le _) (fun j hj => absurd hj (by omega)) s h
  obtain ⟨hp, g, d, tk, os⟩ := s
  have sub := AutoSeq1.sub_list_list
  have same : ¬ (xs.size != ys.size) = true := by simp [z1, z2]
  wp_walk using wpAny_loadPart' hl1, wpAny_loadPart' hb1
  exact ⟨plainId_quiet plain_eq_loop _, codeAny_builtin entry_eq_loop (by rw [Around.under_plainId plain_eq_loop _] <;> exact rest)⟩
theorem rcB {l b : Addr} {N : Nat} {Q : Value → Shared → Prop} {s : Shared} (hu : A.units < cLine) (r : Nat → Bool) (I : Nat → Shared → Prop) (hl : ListB prog w A E l b N r I)
    (fin : (∀ j, j < N → r j = true) → ∀ s, I N s → Q (.bool true) s) (bad : ∀ j, j < N → r j = false → ∀ s, I (j + 1) s → Q (.bool false) s) (h : I 0 s) : wpAny (model prog w) A (richCompare .Eq (.ref l) (.ref b)) Q E s := by
  obtain ⟨xs, ys, n, n2, hl1, hb1, _, _, _⟩ := hl _ _ h
  refine wpAny_richCompare_same_room (op := .Eq) ⟨_, hl1, rfl⟩ ⟨_, hb1, rfl⟩ F.slot_list_eq (call_here F.slot_list_eq ⟨_, hl1, rfl⟩ F.entry_list_eq (F.args_list_eq_2 _ _) ?_) hu
  exact listB (R := wants (fun v s' => v ≠ .notImplemented ∧ Q v s') E) l b N r I hl (fun a s' q => ⟨(fun x => nomatch x), fin a s' q⟩) (fun j a b s' q => ⟨(fun x => nomatch x), bad j a b s' q⟩) h
end
/-- == gives what D says, and only makes objects -/
def EqB (X : Cx) (n : Nat) (D : V → V → Hp → Bool → Prop) : Prop :=
  ∀ (A : Around) (pins : List (Addr × Obj)) (s : Shared) (σ : L2.St) (H : Hp) (x y : V) (u v : Value) (b : Bool), Sub X n A → Inv X pins σ H s → RelV x u → RelV y v → D x y H b →
    wpAny (model X.prog X.w) A (eqBool u v) (fun r s' => r = b ∧ ∃ H', Inv X pins σ H' s' ∧ Ext H H') X.xe s
theorem EqB.eqG {X : Cx} {n : Nat} {D : V → V → Hp → Bool → Prop} (h : EqB X n D) : EqG X n (fun x y H => D x y H true) := fun A pins s σ H x y u v sb I rx ry d => h A pins s σ H x y u v true sb I rx ry d
/-- x == y of two lists of the same length -/
def rEqB (D : V → V → Hp → Bool → Prop) : R2 := fun x y H Q => ∃ a b xs ys, x = .ref a ∧ y = .ref b ∧ H a = some (.lst xs) ∧ H b = some (.lst ys) ∧ xs.length = ys.length ∧ ∃ r : Nat → Bool,
  (∀ (i : Nat) x y, xs[i]? = some x → ys[i]? = some y → D x y H (r i)) ∧ ∀ H' c, Ext H H' → (c = true ↔ ∀ j, j < xs.length → r j = true) → Q (.bl c) H'
theorem op_eqB {X : Cx} {n : Nat} {D : V → V → Hp → Bool → Prop} (hD : ∀ x y H H' b, Ext H H' → D x y H b → D x y H' b) (h : EqB X n D) (hr : Room (n + 1) X.A) : OpR X (compareOp .Eq) (rEqB D) := by
  intro pins s σ H x y v u Q I rx ry hq
  obtain ⟨a, b, xs, ys, rfl, rfl, ha, hb, len, r, p, q⟩ := hq
  cases rx
  cases ry
  have sb : Sub X (n + 1) X.A := ⟨hr, rfl⟩
  show wpAny (model X.prog X.w) X.A (richCompare .Eq (.ref a) (.ref b)) (EP X pins σ Q) X.xe s
  refine rcB (N := xs.length) hr.units0 r (fun _ s' => LoopI X pins σ H s') (fun i s' z => ?_) (fun al s' ⟨H', I', e⟩ => ⟨.bl true, H', I', rfl, q H' true e ⟨fun _ => al, fun _ => rfl⟩⟩)
    (fun j hj rj s' ⟨H', I', e⟩ => ⟨.bl false, H', I', rfl, q H' false e ⟨fun z => (nomatch z), fun al => by rw [al j hj] at rj; cases rj⟩⟩) ⟨H, I, Ext.rfl'⟩
  obtain ⟨H1, I1, e1⟩ := id z
  obtain ⟨zz, its, k, rr, e⟩ := I1.hok a _ (e1 _ _ ha)
  obtain ⟨zz2, its2, k2, rr2, e2⟩ := I1.hok b _ (e1 _ _ hb)
  refine ⟨its.toArray, its2.toArray, k, k2, e, e2, by rw [List.size_toArray, ← rr.length], by rw [List.size_toArray, ← rr2.length, ← len], fun h1 h2 => ?_⟩
  have g1 : its[i]? = some its.toArray[i] := by
    have h1' : i < its.length := by simpa using h1
    rw [List.getElem?_eq_getElem h1'] <;> simp
  have g2 : its2[i]? = some its2.toArray[i] := by
    have h2' : i < its2.length := by simpa using h2
    rw [List.getElem?_eq_getElem h2'] <;> simp
  have k1 : i < xs.length := by rw [rr.length]; simpa using h1
  have k3 : i < ys.length := by rw [rr2.length]; simpa using h2
  obtain ⟨u, hu, ru⟩ := rr.get (List.getElem?_eq_getElem k1)
  obtain ⟨v, hv, rv⟩ := rr2.get (List.getElem?_eq_getElem k3)
  rw [g1] at hu
  rw [g2] at hv
  rw [Option.some.inj hu, Option.some.inj hv]
  refine wpAny_mono (h X.A.in1 pins s' σ H1 _ _ u v _ sb.in1 I1 ru rv (hD _ _ _ _ _ e1 (p i _ _ (List.getElem?_eq_getElem k1) (List.getElem?_eq_getElem k3)))) (fun r' s2 q' => ?_) fun _ _ x => x
  obtain ⟨hr', H2, I2, e2'⟩ := q'
  exact ⟨hr', H2, I2, e1.trans e2'⟩
end OwnNe
end

-- ErrVal2
section
set_option Elab.async false
set_option linter.all false
set_option maxRecDepth 100000
/-! isinstance of an error held as a value. -/
namespace L2
open PySem PySem.Spec PyProof.Rows
/-- what is known of the error class at C for isinstance -/
structure KitG (K : PySem.W.Frag) (C : Addr) : Prop where
  ic : PySem.W.isClsIn K C = true
  ga : PySem.W.findIn K (.ref C) "__getattribute__" = some (some (.builtin "BaseException.__getattribute__"))
  gg : ∃ gt, PySem.W.findIn K (.ref C) "__getattr__" = some gt
  ex : PySem.W.subIn K (.ref C) (.type "BaseException") = some true
  ha : PySem.W.findIn K (.ref C) "__class__" = some (some (.builtin "object.__class__"))
  hn : PySem.W.specialIn K (.builtin "object.__class__") "__get__" = some (some (.builtin "getset_descriptor.__get__"))
  htk : PySem.W.takesIn K (.builtin "object.__class__") = some true
  hm : PySem.W.mroIn K C (.type "object") = some true
def rIsiG (K : PySem.W.Frag) : List V → Hp → VK → Prop := fun xs H Q => ∃ (a d C : Addr) (fs : List (Str × V)) (c : V) (u : Value) (b : Bool), xs = [.ref a, c] ∧ H a = some (ExG (.ref C) a d) ∧ H d = some (.xd fs) ∧ KitG K C ∧ ClsV c u ∧ PySem.W.kitOne K (.ref C) u = some b ∧ Q (.bl b) H
theorem call_isiG {X : Cx} : CallR X (.builtin "isinstance") (rIsiG X.K) := by
  intro pins s σ H xs us Q I r h
  obtain ⟨a, d, C, fs, c, u, b, rfl, ea, ed, G, k, e, q⟩ := h
  obtain ⟨u1, u2, rfl, r1, r2⟩ := vals2 r
  cases (show u1 = Value.ref a from r1)
  have e2 := k.eq r2
  subst e2
  obtain ⟨⟨oe, vs, ha, hz, hd, h1⟩, _, _⟩ := (show ObjOk X.prog X.w H s.heap a (ExG (.ref C) a d) from I.hok a _ ea)
  have hx : ObjOk X.prog X.w H s.heap d (.xd fs) := I.hok d _ ed
  obtain ⟨mA, hns, hr⟩ := hx
  obtain ⟨od, ho, hl⟩ := lookIn_ns hns
  have J : PySem.W.InstAt s.heap a oe C (some od) := ⟨ha, hz.1, by unfold PySem.W.notCls; rw [hd] <;> rfl, by rw [hz.2]; exact ho⟩
  obtain ⟨gt, hgt⟩ := G.gg
  exact PySem.W.kia_one (PySem.W.kitx_exc (ox := oe) (od := some od) G.ic G.ga hgt G.ex G.ha G.hn G.htk G.hm) I.kIn J e (fun z => nomatch z) fun tk => ⟨.bl b, H, I.tok tk, rfl, q⟩
end L2
end

-- OwnTry
section
set_option Elab.async false
set_option linter.all false
set_option maxRecDepth 100000
/-! Calls whose exception is wished for at just these slots; isinstance of a held error with a dict. -/
namespace OwnTry
open PySem L2
/-- W at the slots σ -/
def EA (W : WX) (σ : L2.St) : XK := fun cls d H' => W cls d σ H'
section
variable {X : Cx} {k : Nat} {f C : Addr} {fd : FuncData} {ps : List Str} {sp : Sp} {dvs : List V} {ds : List Value} {W : WX} {x m : Str} {p pos apos : Pos} {e o : Expr} {es : List Expr} {ta : TE} {t : TA}
theorem out_at {pins : List (Addr × Obj)} {σ : L2.St} {H : Hp} {s : Shared} (tk : Takes X W) (I : L2.Inv X pins σ H s) {u : Value} {s' : Shared} (c : L2.CX X.prog X.w X.stack H s (EA W σ) u s') : X.xe u s' :=
  tk _ _ (XE.of_call I (fun _ _ _ z => z) c)
/-- a def called, W wished for if it raises -/
theorem run_at {A : Around} {pins : List (Addr × Obj)} {σ : L2.St} {H : Hp} {s : Shared} {Q : VK} {us : List Value} {vs : List V} (F : FnOk X.prog X.w X.K X.mg X.base (L2.CX X.prog X.w) k f fd ps sp) (room : Room k A)
    (e0 : Env0 X.prog X.w X.K X.mg X.base A X.stack s H) (bi : L2.Binds X.K fd ps ds) (dv : Vals dvs ds) (tk : Takes X W)
    (I : L2.Inv X pins σ H s) (rel : Vals vs us) (h : sp (vs ++ dvs) H Q (EA W σ)) : wpAny (model X.prog X.w) A (call (.ref f) us) (EP X pins σ Q) X.xe s := by
  have both := rel.append dv
  have size : (us ++ ds).length = ps.length := both.length.symm.trans (F.len _ _ _ _ h)
  have body := F.run A X.stack s H ⟨us, []⟩ (us ++ ds) (vs ++ dvs) Q (EA W σ) room e0 (bi s us I.kIn size) both h
  refine wpAny_call (codeAny_mono body fun res s' got => ?_)
  match res, got with
  | .error u, got => exact out_at tk I got
  | .ok (.ret u), got => exact I.after got
  | .ok .next, got => exact got.elim
  | .ok .brk, got => exact got.elim
  | .ok .cont, got => exact got.elim
/-- o.m(e, ..) in a try -/
def tMethA (C : Addr) (m : Str) (sp : Sp) (dvs : List V) (W : WX) (ta : TE) (t : TA) : TE := fun σ H Q => ta σ H fun x H1 => ∃ a dx fs, x = .ref a ∧ H1 a = some (.ins C dx fs) ∧ fs.lookup m = none ∧ t σ H1 fun vs H2 => sp (.ref a :: (vs ++ dvs)) H2 Q (EA W σ)
theorem pe_methA {pl : Sem Bool} (he : PE X o ta) (c : Cls X.K C) (hm : Meth X.K C m f) (F : FnOk X.prog X.w X.K X.mg X.base (L2.CX X.prog X.w) k f fd ps sp) (room : Room k X.A) (bi : L2.Binds X.K fd ps ds) (dv : Vals dvs ds) (tk : Takes X W) (ha : PA X (e :: es) t)
    (hst : starEach (e :: es) X.env = (false, eval e X.env) :: starEach es X.env := by rfl) (hpl : (backTo pos (starEach es X.env)).any (·.1) = false := by rfl)
    (ht : eval (.Call (.Attribute o m apos) (e :: es) [] pos) X.env = (do
      let ov ← eval o X.env
      standAt apos.atName
      let (f, first) ← holding [ov] (getMethod ov m pl)
      callWith pos f first (backTo pos (starEach (e :: es) X.env)) (backToKw pos (keywordEach [] X.env))) := by rfl) :
    PE X (.Call (.Attribute o m apos) (e :: es) [] pos) (tMethA C m sp dvs W ta t) := by
  refine ⟨fun pins s σ H Q I h => ?_⟩
  refine PySem.W.methodCall_KW (pl := pl) (thn (he.run pins s σ H _ I h) fun u s1 hh => ?_) ht
  obtain ⟨x, H1, I1, rx, a, dx, fs, ex, ea, l, q⟩ := hh
  subst ex
  obtain rfl : u = Value.ref a := rx
  refine getmeth_ok I1 ea c hm l ?_
  refine PySem.W.callWith_K (first := [.ref a]) (h₀ := X.base) I.ok.mod.kin hm.kp (thn (ha.run pos pins s1 σ H1 _ I1 q) fun us s2 h2 => ?_) hst hpl
  obtain ⟨vs, H2, I2, r, q2⟩ := h2
  exact ⟨I2.kIn, run_at (us := .ref a :: us) (vs := .ref a :: vs) F room I2.env0 bi dv tk I2 (.cons rfl r) q2⟩
end
/-- isinstance(e, c), e the error with a dict that the suite holds -/
def rIsiH (K : PySem.W.Frag) (a : Addr) (cls : Value) (d : Option Addr) : List V → Hp → VK → Prop := fun xs H Q => ∃ (C dd : Addr) (fs : List (Str × V)) (c : V) (u : Value) (b : Bool),
  xs = [.ref a, c] ∧ cls = .ref C ∧ d = some dd ∧ H dd = some (.xd fs) ∧ KitG K C ∧ ClsV c u ∧ PySem.W.kitOne K (.ref C) u = some b ∧ Q (.bl b) H
theorem call_isiH {X : Cx} {a : Addr} {oe : Obj} {cls : Value} {d : Option Addr} {pn : List (Addr × Obj)} (hz : Zc cls d oe) (hf : ∃ vs, oe.data = .fields vs) : CallR (X.suite a ((a, oe) :: pn)) (.builtin "isinstance") (rIsiH X.K a cls d) := by
  intro pins s σ H xs us Q I r h
  obtain ⟨C, dd, fs, c, u, b, rfl, rfl, rfl, ed, G, k, e, q⟩ := h
  obtain ⟨u1, u2, rfl, r1, r2⟩ := vals2 r
  cases (show u1 = Value.ref a from r1)
  have e2 := k.eq r2
  subst e2
  obtain ⟨ha, _⟩ := I.pin (a, oe) (List.mem_append_left _ List.mem_cons_self)
  obtain ⟨vs, hd⟩ := hf
  have hx : ObjOk X.prog X.w H s.heap dd (.xd fs) := I.hok dd _ ed
  obtain ⟨mA, hns, hr⟩ := hx
  obtain ⟨od, ho, hl⟩ := lookIn_ns hns
  have J : PySem.W.InstAt s.heap a oe C (some od) := ⟨ha, hz.1, by unfold PySem.W.notCls; rw [hd] <;> rfl, by rw [hz.2]; exact ho⟩
  obtain ⟨gt, hgt⟩ := G.gg
  exact PySem.W.kia_one (PySem.W.kitx_exc (ox := oe) (od := some od) G.ic G.ga hgt G.ex G.ha G.hn G.htk G.hm) I.kIn J e (fun z => nomatch z) fun tk => ⟨.bl b, H, I.tok tk, rfl, q⟩
end OwnTry
end

-- Gen1
section
set_option Elab.async false
set_option linter.all false
set_option maxRecDepth 100000
/-! what every law's text wants again. -/
namespace G1
open PySem L2 OwnOps
theorem if_pos' {c : Bool} {A B : Prop} (hc : c = true) (h : A) : if c = true then A else B := by
  rw [if_pos hc]
  exact h
theorem if_neg' {c : Bool} {A B : Prop} (hc : c = false) (h : B) : if c = true then A else B := by
  rw [hc, if_neg Bool.false_ne_true]
  exact h
theorem same_upd {H : Hp} {p : Addr} {o : HO} (h : H p = none) : Same H (upd H p o) := fun b u e => by
  rw [upd_ne (ne_of_none e h)]
  exact e
theorem same_put {H G : Hp} {D : Addr} {o : HO} (s : Same H G) (h : H D = none) : Same H (upd G D o) := fun b u e => by
  rw [upd_ne (ne_of_none e h)]
  exact s b u e
/-- a new instance in making -/
theorem same_new {H : Hp} {x dx C : Addr} (hx : H x = none) (hd : H dx = none) : Same H (upd (upd H dx (.own x)) x (.ins C dx [])) := fun b u e => by
  rw [upd_ne (ne_of_none e hx), upd_ne (ne_of_none e hd)]
  exact e
/-- all stands but at l -/
def SameX (l : Addr) (H H' : Hp) : Prop := ∀ b u, b ≠ l → H b = some u → H' b = some u
theorem SameX.refl (l : Addr) (H : Hp) : SameX l H H := fun _ _ _ e => e
theorem SameX.trans {l : Addr} {H H1 H2 : Hp} (a : SameX l H H1) (b : SameX l H1 H2) : SameX l H H2 := fun c o n h => b c o n (a c o n h)
theorem SameX.of {l : Addr} {H H' : Hp} (a : Same H H') : SameX l H H' := fun c o _ h => a c o h
theorem SameX.upd {l : Addr} {H : Hp} {o : HO} : SameX l H (upd H l o) := fun c u n h => by
  rw [upd_ne n]
  exact h
theorem SameX.put {l a : Addr} {H H1 : Hp} {o : HO} (s : SameX l H H1) (h : H1 a = none) : SameX l H (L2.upd H1 a o) := fun c u n e => by
  rw [upd_ne (ne_of_none (s c u n e) h)]
  exact s c u n e
theorem same_made {H H' : Hp} {C x dx : Addr} (hx : H x = none) (hd : H dx = none) (sx : SameX x (upd (upd H dx (.own x)) x (.ins C dx [])) H') : Same H H' := fun b u e =>
  sx b u (ne_of_none e hx) (same_new hx hd b u e)
/-- a def of the module, called by its name -/
structure Glb (P : Program) (w : World) (K : PySem.W.Frag) (mg : Str → Option Value) (base : Heap) (x : Str) (k : Nat) (ps : List Str) (sp : Sp) : Prop where
  ex : ∃ (f : Addr) (fd : FuncData), mg x = some (.ref f) ∧ PySem.W.keepIn K (.ref f) = true ∧ FnOk P w K mg base (L2.CX P w) k f fd ps sp ∧ L2.Binds K fd ps []
/-- a method of the class, by its name -/
structure Dun (P : Program) (w : World) (K : PySem.W.Frag) (mg : Str → Option Value) (base : Heap) (C : Addr) (nm : Str) (k : Nat) (ps : List Str) (sp : Sp) : Prop where
  ex : ∃ (f : Addr) (fd : FuncData), PySem.W.findIn K (.ref C) nm = some (some (.ref f)) ∧ PySem.W.isFn K (.ref f) = true ∧ PySem.W.keepIn K (.ref f) = true ∧ FnOk P w K mg base (L2.CX P w) k f fd ps sp ∧ L2.Binds K fd ps []
section
variable {prog : Program} {w : World} {A : Around} {E : Value → Shared → Prop} {s : Shared}
theorem eqBool_rc {l : Addr} {v : Value} {Q : Bool → Shared → Prop} (ne : (Value.ref l == v) = false)
    (h : wpAny (model prog w) A (richCompare .Eq (.ref l) v) (fun x s' => ∃ r, x = .bool r ∧ Q r s') E s) : wpAny (model prog w) A (eqBool (.ref l) v) Q E s := by
  unfold eqBool
  refine wpAny_holding (wpAny_ite_split (fun z => absurd z (by rw [ne]; decide)) fun _ => wpAny_bind (wpAny_mono h ?_ fun _ _ x => x))
  rintro x s' ⟨r, rfl, q⟩
  exact wpAny_truthy_bool q
end
abbrev Fs := List (Str × V)
theorem putF_ne {n m : Str} {x y : V} {r : Fs} (h : ¬ m = n) : putF n y ((m, x) :: r) = (m, x) :: putF n y r := by
  show (if m = n then _ else _) = _
  rw [if_neg h] <;> rfl
theorem putF_eq {n : Str} {x y : V} {r : Fs} : putF n y ((n, x) :: r) = (n, y) :: r := by
  show (if n = n then _ else _) = _
  rw [if_pos rfl] <;> rfl
theorem lk_cons {n m : Str} {v : V} {l : List (Str × V)} (h : ¬ m = n) : ((m, v) :: l).lookup n = l.lookup n := by
  rw [List.lookup_cons, beq_false_of_ne (fun e => h e.symm)] <;> rfl
theorem lk_here {n : Str} {v : V} {l : List (Str × V)} : ((n, v) :: l).lookup n = some v := by
  rw [List.lookup_cons, beq_self_eq_true] <;> rfl
/-- all so far were true -/
def AllI (H : Hp) (D : Addr) (j : Nat) : Hp → Prop := fun G => Same H G ∧ G D = some (.lst ((List.replicate j true).map V.bl))
theorem all0 {H : Hp} {D : Addr} (h : H D = none) : AllI H D 0 (upd H D (.lst [])) := ⟨same_upd h, upd_same⟩
theorem AllI.step {H G G' : Hp} {D : Addr} {j : Nat} (i : AllI H D j G) (h : H D = none) (s : Same G G') : G' D = some (.lst ((List.replicate j true).map V.bl)) ∧ AllI H D (j + 1) (upd G' D (.lst ((List.replicate j true).map V.bl ++ [.bl true]))) := by
  refine ⟨s _ _ i.2, same_put (i.1.trans s) h, ?_⟩
  rw [upd_same, List.replicate_succ', List.map_append]
  rfl
theorem rep_len {j : Nat} (h : j < sizeLine) : ((List.replicate j true).map V.bl).length < sizeLine := by
  rw [List.length_map, List.length_replicate]
  exact h
theorem rep_all (j : Nat) : (List.replicate j true).all id = true := by
  rw [List.all_eq_true]
  intro x h
  rw [(List.mem_replicate.mp h).2]
  rfl
theorem map_at {xs : List Str} {j : Nat} {x : V} (h : (xs.map V.str)[j]? = some x) : ∃ t, xs[j]? = some t ∧ x = .str t := by
  rw [List.getElem?_map] at h
  cases e : xs[j]? with
  | none => rw [e] at h; cases h
  | some t =>
    rw [e] at h
    cases h
    exact ⟨t, rfl, rfl⟩
theorem yes_go {σ : L2.St} {H : Hp} {Q : Bool → Hp → Prop} (h : Q true H) : tYes σ H Q := h
end G1
end

-- EqDict
section
set_option Elab.async false
set_option linter.all false
set_option maxRecDepth 100000
/-! == of two dicts with flat values, whatever comes of it; of lists of such dicts. -/
namespace EqDict
open PySem L2 PySem.W OwnNe
abbrev Ent := List (Key × V)
/-- the same entries -/
def at1 (ls : Ent) (p : Key × V) : Bool := match valV ls p.1 with
  | none => false
  | some y => eqV p.2 y
def dEq (ks ls : Ent) : Bool := (ks.length == ls.length) && ks.all (at1 ls)
def Flt (ks : Ent) : Prop := ∀ p ∈ ks, flatV p.2 = true
theorem valV_mem {ls : Ent} {k : Key} {y : V} (h : valV ls k = some y) : ∃ p ∈ ls, p.2 = y := by
  unfold valV at h
  cases e : ls.find? (fun p => p.1 = k) with
  | none => rw [e] at h; cases h
  | some p =>
    rw [e] at h
    cases h
    exact ⟨p, List.mem_of_find?_eq_some e, rfl⟩
theorem hits {A : Around} {s : Shared} {ls : Ent} {vb : List (Key × Value)} (rb : KV ls vb) (fl : Flt ls) : ∀ {ks : Ent} {va : List (Key × Value)}, KV ks va → Flt ks →
    KeqHits A s vb va (ks.all (at1 ls))
  | _, _, .nil, _ => .nil
  | (k, x) :: ks, (k', u) :: va, .cons r t, f => by
    obtain ⟨r1, r2⟩ := r
    cases (show k = k' from r1)
    have rest := hits (A := A) (s := s) rb fl t fun p h => f p (List.mem_cons_of_mem _ h)
    rw [List.all_cons]
    unfold at1
    dsimp only
    have ro : RelO (valV ls k) (valueAt vb k) := rb.val k
    cases e : valV ls k with
    | none =>
      rw [e] at ro
      exact .miss (RelO.none_of ro)
    | some y =>
      rw [e] at ro
      obtain ⟨v, hv, rv⟩ := ro.some_of
      obtain ⟨p, hp, rfl⟩ := valV_mem e
      exact .hit hv (eqAt_V r2 rv (f _ List.mem_cons_self) (fl p hp)) rest
section
variable {X : Cx}
def rEqD (neg : Bool) : R2 := fun x y H Q => ∃ a b ks ls, x = .ref a ∧ y = .ref b ∧ Rd H a (.dK ks) ∧ Rd H b (.dK ls) ∧ Flt ks ∧ Flt ls ∧ Q (.bl (if neg then !dEq ks ls else dEq ks ls)) H
theorem op_eqDT (hu : X.A.units < cLine) : OpR X (compareOp .Eq) (rEqD false) := by
  intro pins s σ H x y v u Q I rx ry h
  obtain ⟨a, b, ks, ls, rfl, rfl, ea, eb, f1, f2, q⟩ := h
  cases rx
  cases ry
  obtain ⟨_, ya, va, ra, da⟩ := dk_rd I.hok ea
  obtain ⟨_, yb, vb, rb, db⟩ := dk_rd I.hok eb
  refine keq_eq (knd := mixKind X.prog X.w) ya yb da db hu (fun _ => hits rb f2 ra f1) ⟨.bl (dEq ks ls), H, I, ?_, q⟩
  unfold dEq
  rw [show ks.length = va.length from Paired.length ra, show ls.length = vb.length from Paired.length rb]
  rfl
theorem op_neDT (hu : X.A.units < cLine) : OpR X (compareOp .NotEq) (rEqD true) := by
  intro pins s σ H x y v u Q I rx ry h
  obtain ⟨a, b, ks, ls, rfl, rfl, ea, eb, f1, f2, q⟩ := h
  cases rx
  cases ry
  obtain ⟨_, ya, va, ra, da⟩ := dk_rd I.hok ea
  obtain ⟨_, yb, vb, rb, db⟩ := dk_rd I.hok eb
  refine keq_ne (knd := mixKind X.prog X.w) ya yb da db hu (fun _ => hits rb f2 ra f1) ⟨.bl (!dEq ks ls), H, I, ?_, q⟩
  unfold dEq
  rw [show ks.length = va.length from Paired.length ra, show ls.length = vb.length from Paired.length rb]
  rfl
/-- two dicts, apart -/
def DD : V → V → Hp → Bool → Prop := fun x y H r => ∃ a b ks ls, x = .ref a ∧ y = .ref b ∧ a ≠ b ∧ H a = some (.dK ks) ∧ H b = some (.dK ls) ∧ Flt ks ∧ Flt ls ∧ r = dEq ks ls
theorem mon_DD : ∀ x y H H' b, Ext H H' → DD x y H b → DD x y H' b := fun _ _ _ _ _ e ⟨a, b, ks, ls, h1, h2, n, h3, h4, r⟩ => ⟨a, b, ks, ls, h1, h2, n, e _ _ h3, e _ _ h4, r⟩
theorem eqB_DD : EqB X 1 DD := by
  intro A pins s σ H x y u v r sb I rx ry d
  obtain ⟨a, b, ks, ls, rfl, rfl, ne, ea, eb, f1, f2, rfl⟩ := d
  cases rx
  cases ry
  refine G1.eqBool_rc (beq_eq_false_iff_ne.mpr fun z => ne (Value.ref.inj z)) ?_
  obtain ⟨_, ya, va, ra, da⟩ := dk_rd I.hok (.inl ea)
  obtain ⟨_, yb, vb, rb, db⟩ := dk_rd I.hok (.inl eb)
  refine keq_eq (knd := mixKind X.prog X.w) ya yb da db sb.room.units0 (fun _ => hits rb f2 ra f1) ⟨_, rfl, ?_, H, I, Ext.rfl'⟩
  unfold dEq
  rw [show ks.length = va.length from Paired.length ra, show ls.length = vb.length from Paired.length rb]
end
end EqDict
end

-- E3n
section
set_option Elab.async false
set_option linter.all false
set_option maxRecDepth 100000
set_option exponentiation.threshold 6000
namespace R1
open PySem L2 OwnOps OwnNe G1 RatM
abbrev sDraws : Stmt := top 38
abbrev sDraw : Stmt := top 39
/-- the built-in names that are asked -/
structure Bi (mg : Str → Option Value) : Prop where
  isi : mg "isinstance" = none
  int : mg "int" = none
  abs : mg "abs" = none
  len : mg "len" = none
  repr : mg "repr" = none
  min : mg "min" = none
  max : mg "max" = none
  range : mg "range" = none
  enum : mg "enumerate" = none
  zip : mg "zip" = none
theorem dp_ints {K : PySem.W.Frag} {H : Hp} : ∀ ns : List Int, DpAll K H (ns.map V.int) (ns.map PyData.int)
  | [] => .nil
  | n :: r => .cons (.int n) (dp_ints r)
theorem atI_mod {ns : List Int} {k : Int} (h : ns ≠ []) : ∃ z, atI (ns.map V.int) (k % (ns.length : Int)) = some (.int z) := by
  have hl : 0 < ns.length := List.length_pos_iff.mpr h
  have h1 : 0 ≤ k % (ns.length : Int) := Int.emod_nonneg _ (by omega)
  have h2 : k % (ns.length : Int) < ns.length := Int.emod_lt_of_pos _ (by omega)
  obtain ⟨j, hj⟩ : ∃ j : Nat, k % (ns.length : Int) = j := ⟨_, (Int.toNat_of_nonneg h1).symm⟩
  have h3 : j < ns.length := by omega
  refine ⟨ns[j], at_of hj ?_⟩
  rw [List.getElem?_map, List.getElem?_eq_getElem h3]
  rfl
section
variable {P : Program} {w : World} {K : PySem.W.Frag} {mg : Str → Option Value} {base : Heap}
/-! ### the law's draws -/
def spDraws (K : PySem.W.Frag) : Sp := fun vs H Q _ => ∃ (a : Addr) (ns : List Int) (k : Int), vs = [.ref a, .int k] ∧ SqL K H a (ns.map V.int) ∧
  ∀ p x y H', Same H H' → H' p = some (.lst [.int x, .int y]) → H p = none → Q (.ref p) H'
theorem ok_draws {f : Addr} {fd : FuncData} (F : Fun K "_law_draws" "_law_draws" sDraws f fd) (T : Bi mg) :
    FnOk P w K mg base (L2.CX P w) 1 f fd ["_law_script", "_law_k"] (spDraws K) := by
  have sc : FnScope ["_law_script", "_law_k", "_law_cell", "_law_seed"] ["_law_script", "_law_k"] (defScope sDraws) := ⟨rfl, rfl, rfl, by decide +kernel, rfl, by decide +kernel, by decide +kernel⟩
  refine F.okX sc (fun vs H Q E h => ?_) (fun cdv A outer s H vs Q E hr h => ?_)
  · obtain ⟨a, ns, k, rfl, _⟩ := h
    rfl
  · obtain ⟨a, ns, k, rfl, hS, fin⟩ := h
    refine ⟨_, pss_cons (ps_set (i := 2) sc.nd rfl (Or.inl rfl) pe_int)
      (pss_cons (ps_if (pt_cmpR (op_neD hr.units) (pv 0) (pe_lst pa_nil) (nomark _))
        (pss_one (ps_set (i := 2) sc.nd rfl (Or.inl rfl) (pe_ix ix_list (pv 0) (pe_op op_mod (pe_callTy call_int1 (by rfl) T.int (by decide +kernel) (pa_cons (pv 1) pa_nil)) (pe_callB call_len_seq (by rfl) T.len PySem.boot_len (pa_cons (pv 0) pa_nil))) (fun _ _ => rfl)))) pss_nil)
      (pss_cons (ps_if (pt_cmpR op_ge (pv 1) (pe_callB call_len_seq (by rfl) T.len PySem.boot_len (pa_cons (pv 0) pa_nil)) (nomark _))
        (pss_one (ps_set (i := 2) sc.nd rfl (Or.inl rfl) (pe_op op_mod (pe_callTy call_int1 (by rfl) T.int (by decide +kernel) (pa_cons (pv 2) pa_nil)) pe_int))) pss_nil)
      (pss_cons (ps_set (i := 3) sc.nd rfl (Or.inl rfl) (pe_op op_mod (pe_op op_mul (pe_callTy call_int1 (by rfl) T.int (by decide +kernel) (pa_cons
          (pe_op op_add (pe_op op_add (pe_op op_mod (pe_callTy call_int1 (by rfl) T.int (by decide +kernel) (pa_cons (pv 2) pa_nil)) pe_int) (pe_op op_mul pe_int (pv 1))) pe_int) pa_nil)) pe_int) pe_int))
      (pss_one (ps_ret (pe_lst (pa_cons (pe_op op_mul (pv 2) (pe_callTy call_int1 (by rfl) T.int (by decide +kernel) (pa_cons (pe_cmpR op_ge (pv 2) (pe_op op_pow pe_int pe_int) (nomark _)) pa_nil))) (pa_cons (pv 3) pa_nil)))))))), ?_⟩
    refine ⟨_, rfl, (by show 0 ≤ sizeLine; exact Nat.zero_le _), fun p0 np0 => ?_⟩
    have s0 : Same H (upd H p0 (.lst [])) := same_upd np0
    have hS0 := s0.seq hS
    have e0 : (upd H p0 (.lst [])) p0 = some (.lst []) := upd_same
    generalize upd H p0 (.lst []) = H0 at s0 hS0 e0
    have el : (1000003 : Int) > 0 := by decide
    have bits : ∀ z : Int, -(2 ^ 64) < (if decide (z ≥ 10 ^ 18) = true then (1 : Int) else 0) ∧ (if decide (z ≥ 10 ^ 18) = true then (1 : Int) else 0) < 2 ^ 64 := fun z => by
      split <;> exact ⟨by decide, by decide⟩
    refine ⟨.list (ns.map PyData.int), .list [], .lst hS0 (dp_ints ns), .lst (SqL.of e0) .nil, PySem.W.ke_shaped_ints ns, by decide +kernel, _, rfl, ?_⟩
    by_cases hn : ns = []
    · subst hn
      refine iteF ?_
      refine ⟨_, rfl, _, rfl, a, _, rfl, .inl hS0, _, _, rfl, rfl, _, rfl, ?_⟩
      refine ite2 (fun _ => ⟨_, rfl, .inl ⟨_, rfl, _, _, rfl, rfl, (by show (0 : Int) < 1000003; decide), ?_⟩⟩) (fun _ => ?_)
      all_goals
        refine ⟨_, rfl, .inl ⟨_, rfl, _, _, rfl, rfl, (by show (0 : Int) < 2147483629; decide), _, rfl, _, _, rfl, rfl, .inl ⟨by decide, by decide⟩, _, _, rfl, rfl, _, _, rfl, rfl, .inl ⟨_, rfl, _, _, rfl, rfl, .inr ⟨by decide, by decide⟩, _, _, rfl, rfl, (by show (0 : Int) < 2147483647; decide), ?_⟩⟩⟩
        refine ⟨_, rfl, _, rfl, _, _, rfl, rfl, ⟨by decide, by decide, by decide +kernel⟩, _, _, rfl, rfl, .inr ⟨_, rfl, _, _, rfl, rfl, .inr (bits _), _, rfl, (by show 2 ≤ sizeLine; decide), fun p np => ?_⟩⟩
        exact fin p _ _ _ (s0.trans (same_upd np)) upd_same (s0.free np)
    · have ef : PyData.eqv (.list (ns.map PyData.int)) (.list []) = false := by
        cases ns with
        | nil => exact absurd rfl hn
        | cons _ _ => rfl
      rw [ef]
      obtain ⟨z, hz⟩ := atI_mod (k := k) hn
      refine iteT ⟨_, rfl, _, rfl, .inl ⟨_, rfl, _, rfl, a, _, rfl, .inl hS0, _, _, rfl, rfl, (by rw [List.length_map]; exact Int.natCast_pos.mpr (List.length_pos_iff.mpr hn)), a, _, _, _, rfl, rfl, hS0, (by rw [List.length_map]; exact hz), ?_⟩⟩
      refine ⟨_, rfl, _, rfl, a, _, rfl, .inl hS0, _, _, rfl, rfl, _, rfl, ?_⟩
      refine ite2 (fun _ => ⟨_, rfl, .inl ⟨_, rfl, _, _, rfl, rfl, (by show (0 : Int) < 1000003; decide), ?_⟩⟩) (fun _ => ?_)
      all_goals
        refine ⟨_, rfl, .inl ⟨_, rfl, _, _, rfl, rfl, (by show (0 : Int) < 2147483629; decide), _, rfl, _, _, rfl, rfl, .inl ⟨by decide, by decide⟩, _, _, rfl, rfl, _, _, rfl, rfl, .inl ⟨_, rfl, _, _, rfl, rfl, .inr ⟨by decide, by decide⟩, _, _, rfl, rfl, (by show (0 : Int) < 2147483647; decide), ?_⟩⟩⟩
        refine ⟨_, rfl, _, rfl, _, _, rfl, rfl, ⟨by decide, by decide, by decide +kernel⟩, _, _, rfl, rfl, .inr ⟨_, rfl, _, _, rfl, rfl, .inr (bits _), _, rfl, (by show 2 ≤ sizeLine; decide), fun p np => ?_⟩⟩
        exact fin p _ _ _ (s0.trans (same_upd np)) upd_same (s0.free np)
def spDraw : Sp := fun vs H Q _ => ∃ (l : Addr) (u x y : Int), vs = [.ref l, .int u] ∧ 0 < u ∧ u < 1073741824 ∧ H l = some (.lst [.int x, .int y]) ∧
  ∀ d x' y', 0 ≤ d → d < u → Q (.int d) (upd H l (.lst [.int x', .int y']))
theorem ok_draw {f : Addr} {fd : FuncData} (F : Fun K "_law_draw" "_law_draw" sDraw f fd) (T : Bi mg) :
    FnOk P w K mg base (L2.CX P w) 1 f fd ["_law_draws_here", "_law_upto"] spDraw := by
  have sc : FnScope ["_law_draws_here", "_law_upto", "_law_digit"] ["_law_draws_here", "_law_upto"] (defScope sDraw) := ⟨rfl, rfl, rfl, by decide +kernel, rfl, by decide +kernel, by decide +kernel⟩
  refine F.okX sc (fun vs H Q E h => ?_) (fun cdv A outer s H vs Q E hr h => ?_)
  · obtain ⟨l, u, x, y, rfl, _⟩ := h
    rfl
  · obtain ⟨l, u, x, y, rfl, u0, u1, hl, fin⟩ := h
    refine ⟨_, pss_cons (ps_if (pt_cmpR op_gt (pe_ix ix_list (pv 0) pe_int (fun _ _ => rfl)) pe_int (nomark _))
        (pss_cons (ps_set (i := 2) sc.nd rfl (Or.inl rfl) (pe_op op_mod (pe_callTy call_int1 (by rfl) T.int (by decide +kernel) (pa_cons (pe_ix ix_list (pv 0) pe_int (fun _ _ => rfl)) pa_nil)) (pv 1)))
        (pss_cons (ps_asg (pe_op op_fdiv (pe_ix ix_list (pv 0) pe_int (fun _ _ => rfl)) (pv 1)) (pg_sub (pv 0) pe_int set_list))
        (pss_one (ps_ret (pv 2))))) pss_nil)
      (pss_cons (ps_asg (pe_op op_mod (pe_callTy call_int1 (by rfl) T.int (by decide +kernel) (pa_cons (pe_op op_add (pe_op op_mul (pe_ix ix_list (pv 0) pe_int (fun _ _ => rfl)) pe_int) pe_int) pa_nil)) pe_int) (pg_sub (pv 0) pe_int set_list))
      (pss_one (ps_ret (pe_op op_mod (pe_callTy call_int1 (by rfl) T.int (by decide +kernel) (pa_cons (pe_op op_fdiv (pe_op op_mod (pe_callTy call_int1 (by rfl) T.int (by decide +kernel)
        (pa_cons (pe_op op_mul (pe_ix ix_list (pv 0) pe_int (fun _ _ => rfl)) (pe_ix ix_list (pv 0) pe_int (fun _ _ => rfl))) pa_nil)) pe_int) pe_int) pa_nil)) (pv 1))))), ?_⟩
    refine ⟨_, rfl, l, _, _, _, rfl, rfl, SqL.of hl, at_of (j := 0) rfl rfl, _, _, rfl, rfl, _, rfl, ?_⟩
    refine ite2 (fun _ => ?_) (fun _ => ?_)
    · refine ⟨_, rfl, l, _, _, _, rfl, rfl, SqL.of hl, at_of (j := 0) rfl rfl, .inl ⟨_, rfl, _, rfl, _, _, rfl, rfl, u0, ?_⟩⟩
      refine ⟨_, rfl, l, _, _, _, rfl, rfl, SqL.of hl, at_of (j := 0) rfl rfl, _, rfl, _, _, rfl, rfl, ⟨u0, u1⟩, _, rfl, l, _, _, 0, rfl, rfl, hl, rfl, _, rfl, ?_⟩
      exact fin _ _ _ (Int.emod_nonneg _ (Int.ne_of_gt u0)) (Int.emod_lt_of_pos _ u0)
    · refine ⟨_, rfl, l, _, _, _, rfl, rfl, SqL.of hl, at_of (j := 1) rfl rfl, _, _, rfl, rfl, .inr ⟨by decide, by decide⟩, _, _, rfl, rfl, .inl ⟨_, rfl, _, _, rfl, rfl, (by show (0 : Int) < 2147483647; decide), _, rfl, l, _, _, 1, rfl, rfl, hl, rfl, ?_⟩⟩
      have y0 : 0 ≤ (y * 48271 + 11) % 2147483647 := Int.emod_nonneg _ (by decide)
      have y1 : (y * 48271 + 11) % 2147483647 < 2147483647 := Int.emod_lt_of_pos _ (by decide)
      have hl2 : (upd H l (.lst [.int x, .int ((y * 48271 + 11) % 2147483647)])) l = some (.lst [.int x, .int ((y * 48271 + 11) % 2147483647)]) := upd_same
      refine ⟨_, rfl, l, _, _, .int ((y * 48271 + 11) % 2147483647), rfl, rfl, SqL.of hl2, at_of (j := 1) rfl rfl, _, rfl, l, _, _, .int ((y * 48271 + 11) % 2147483647), rfl, rfl, SqL.of hl2, at_of (j := 1) rfl rfl, _, _, rfl, rfl, .inl ⟨by omega, by omega⟩, .inl ⟨_, rfl, _, _, rfl, rfl, (by show (0 : Int) < 2147483629; decide), _, _, rfl, rfl, ⟨by decide, by decide⟩, .inl ⟨_, rfl, _, rfl, _, _, rfl, rfl, u0, ?_⟩⟩⟩
      exact fin _ _ _ (Int.emod_nonneg _ (Int.ne_of_gt u0)) (Int.emod_lt_of_pos _ u0)
end
end R1
end

-- RatMath2
section
namespace RatM
theorem add_nrm {a b c d : Int} (hb : b ≠ 0) (hd : d ≠ 0) : nt (nt a b * nb c d + nt c d * nb a b) (nb a b * nb c d) = nt (a * d + c * b) (b * d) ∧ nb (nt a b * nb c d + nt c d * nb a b) (nb a b * nb c d) = nb (a * d + c * b) (b * d) := by
  have p1 := nb_pos (t := a) hb
  have p2 := nb_pos (t := c) hd
  have h1 := nt_mul (t := a) (b := b); have h2 := nb_mul (t := a) (b := b)
  have h3 := nt_mul (t := c) (b := d); have h4 := nb_mul (t := c) (b := d)
  have g1 := cmn_ne (t := a) hb; have g2 := cmn_ne (t := c) hd
  refine nrm_of (k := cmn a b * cmn c d) (k' := 1) (Int.mul_ne_zero (by omega) (by omega)) (Int.mul_ne_zero hb hd) (Int.mul_ne_zero g1 g2) (by decide) ?_ ?_
  · generalize nt a b = x at *; generalize nb a b = y at *; generalize cmn a b = g at *
    generalize nt c d = x' at *; generalize nb c d = y' at *; generalize cmn c d = h at *
    rw [← h1, ← h2, ← h3, ← h4, Int.mul_one, Int.add_mul]
    congr 1 <;> ac_rfl
  · generalize nt a b = x at *; generalize nb a b = y at *; generalize cmn a b = g at *
    generalize nt c d = x' at *; generalize nb c d = y' at *; generalize cmn c d = h at *
    rw [← h2, ← h4, Int.mul_one]
    ac_rfl
theorem sub_nrm {a b c d : Int} (hb : b ≠ 0) (hd : d ≠ 0) : nt (nt a b * nb c d - nt c d * nb a b) (nb a b * nb c d) = nt (a * d - c * b) (b * d) ∧ nb (nt a b * nb c d - nt c d * nb a b) (nb a b * nb c d) = nb (a * d - c * b) (b * d) := by
  have p1 := nb_pos (t := a) hb
  have p2 := nb_pos (t := c) hd
  have h1 := nt_mul (t := a) (b := b); have h2 := nb_mul (t := a) (b := b)
  have h3 := nt_mul (t := c) (b := d); have h4 := nb_mul (t := c) (b := d)
  have g1 := cmn_ne (t := a) hb; have g2 := cmn_ne (t := c) hd
  refine nrm_of (k := cmn a b * cmn c d) (k' := 1) (Int.mul_ne_zero (by omega) (by omega)) (Int.mul_ne_zero hb hd) (Int.mul_ne_zero g1 g2) (by decide) ?_ ?_
  · generalize nt a b = x at *; generalize nb a b = y at *; generalize cmn a b = g at *
    generalize nt c d = x' at *; generalize nb c d = y' at *; generalize cmn c d = h at *
    rw [← h1, ← h2, ← h3, ← h4, Int.mul_one, Int.sub_mul]
    congr 1 <;> ac_rfl
  · generalize nt a b = x at *; generalize nb a b = y at *; generalize cmn a b = g at *
    generalize nt c d = x' at *; generalize nb c d = y' at *; generalize cmn c d = h at *
    rw [← h2, ← h4, Int.mul_one]
    ac_rfl
theorem mul_nrm {a b c d : Int} (hb : b ≠ 0) (hd : d ≠ 0) : nt (nt a b * nt c d) (nb a b * nb c d) = nt (a * c) (b * d) ∧ nb (nt a b * nt c d) (nb a b * nb c d) = nb (a * c) (b * d) := by
  have p1 := nb_pos (t := a) hb
  have p2 := nb_pos (t := c) hd
  have h1 := nt_mul (t := a) (b := b); have h2 := nb_mul (t := a) (b := b)
  have h3 := nt_mul (t := c) (b := d); have h4 := nb_mul (t := c) (b := d)
  have g1 := cmn_ne (t := a) hb; have g2 := cmn_ne (t := c) hd
  refine nrm_of (k := cmn a b * cmn c d) (k' := 1) (Int.mul_ne_zero (by omega) (by omega)) (Int.mul_ne_zero hb hd) (Int.mul_ne_zero g1 g2) (by decide) ?_ ?_
  · generalize nt a b = x at *; generalize nb a b = y at *; generalize cmn a b = g at *
    generalize nt c d = x' at *; generalize nb c d = y' at *; generalize cmn c d = h at *
    rw [← h1, ← h3, Int.mul_one]
    ac_rfl
  · generalize nt a b = x at *; generalize nb a b = y at *; generalize cmn a b = g at *
    generalize nt c d = x' at *; generalize nb c d = y' at *; generalize cmn c d = h at *
    rw [← h2, ← h4, Int.mul_one]
    ac_rfl
theorem nt_ne {c d : Int} (hd : d ≠ 0) (hc : c ≠ 0) : nt c d ≠ 0 := fun z => by
  have h3 := nt_mul (t := c) (b := d)
  rw [z, Int.zero_mul] at h3
  exact hc h3.symm
theorem over_nrm {a b c d : Int} (hb : b ≠ 0) (hd : d ≠ 0) (hc : c ≠ 0) : nt (nt a b * nb c d) (nb a b * nt c d) = nt (a * d) (b * c) ∧ nb (nt a b * nb c d) (nb a b * nt c d) = nb (a * d) (b * c) := by
  have p1 := nb_pos (t := a) hb
  have p2 := nt_ne hd hc
  have h1 := nt_mul (t := a) (b := b); have h2 := nb_mul (t := a) (b := b)
  have h3 := nt_mul (t := c) (b := d); have h4 := nb_mul (t := c) (b := d)
  have g1 := cmn_ne (t := a) hb; have g2 := cmn_ne (t := c) hd
  refine nrm_of (k := cmn a b * cmn c d) (k' := 1) (Int.mul_ne_zero (by omega) p2) (Int.mul_ne_zero hb hc) (Int.mul_ne_zero g1 g2) (by decide) ?_ ?_
  · generalize nt a b = x at *; generalize nb a b = y at *; generalize cmn a b = g at *
    generalize nt c d = x' at *; generalize nb c d = y' at *; generalize cmn c d = h at *
    rw [← h1, ← h4, Int.mul_one]
    ac_rfl
  · generalize nt a b = x at *; generalize nb a b = y at *; generalize cmn a b = g at *
    generalize nt c d = x' at *; generalize nb c d = y' at *; generalize cmn c d = h at *
    rw [← h2, ← h3, Int.mul_one]
    ac_rfl
theorem eq_iff {a b c d : Int} (hb : b ≠ 0) (hd : d ≠ 0) : (nt a b = nt c d ∧ nb a b = nb c d) ↔ nt a b * nb c d = nt c d * nb a b := by
  constructor
  · rintro ⟨h1, h2⟩
    rw [h1, h2]
  · intro h
    have p1 := nb_pos (t := a) hb
    have p2 := nb_pos (t := c) hd
    have q := nrm_cross (by omega) (by omega) h
    rw [(nrm_id hb).1, (nrm_id hb).2, (nrm_id hd).1, (nrm_id hd).2] at q
    exact q
/-- the sign that makes cross products comparable -/
def sg (v : Int) : Int := 1 - 2 * (if decide (v < 0) = true then (1 : Int) else 0)
theorem sg_cases (v : Int) : (v < 0 ∧ sg v = -1) ∨ (0 ≤ v ∧ sg v = 1) := by
  unfold sg
  by_cases h : v < 0
  · exact .inl ⟨h, by rw [decide_eq_true h, if_pos rfl]; rfl⟩
  · exact .inr ⟨by omega, by rw [decide_eq_false h, if_neg Bool.false_ne_true]; rfl⟩
theorem sg_pos {v : Int} (h : v ≠ 0) : 0 < v * sg v := by
  rcases sg_cases v with ⟨h1, h2⟩ | ⟨h1, h2⟩ <;> rw [h2] <;> omega
theorem cmp_facts {a b c d : Int} (hb : b ≠ 0) (hd : d ≠ 0) : ∃ m : Int, 0 < m ∧ a * d * sg (b * d) = nt a b * nb c d * m ∧ c * b * sg (b * d) = nt c d * nb a b * m := by
  have p1 := nb_pos (t := a) hb
  have p2 := nb_pos (t := c) hd
  have h1 := nt_mul (t := a) (b := b); have h2 := nb_mul (t := a) (b := b)
  have h3 := nt_mul (t := c) (b := d); have h4 := nb_mul (t := c) (b := d)
  have hp := sg_pos (Int.mul_ne_zero hb hd)
  refine ⟨cmn a b * cmn c d * sg (b * d), ?_, ?_, ?_⟩
  · have e : b * d * sg (b * d) = (nb a b * nb c d) * (cmn a b * cmn c d * sg (b * d)) := by
      generalize sg (b * d) = s
      generalize nb a b = y at *; generalize cmn a b = g at *; generalize nb c d = y' at *; generalize cmn c d = h at *
      rw [← h2, ← h4]
      ac_rfl
    rw [e] at hp
    rcases Int.lt_trichotomy (cmn a b * cmn c d * sg (b * d)) 0 with z | z | z
    · have := Int.mul_neg_of_pos_of_neg (Int.mul_pos p1 p2) z; omega
    · rw [z, Int.mul_zero] at hp; omega
    · exact z
  · generalize sg (b * d) = s
    generalize nt a b = x at *; generalize cmn a b = g at *; generalize nb c d = y' at *; generalize cmn c d = h at *
    rw [← h1, ← h4]
    ac_rfl
  · generalize sg (b * d) = s
    generalize nb a b = y at *; generalize cmn a b = g at *; generalize nt c d = x' at *; generalize cmn c d = h at *
    rw [← h2, ← h3]
    ac_rfl
theorem cmp_all {a b c d : Int} (hb : b ≠ 0) (hd : d ≠ 0) :
    ((nt a b = nt c d ∧ nb a b = nb c d) ↔ a * d * sg (b * d) = c * b * sg (b * d)) ∧ (nt a b * nb c d < nt c d * nb a b ↔ a * d * sg (b * d) < c * b * sg (b * d)) ∧ (nt c d * nb a b < nt a b * nb c d ↔ c * b * sg (b * d) < a * d * sg (b * d)) := by
  obtain ⟨m, m0, e1, e2⟩ := cmp_facts (a := a) (c := c) hb hd
  rw [e1, e2, eq_iff hb hd]
  refine ⟨⟨fun h => by rw [h], fun h => Int.eq_of_mul_eq_mul_right (by omega) h⟩, ⟨fun h => Int.mul_lt_mul_of_pos_right h m0, fun h => Int.lt_of_mul_lt_mul_right h (by omega)⟩, ⟨fun h => Int.mul_lt_mul_of_pos_right h m0, fun h => Int.lt_of_mul_lt_mul_right h (by omega)⟩⟩
end RatM
end

-- U7m
section
set_option Elab.async false
set_option linter.all false
/-! sums of prices, by their sorts. -/
namespace RatM
def add0 (x y : Int × Int) : Int × Int := (x.1 * y.2 + y.1 * x.2, x.2 * y.2)
def raw (T B : Nat → Int) (L : List Nat) : Int × Int := L.foldl (fun x i => add0 x (T i, B i)) (0, 1)
theorem raw_nil {T B : Nat → Int} : raw T B [] = (0, 1) := rfl
theorem raw_snoc {T B : Nat → Int} {L : List Nat} {i : Nat} : raw T B (L ++ [i]) = add0 (raw T B L) (T i, B i) := by
  unfold raw
  rw [List.foldl_append]
  rfl
theorem add0_comm (z x y : Int × Int) : add0 (add0 z x) y = add0 (add0 z y) x := by
  unfold add0
  exact Prod.ext (by dsimp only; grind) (by dsimp only; grind)
theorem raw_perm {T B : Nat → Int} {L L' : List Nat} (p : L.Perm L') : raw T B L = raw T B L' := List.Perm.foldl_eq' p (fun x _ y _ z => add0_comm z _ _) _
/-- bounds of a price -/
structure Bnd (t b : Int) : Prop where
  b0 : 0 < b
  t0 : 0 ≤ t
  b1 : b ≤ 2 ^ 41
  t1 : t ≤ 2 ^ 41
theorem mul_le {a b c d : Int} (a0 : 0 ≤ a) (d0 : 0 ≤ d) (h1 : a ≤ c) (h2 : b ≤ d) : a * b ≤ c * d := Int.le_trans (Int.mul_le_mul_of_nonneg_left h2 a0) (Int.mul_le_mul_of_nonneg_right h1 d0)
theorem raw_bnd {T B : Nat → Int} (L : List Nat) (h : ∀ i ∈ L, Bnd (T i) (B i)) : 0 < (raw T B L).2 ∧ (raw T B L).2 ≤ (2 ^ 41) ^ L.length ∧ 0 ≤ (raw T B L).1 ∧ (raw T B L).1 ≤ (L.length : Int) * (2 ^ 41) ^ L.length := by
  generalize hn : L.length = n
  induction n generalizing L with
  | zero =>
    cases L with
    | nil => rw [raw_nil]; exact ⟨by decide, by decide, by decide, by decide⟩
    | cons => cases hn
  | succ n ih =>
    rcases List.eq_nil_or_concat L with rfl | ⟨M, i, rfl⟩
    · cases hn
    · rw [List.concat_eq_append] at *
      have hM : M.length = n := by
        rw [List.length_append] at hn
        exact Nat.succ.inj hn
      obtain ⟨h1, h2, h3, h4⟩ := ih M (fun j m => h j (List.mem_append_left _ m)) hM
      have hb := h i (List.mem_append_right _ (List.mem_singleton.mpr rfl))
      rw [raw_snoc]
      unfold add0
      dsimp only
      generalize raw T B M = r at h1 h2 h3 h4
      have p0 : (0 : Int) < 2 ^ 41 := by decide
      have pn : (0 : Int) < (2 ^ 41) ^ n := Int.pow_pos p0
      have e : ((2 : Int) ^ 41) ^ (n + 1) = (2 ^ 41) ^ n * 2 ^ 41 := Int.pow_succ _ _
      rw [e]
      refine ⟨Int.mul_pos h1 hb.b0, mul_le (Int.le_of_lt h1) (Int.le_of_lt p0) h2 hb.b1, Int.add_nonneg (Int.mul_nonneg h3 (Int.le_of_lt hb.b0)) (Int.mul_nonneg hb.t0 (Int.le_of_lt h1)), ?_⟩
      have a1 : r.1 * B i ≤ ((n : Int) * (2 ^ 41) ^ n) * 2 ^ 41 := mul_le h3 (Int.le_of_lt p0) h4 hb.b1
      have a2 : T i * r.2 ≤ 2 ^ 41 * (2 ^ 41) ^ n := mul_le hb.t0 (Int.le_of_lt pn) hb.t1 h2
      refine Int.le_trans (Int.add_le_add a1 a2) ?_
      generalize ((2 : Int) ^ 41) ^ n = x
      generalize (2 : Int) ^ 41 = y
      push_cast
      refine Int.le_of_eq ?_
      grind
theorem big8 {n : Nat} (h : n ≤ 8) : (n : Int) * (2 ^ 41) ^ n < 2 ^ 340 ∧ ((2 : Int) ^ 41) ^ n < 2 ^ 340 := by
  rcases (show n = 0 ∨ n = 1 ∨ n = 2 ∨ n = 3 ∨ n = 4 ∨ n = 5 ∨ n = 6 ∨ n = 7 ∨ n = 8 by omega) with rfl | rfl | rfl | rfl | rfl | rfl | rfl | rfl | rfl <;> exact ⟨by decide +kernel, by decide +kernel⟩
/-- what a sum comes to, in lowest terms -/
def sT (T B : Nat → Int) (L : List Nat) : Int := nt (raw T B L).1 (raw T B L).2
def sB (T B : Nat → Int) (L : List Nat) : Int := nb (raw T B L).1 (raw T B L).2
theorem s_nil {T B : Nat → Int} : sT T B [] = 0 ∧ sB T B [] = 1 := nt_one 0
theorem s_snoc {T B : Nat → Int} {L : List Nat} {i : Nat} (h : ∀ j ∈ L, Bnd (T j) (B j)) (hb : 0 < B i) (e1 : nt (T i) (B i) = T i) (e2 : nb (T i) (B i) = B i) :
    nt (sT T B L * B i + T i * sB T B L) (sB T B L * B i) = sT T B (L ++ [i]) ∧ nb (sT T B L * B i + T i * sB T B L) (sB T B L * B i) = sB T B (L ++ [i]) := by
  have r := raw_bnd L h
  have := add_nrm (a := (raw T B L).1) (b := (raw T B L).2) (c := T i) (d := B i) (by omega) (by omega)
  rw [e1, e2] at this
  unfold sT sB
  rw [raw_snoc]
  exact this
theorem s_perm {T B : Nat → Int} {L L' : List Nat} (p : L.Perm L') : sT T B L = sT T B L' ∧ sB T B L = sB T B L' := by
  unfold sT sB
  rw [raw_perm p]
  exact ⟨rfl, rfl⟩
theorem s_bnd {T B : Nat → Int} {L : List Nat} (n : L.length ≤ 8) (h : ∀ j ∈ L, Bnd (T j) (B j)) : 0 < sB T B L ∧ (sT T B L).natAbs < 2 ^ 340 ∧ (sB T B L).natAbs < 2 ^ 340 := by
  obtain ⟨h1, h2, h3, h4⟩ := raw_bnd L h
  obtain ⟨b1, b2⟩ := big8 n
  have ne : (raw T B L).2 ≠ 0 := by omega
  have t1 := nt_le (t := (raw T B L).1) ne
  have t2 := nb_le (t := (raw T B L).1) ne
  refine ⟨nb_pos ne, Nat.lt_of_le_of_lt t1 ?_, Nat.lt_of_le_of_lt t2 ?_⟩
  · have : (raw T B L).1 < 2 ^ 340 := Int.lt_of_le_of_lt h4 b1
    have e : ((2 : Int) ^ 340) = ((2 ^ 340 : Nat) : Int) := by decide +kernel
    rw [e] at this
    omega
  · have : (raw T B L).2 < 2 ^ 340 := Int.lt_of_le_of_lt h2 b2
    have e : ((2 : Int) ^ 340) = ((2 ^ 340 : Nat) : Int) := by decide +kernel
    rw [e] at this
    omega
theorem raw_ones (L : List Nat) : raw (fun _ => 1) (fun _ => 1) L = ((L.length : Int), 1) := by
  generalize hn : L.length = n
  induction n generalizing L with
  | zero =>
    cases L with
    | nil => rfl
    | cons => cases hn
  | succ n ih =>
    rcases List.eq_nil_or_concat L with rfl | ⟨M, i, rfl⟩
    · cases hn
    · rw [List.concat_eq_append] at *
      have hM : M.length = n := by
        rw [List.length_append] at hn
        exact Nat.succ.inj hn
      rw [raw_snoc, ih M hM]
      unfold add0
      exact Prod.ext (by dsimp only; omega) (by dsimp only; omega)
theorem s_ones (L : List Nat) : sT (fun _ => 1) (fun _ => 1) L = (L.length : Int) ∧ sB (fun _ => 1) (fun _ => 1) L = 1 := by
  unfold sT sB
  rw [raw_ones]
  exact nt_one _
theorem bnd_one : Bnd 1 1 := ⟨by decide, by decide, by decide, by decide⟩
end RatM
end

-- E3m
section
set_option Elab.async false
set_option linter.all false
/-! sums, and inverses of sums of inverses, of ratios above 0. -/
namespace RatM
theorem cmn_pos {t b : Int} (h : 0 < b) : cmn t b = (Nat.gcd t.natAbs b.natAbs : Int) := by
  unfold cmn
  rw [if_pos h]
theorem swap_nt {x y : Int} (hx : 0 < x) (hy : 0 < y) : nt x y = nb y x := by
  unfold nt nb
  rw [cmn_pos hx, cmn_pos hy, Nat.gcd_comm]
theorem swap_nb {x y : Int} (hx : 0 < x) (hy : 0 < y) : nb x y = nt y x := (swap_nt hy hx).symm
theorem nt_pos {t b : Int} (ht : 0 < t) (hb : 0 < b) : 0 < nt t b := by
  rw [swap_nt ht hb]
  exact nb_pos (by omega)
/-- a ratio above 0, in lowest terms -/
structure Vb (t b : Int) : Prop where
  t0 : 0 < t
  b0 : 0 < b
  t1 : t ≤ 2 ^ 41
  b1 : b ≤ 2 ^ 41
  n1 : nt t b = t
  n2 : nb t b = b
theorem Vb.bnd {t b : Int} (h : Vb t b) : Bnd t b := ⟨h.b0, Int.le_of_lt h.t0, h.b1, h.t1⟩
theorem Vb.sw {t b : Int} (h : Vb t b) : Vb b t := ⟨h.b0, h.t0, h.b1, h.t1, (swap_nt h.b0 h.t0).trans h.n2, (swap_nb h.b0 h.t0).trans h.n1⟩
theorem vb_int {i : Int} (h : 0 < i) (l : i ≤ 2 ^ 41) : Vb i 1 := ⟨h, by decide, l, by decide, (nt_one i).1, (nt_one i).2⟩
theorem vb_low {t b : Int} (ht : 0 < t) (hb : 0 < b) (lt : t ≤ 2 ^ 41) (lb : b ≤ 2 ^ 41) : Vb (nt t b) (nb t b) := by
  have a1 := nt_le (t := t) (b := b) (by omega)
  have a2 := nb_le (t := t) (b := b) (by omega)
  have p1 := nt_pos ht hb
  have p2 := nb_pos (t := t) (b := b) (by omega)
  exact ⟨p1, p2, by omega, by omega, (nrm_id (by omega)).1, (nrm_id (by omega)).2⟩
theorem raw_pos {T B : Nat → Int} (L : List Nat) (h : ∀ i ∈ L, Vb (T i) (B i)) (ne : L ≠ []) : 0 < (raw T B L).1 := by
  rcases List.eq_nil_or_concat L with rfl | ⟨M, i, rfl⟩
  · exact absurd rfl ne
  · rw [List.concat_eq_append] at h ⊢
    have hb := h i (List.mem_append_right _ (List.mem_singleton.mpr rfl))
    obtain ⟨h1, h2, h3, h4⟩ := raw_bnd M fun j m => (h j (List.mem_append_left _ m)).bnd
    rw [raw_snoc]
    unfold add0
    dsimp only
    have a := Int.mul_nonneg h3 (Int.le_of_lt hb.b0)
    have b := Int.mul_pos hb.t0 h1
    omega
theorem s_pos {T B : Nat → Int} {L : List Nat} (h : ∀ i ∈ L, Vb (T i) (B i)) (ne : L ≠ []) : 0 < sT T B L := nt_pos (raw_pos L h ne) (raw_bnd L fun j m => (h j m).bnd).1
theorem s_nrm {T B : Nat → Int} {L : List Nat} (h : ∀ i ∈ L, Vb (T i) (B i)) : nt (sT T B L) (sB T B L) = sT T B L ∧ nb (sT T B L) (sB T B L) = sB T B L := by
  have := (raw_bnd L fun j m => (h j m).bnd).1
  exact nrm_id (by omega)
/-- what a rule makes of them -/
def res (w : Bool) (T B : Nat → Int) (L : List Nat) : Int × Int := if w = true then (sT T B L, sB T B L) else (sB B T L, sT B T L)
theorem res_perm {w : Bool} {T B : Nat → Int} {L L' : List Nat} (p : L.Perm L') : res w T B L = res w T B L' := by
  unfold res
  rw [(s_perm p).1, (s_perm p).2, (s_perm (T := B) (B := T) p).1, (s_perm (T := B) (B := T) p).2]
theorem s_one {T B : Nat → Int} {i : Nat} (h : Vb (T i) (B i)) : sT T B [i] = T i ∧ sB T B [i] = B i := by
  have := s_snoc (T := T) (B := B) (L := []) (i := i) (fun _ h => (nomatch h)) h.b0 h.n1 h.n2
  rw [s_nil.1, s_nil.2, Int.zero_mul, Int.mul_one, Int.zero_add, Int.one_mul, h.n1, h.n2] at this
  exact ⟨this.1.symm, this.2.symm⟩
theorem res_one {w : Bool} {T B : Nat → Int} {i : Nat} (h : Vb (T i) (B i)) : res w T B [i] = (T i, B i) := by
  unfold res
  rw [(s_one h).1, (s_one h).2, (s_one (T := B) (B := T) h.sw).1, (s_one (T := B) (B := T) h.sw).2]
  cases w <;> rfl
/-- bounds of what a rule makes -/
structure Rb (x : Int × Int) : Prop where
  t0 : 0 < x.1
  b0 : 0 < x.2
  t1 : x.1.natAbs < 2 ^ 340
  b1 : x.2.natAbs < 2 ^ 340
  n1 : nt x.1 x.2 = x.1
  n2 : nb x.1 x.2 = x.2
theorem Rb.sw {x : Int × Int} (h : Rb x) : Rb (x.2, x.1) := ⟨h.b0, h.t0, h.b1, h.t1, (swap_nt h.b0 h.t0).trans h.n2, (swap_nb h.b0 h.t0).trans h.n1⟩
theorem s_rb {T B : Nat → Int} {L : List Nat} (n : L.length ≤ 8) (h : ∀ j ∈ L, Vb (T j) (B j)) (ne : L ≠ []) : Rb (sT T B L, sB T B L) := by
  obtain ⟨a, b, c⟩ := s_bnd n fun j m => (h j m).bnd
  exact ⟨s_pos h ne, a, b, c, (s_nrm h).1, (s_nrm h).2⟩
theorem res_rb {w : Bool} {T B : Nat → Int} {L : List Nat} (n : L.length ≤ 8) (h : ∀ j ∈ L, Vb (T j) (B j)) (ne : L ≠ []) : Rb (res w T B L) := by
  unfold res
  cases w
  · exact (s_rb (T := B) (B := T) n (fun j m => (h j m).sw) ne).sw
  · exact s_rb n h ne
/-- one more, as the law joins two -/
def jn (w : Bool) (x y : Int × Int) : Int × Int := if w = true then (nt (x.1 * y.2 + y.1 * x.2) (x.2 * y.2), nb (x.1 * y.2 + y.1 * x.2) (x.2 * y.2)) else (nt (x.1 * y.1) (x.1 * y.2 + y.1 * x.2), nb (x.1 * y.1) (x.1 * y.2 + y.1 * x.2))
theorem res_next {w : Bool} {T B : Nat → Int} {L : List Nat} {i : Nat} (h : ∀ j ∈ L, Vb (T j) (B j)) (ne : L ≠ []) (hi : Vb (T i) (B i)) : jn w (res w T B L) (T i, B i) = res w T B (L ++ [i]) := by
  unfold jn res
  cases w
  · have := s_snoc (T := B) (B := T) (L := L) (i := i) (fun j m => (h j m).sw.bnd) hi.t0 hi.sw.n1 hi.sw.n2
    have p1 := s_pos (T := B) (B := T) (L := L) (fun j m => (h j m).sw) ne
    have p2 : 0 < sB B T L := nb_pos (by have := (raw_bnd (T := B) (B := T) L fun j m => (h j m).sw.bnd).1; omega)
    have q1 : 0 < sB B T L * T i := Int.mul_pos p2 hi.t0
    have q2 : 0 < sB B T L * B i + T i * sT B T L := by
      have := Int.mul_pos p2 hi.b0
      have := Int.mul_pos hi.t0 p1
      omega
    rw [if_neg Bool.false_ne_true, if_neg Bool.false_ne_true, if_neg Bool.false_ne_true]
    dsimp only
    rw [swap_nt q1 q2, swap_nb q1 q2, ← this.1, ← this.2]
    have e : sB B T L * B i + T i * sT B T L = sT B T L * T i + B i * sB B T L := by grind
    rw [e]
  · have := s_snoc (L := L) (i := i) (fun j m => (h j m).bnd) hi.b0 hi.n1 hi.n2
    rw [if_pos rfl, if_pos rfl, if_pos rfl]
    dsimp only
    rw [← this.1, ← this.2]
end RatM
end

-- E3l
section
set_option Elab.async false
set_option linter.all false
set_option maxRecDepth 100000
set_option exponentiation.threshold 10000
namespace R1
open PySem L2 OwnOps OwnNe G1 RatM
abbrev sLow : Stmt := top 40
abbrev sJoin : Stmt := top 41
theorem passOwn {X : Cx} {K : Value → Shared → Prop} {E₁ : Value → Shared → Prop} (hx : X.xe = fun e s' => wpAny (model X.prog X.w) X.A (leaving X.env e) (fun _ s'' => K e s'') E₁ s' := by rfl) : PassesOwn (model X.prog X.w) X.A X.env X.xe := passes_of hx
section
variable {P : Program} {w : World} {K : PySem.W.Frag} {mg : Str → Option Value} {base : Heap}
def spLow : Sp := fun vs H Q _ => ∃ t b : Int, vs = [.int t, .int b] ∧ 0 < b ∧ Sm 5000 b ∧ ∀ p, H p = none → Q (.ref p) (upd H p (.tup [.int (nt t b), .int (nb t b)]))
theorem ok_low {f : Addr} {fd : FuncData} (F : Fun K "_law_low" "_law_low" sLow f fd) (T : Bi mg) : FnOk P w K mg base (L2.CX P w) 1 f fd ["_law_top", "_law_bottom"] spLow := by
  have sc : FnScope ["_law_top", "_law_bottom", "_law_one", "_law_other", "_law_sign"] ["_law_top", "_law_bottom"] (defScope sLow) := ⟨rfl, rfl, rfl, by decide +kernel, rfl, by decide +kernel, by decide +kernel⟩
  refine F.okX sc (fun vs H Q E h => ?_) (fun cdv A outer s H vs Q E hr h => ?_)
  · obtain ⟨a, b, rfl, _⟩ := h
    rfl
  · obtain ⟨a, b, rfl, b0, sb, fin⟩ := h
    refine ⟨_, pss_cons (ps_par (i := 2) (j := 3) rfl sc.nd rfl rfl (by decide) rfl rfl (pa_cons (pe_callB call_abs (by rfl) T.abs (by decide +kernel) (pa_cons (pv 0) pa_nil)) (pa_cons (pe_callB call_abs (by rfl) T.abs (by decide +kernel) (pa_cons (pv 1) pa_nil)) pa_nil)) (by rfl))
      (pss_cons (ps_while passOwn (pt_cmpR op_ne (pv 3) pe_int (nomark _))
        (pss_one (ps_par (i := 2) (j := 3) rfl sc.nd rfl rfl (by decide) rfl rfl (pa_cons (pv 3) (pa_cons (pe_op op_mod (pe_callTy call_int1 (by rfl) T.int (by decide +kernel) (pa_cons (pv 2) pa_nil)) (pv 3)) pa_nil)) (by rfl))))
      (pss_cons (ps_set (i := 4) sc.nd rfl (Or.inl rfl) (pe_op op_sub pe_int (pe_op op_mul pe_int (pe_callTy call_int1 (by rfl) T.int (by decide +kernel) (pa_cons (pe_cmpR op_lt (pv 1) pe_int (nomark _)) pa_nil)))))
      (pss_one (ps_ret (pe_tup (pa_cons (pe_op op_mul (pv 4) (pe_op op_fdivG (pv 0) (pv 2))) (pa_cons (pe_op op_mul (pv 4) (pe_op op_fdivG (pv 1) (pv 2))) pa_nil))))))), ?_⟩
    refine ⟨_, rfl, _, rfl, _, rfl, _, rfl, _, _, rfl, ?_⟩
    have na : ∀ x : Int, (if x < 0 then -x else x) = (x.natAbs : Int) := fun x => by split <;> omega
    refine while_by (fun σ H' => H' = H ∧ ∃ (L R : Nat) (v : Option V), σ = [some (.int a), some (.int b), some (.int (L : Int)), some (.int (R : Int)), v] ∧ Nat.gcd L R = Nat.gcd a.natAbs b.natAbs)
      (fun σ _ => match σ with | [_, _, _, some (.int r), _] => r.natAbs | _ => 0) ⟨rfl, a.natAbs, b.natAbs, _, by rw [na, na]; rfl, rfl⟩ ?_ ?_
    · rintro σ H' ⟨rfl, L, R, v, rfl, hg⟩
      refine ⟨_, rfl, rfl, _, rfl, ?_⟩
      rw [dI]
      by_cases hR : (R : Int) = 0
      · have hR0 : R = 0 := by omega
        rw [hR0, Nat.gcd_zero_right] at hg
        have hc : (L : Int) = cmn a b := by rw [cmn_pos b0, hg]
        have cb : (cmn a b).natAbs < 2 ^ 5000 := Nat.lt_of_le_of_lt (cmn_le (by omega)) sb
        have dv : ∀ x, CDivG x (L : Int) := fun x => by rw [hc]; exact wide_divG (cmn_ne (by omega)) cb (by decide) (by decide)
        refine if_neg' (by rw [decide_eq_true hR]; rfl) ?_
        refine ⟨_, rfl, _, _, rfl, rfl, .inr ⟨_, rfl, _, _, rfl, rfl, .inl ⟨by decide, by decide⟩, _, _, rfl, rfl, ?_⟩⟩
        rw [decide_eq_false (show ¬ b < 0 by omega)]
        refine ⟨_, rfl, _, rfl, _, rfl, _, _, rfl, rfl, dv a, _, _, rfl, rfl, .inl ⟨by decide, by decide⟩, _, rfl, _, rfl, _, rfl, _, _, rfl, rfl, dv b, _, _, rfl, rfl, .inl ⟨by decide, by decide⟩, (by show 2 ≤ sizeLine; decide), fun p np => ?_⟩
        have e1 : (1 - 2 * (if false = true then (1 : Int) else 0)) * a.fdiv (L : Int) = nt a b := by rw [hc]; unfold nt; simp
        have e2 : (1 - 2 * (if false = true then (1 : Int) else 0)) * b.fdiv (L : Int) = nb a b := by rw [hc]; unfold nb; simp
        dsimp only
        rw [e1, e2]
        exact fin p np
      · have hp : 0 < R := by omega
        refine if_pos' (by rw [decide_eq_false hR]; rfl) ⟨_, rfl, _, rfl, .inl ⟨_, rfl, _, rfl, _, _, rfl, rfl, (by show (0 : Int) < (R : Int); omega), _, _, rfl, ⟨rfl, R, L % R, v, ?_, ?_⟩, ?_⟩⟩
        · rfl
        · rw [← hg, Nat.gcd_comm L R, Nat.gcd_rec R L, Nat.gcd_comm]
        · show ((L : Int) % (R : Int)).natAbs < ((R : Int)).natAbs
          rw [← Int.natCast_emod]
          exact Nat.mod_lt _ hp
    · rintro σ H' Q1 Q2 hq ⟨v, e, h1, h2, h3, h4⟩
      exact ⟨v, e, h1, h2, h3, hq _ _ h4⟩
/-- the words of the two rules -/
def wd (w : Bool) : Str := if w = true then ("sum" : Str) else ("inverse" : Str)
theorem if_eq' {c w : Bool} {A B : Prop} (e : c = w) (h1 : w = true → A) (h2 : w = false → B) : if c = true then A else B := by
  subst e
  cases hc : c
  · rw [if_neg Bool.false_ne_true]
    exact h2 hc
  · rw [if_pos rfl]
    exact h1 hc
theorem add_sm {a b c d : Int} (h1 : Sm 1200 a) (h2 : Sm 1200 b) (h3 : Sm 1200 c) (h4 : Sm 1200 d) : Sm 5000 (a * b + c * d) := by
  have e1 := wide_lt h1 h2
  have e2 := wide_lt h3 h4
  have e3 : 2 ^ (1200 + 1200) * 2 < 2 ^ 5000 := by rw [← Nat.pow_succ]; exact Nat.pow_lt_pow_right (by decide) (by decide)
  unfold Sm
  have : (a * b + c * d).natAbs ≤ (a * b).natAbs + (c * d).natAbs := Int.natAbs_add_le _ _
  omega
def spJoin : Sp := fun vs H Q _ => ∃ (w : Bool) (p q : Addr) (x y : Int × Int), vs = [.str (wd w), .ref p, .ref q] ∧ H p = some (.tup [.int x.1, .int x.2]) ∧ H q = some (.tup [.int y.1, .int y.2]) ∧ Rb x ∧ Rb y ∧
  ∀ r, H r = none → Q (.ref r) (upd H r (.tup [.int (jn w x y).1, .int (jn w x y).2]))
theorem wd_eq (w : Bool) : decide (V.str (wd w) = V.str "sum") = w := by
  cases w
  · exact decide_eq_false (fun z => absurd (V.str.inj z) (by decide +kernel))
  · exact decide_eq_true rfl
theorem rb12 {x : Int} (h : x.natAbs < 2 ^ 340) : Sm 1200 x := Nat.lt_of_lt_of_le h (Nat.pow_le_pow_right (by decide) (by decide))
theorem ok_join {f fL : Addr} {fd fdL : FuncData} (F : Fun K "_law_joined" "_law_joined" sJoin f fd) (GL : Glb P w K mg base "_law_low" 1 ["_law_top", "_law_bottom"] spLow) : FnOk P w K mg base (L2.CX P w) 2 f fd ["_law_rule", "_law_one", "_law_other"] spJoin := by
  obtain ⟨fL, fdL, mL, kL, GL, bL⟩ := GL.ex
  have sc : FnScope ["_law_rule", "_law_one", "_law_other", "_law_across"] ["_law_rule", "_law_one", "_law_other"] (defScope sJoin) := ⟨rfl, rfl, rfl, by decide +kernel, rfl, by decide +kernel, by decide +kernel⟩
  refine F.okX sc (fun vs H Q E h => ?_) (fun cdv A outer s H vs Q E hr h => ?_)
  · obtain ⟨_, p, q, x, y, rfl, _⟩ := h
    rfl
  · obtain ⟨w', p, q, x, y, rfl, hp, hq, rx, ry, fin⟩ := h
    refine ⟨_, pss_cons (ps_set (i := 3) sc.nd rfl (Or.inl rfl) (pe_op op_add (pe_op op_mulW (pe_ix ix_tup (pv 1) pe_int (fun _ _ => rfl)) (pe_ix ix_tup (pv 2) pe_int (fun _ _ => rfl))) (pe_op op_mulW (pe_ix ix_tup (pv 2) pe_int (fun _ _ => rfl)) (pe_ix ix_tup (pv 1) pe_int (fun _ _ => rfl)))))
      (pss_cons (ps_if (pt_cmpR op_eq (pv 0) pe_str (nomark _)) (pss_one (ps_ret (pe_call GL (hr.mono (by decide)) (by rfl) mL kL bL .nil passL (pa_cons (pv 3) (pa_cons (pe_op op_mulW (pe_ix ix_tup (pv 1) pe_int (fun _ _ => rfl)) (pe_ix ix_tup (pv 2) pe_int (fun _ _ => rfl))) pa_nil))))) pss_nil)
      (pss_one (ps_ret (pe_call GL (hr.mono (by decide)) (by rfl) mL kL bL .nil passL (pa_cons (pe_op op_mulW (pe_ix ix_tup (pv 1) pe_int (fun _ _ => rfl)) (pe_ix ix_tup (pv 2) pe_int (fun _ _ => rfl))) (pa_cons (pv 3) pa_nil)))))), ?_⟩
    refine ⟨_, rfl, p, _, _, _, rfl, rfl, SqT.of hp, at_of (j := 0) rfl rfl, _, rfl, q, _, _, _, rfl, rfl, SqT.of hq, at_of (j := 1) rfl rfl, _, _, rfl, rfl, mulok (rb12 rx.t1) (rb12 ry.b1), _, rfl, q, _, _, _, rfl, rfl, SqT.of hq, at_of (j := 0) rfl rfl, _, rfl, p, _, _, _, rfl, rfl, SqT.of hp, at_of (j := 1) rfl rfl, _, _, rfl, rfl, mulok (rb12 ry.t1) (rb12 rx.b1), _, _, rfl, rfl, _, rfl, rfl, _, rfl, ?_⟩
    refine if_eq' (wd_eq w') (fun e => ?_) (fun e => ?_)
    · subst e
      refine ⟨_, rfl, _, rfl, p, _, _, _, rfl, rfl, SqT.of hp, at_of (j := 1) rfl rfl, _, rfl, q, _, _, _, rfl, rfl, SqT.of hq, at_of (j := 1) rfl rfl, _, _, rfl, rfl, mulok (rb12 rx.b1) (rb12 ry.b1), _, _, rfl, Int.mul_pos rx.b0 ry.b0, mul_sm (rb12 rx.b1) (rb12 ry.b1), fin⟩
    · subst e
      refine ⟨_, rfl, p, _, _, _, rfl, rfl, SqT.of hp, at_of (j := 0) rfl rfl, _, rfl, q, _, _, _, rfl, rfl, SqT.of hq, at_of (j := 0) rfl rfl, _, _, rfl, rfl, mulok (rb12 rx.t1) (rb12 ry.t1), _, rfl, _, _, rfl, Int.add_pos (Int.mul_pos rx.t0 ry.b0) (Int.mul_pos ry.t0 rx.b0), add_sm (rb12 rx.t1) (rb12 ry.b1) (rb12 ry.t1) (rb12 rx.b1), fin⟩
end
end R1
end

-- TupIn
section
set_option Elab.async false
set_option linter.all false
set_option maxRecDepth 100000
/-! x not in (a, b, ..), where no item is equal to x and the asking may make objects. -/
namespace OwnNe
open PySem PySem.SeqAt GQ L2 OwnOps
open AutoSeq1 (wpAny_loadPart')
open MeetsSeq MeetsSeq2 MeetsSeq3 SeqRoads2
section
variable {prog : Program} {w : World} {A : Around} {E : Value → Shared → Prop}
/-- no item is equal to x; J: what stands before the i-th is asked -/
theorem tup_containsJ (l : Addr) (items : Array Value) (n : Nat) (dd : Option Addr) (sl : Array (Option Value)) (x : Value) (J : Nat → Shared → Prop) (R : Result → Shared → Prop)
    (step : ∀ (i : Nat) (y : Value) (s : Shared), items.toList[i]? = some y → J i s → wpAny (model prog w) A.in1 (eqBool y x) (fun q s' => q = false ∧ J (i + 1) s') (fun e s' => R (.error e) s') s)
    (many : ∀ i, items.size ≤ i → ∀ s, J i s → J items.size s) (fin : ∀ s, J items.size s → R (.ok (.ret (.bool false))) s) {s : Shared} (hl : s.heap.get? l = some { cls := .type "tuple", dict := dd, data := .seq items n, slots := sl }) (h : J 0 s) :
    wpAny (model prog w) A.in1 (Builtin.«tuple.__contains__» ⟨[.ref l, x], []⟩) (FinOf prog w A R) (fun e s' => R (.error e) s') s := by
  refine wpAny_mono (Q := fun fin s' => ∃ v, fin = .done (.ret v) ∧ R (.ok (.ret v)) s') ?_ (fun fin s' h' => by obtain ⟨v, rfl, hv⟩ := h'; exact hv) fun _ _ x => x
  obtain ⟨hp, g, d, tk, os⟩ := s
  wp_walk using wpAny_loadPart' hl, wpAny_forIn_array _ (fun rest (b : Option Fin × Unit) s' => b.1 = none ∧ ∃ i : Nat, rest = items.toList.drop i ∧ J i s') _
  case turn =>
    rintro y rest b s' ⟨hb, i, hr, hJ⟩
    have hi : items.toList[i]? = some y := by
      rw [← List.head?_drop, ← hr]
      rfl
    refine wpAny_bind (wpAny_mono (step i y s' hi hJ) (fun q s2 hq => ?_) fun _ _ x => x)
    obtain ⟨rfl, hq⟩ := hq
    wp_walk
    refine ⟨rfl, i + 1, ?_, hq⟩
    have := congrArg List.tail hr
    rw [List.tail_drop] at this
    exact this
  case fin =>
    rintro ⟨b1, b2⟩ s' ⟨hb, i, hr, hJ⟩
    simp only at hb
    subst hb
    have hl' : items.size ≤ i := by
      have := congrArg List.length hr
      rw [List.length_drop] at this
      simp at this
      omega
    obtain ⟨hp, g, d, tk, os⟩ := s'
    wp_walk
    exact ⟨_, rfl, fin _ (many i hl' _ hJ)⟩
  case h =>
    exact ⟨rfl, 0, rfl, h⟩
theorem str_cmp_eq {z : Str} {t : Tok} {y : Addr} {oy : Obj} {s : Shared} {Q : Value → Shared → Prop} (hy : s.heap.get? y = some oy) (hp : oy.data = .plain) (h : Q .notImplemented s) :
    wpAny (model prog w) A (call (.builtin "str.__eq__") [.str z t, .ref y]) Q E s := by
  refine GQ.call_here F.slot_str_eq (typeIs_str s z t) F.entry_str_eq (F.args_str_eq_2 _ _) ?_
  obtain ⟨c, dd, dt, sl⟩ := oy
  cases hp
  obtain ⟨hh, gg, d, tt, os⟩ := s
  wp_walk using wpAny_loadPart' hy
  exact h
theorem str_refl {K : PySem.W.Frag} {y C g : Addr} {oy : Obj} {od : Option Obj} {z : Str} {t : Tok} {s : Shared} {Q : Value → Shared → Prop} (hu : A.units < cLine) (Y : K.In s.heap) (I : PySem.W.InstAt s.heap y oy C od) (hp : oy.data = .plain)
    (hsub : PySem.W.subIn K (.ref C) (.type "str") = some false) (hr : PySem.W.findIn K (.ref C) "__eq__" = some (some (.ref g))) (hg : PySem.W.isFn K (.ref g) = true)
    (h : wpAny (model prog w) A (call (.ref g) [.ref y, .str z t]) (PySem.W.CmpBack Q) E s) : wpAny (model prog w) A (richCompare .Eq (.str z t) (.ref y)) Q E s := by
  have one : wpAny (model prog w) A (tryCompare (.ref y) (cmpInfo .Eq).2.2 (.str z t)) (fun r s' => ∃ v, r = some v ∧ Q v s') E s := by
    unfold tryCompare
    refine wpAny_bind (PySem.W.ifBound_K Y I hr hg (wpAny_mono h (fun v s' hv => ?_) fun _ _ e => e))
    cases v <;> first | exact hv.elim | exact wpAny_pure ⟨_, rfl, hv⟩
  have h1 : oneThing? .Eq (.str z t) (.ref y) = none := rfl
  have hne : (Value.type "str" != Value.ref C) = true := rfl
  unfold richCompare
  simp only [h1]
  refine wpAny_holding (wpAny_bind (wpAny_cRoomFor hu ?_))
  refine wpAny_bind ((PySem.W.Looks.of_pure rfl : PySem.W.Looks (model prog w) s.heap (typeOf (.str z t)) (.type "str")).here (wpAny_bind (I.type.here ?_)))
  rw [hne]
  simp only [if_true]
  refine wpAny_bind ((PySem.W.looks_subIn Y hsub).here ?_)
  simp only [Bool.false_eq_true, if_false]
  refine wpAny_bind (wpAny_tryCompare_declines (typeIs_str _ _ _) F.slot_str_eq (str_cmp_eq I.at_ hp ⟨rfl, ?_⟩))
  simp only [Bool.not_false, if_true]
  refine wpAny_bind (wpAny_mono one (fun r s' z => ?_) fun _ _ e => e)
  obtain ⟨v, rfl, hq⟩ := z
  exact wpAny_pure hq
theorem eqBool_rs {z : Str} {tk : Tok} {l : Addr} {s : Shared} {Q : Bool → Shared → Prop}
    (h : wpAny (model prog w) A (richCompare .Eq (.str z tk) (.ref l)) (fun x s' => ∃ r, x = .bool r ∧ Q r s') E s) : wpAny (model prog w) A (eqBool (.str z tk) (.ref l)) Q E s := by
  unfold eqBool
  refine wpAny_holding (wpAny_ite_split (fun z => by cases (beq_iff_eq.mp z)) fun _ => wpAny_bind (wpAny_mono h ?_ fun _ _ x => x))
  rintro x s' ⟨r, rfl, q⟩
  exact wpAny_truthy_bool q
end
/-- x not in a tuple, none of whose items is equal to x -/
def rNotInB (D : V → V → Hp → Bool → Prop) : R2 := fun x y H Q => ∃ p xs, y = .ref p ∧ H p = some (.tup xs) ∧ (∀ z ∈ xs, D z x H false) ∧ ∀ H', Ext H H' → Q (.bl true) H'
theorem op_notInB {X : Cx} {n : Nat} {D : V → V → Hp → Bool → Prop} (hD : ∀ x y H H' b, Ext H H' → D x y H b → D x y H' b) (h : EqB X n D) (hr : Room (n + 1) X.A) : OpR X (compareOp .NotIn) (rNotInB D) := by
  intro pins s σ H x y v u Q I rx ry hq
  obtain ⟨p, xs, rfl, hp, hd, q⟩ := hq
  cases ry
  have sb : Sub X (n + 1) X.A := ⟨hr, rfl⟩
  obtain ⟨hz, its, rr, ho⟩ := (show ObjOk X.prog X.w H s.heap p (.tup xs) from I.hok p _ hp)
  obtain ⟨⟨cls, dd, data, sl⟩, ho, hc, k, hdat⟩ := ho
  simp only at hc hdat
  subst hc hdat
  show wpAny _ X.A (do return .bool (!(← contains (.ref p) v))) (EP X pins σ Q) X.xe s
  refine wpAny_bind (wpAny_contains_slot ⟨_, ho, rfl⟩ F.slot_tuple_contains (wpAny_mono (Q := fun c s' => c = .bool false ∧ LoopI X pins σ H s') (GQ.call_here F.slot_tuple_contains ⟨_, ho, rfl⟩ F.entry_tuple_contains (F.args_tuple_contains_2 _ _) ?_) (fun c s' hc => ?_) fun _ _ e => e))
  · refine tup_containsJ (R := wants (fun c s' => c = .bool false ∧ LoopI X pins σ H s') X.xe) p its.toArray k dd sl v (fun _ s' => LoopI X pins σ H s') (fun i u s' hi hJ => ?_) (fun _ _ s' j => j) (fun s' j => ⟨rfl, j⟩) ho ⟨H, I, Ext.rfl'⟩
    obtain ⟨H1, I1, e1⟩ := hJ
    have hi : its[i]? = some u := by simpa using hi
    obtain ⟨y, hy, ru⟩ : ∃ y, xs[i]? = some y ∧ RelV y u := by
      have lt : i < xs.length := by rw [rr.length]; exact (List.getElem?_eq_some_iff.mp hi).1
      obtain ⟨u', hu', ru⟩ := rr.get (List.getElem?_eq_getElem lt)
      rw [hi] at hu'
      cases hu'
      exact ⟨_, List.getElem?_eq_getElem lt, ru⟩
    refine wpAny_mono (h X.A.in1 pins s' σ H1 _ _ u v _ sb.in1 I1 ru rx (hD _ _ _ _ _ e1 (hd y (List.mem_of_getElem? hy)))) (fun r' s2 q' => ?_) fun _ _ x => x
    obtain ⟨hr', H2, I2, e2'⟩ := q'
    exact ⟨hr', H2, I2, e1.trans e2'⟩
  · obtain ⟨rfl, H', I', e⟩ := hc
    exact wpAny_truthy_bool (wpAny_pure ⟨.bl true, H', I', rfl, q H' e⟩)
end OwnNe
end

-- DxData
section
set_option Elab.async false
set_option linter.all false
set_option maxRecDepth 100000
/-! data of any depth, empty dicts among them. -/
namespace DX
open PySem PySem.Spec PyProof.Rows L2
mutual
inductive Dx (K : PySem.W.Frag) (l : Addr) (H : Hp) : V → PyData → Prop
  | non : Dx K l H .non .none
  | bl (b : Bool) : Dx K l H (.bl b) (.bool b)
  | int (i : Int) : Dx K l H (.int i) (.int i)
  | str (x : Str) : Dx K l H (.str x) (.str x)
  | lst {a : Addr} {xs : List V} {ds : List PyData} : a ≠ l → H a = some (.lst xs) → DxAll K l H xs ds → Dx K l H (.ref a) (.list ds)
  | tup {a : Addr} {xs : List V} {ds : List PyData} : H a = some (.tup xs) → DxAll K l H xs ds → Dx K l H (.ref a) (.tuple ds)
  | dct {a : Addr} : H a = some (.dK []) → Dx K l H (.ref a) (.dict [])
inductive DxAll (K : PySem.W.Frag) (l : Addr) (H : Hp) : List V → List PyData → Prop
  | nil : DxAll K l H [] []
  | cons {v : V} {vs : List V} {d : PyData} {ds : List PyData} : Dx K l H v d → DxAll K l H vs ds → DxAll K l H (v :: vs) (d :: ds)
end
mutual
theorem Dx.same {K : PySem.W.Frag} {l : Addr} {H H' : Hp} (s : Same H H') : ∀ (d : PyData) (v : V), Dx K l H v d → Dx K l H' v d
  | .none, _, h => by cases h; exact .non
  | .bool b, _, h => by cases h; exact .bl b
  | .int i, _, h => by cases h; exact .int i
  | .str x, _, h => by cases h; exact .str x
  | .list ds, _, h => by
    cases h with
    | lst h0 h1 h2 => exact .lst h0 (s _ _ h1) (DxAll.same s ds _ h2)
  | .tuple ds, _, h => by
    cases h with
    | tup h1 h2 => exact .tup (s _ _ h1) (DxAll.same s ds _ h2)
  | .dict _, _, h => by
    cases h with
    | dct h1 => exact .dct (s _ _ h1)
theorem DxAll.same {K : PySem.W.Frag} {l : Addr} {H H' : Hp} (s : Same H H') : ∀ (ds : List PyData) (vs : List V), DxAll K l H vs ds → DxAll K l H' vs ds
  | [], _, h => by cases h; exact .nil
  | d :: ds, _, h => by
    cases h with
    | cons h1 h2 => exact .cons (Dx.same s d _ h1) (DxAll.same s ds _ h2)
end
mutual
theorem Dx.move {K : PySem.W.Frag} {l : Addr} {H H' : Hp} {zs : List V} (s : ∀ b u, b ≠ l → H b = some u → H' b = some u) (hl : H l = some (.lst zs)) : ∀ (d : PyData) (v : V), Dx K l H v d → Dx K l H' v d
  | .none, _, h => by cases h; exact .non
  | .bool b, _, h => by cases h; exact .bl b
  | .int i, _, h => by cases h; exact .int i
  | .str x, _, h => by cases h; exact .str x
  | .list ds, _, h => by
    cases h with
    | lst h0 h1 h2 => exact .lst h0 (s _ _ h0 h1) (DxAll.move s hl ds _ h2)
  | .tuple ds, _, h => by
    cases h with
    | tup h1 h2 => exact .tup (s _ _ (fun e => by rw [e, hl] at h1; cases h1) h1) (DxAll.move s hl ds _ h2)
  | .dict _, _, h => by
    cases h with
    | dct h1 => exact .dct (s _ _ (fun e => by rw [e, hl] at h1; cases h1) h1)
theorem DxAll.move {K : PySem.W.Frag} {l : Addr} {H H' : Hp} {zs : List V} (s : ∀ b u, b ≠ l → H b = some u → H' b = some u) (hl : H l = some (.lst zs)) : ∀ (ds : List PyData) (vs : List V), DxAll K l H vs ds → DxAll K l H' vs ds
  | [], _, h => by cases h; exact .nil
  | d :: ds, _, h => by
    cases h with
    | cons h1 h2 => exact .cons (Dx.move s hl d _ h1) (DxAll.move s hl ds _ h2)
end
section
variable {X : Cx} {pins : List (Addr × Obj)} {σ : L2.St} {l : Addr} {H : Hp} {s : Shared}
mutual
theorem Dx.reads (I : Inv X pins σ H s) : ∀ (d : PyData) (v : V) (u : Value), Dx X.K l H v d → RelV v u → ∃ as, Reads s.heap u d as
  | .none, _, _, h, r => by
    cases h
    cases r
    exact ⟨_, Reads.none⟩
  | .bool b, _, _, h, r => by
    cases h
    cases r
    exact ⟨_, Reads.bool b⟩
  | .int i, _, _, h, r => by
    cases h
    obtain ⟨t, rfl⟩ := r
    exact ⟨_, Reads.int i t⟩
  | .str x, _, _, h, r => by
    cases h
    obtain ⟨t, rfl⟩ := r
    exact ⟨_, Reads.str x t⟩
  | .list ds, _, _, h, r => by
    cases h with
    | lst _ hs ha =>
      cases r
      obtain ⟨its, rv, ⟨o, n, ho, hc, _, hd⟩, _⟩ := I.list (SqL.of (K := X.K) hs)
      obtain ⟨as, hr⟩ := DxAll.reads I ds _ its ha rv
      exact ⟨_, Reads.list ho hc hd hr⟩
  | .tuple ds, _, _, h, r => by
    cases h with
    | tup hs ha =>
      cases r
      obtain ⟨its, rv, ⟨o, ho, hc, n, hd⟩, _⟩ := I.tuple (SqT.of (K := X.K) hs)
      obtain ⟨as, hr⟩ := DxAll.reads I ds _ its ha rv
      exact ⟨_, Reads.tuple ho hc hd hr⟩
  | .dict _, _, _, h, r => by
    cases h with
    | dct hs =>
      cases r
      obtain ⟨_, _, vs, kv, o, es, ep, ho, ex, hd, _, pr, _⟩ := dk_of I.hok hs
      cases kv
      have e : es.toList = [] := by
        cases hE : es.toList with
        | nil => rfl
        | cons x r => rw [hE] at pr; cases pr
      exact ⟨_, Reads.dict ho ex.1 hd (by rw [e]; exact ReadsAll.nil) (by rw [e]; exact ReadsAll.nil)⟩
theorem DxAll.reads (I : Inv X pins σ H s) : ∀ (ds : List PyData) (vs : List V) (us : List Value), DxAll X.K l H vs ds → Vals vs us → ∃ as, ReadsAll s.heap us ds as
  | [], _, _, h, r => by
    cases h
    cases r
    exact ⟨_, ReadsAll.nil⟩
  | d :: ds, _, _, h, r => by
    cases h with
    | cons h1 h2 =>
      cases r with
      | cons r1 r2 =>
        obtain ⟨as, q1⟩ := Dx.reads I d _ _ h1 r1
        obtain ⟨bs, q2⟩ := DxAll.reads I ds _ _ h2 r2
        exact ⟨_, ReadsAll.cons q1 q2⟩
end
end
theorem DxAll.len {K : PySem.W.Frag} {l : Addr} {H : Hp} : ∀ {vs : List V} {ds : List PyData}, DxAll K l H vs ds → vs.length = ds.length
  | _, _, .nil => rfl
  | _, _, .cons _ h => by rw [List.length_cons, List.length_cons, DxAll.len h]
theorem DxAll.at_ {K : PySem.W.Frag} {l : Addr} {H : Hp} : ∀ {vs : List V} {ds : List PyData} {i : Nat} {d : PyData}, DxAll K l H vs ds → ds[i]? = some d → ∃ v, vs[i]? = some v ∧ Dx K l H v d
  | _, _, 0, _, .cons h _, e => by cases e; exact ⟨_, rfl, h⟩
  | _, _, i + 1, _, .cons _ h, e => DxAll.at_ (i := i) h e
theorem DxAll.at2 {K : PySem.W.Frag} {l : Addr} {H : Hp} : ∀ {vs : List V} {ds : List PyData} {i : Nat} {v : V}, DxAll K l H vs ds → vs[i]? = some v → ∃ d, ds[i]? = some d ∧ Dx K l H v d
  | _, _, 0, _, .cons h _, e => by cases e; exact ⟨_, rfl, h⟩
  | _, _, i + 1, _, .cons _ h, e => DxAll.at2 (i := i) h e
theorem DxAll.append {K : PySem.W.Frag} {l : Addr} {H : Hp} : ∀ {vs us : List V} {ds es : List PyData}, DxAll K l H vs ds → DxAll K l H us es → DxAll K l H (vs ++ us) (ds ++ es)
  | _, _, _, _, .nil, h => h
  | _, _, _, _, .cons a b, h => .cons a (DxAll.append b h)
/-! ### shaped data, and its items -/
structure Sh (n : Nat) (d : PyData) : Prop where
  lay : d.canLay0 = true
  dep : d.depth ≤ n
theorem Sh.shaped {n : Nat} {d : PyData} (h : Sh n d) (le : n ≤ 64) : SeqAt.shaped d = true := by
  show (d.canLay0 && decide (d.depth ≤ 64)) = true
  rw [Bool.and_eq_true]
  exact ⟨h.lay, decide_eq_true (Nat.le_trans h.dep le)⟩
theorem Sh.mono {m n : Nat} {d : PyData} (h : Sh m d) (le : m ≤ n) : Sh n d := ⟨h.lay, Nat.le_trans h.dep le⟩
theorem lay_mem : ∀ {ds : List PyData}, PyData.canLayAll0 ds = true → ∀ d ∈ ds, d.canLay0 = true
  | [], _, _, h => nomatch h
  | x :: r, h, d, hd => by
    simp only [PyData.canLayAll0, Bool.and_eq_true] at h
    rcases List.mem_cons.mp hd with rfl | m
    · exact h.1
    · exact lay_mem h.2 d m
theorem dep_mem : ∀ {ds : List PyData} {d : PyData}, d ∈ ds → d.depth ≤ PyData.depthAll ds
  | x :: r, d, hd => by
    simp only [PyData.depthAll]
    rcases List.mem_cons.mp hd with rfl | m
    · omega
    · have := dep_mem m
      omega
theorem lay_all : ∀ {ds : List PyData}, (∀ d ∈ ds, d.canLay0 = true) → PyData.canLayAll0 ds = true
  | [], _ => by simp [PyData.canLayAll0]
  | x :: r, h => by
    simp only [PyData.canLayAll0, Bool.and_eq_true]
    exact ⟨h x List.mem_cons_self, lay_all fun d hd => h d (List.mem_cons_of_mem _ hd)⟩
theorem dep_all {n : Nat} : ∀ {ds : List PyData}, (∀ d ∈ ds, d.depth ≤ n) → PyData.depthAll ds ≤ n
  | [], _ => by simp [PyData.depthAll]
  | x :: r, h => by
    simp only [PyData.depthAll]
    have := h x List.mem_cons_self
    have := dep_all fun d hd => h d (List.mem_cons_of_mem _ hd)
    omega
theorem Sh.tup {n : Nat} {ds : List PyData} (h : ∀ d ∈ ds, Sh n d) : Sh (n + 1) (.tuple ds) := ⟨by simp only [PyData.canLay0]; exact lay_all fun d hd => (h d hd).lay, by
  have := dep_all fun d hd => (h d hd).dep
  simp only [PyData.depth]
  omega⟩
theorem Sh.lst {n : Nat} {ds : List PyData} (h : ∀ d ∈ ds, Sh n d) : Sh (n + 1) (.list ds) := ⟨by simp only [PyData.canLay0]; exact lay_all fun d hd => (h d hd).lay, by
  have := dep_all fun d hd => (h d hd).dep
  simp only [PyData.depth]
  omega⟩
theorem Sh.item {n : Nat} {ds : List PyData} (h : Sh n (.tuple ds)) : ∀ d ∈ ds, Sh n d := fun d hd => by
  have h1 := h.lay
  have h2 := h.dep
  simp only [PyData.canLay0] at h1
  simp only [PyData.depth] at h2
  have := dep_mem hd
  exact ⟨lay_mem h1 d hd, by omega⟩
section
variable {X : Cx}
def rEqX (K : PySem.W.Frag) : R2 := fun x y H Q => ∃ l l2 d e, Dx K l H x d ∧ Dx K l2 H y e ∧ SeqAt.shaped d = true ∧ SeqAt.shaped e = true ∧ Q (.bl (PyData.eqv d e)) H
def rNeX (K : PySem.W.Frag) : R2 := fun x y H Q => ∃ l l2 d e, Dx K l H x d ∧ Dx K l2 H y e ∧ SeqAt.shaped d = true ∧ SeqAt.shaped e = true ∧ Q (.bl (!PyData.eqv d e)) H
theorem op_eqX (hu : X.A.units + 64 < cLine) : OpR X (compareOp .Eq) (rEqX X.K) := by
  intro pins s σ H x y v u Q I rx ry h
  obtain ⟨l, l2, d, e, hd, he, sd, se, q⟩ := h
  obtain ⟨as, r1⟩ := Dx.reads I d x v hd rx
  obtain ⟨bs, r2⟩ := Dx.reads I e y u he ry
  exact SeqAt.compareEq_shaped r1 r2 sd se hu ⟨.bl _, H, I, rfl, q⟩
theorem op_neX (hu : X.A.units + 64 < cLine) : OpR X (compareOp .NotEq) (rNeX X.K) := by
  intro pins s σ H x y v u Q I rx ry h
  obtain ⟨l, l2, d, e, hd, he, sd, se, q⟩ := h
  obtain ⟨as, r1⟩ := Dx.reads I d x v hd rx
  obtain ⟨bs, r2⟩ := Dx.reads I e y u he ry
  exact SeqAt.compareNe_shaped r1 r2 sd se hu ⟨.bl _, H, I, rfl, q⟩
def rInTX (K : PySem.W.Frag) : R2 := fun x y H Q => ∃ l l2 d ds, Dx K l H x d ∧ Dx K l2 H y (.tuple ds) ∧ SeqAt.shaped d = true ∧ SeqAt.shaped (.tuple ds) = true ∧ Q (.bl (ds.any fun z => PyData.eqv z d)) H
theorem op_inTX (hu : X.A.units + 65 < cLine) : OpR X (compareOp .In) (rInTX X.K) := by
  intro pins s σ H x y v u Q I rx ry h
  obtain ⟨l, l2, d, ds, hd, he, sd, se, q⟩ := h
  obtain ⟨as, r1⟩ := Dx.reads I d x v hd rx
  obtain ⟨bs, r2⟩ := Dx.reads I (.tuple ds) y u he ry
  exact SeqAt.in_tuple_reads r2 r1 (SeqAt.canLay_of_shaped se) (SeqAt.canLay_of_shaped sd) (room_in_shaped sd hu) ⟨.bl _, H, I, rfl, q⟩
def rNotInX (K : PySem.W.Frag) : R2 := fun x y H Q => ∃ l l2 d ds, Dx K l H x d ∧ Dx K l2 H y (.list ds) ∧ SeqAt.shaped d = true ∧ SeqAt.shaped (.list ds) = true ∧ Q (.bl (!ds.any fun z => PyData.eqv z d)) H
theorem op_notInX (hu : X.A.units + 65 < cLine) : OpR X (compareOp .NotIn) (rNotInX X.K) := by
  intro pins s σ H x y v u Q I rx ry h
  obtain ⟨l, l2, d, ds, hd, he, sd, se, q⟩ := h
  obtain ⟨as, r1⟩ := Dx.reads I d x v hd rx
  obtain ⟨bs, r2⟩ := Dx.reads I (.list ds) y u he ry
  exact SeqAt.notIn_list_reads r2 r1 (SeqAt.canLay_of_shaped se) (SeqAt.canLay_of_shaped sd) (room_in_shaped sd hu) ⟨.bl _, H, I, rfl, q⟩
end
end DX
end

-- DxStr
section
set_option Elab.async false
set_option linter.all false
set_option maxRecDepth 100000
/-! == of a dict and a text, either way about. -/
namespace PySem.SeqAt
open PySem PySem.MeetsSeq
theorem dict_eq_declines_str (l : Addr) (es : Array DictEntry) (n : Nat) (dd : Option Addr) (sl : Array (Option Value)) (b : Str) (u : Tok) :
    Meets (Builtin.«dict.__eq__» ⟨[.ref l, .str b u], []⟩) (fun _ R s => s.heap.get? l = some { cls := .type "dict", dict := dd, data := .dict es n, slots := sl } ∧ R (.ok (.ret .notImplemented)) s) :=
  .of_wp fun prog w A R s h => by obtain ⟨hp, g, d, tk, os⟩ := s; obtain ⟨hl, h⟩ := h; have f1 := F.sub_str_dict; wp_walk using wpAny_loadPart' hl; exact ⟨_, rfl, h⟩
theorem str_eq_declines_dict (b : Str) (u : Tok) (l : Addr) (c : Value) (es : Array DictEntry) (n : Nat) (dd : Option Addr) (sl : Array (Option Value)) :
    Meets (Builtin.«str.__eq__» ⟨[.str b u, .ref l], []⟩) (fun _ R s => s.heap.get? l = some { cls := c, dict := dd, data := .dict es n, slots := sl } ∧ R (.ok (.ret .notImplemented)) s) :=
  .of_wp fun prog w A R s h => by obtain ⟨hp, g, d, tk, os⟩ := s; obtain ⟨hl, h⟩ := h; wp_walk using wpAny_loadPart' hl, wpAny_load hl; exact ⟨_, rfl, h⟩
section
variable {A : Around} {s : Shared}
theorem RcAt.dict_str {l : Addr} {o : Obj} {es : Array DictEntry} {n : Nat} (b : Str) (u : Tok) (ho : s.heap.get? l = some o) (hc : o.cls = .type "dict") (hd : o.data = .dict es n) (hu : A.units < cLine) : RcAt A s (.ref l) (.str b u) false := fun prog w E Q h => by
  obtain ⟨cls, dd, data, sl⟩ := o
  simp only at hc hd
  subst hc hd
  exact rc_eq_decline_or (k := false) ⟨_, ho, rfl⟩ (typeIs_str s b u) (by decide) F.sub_str_dict F.slot_dict_eq F.slot_str_eq_refl
    (fun _ hq => call_meets F.slot_dict_eq ⟨_, ho, rfl⟩ F.entry_dict_eq (F.args_dict_eq_2 _ _) (dict_eq_declines_str l es n dd sl b u) ⟨ho, hq⟩)
    (fun _ hq => call_meets F.slot_str_eq_refl (typeIs_str s b u) F.entry_str_eq (F.args_str_eq_2 _ _) (str_eq_declines_dict b u l (.type "dict") es n dd sl) ⟨ho, hq⟩)
    (fun _ hq => wpAny_of_eq (rfl : isSame (.ref l) (.str b u) = pure false) hq) (.inr hu) h
theorem EqAt.dict_str {l : Addr} {o : Obj} {es : Array DictEntry} {n : Nat} (b : Str) (u : Tok) (ho : s.heap.get? l = some o) (hc : o.cls = .type "dict") (hd : o.data = .dict es n) (hu : A.units < cLine) : EqAt A s (.ref l) (.str b u) false := fun prog w E Q h => by
  unfold eqBool
  refine wpAny_holding ?_
  refine wpAny_ite_split (fun hab => absurd (eq_of_beq hab) nofun) (fun _ => ?_)
  exact wpAny_bind (RcAt.dict_str b u ho hc hd hu prog w E _ (wpAny_truthy_bool h))
theorem RcAt.str_dict {l : Addr} {o : Obj} {es : Array DictEntry} {n : Nat} (b : Str) (u : Tok) (ho : s.heap.get? l = some o) (hc : o.cls = .type "dict") (hd : o.data = .dict es n) (hu : A.units < cLine) : RcAt A s (.str b u) (.ref l) false := fun prog w E Q h => by
  obtain ⟨cls, dd, data, sl⟩ := o
  simp only at hc hd
  subst hc hd
  exact rc_eq_decline_or (k := false) (typeIs_str s b u) ⟨_, ho, rfl⟩ (by decide) F.sub_dict_str F.slot_str_eq F.slot_dict_eq_refl
    (fun _ hq => call_meets F.slot_str_eq (typeIs_str s b u) F.entry_str_eq (F.args_str_eq_2 _ _) (str_eq_declines_dict b u l (.type "dict") es n dd sl) ⟨ho, hq⟩)
    (fun _ hq => call_meets F.slot_dict_eq_refl ⟨_, ho, rfl⟩ F.entry_dict_eq (F.args_dict_eq_2 _ _) (dict_eq_declines_str l es n dd sl b u) ⟨ho, hq⟩)
    (fun _ hq => wpAny_of_eq (rfl : isSame (.str b u) (.ref l) = pure false) hq) (.inr hu) h
theorem EqAt.str_dict {l : Addr} {o : Obj} {es : Array DictEntry} {n : Nat} (b : Str) (u : Tok) (ho : s.heap.get? l = some o) (hc : o.cls = .type "dict") (hd : o.data = .dict es n) (hu : A.units < cLine) : EqAt A s (.str b u) (.ref l) false := fun prog w E Q h => by
  unfold eqBool
  refine wpAny_holding ?_
  refine wpAny_ite_split (fun hab => absurd (eq_of_beq hab) nofun) (fun _ => ?_)
  exact wpAny_bind (RcAt.str_dict b u ho hc hd hu prog w E _ (wpAny_truthy_bool h))
end
end PySem.SeqAt
namespace DX
open PySem PySem.Spec PyProof.Rows L2 PySem.SeqAt
/-- data that may be held against texts -/
def Lk (d : PyData) : Prop := SeqAt.shaped d = true ∨ d = .dict []
noncomputable def eS (n : Str) : Value → Bool
  | .str m _ => decide (m = n)
  | _ => false
theorem eqv_sn (n : Str) : ∀ d : PyData, (∀ m, d ≠ .str m) → PyData.eqv d (.str n) = false
  | .str m, h => absurd rfl (h m)
  | .none, h => by simp [PyData.eqv]
  | .bool _, h => by simp [PyData.eqv]
  | .int _, h => by simp [PyData.eqv]
  | .list _, h => by simp [PyData.eqv]
  | .tuple _, h => by simp [PyData.eqv]
  | .dict _, h => by simp [PyData.eqv]
section
variable {X : Cx} {pins : List (Addr × Obj)} {σ : L2.St} {l : Addr} {H : Hp} {s : Shared}
theorem dct_at (I : L2.Inv X pins σ H s) {a : Addr} (h : H a = some (.dK [])) : ∃ o es ep, s.heap.get? a = some o ∧ o.cls = .type "dict" ∧ o.data = .dict es ep := by
  obtain ⟨_, _, vs, kv, o, es, ep, ho, ex, hd, _⟩ := dk_of I.hok h
  exact ⟨o, es, ep, ho, ex.1, hd⟩
theorem eS_at (I : L2.Inv X pins σ H s) {A : Around} (hu : A.units + 65 < cLine) (n : Str) (t : Tok) (hn : PyData.strOk n = true) {d : PyData} {v : V} {u : Value} (h : Dx X.K l H v d) (r : RelV v u) (lk : Lk d) : EqAt A s u (.str n t) (eS n u) ∧ eS n u = PyData.eqv d (.str n) := by
  have e : eS n u = PyData.eqv d (.str n) := by
    cases h with
    | str x =>
      obtain ⟨t', rfl⟩ := r
      show decide (x = n) = _
      simp only [PyData.eqv]
      rw [Bool.eq_iff_iff, beq_iff_eq, decide_eq_true_iff]
    | int i => obtain ⟨t', rfl⟩ := r; simp [eS, PyData.eqv]
    | non => cases r; simp [eS, PyData.eqv]
    | bl b => cases r; simp [eS, PyData.eqv]
    | lst _ _ _ => cases r; simp [eS, PyData.eqv]
    | tup _ _ => cases r; simp [eS, PyData.eqv]
    | dct _ => cases r; simp [eS, PyData.eqv]
  refine ⟨?_, e⟩
  rcases lk with lk | rfl
  · rw [e]
    obtain ⟨as, r1⟩ := Dx.reads I d v u h r
    exact eqAt_reads d (.str n) A s u (.str n t) _ _ r1 (Reads.str n t) (SeqAt.canLay_of_shaped lk) (by simp only [PyData.canLay0]; exact hn) (by
      have : min d.depth (PyData.depth (.str n)) ≤ 0 := by simp [PyData.depth]
      omega)
  · cases h with
    | dct hd =>
      cases r
      obtain ⟨o, es, ep, h1, h2, h3⟩ := dct_at I hd
      exact EqAt.dict_str n t h1 h2 h3 (by omega)
theorem eS_all (I : L2.Inv X pins σ H s) {A : Around} (hu : A.units + 65 < cLine) (n : Str) (t : Tok) (hn : PyData.strOk n = true) : ∀ {ds : List PyData} {vs : List V} {us : List Value}, DxAll X.K l H vs ds → Vals vs us → (∀ d ∈ ds, Lk d) →
    (∀ u ∈ us, EqAt A s u (.str n t) (eS n u)) ∧ us.any (eS n) = ds.any fun z => PyData.eqv z (.str n)
  | [], _, _, h, r, _ => by
    cases h
    cases r
    exact ⟨fun _ h => (nomatch h), rfl⟩
  | d :: ds, _, _, h, r, lk => by
    cases h with
    | cons h1 h2 =>
      cases r with
      | cons r1 r2 =>
        obtain ⟨a1, a2⟩ := eS_at I hu n t hn h1 r1 (lk d List.mem_cons_self)
        obtain ⟨b1, b2⟩ := eS_all I hu n t hn h2 r2 fun z hz => lk z (List.mem_cons_of_mem _ hz)
        exact ⟨fun u hu => (List.mem_cons.mp hu).elim (fun e => by rw [e]; exact a1) (b1 u), by rw [List.any_cons, List.any_cons, a2, b2]⟩
end
section
variable {X : Cx}
/-- a text in a tuple of anything -/
def rInS (K : PySem.W.Frag) : R2 := fun x y H Q => ∃ (l a : Addr) (n : Str) (xs : List V) (ds : List PyData), x = .str n ∧ y = .ref a ∧ H a = some (.tup xs) ∧ DxAll K l H xs ds ∧ (∀ d ∈ ds, Lk d) ∧ PyData.strOk n = true ∧ Q (.bl (ds.any fun z => PyData.eqv z (.str n))) H
theorem op_inS (hu : X.A.units + 66 < cLine) : OpR X (compareOp .In) (rInS X.K) := by
  intro pins s σ H x y v u Q I rx ry h
  obtain ⟨l, a, n, xs, ds, rfl, rfl, ha, dx, lk, hn, q⟩ := h
  obtain ⟨t, rfl⟩ := rx
  cases ry
  obtain ⟨its, rv, ⟨o, ho, hc, k, hd⟩, _⟩ := I.tuple (SqT.of (K := X.K) ha)
  obtain ⟨e1, e2⟩ := eS_all (A := X.A.in1) I (by show X.A.units + 1 + 65 < cLine; omega) n t hn dx rv lk
  refine in_tupleAt (eS n) ⟨_, ho, hc, _, hd⟩ (fun y hy => e1 y (by simpa using hy)) ?_
  rw [← Array.any_toList]
  show EP X pins σ Q (.bool (its.any (eS n))) s
  rw [e2]
  exact ⟨.bl _, H, I, rfl, q⟩
/-- anything in a tuple of texts -/
def rInT (K : PySem.W.Frag) : R2 := fun x y H Q => ∃ (l a : Addr) (d : PyData) (t : List Str), y = .ref a ∧ H a = some (.tup (t.map V.str)) ∧ Dx K l H x d ∧ Lk d ∧ (∀ n ∈ t, PyData.strOk n = true) ∧ Q (.bl ((t.map PyData.str).any fun z => PyData.eqv z d)) H
theorem dxs {K : PySem.W.Frag} {l : Addr} {H : Hp} : ∀ t : List Str, DxAll K l H (t.map V.str) (t.map PyData.str)
  | [] => .nil
  | x :: r => .cons (.str x) (dxs r)
theorem vals_strs : ∀ {t : List Str} {us : List Value}, Vals (t.map V.str) us → ∀ u ∈ us, ∃ n tk, u = .str n tk
  | [], _, h, _, hu => by
    cases h
    exact nomatch hu
  | x :: r, _, h, u, hu => by
    cases h with
    | cons h1 h2 =>
      obtain ⟨tk, rfl⟩ := h1
      rcases List.mem_cons.mp hu with rfl | m
      · exact ⟨x, tk, rfl⟩
      · exact vals_strs h2 u m
theorem op_inT (hu : X.A.units + 66 < cLine) : OpR X (compareOp .In) (rInT X.K) := by
  intro pins s σ H x y v u Q I rx ry h
  obtain ⟨l, a, d, t, rfl, ha, dx, lk, ok, q⟩ := h
  cases ry
  rcases lk with lk | rfl
  · obtain ⟨as, r1⟩ := Dx.reads I d x v dx rx
    obtain ⟨bs, r2⟩ := Dx.reads (l := l) I (.tuple (t.map PyData.str)) (.ref a) (.ref a) (.tup ha (dxs t)) rfl
    have lay : PyData.canLayAll0 (t.map PyData.str) = true := lay_all fun z hz => by
      obtain ⟨n, hn, rfl⟩ := List.mem_map.mp hz
      simp only [PyData.canLay0]
      exact ok n hn
    exact SeqAt.in_tuple_reads r2 r1 lay (SeqAt.canLay_of_shaped lk) (room_in_shaped lk (by omega)) ⟨.bl _, H, I, rfl, q⟩
  · cases dx with
    | dct hd =>
      cases rx
      obtain ⟨o, es, ep, h1, h2, h3⟩ := dct_at I hd
      obtain ⟨its, rv, ⟨o', ho, hc, k, hd'⟩, _⟩ := I.tuple (SqT.of (K := X.K) ha)
      have st := vals_strs rv
      refine in_tupleAt (fun _ => false) ⟨_, ho, hc, _, hd'⟩ (fun y hy => ?_) ?_
      · obtain ⟨n, tk, rfl⟩ := st y (by simpa using hy)
        exact EqAt.str_dict n tk h1 h2 h3 (by show X.A.units + 1 < cLine; omega)
      · have e : ((t.map PyData.str).any fun z => PyData.eqv z (.dict [])) = false := by
          rw [List.any_eq_false]
          intro z hz
          obtain ⟨n, _, rfl⟩ := List.mem_map.mp hz
          simp [PyData.eqv]
        rw [e] at q
        rw [show (its.toArray.any fun _ => false) = false from by simp]
        exact ⟨.bl _, H, I, rfl, q⟩
end
end DX
end

-- E3v
section
set_option Elab.async false
set_option linter.all false
set_option maxRecDepth 100000
set_option exponentiation.threshold 10000
namespace R1
open PySem L2 OwnOps OwnNe G1 RatM
abbrev sVal : Stmt := top 32
abbrev sTot : Stmt := top 36
abbrev sVR (j : Nat) : Stmt := inClass (top 35) j
/-- a ratio above 0, or a whole number above 0 -/
def Vp (C : Addr) (H : Hp) (v : V) (t b : Int) : Prop := Num C H v t b ∧ Vb t b
theorem Vp.same {C : Addr} {H H' : Hp} {v : V} {t b : Int} (h : Vp C H v t b) (e : Same H H') : Vp C H' v t b := ⟨h.1.same e, h.2⟩
/-- neither -/
def NoV (C : Addr) (H : Hp) (v : V) : Prop := Bd H v ∨ ∃ t b, Num C H v t b ∧ t ≤ 0
theorem NoV.same {C : Addr} {H H' : Hp} {v : V} (h : NoV C H v) (e : Same H H') : NoV C H' v := h.elim (fun h => .inl (h.same e)) fun ⟨t, b, h, l⟩ => .inr ⟨t, b, h.same e, l⟩
def spVal (C CN : Addr) : Sp := fun vs H Q E => ∃ v, vs = [v] ∧ ((∃ t b, Vp C H v t b ∧ ∀ r H', Same H H' → Rat C H' r t b → Q (.ref r) H') ∨ (NoV C H v ∧ ∀ d H', Same H H' → H' d = some (xd v) → E (.ref CN) (some d) H'))
theorem sm41 {x : Int} {n : Nat} (h : 0 ≤ x) (l : x ≤ 2 ^ 41) (n0 : 41 < n) : Sm n x := by
  have e : 2 ^ 42 ≤ 2 ^ n := Nat.pow_le_pow_right (by decide) n0
  unfold Sm
  have : (2 : Nat) ^ 41 < 2 ^ 42 := by decide
  have : x ≤ ((2 ^ 41 : Nat) : Int) := by simpa using l
  omega
theorem mkR_at {C CI CZ : Addr} {H : Hp} {W : VK} {E : XK} {x dx : Addr} {t b : Int} (hx : H x = none) (hd : H dx = none) (hb : b ≠ 0) (bs : Sm 5000 b) (k : ∀ H', Same H H' → Rat C H' x (nt t b) (nb t b) → W .non H') :
    spInit C CI CZ [.ref x, .int t, .int b] (upd (upd H dx (.own x)) x (.ins C dx [])) W E := by
  refine ⟨x, dx, .int t, .int b, rfl, upd_same, .int t, fun _ => .int b, .inr (.inr ⟨t, b, rfl, rfl, .inr ⟨hb, bs, ?_⟩⟩)⟩
  refine k _ (fun c o e => ?_) ⟨dx, upd_same⟩
  rw [upd_ne (ne_of_none e hx)]
  exact same_new hx hd c o e
theorem mkR_one {C CI CZ : Addr} {H : Hp} {W : VK} {E : XK} {x dx : Addr} {t : Int} (hx : H x = none) (hd : H dx = none) (k : ∀ H', Same H H' → Rat C H' x t 1 → W .non H') :
    spInit C CI CZ [.ref x, .int t, .int 1] (upd (upd H dx (.own x)) x (.ins C dx [])) W E :=
  mkR_at hx hd (by decide) (Nat.one_lt_two_pow (by decide)) fun H' s r => k H' s (by rw [(nt_one t).1, (nt_one t).2] at r; exact r)
/-- what the sum needs -/
structure Adds (P : Program) (w : World) (K : PySem.W.Frag) (mg : Str → Option Value) (base : Heap) (C CI : Addr) : Prop where
  add : Dun P w K mg base C (PySem.dunder "add") 6 ["self", "other"] (spAr C CI (fun t b t' b' => t * b' + t' * b) (fun t b t' b' => b * b'))
  radd : ∃ rc, PySem.W.findIn K (.ref C) (PySem.dunderR "add") = some rc ∧ (rc = none ∨ ∃ q : Addr, rc = some (.ref q))
theorem sm12 {x : Int} (h : x.natAbs < 2 ^ 340) : Sm 1200 x := Nat.lt_of_lt_of_le h (Nat.pow_le_pow_right (by decide) (by decide))
theorem vb_small {t b t' b' : Int} (h : Vb t' b') (b0 : 0 < b) (s1 : t.natAbs < 2 ^ 340) (s2 : b.natAbs < 2 ^ 340) : Small t b t' b' :=
  ⟨b0, h.b0, sm12 s1, sm12 s2, sm41 (Int.le_of_lt h.t0) h.t1 (by decide), sm41 (Int.le_of_lt h.b0) h.b1 (by decide)⟩
section
variable {P : Program} {w : World} {K : PySem.W.Frag} {mg : Str → Option Value} {base : Heap} {C CI fCI CZ fCZ CN fCN : Addr}
theorem ok_val {f : Addr} {fd : FuncData} (F : Fun K "value_of" "value_of" sVal f fd) (T : Txt K mg C CI fCI CZ fCZ) (M : Mak P w K mg base C CI CZ) (eN : PySem.Giv.ErrTxt K mg "NotPositive" "NotPositive.__init__" "ValueError.__new__" veT CN fCN)
    (GW : Glb P w K mg base "is_whole" 1 ["value"] (spWhole C)) : FnOk P w K mg base (L2.CX P w) 5 f fd ["value"] (spVal C CN) := by
  obtain ⟨fI, fdI, ds, mk, GI, b3, d2, b2⟩ := M.ex
  obtain ⟨fW, fdW, mW, kW, GW, bW⟩ := GW.ex
  have sc : FnScope ["value"] ["value"] (defScope sVal) := ⟨rfl, rfl, rfl, by decide +kernel, rfl, by decide +kernel, by decide +kernel⟩
  refine F.okX sc (fun vs H Q E h => ?_) (fun cdv A outer s H vs Q E hr h => ?_)
  · obtain ⟨v, rfl, _⟩ := h
    rfl
  · obtain ⟨v, rfl, k⟩ := h
    refine ⟨_, pss_cons (ps_if (PW.pt (pw_and (pt_val (pe_callB call_isi (by rfl) T.isi (by decide +kernel) (pa_cons (pv 0) (pa_cons (pe_glob (v := .ref C) (by rfl) T.gC rfl) pa_nil)))) (pw_and1 (pt_cmpR op_gt (pe_fld (pv 0) rfl) pe_int (nomark _)))))
        (pss_one (ps_ret (pe_make mk GI (hr.mono (by decide)) (by rfl) T.gC b3 .nil passL (pa_cons (pe_fld (pv 0) rfl) (pa_cons (pe_fld (pv 0) rfl) pa_nil))))) pss_nil)
      (pss_cons (ps_if (PW.pt (pw_or (pt_not (pt_val (pe_call GW (hr.mono (by decide)) (by rfl) mW kW bW .nil passL (pa_cons (pv 0) pa_nil)))) (pw_or1 (pt_cmpR op_le (pv 0) pe_int (nomark _)))))
        (pss_one (ps_raiseGiv rfl PySem.Giv.ok_VE eN hr (takes_of rfl rfl rfl rfl) (pa_cons (pv 0) pa_nil) (by rfl))) pss_nil)
      (pss_one (ps_ret (pe_make mk GI (hr.mono (by decide)) (by rfl) T.gC b2 d2 passL (pa_cons (pv 0) pa_nil))))), ?_⟩
    rcases k with ⟨t, b, ⟨nm, vb⟩, k⟩ | ⟨bd | ⟨t, b, nm, t0⟩, k⟩
    · rcases nm with ⟨q, rfl, dq, hq⟩ | ⟨rfl, rfl⟩
      · refine ⟨_, rfl, _, _, _, _, _, rfl, .own C, .base (.ins hq T.cl T.ha T.hn T.htk T.hm), T.kCC, _, rfl, if_pos' rfl ?_⟩
        refine ⟨_, rfl, q, C, dq, _, _, rfl, hq, T.cl, T.nT, flds_top _ _, _, _, rfl, rfl, _, rfl, if_pos' (decide_eq_true vb.t0) ?_⟩
        refine ⟨_, rfl, q, C, dq, _, _, rfl, hq, T.cl, T.nT, flds_top _ _, _, rfl, q, C, dq, _, _, rfl, hq, T.cl, T.nB, flds_bot _ _, ?_⟩
        exact mk_good (Int.ne_of_gt vb.b0) (sm41 (Int.le_of_lt vb.b0) vb.b1 (by decide)) fun p H' sm r => k p H' sm (by rw [vb.n1, vb.n2] at r; exact r)
      · refine ⟨_, rfl, _, _, _, _, _, rfl, .own C, .base (.int t), T.kiC, _, rfl, if_neg' rfl ?_⟩
        refine ⟨_, rfl, _, rfl, .int t, _, rfl, if_neg' rfl ⟨_, rfl, _, _, rfl, rfl, _, rfl, if_neg' (decide_eq_false (by have := vb.t0; omega)) ⟨_, rfl, ?_⟩⟩⟩
        exact mk_good (by decide) (Nat.one_lt_two_pow (by decide)) fun p H' sm r => k p H' sm (by rw [vb.n1, vb.n2] at r; exact r)
    · have fin : ∀ d, H d = none → E (.ref CN) (some d) (upd H d (xd v)) := fun d hd => k d _ (same_upd hd) upd_same
      cases bd with
      | bl b => exact ⟨_, rfl, _, _, _, _, _, rfl, .own C, .base (.bl b), T.kbC, _, rfl, if_neg' rfl ⟨_, rfl, _, rfl, .bl b, _, rfl, if_pos' rfl ⟨_, rfl, _, rfl, fin⟩⟩⟩
      | non => exact ⟨_, rfl, _, _, _, _, _, rfl, .own C, .base .non, T.knC, _, rfl, if_neg' rfl ⟨_, rfl, _, rfl, .non, _, rfl, if_pos' rfl ⟨_, rfl, _, rfl, fin⟩⟩⟩
      | str x => exact ⟨_, rfl, _, _, _, _, _, rfl, .own C, .base (.str x), T.ksC, _, rfl, if_neg' rfl ⟨_, rfl, _, rfl, .str x, _, rfl, if_pos' rfl ⟨_, rfl, _, rfl, fin⟩⟩⟩
      | lst e => exact ⟨_, rfl, _, _, _, _, _, rfl, .own C, .base (.lst e), T.klC, _, rfl, if_neg' rfl ⟨_, rfl, _, rfl, .lst e, _, rfl, if_pos' rfl ⟨_, rfl, _, rfl, fin⟩⟩⟩
      | tup e => exact ⟨_, rfl, _, _, _, _, _, rfl, .own C, .base (.tup e), T.ktC, _, rfl, if_neg' rfl ⟨_, rfl, _, rfl, .tup e, _, rfl, if_pos' rfl ⟨_, rfl, _, rfl, fin⟩⟩⟩
    · have fin : ∀ d, H d = none → E (.ref CN) (some d) (upd H d (xd v)) := fun d hd => k d _ (same_upd hd) upd_same
      rcases nm with ⟨q, rfl, dq, hq⟩ | ⟨rfl, rfl⟩
      · refine ⟨_, rfl, _, _, _, _, _, rfl, .own C, .base (.ins hq T.cl T.ha T.hn T.htk T.hm), T.kCC, _, rfl, if_pos' rfl ?_⟩
        refine ⟨_, rfl, q, C, dq, _, _, rfl, hq, T.cl, T.nT, flds_top _ _, _, _, rfl, rfl, _, rfl, if_neg' (decide_eq_false (by omega)) ?_⟩
        exact ⟨_, rfl, _, rfl, .ins hq, _, rfl, if_pos' rfl ⟨_, rfl, _, rfl, fin⟩⟩
      · refine ⟨_, rfl, _, _, _, _, _, rfl, .own C, .base (.int t), T.kiC, _, rfl, if_neg' rfl ?_⟩
        exact ⟨_, rfl, _, rfl, .int t, _, rfl, if_neg' rfl ⟨_, rfl, _, _, rfl, rfl, _, rfl, if_pos' (decide_eq_true t0) ⟨_, rfl, _, rfl, fin⟩⟩⟩
/-- n ratios, in a list -/
structure Rts (C : Addr) (H : Hp) (a : Addr) (T B : Nat → Int) (rs : List Addr) : Prop where
  at_ : H a = some (.lst (rs.map V.ref))
  is : ∀ (i : Nat) q, rs[i]? = some q → Rat C H q (T i) (B i)
  vb : ∀ i, i < rs.length → Vb (T i) (B i)
  few : rs.length ≤ 8
theorem Rts.same {C : Addr} {H H' : Hp} {a : Addr} {T B : Nat → Int} {rs : List Addr} (h : Rts C H a T B rs) (e : Same H H') : Rts C H' a T B rs := ⟨e _ _ h.at_, fun i q hi => (h.is i q hi).same e, h.vb, h.few⟩
def spTot (C : Addr) : Sp := fun vs H Q _ => ∃ a T B rs, vs = [.ref a] ∧ Rts C H a T B rs ∧ ∀ q H', Same H H' → Rat C H' q (sT T B (List.range rs.length)) (sB T B (List.range rs.length)) → Q (.ref q) H'
theorem ok_tot {f : Addr} {fd : FuncData} (F : Fun K "_total" "_total" sTot f fd) (T : Txt K mg C CI fCI CZ fCZ) (Z : Tys K C) (M : Mak P w K mg base C CI CZ) (AD : Adds P w K mg base C CI) : FnOk P w K mg base (L2.CX P w) 7 f fd ["values"] (spTot C) := by
  obtain ⟨fI, fdI, ds, mk, GI, b3, d2, b2⟩ := M.ex
  obtain ⟨_, _, aa, af, ak, Ga, ba⟩ := AD.add.ex
  have rA := AD.radd
  have sc : FnScope ["values", "total", "value"] ["values"] (defScope sTot) := ⟨rfl, rfl, rfl, by decide +kernel, rfl, by decide +kernel, by decide +kernel⟩
  refine F.okX sc (fun vs H Q E h => ?_) (fun cdv A outer s H vs Q E hr h => ?_)
  · obtain ⟨a, _, _, _, rfl, _⟩ := h
    rfl
  · obtain ⟨a, TT, BB, rs, rfl, R, k⟩ := h
    refine ⟨_, pss_cons (ps_set (i := 1) sc.nd rfl (Or.inl rfl) (pe_make mk GI (hr.mono (by decide)) (by rfl) T.gC b2 d2 passL (pa_cons pe_int pa_nil)))
      (pss_cons (ps_for passOwn rfl (pi_list (pv 0)) (pg_name (i := 2) sc.nd rfl (Or.inl rfl)) (pss_one (ps_set (i := 1) sc.nd rfl (Or.inl rfl) (pe_op (op := .Add) (op_ins (C := C) (E := E0) (op := .Add) ⟨aa, rA, af, Z.sf⟩ Ga (hr.mono (by decide)) ba passL) (pv 1) (pv 2)))))
      (pss_one (ps_ret (pv 1)))), ?_⟩
    intro q0 dq0 nq0 ndq0 neq0
    refine mkR_one (t := 0) nq0 ndq0 fun G2 s2 r2 => ⟨rfl, ?_⟩
    have haA := s2 _ _ R.at_
    refine ⟨_, rfl, a, rfl, ⟨_, SqL.of haA⟩, for_list (K := K) (a := a) (xs := rs.map V.ref) (fun j σ G' => (∃ tot v5, σ = [some (.ref a), some (.ref tot), v5] ∧ Rat C G' tot (sT TT BB (List.range j)) (sB TT BB (List.range j))) ∧ Same G2 G') ?_ ?_ ?_ ?_⟩
    · refine ⟨⟨q0, _, rfl, ?_⟩, fun _ _ e => e⟩
      rw [List.range_zero, s_nil.1, s_nil.2]
      exact r2
    · rintro j σ G' _ ⟨_, sG'⟩
      exact SqL.of (sG' _ _ haA)
    · rintro j x σ G' hx ⟨⟨tot, v5, rfl, rt⟩, sG'⟩
      obtain ⟨q, hq, rfl⟩ : ∃ q, rs[j]? = some q ∧ x = .ref q := by
        rw [List.getElem?_map] at hx
        cases e : rs[j]? with
        | none => rw [e] at hx; cases hx
        | some q => rw [e] at hx; cases hx; exact ⟨q, rfl, rfl⟩
      have hj : j < rs.length := (List.getElem?_eq_some_iff.mp hq).1
      obtain ⟨dxt, ht⟩ := id rt
      obtain ⟨dxs, hsx⟩ := (R.is j q hq).same (s2.trans sG')
      have few := R.few
      have mem : ∀ i ∈ List.range j, Vb (TT i) (BB i) := fun i m => R.vb i (by have := List.mem_range.mp m; omega)
      obtain ⟨p1, p2, p3⟩ := s_bnd (T := TT) (B := BB) (L := List.range j) (by rw [List.length_range]; omega) fun i m => (mem i m).bnd
      refine ⟨_, rfl, _, rfl, tot, dxt, _, rfl, ht, ⟨q, dxs, _, rfl, hsx⟩, tot, .ref q, _, _, rfl, ⟨dxt, ht⟩, .inl ⟨TT j, BB j, .inl ⟨q, rfl, ⟨dxs, hsx⟩⟩, vb_small (R.vb j hj) p1 p2 p3, fun r H' sH r3 => ?_⟩⟩
      have vj := R.vb j hj
      have ss4 := s_snoc (T := TT) (B := BB) (L := List.range j) (i := j) (fun i m => (mem i m).bnd) vj.b0 vj.n1 vj.n2
      rw [ss4.1, ss4.2, ← List.range_succ] at r3
      exact ⟨⟨r, _, rfl, r3⟩, sG'.trans sH⟩
    · rintro σ G' ⟨⟨tot, v5, rfl, rt⟩, sG'⟩
      rw [List.length_map] at rt
      exact ⟨_, rfl, k tot G' (s2.trans sG') rt⟩
end
end R1
end

-- CompX0
section
set_option Elab.async false
set_option linter.all false
set_option maxRecDepth 100000
/-! Comprehensions whose element may raise: what the model's node asks. -/
namespace CompX
open PySem PySem.Spec PyProof.Rows L2
theorem note_frame {x : Value} {e1 e2 : Env} (h : e1.frame = e2.frame) : noteFrame x e1 = noteFrame x e2 := by
  unfold noteFrame PySem.frameOf
  rw [h]
section
variable {M : Model} {A : Around} {E : Value → Shared → Prop} {s : Shared} {env : Env}
/-- behind the block: as compPost for what goes well; an exception is passed on from the block's own names -/
def postX (M : Model) (A : Around) (E : Value → Shared → Prop) (use : Option (Value → Sem Unit)) (Q : Value → Shared → Prop) (acc : Value) (cenv : Env) : Result → Shared → Prop
  | .ok f, s' => compPost M A E use Q acc cenv.locals (.ok f) s'
  | .error x, s' => ∃ m, s'.heap.Ns cenv.locals m ∧ ∀ h', Heap.SameBut cenv.locals s'.heap h' → wpAny M A (passOn "comprehension.variables-let-go" x cenv : Sem Value) (fun _ _ => False) E { s' with heap := h' }
theorem comp_node {e : Expr} {scope : Scope} {pos : Pos} {newAcc first : Sem Value} {g : Comprehension} {gs : List Comprehension} {cl : List (Str × Addr)} {use : Option (Value → Sem Unit)} {Q : Value → Shared → Prop}
    (hc : clausesOf e = g :: gs) (hf : ∀ x, foldedSetIterable g.iter env x = pure x) (ho : closureFor scope env = pure cl) (hk : scope.kind = .function) (hn : ∀ x ∈ scope.names, x.2 = .local → scope.names.lookup x.1 = some .local)
    (h : wpAny M A first (fun x s1 => wpAny M A (pyIter x) (fun it s2 => wpAny M A newAcc (fun acc s3 => wpAny M A (newFunctionEnv scope env.globals cl [] env.qual none .none (some env)) (fun cenv s4 =>
      codeAny M A (.compStart e 0 it acc { cenv with scope := relabel scope env }) (postX M A E use Q acc { cenv with scope := relabel scope env }) s4) E s3) E s2) E s1) E s) : wpAny M A (comprehension e scope env pos newAcc false first use) Q E s := by
  unfold comprehension
  rw [ho, hc]
  refine wpAny_bind (wpAny_mono h (fun x s1 h1 => ?_) fun _ _ q => q)
  refine wpAny_bind (wpAny_standAt (wpAny_bind (wpAny_of_eq (hf x) (wpAny_bind (wpAny_holding (wpAny_mono h1 (fun it s2 h2 => ?_) fun _ _ q => q))))))
  refine wpAny_standIf (wpAny_bind (wpAny_mono h2 (fun acc s3 h3 => ?_) fun _ _ q => q))
  refine wpAny_bind (wpAny_pure (wpAny_bind (wpAny_mono h3 (fun cenv s4 h4 => ?_) fun _ _ q => q)))
  dsimp only
  generalize hV : (scope.names.filter fun x => (x.2 == .local || x.2 == .cell) && x.1 != (".0" : Str)).reverse = vs
  have kd : ∀ x ∈ vs, x.2 = .local → Env.kindOf { cenv with scope := relabel scope env } x.1 = some .local := fun x hx hl => by
    subst hV
    exact lookup_relabel_local (hn x (List.mem_filter.mp (List.mem_reverse.mp hx)).1 hl)
  have kd2 : ∀ x ∈ vs.drop 1 ++ vs.take 1, x.2 = .local → Env.kindOf { cenv with scope := relabel scope env } x.1 = some .local := fun x hx hl =>
    (List.mem_append.mp hx).elim (fun z => kd x (List.mem_of_mem_drop z) hl) fun z => kd x (List.mem_of_mem_take z) hl
  refine wpAny_holding (wpAny_bind (wpAny_attempt (wpAny_holding (wpAny_run (codeAny_mono h4 fun r s' hr => ?_)))))
  cases r with
  | error x =>
    obtain ⟨m, ns, hr⟩ := hr
    refine wpAny_bind (wpAny_holding (wpAny_comp_letGo (cenv := { cenv with scope := relabel scope env }) hk _ s' m kd ns fun h' m' _ sb => ?_))
    exact wpAny_mono (hr h' sb) (fun _ _ z => z.elim) fun _ _ q => q
  | ok f =>
    cases use with
    | some u =>
      refine wpAny_bind (wpAny_rule (wpAny_bind (wpAny_holding (wpAny_mono hr (fun _ s2 hq => ?_) fun _ _ q => q))))
      obtain ⟨m, ns, hq⟩ := hq
      exact wpAny_bind (wpAny_comp_letGo (cenv := { cenv with scope := relabel scope env }) hk _ s2 m kd2 ns fun h' m' _ sb => wpAny_pure (hq h' sb))
    | none =>
      obtain ⟨m, ns, hq⟩ := hr
      exact wpAny_bind (wpAny_holding (wpAny_comp_letGo (cenv := { cenv with scope := relabel scope env }) hk _ s' m kd ns fun h' m' _ sb => wpAny_pure (hq h' sb)))
end
end CompX
end

-- CompX1
section
set_option Elab.async false
set_option linter.all false
set_option maxRecDepth 100000
/-! An exception of a comprehension's element: noted, the block's names let go, passed on. -/
namespace CompX
open PySem PySem.Spec PyProof.Rows L2 HandSPX
/-- an exception that X's own frame has noted -/
def XH (X : Cx) (W : WX) (u : Value) (s' : Shared) : Prop :=
  ∃ (a : Addr) (B : Heap) (sI : Shared) (σ : L2.St) (H : Hp) (cls : Value) (d : Option Addr), u = .ref a ∧ L2.Inv X [] σ H sI ∧ (∀ b o, sI.heap.get? b = some o → b ∉ frs X.stack → B.get? b = some o) ∧ sI.heap.UpToSlots s'.heap ∧
    HeldZ B X.stack a (Zc cls d) X.env.locals s'.heap ∧ H a = none ∧ s'.os = sI.os ∧ AllBare s'.gens ∧ W cls d σ H
theorem XH.xe {X : Cx} {W : WX} {u : Value} {s' : Shared} (h : XH X W u s') : XE X W u s' := by
  obtain ⟨a, B, sI, σ, H, cls, d, e, I, nb, up, hh, na, os, ag, w⟩ := h
  exact ⟨a, B, sI, [], σ, H, cls, d, e, I, nb, up, .inr (.inr hh), na, os, ag, w⟩
theorem xe_note {X : Cx} {W : WX} {u : Value} {s' : Shared} {E₁ : Value → Shared → Prop} {Q : Unit → Shared → Prop} (hs : X.stack = X.env :: X.outer) (hf : X.env.frame = some X.env.locals) (x : XE X W u s')
    (k : ∀ h1, XH X W u { s' with heap := h1 } → s'.heap.UpToSlots h1 → Q () { s' with heap := h1 }) : wpAny (model X.prog X.w) X.A (noteFrame u X.env) Q E₁ s' := by
  obtain ⟨a, B, sI, pins, σ, H, cls, d, rfl, I, nb, up, sky, na, os, ag, w⟩ := x
  have hfr : X.A.frames = some (X.env :: X.outer) := by rw [I.ok.frames, hs]
  have I0 : L2.Inv X [] σ H sI := L2.Inv.unpinned (pins := []) (by simpa using I)
  have fin : ∀ h1, HeldZ B (X.env :: X.outer) a (Zc cls d) X.env.locals h1 → s'.heap.UpToSlots h1 → Q () { s' with heap := h1 } := fun h1 hh u1 =>
    k h1 ⟨a, B, sI, σ, H, cls, d, rfl, I0, nb, up.trans u1, by rw [hs]; exact hh, na, os, ag, w⟩ u1
  rw [hs] at sky
  rcases sky with ⟨hB, hn, hl, oe, vs, he, hz, hd, h1⟩ | fl | hh
  · exact look_newZ Zc.steady hfr hl hf he hB hn hd h1 hz fin
  · exact looks_onZ Zc.steady hfr hf fl fin
  · exact againZ hf hh.2.2.2 (fin s'.heap hh (Heap.UpToSlots.refl _))
/-- what stands at C is not X's -/
structure Apart (X : Cx) (C : Addr) : Prop where
  loc : C ≠ X.env.locals
  fs : C ∉ X.fs
  ex : C ∈ X.ex ∨ X.s_0.heap.objs.size ≤ C
  cell : ∀ x c, X.env.cells.lookup x = some c → c ≠ C
  pn : ∀ p ∈ X.pn, p.1 ≠ C
theorem xh_but {X : Cx} {W : WX} {u : Value} {s' : Shared} {h' : Heap} {C : Addr} {m : Str → Option Value} (x : XH X (fun c d σ H => W c d σ H ∧ H C = none) u s') (ap : Apart X C) (ns : s'.heap.Ns C m) (sb : Heap.SameBut C s'.heap h') : XH X W u { s' with heap := h' } := by
  obtain ⟨a, B, sI, σ, H, cls, d, rfl, I, nb, up, ⟨f1, f2, f3, oe, vs, T, oT, ts, g1, g2, g3, g4, g5, g6, g7, g8, g9⟩, na, os, ag, w, hC⟩ := x
  obtain ⟨oC, es, ep, hoC, hdC, _⟩ := ns
  have neA : a ≠ C := fun z => by
    rw [z, hoC] at g1
    cases g1
    rw [hdC] at g3
    cases g3
  have neT : T ≠ C := fun z => by
    rw [z, hoC] at g7
    cases g7
    rw [hdC] at g8
    cases g8
  have nfr : C ∉ frs X.stack := fun z => (List.mem_cons.mp (I.stkSub C z)).elim ap.loc ap.fs
  obtain ⟨G, k1, k2⟩ := restrict sI.heap fun b => decide (b ≠ C)
  obtain ⟨B', l1, l2⟩ := restrict B fun b => decide (b ≠ C)
  have gG : ∀ b, b ≠ C → G.get? b = sI.heap.get? b := fun b n => k1 b (decide_eq_true n)
  have gC : G.get? C = none := k2 C (by simp)
  have gB : ∀ b, b ≠ C → B'.get? b = B.get? b := fun b n => l1 b (decide_eq_true n)
  have bC : B'.get? C = none := l2 C (by simp)
  have toB : ∀ b, B.get? b = none → B'.get? b = none := fun b e => by
    by_cases z : b = C
    · rw [z]; exact bC
    · rw [gB b z]; exact e
  refine ⟨a, B', { sI with heap := G }, σ, H, cls, d, rfl, ?_, fun b o e nf => ?_, fun b o e nd => ?_, ⟨fun b o e => ?_, toB a f2, ?_, oe, vs, T, oT, ts, (sb.2 a neA).trans g1, g2, g3, g4, toB T g5, g6, (sb.2 T neT).trans g7, g8, g9⟩, na, os, ag, w⟩
  · exact I.turned (t' := sI.toks) (fun b o n e => (gG b n).trans e) hC ap.loc ap.ex ap.cell fun p hp => ap.pn p (by simpa using hp)
  · have n : b ≠ C := fun z => by rw [z, gC] at e; cases e
    rw [gB b n]
    exact nb b o ((gG b n).symm.trans e) nf
  · have n : b ≠ C := fun z => by rw [z, gC] at e; cases e
    obtain ⟨sl, q⟩ := up b o ((gG b n).symm.trans e) nd
    exact ⟨sl, (sb.2 b n).trans q⟩
  · have n : b ≠ C := fun z => by rw [z, bC] at e; cases e
    exact (sb.2 b n).trans (f1 b o ((gB b n).symm.trans e))
  · have go : ∀ l : List Env, (∀ b ∈ frs l, b ≠ C) → s'.heap.FunFrames B l → h'.FunFrames B' l := fun l => by
      induction l with
      | nil => exact fun _ _ => trivial
      | cons e r ih =>
        rintro nf ⟨q1, ⟨L, o, q2, q3, q4, q5⟩, q6⟩
        have nL : L ≠ C := nf L (by simp [frs, q2])
        exact ⟨q1, ⟨L, o, q2, toB L q3, (sb.2 L nL).trans q4, q5⟩, ih (fun b hb => nf b (by
          simp only [frs, List.filterMap_cons] at hb ⊢
          rw [q2]
          exact List.mem_cons_of_mem _ hb)) q6⟩
    exact go X.stack (fun b hb z => nfr (z ▸ hb)) f3
theorem xh_pass {X : Cx} {W : WX} {u : Value} {s' : Shared} {cenv : Env} {what : String} (hf : cenv.frame = some X.env.locals) (tk : Takes X W) (x : XH X W u s') :
    wpAny (model X.prog X.w) X.A (PySem.passOn what u cenv : Sem Value) (fun _ _ => False) X.xe s' := by
  obtain ⟨a, B, sI, σ, H, cls, d, rfl, I, nb, up, hh, na, os, ag, w⟩ := x
  obtain ⟨oe, vs, T, oT, ts, g1, g2, g3, g4, g5, g6, g7, g8, g9⟩ := id hh.2.2.2
  unfold PySem.passOn
  refine wpAny_bind (wpAny_field g1 g3 g4 ?_)
  rw [if_neg (by simp), hf]
  refine wpAny_bind (setFlight_onZ hh fun h' hh' up' => ?_)
  exact wpAny_throw (tk _ _ ⟨a, B, sI, [], σ, H, cls, d, rfl, I, nb, up.trans up', .inr (.inr hh'), na, os, ag, w⟩)
end CompX
end

-- CompX2
section
set_option Elab.async false
set_option linter.all false
set_option maxRecDepth 100000
/-! A list comprehension whose element may raise. -/
namespace CompX
open PySem PySem.Spec PyProof.Rows L2 HandSPX
section
variable {X : Cx} {Eb : XK}
/-- what is in the air behind the element: a call's exception, the block's state ahead of it -/
def Air (X : Cx) (s3 : Shared) (H3 : Hp) (scope : Scope) (ce : Env) (fp : List Addr) (Eb : XK) : Value → Shared → Prop := fun u s' =>
  ∃ (pins : List (Addr × Obj)) (σ : L2.St) (H : Hp) (s : Shared), L2.Inv (X.blk s3 H3 scope ce fp) pins σ H s ∧ L2.CX X.prog X.w X.stack H s Eb u s'
theorem air_passes {s3 : Shared} {H3 : Hp} {scope : Scope} {ce : Env} {fp : List Addr} : Passes (L2.CX X.prog X.w) ((X.blk s3 H3 scope ce fp).wish (Air X s3 H3 scope ce fp Eb)) Eb := fun pins σ H s _ _ I c => ⟨pins, σ, H, s, I.unwish, c⟩
theorem air_lands {pins : List (Addr × Obj)} {σ : L2.St} {s3 s' : Shared} {H3 : Hp} {scope : Scope} {ce : Env} {fp : List Addr} {use : Option (Value → Sem Unit)} {Qf : Value → Shared → Prop} {acc u : Value} {E₁ : Value → Shared → Prop}
    (hs : X.stack = X.env :: X.outer) (hf : X.env.frame = some X.env.locals) (tk : Takes X fun c d _ H => Eb c d H) (I3 : L2.Inv X pins σ H3 s3) (hL : ce.locals = s3.heap.objs.size) (hF : ce.frame = X.env.frame)
    (f3 : ∀ b ∈ fp, FpOk X pins H3 b) (h : Air X s3 H3 scope ce fp Eb u s') :
    wpAny (model X.prog X.w) X.A (noteFrame u ce) (fun _ s2 => postX (model X.prog X.w) X.A X.xe use Qf acc ce (.error u) s2) E₁ s' := by
  obtain ⟨pins', σ', H9, s9, I9, a, B, H', cls, d, rfl, fl, hok, ub, na, os, ag, hE⟩ := h
  have IX : L2.Inv X pins σ H9 s9 := I3.call' (ch := fp) I9.os I9.base I9.hok I9.bare fun b hb =>
    let ⟨_, q1, _, q2, q3, q4⟩ := f3 b hb
    ⟨q2, q1, q3, q4⟩
  obtain ⟨m, ⟨oC, es, ep, c1, c2, c3⟩, _⟩ := I9.loc
  have c1 : s9.heap.get? ce.locals = some oC := c1
  have nC : H9 ce.locals = none := I9.free
  obtain ⟨_, p1, p2, p3, p4, p5⟩ : FpOk X pins H9 ce.locals := I3.fpOk (Nat.le_of_eq hL.symm) nC
  have ap : Apart X ce.locals := ⟨p1, p2, p3, p4, fun p hp => p5 p (List.mem_append_left _ hp)⟩
  have nfr : ce.locals ∉ frs X.stack := fun z => (List.mem_cons.mp (IX.stkSub _ z)).elim p1 p2
  have inS : s'.heap.Ns ce.locals m := ⟨oC, es, ep, fl.1 _ _ (ub.keep _ _ c1 nC nfr), c2, c3⟩
  have x : XE X (fun c d _ H => Eb c d H ∧ H ce.locals = none) (.ref a) s' := XE.of_call IX (E := fun c d H => Eb c d H ∧ H ce.locals = none) (fun _ _ _ h => h) ⟨a, B, H', cls, d, rfl, fl, hok, ub, na, os, ag, hE, ub.free _ _ c1 nC⟩
  rw [note_frame hF]
  refine xe_note hs hf x fun h1 xh up => ?_
  exact ⟨m, up.ns inS, fun h' sb => xh_pass (hF.trans hf) tk (xh_but (W := fun c d _ H => Eb c d H) xh ap (up.ns inS) sb)⟩
theorem lcX_core {pins : List (Addr × Obj)} {s : Shared} {σ : L2.St} {H : Hp} {Q : VK} {elt tg iter : Expr} {ifs : List Expr} {scope : Scope} {own : List (Str × Nat)} {pos pos' : Pos} {wi : TI} {g : TG} {tt : TT} {te : TE} {use : Option (Value → Sem Unit)} {Qf : Value → Shared → Prop}
    (hst : X.stack = X.env :: X.outer) (hfr : X.env.frame = some X.env.locals) (tk : Takes X fun c d _ H => Eb c d H) (calm : X.calm = true) (hN : X.N.Nodup) (I : L2.Inv X pins σ H s) (hi : PI X tg iter wi) (ok : BlkOk X.N X.env.scope scope own)
    (hg : ∀ s H C cl fp, PG (X.blk s H scope (compEnvC scope cl C X.env) fp) tg g) (ht : ∀ s H C cl fp, PTs (X.blk s H scope (compEnvC scope cl C X.env) fp) ifs tt)
    (he : ∀ s H C cl fp xe, Passes (L2.CX X.prog X.w) ((X.blk s H scope (compEnvC scope cl C X.env) fp).wish xe) Eb → PE ((X.blk s H scope (compEnvC scope cl C X.env) fp).wish xe) elt te) (hfold : ∀ x, foldedSetIterable iter X.env x = pure x)
    (h : tLc wi g tt te (own.map (·.2)) σ H Q)
    (fin : ∀ D C s' m H', L2.Inv X pins σ H' s' → Q (.ref D) H' → s'.heap.Ns C m → FpOk X pins H' C → compPost (model X.prog X.w) X.A X.xe use Qf (.ref D) C (.ok .next) s') :
    wpAny (model X.prog X.w) X.A (comprehension (.ListComp elt [⟨tg, iter, ifs, 0⟩] scope pos) scope X.env pos' (newList []) false (eval iter X.env) use) Qf X.xe s := by
  have free : ∀ y ∈ scope.names, y.2 = .free → ∃ c, X.env.cells.lookup y.1 = some c := fun y hy e =>
    (ok.free y hy e).elim (fun k => I.ok.has _ (.inl k)) fun k => I.ok.has _ (.inr k)
  refine comp_node (use := use) rfl hfold (closure_ok free) ok.kind (fun y hy e => by rw [ok.uniq y hy, e]) (L2.thn (hi.run pins s σ H _ I h) fun xv s1 hx => L2.thn hx fun itv s2 h2 => ?_)
  obtain ⟨it, fp, tn, J, H2, rfl, I2, T, st2, f2, q⟩ := h2
  refine wpAny_newObj_type (newEnv_comp ?_) (by show 0 ≤ sizeLine; decide)
  generalize hD : s2.heap.objs.size = D
  have nD : H2 D = none := I2.hok.fresh (Nat.le_of_eq hD)
  obtain ⟨W, ⟨m0, w0⟩, turn⟩ := q D nD
  generalize hs3 : ({ s2 with heap := s2.heap.push { cls := .type "list", data := .seq ([] : List Value).toArray } } : Shared) = s3
  have e3 : s3.heap = s2.heap.push { cls := .type "list", data := .seq ([] : List Value).toArray } := by subst hs3; rfl
  have I3 : L2.Inv X pins σ (upd H2 D (.lst [])) s3 := by
    subst hs3
    exact I2.laid (t' := s2.toks) (fun b o e => Heap.get?_push_of_some _ e) (Nat.le_of_eq hD) ⟨Nat.zero_le _, [], 0, .nil, by rw [← hD]; exact Heap.get?_push_size _ rfl⟩
  have small : ∀ b ∈ fp, b < s2.heap.objs.size := fun b hb => let ⟨o, e, _⟩ := T.obj _ _ st2 b hb; Heap.lt_size e
  have f3 : ∀ b ∈ fp, FpOk X pins (upd H2 D (.lst [])) b ∧ b < s3.heap.objs.size := fun b hb =>
    ⟨⟨by rw [upd_ne (by rw [← hD]; exact Nat.ne_of_lt (small b hb))]; exact (f2 b hb).1, (f2 b hb).2⟩, by rw [e3, Heap.size_push]; exact Nat.lt_succ_of_lt (small b hb)⟩
  have st3 : tn 0 s3.heap := T.keep _ _ _ st2 fun b _ o e => by rw [e3]; exact Heap.get?_push_of_some _ e
  have I4 := block_start I3 ok hN f3
  generalize hcl : cellsFrom (s3.heap.objs.size + 1) scope.names (cloFrom X.env.cells scope.names []) = cl at I4
  have pg := hg s3 (upd H2 D (.lst [])) s3.heap.objs.size cl fp
  have pt := ht s3 (upd H2 D (.lst [])) s3.heap.objs.size cl fp
  have pe := he s3 (upd H2 D (.lst [])) s3.heap.objs.size cl fp _ air_passes
  have fF : (compEnvC scope cl s3.heap.objs.size X.env).frame = X.env.frame := rfl
  have fL : (compEnvC scope cl s3.heap.objs.size X.env).locals = s3.heap.objs.size := rfl
  subst hcl
  show codeAny _ _ (.compStart (.ListComp elt [⟨tg, iter, ifs, 0⟩] scope pos) 0 (.ref it) (.ref D) (compEnvC scope (cellsFrom (s3.heap.objs.size + 1) scope.names (cloFrom X.env.cells scope.names [])) s3.heap.objs.size X.env))
    (postX (model X.prog X.w) X.A X.xe use Qf (.ref D) (compEnvC scope (cellsFrom (s3.heap.objs.size + 1) scope.names (cloFrom X.env.cells scope.names [])) s3.heap.objs.size X.env)) { s3 with heap := pushCells (s3.heap.push { cls := .type "dict", data := .dict #[] }) scope.names }
  generalize compEnvC scope (cellsFrom (s3.heap.objs.size + 1) scope.names (cloFrom X.env.cells scope.names [])) s3.heap.objs.size X.env = ce at I4 pg pt pe fF fL ⊢
  generalize hH3 : upd H2 D (.lst []) = H3 at I3 I4 pg pt pe w0 f3
  generalize hs4 : ({ s3 with heap := pushCells (s3.heap.push { cls := .type "dict", data := .dict #[] }) scope.names } : Shared) = s4 at I4 ⊢
  have st4 : tn 0 s4.heap := T.keep _ _ _ st3 fun b _ o e => by subst hs4; exact pushCells_keeps _ _ _ _ (Heap.get?_push_of_some _ e)
  have fps : ∀ {σ' : L2.St} {H' : Hp} {s' : Shared}, L2.Inv (X.blk s3 H3 scope ce fp) [] σ' H' s' → (∀ b ∈ fp, H' b = none) → ∀ b ∈ fp, FpOk (X.blk s3 H3 scope ce fp) [] H' b := fun {σ' H' s'} I' hn b hb =>
    ⟨hn b hb, (I'.ok.exf b hb).1, I'.ok.exfs b hb, .inl hb, (I'.ok.exf b hb).2, fun p hp => absurd (show p ∈ ([] : List (Addr × Obj)) ++ [] from hp) (by simp)⟩
  have loop : codeAny (model X.prog X.w) X.A (.compLoop (.ListComp elt [⟨tg, iter, ifs, 0⟩] scope pos) 0 (.ref it) (.ref D) ce) (postX (model X.prog X.w) X.A X.xe use Qf (.ref D) ce) s4 := by
    refine compLoop_any (fun n s' => ∃ i H', L2.Inv (X.blk s3 H3 scope ce fp) [] (wipe σ (own.map (·.2))) H' s' ∧ tn i s'.heap ∧ (∀ b ∈ fp, H' b = none) ∧ W i n H') ?_ m0 ⟨0, H3, I4, st4, fun b hb => (f3 b hb).1.1, w0⟩
    rintro n s5 ⟨i, H5, I5, st5, n5, w5⟩
    rcases turn i n H5 w5 with ⟨stop, qq⟩ | ⟨go, Nx, next, step⟩
    · refine thnF (T.done (X.blk s3 H3 scope ce fp) rfl rfl rfl calm i [] s5 _ H5 (fun _ _ => False) I5 (fps I5 n5) st5 stop) fun r s6 ⟨hr, I6⟩ => ?_
      subst hr
      have I7 : L2.Inv X pins σ H5 s6 := I3.call' (ch := fp) I6.os I6.base I6.hok I6.bare fun b hb => let ⟨_, q1, _, q2, q3, q4⟩ := (f3 b hb).1; ⟨q2, q1, q3, q4⟩
      obtain ⟨m, hn, _⟩ := I6.loc
      have nC : H5 ce.locals = none := I6.free
      exact fin D ce.locals s6 m H5 I7 qq hn (I3.fpOk (Nat.le_of_eq fL.symm) nC)
    · refine thnF (T.item (X.blk s3 H3 scope ce fp) rfl rfl rfl calm i [] s5 _ H5 (fun _ _ => False) I5 (fps I5 n5) st5 go) fun r s6 ⟨u, hr, h6⟩ => ?_
      subst hr
      refine thnF h6 fun _ s7 ⟨x, H7, I7, r7, y7, st7, n7⟩ => ?_
      have I7p := I7.pinned (fps I7 n7) (T.obj _ _ st7)
      refine thnF (pg.run _ s7 _ H7 x u _ I7p r7 (step x H7 y7)) fun _ s8 ⟨σ8, H8, I8, hw8, q8⟩ => ?_
      refine thnF (pt.run _ s8 σ8 H8 _ I8 q8) fun b s9 ⟨H9, I9, q9⟩ => ?_
      have again : ∀ {s' : Shared} {H' : Hp}, L2.Inv (X.blk s3 H3 scope ce fp) ([] ++ pinsAt fp s7.heap) σ8 H' s' → Nx H' → ∃ m, m < n ∧ ∃ i H', L2.Inv (X.blk s3 H3 scope ce fp) [] (wipe σ (own.map (·.2))) H' s' ∧ tn i s'.heap ∧ (∀ b ∈ fp, H' b = none) ∧ W i m H' := fun {s' H'} I' nx => by
        obtain ⟨m', hm, w'⟩ := next H' nx
        have stays : ∀ b ∈ fp, ∀ o, s7.heap.get? b = some o → s'.heap.get? b = some o ∧ H' b = none := fun b hb o e =>
          let z := I'.pin (b, o) (List.mem_append_right _ (List.mem_append_right _ (mem_pinsAt hb e)))
          ⟨z.1, z.2.1⟩
        refine ⟨m', hm, i + 1, H', (I'.unpinned (pins := [])).weak (by rw [← hw8, wipe_length]) (fun j v e => ?_), T.keep _ _ _ st7 fun b hb o e => (stays b hb o e).1, fun b hb => ?_, w'⟩
        · rw [← hw8] at e
          exact (wipe_some e).1
        · obtain ⟨o, e, _⟩ := T.obj _ _ st7 b hb
          exact (stays b hb o e).2
      cases b with
      | false =>
        simp only [Bool.false_eq_true, if_false] at q9 ⊢
        exact again I9 q9
      | true =>
        simp only [if_true] at q9 ⊢
        refine wpAny_mono (pe.run _ s9 σ8 H9 _ (I9.wish _) q9) (fun z s10 ⟨yv, H10, I10, r10, acc, hD10, hz10, nx⟩ => ?_) fun u s' air => ?_
        · exact app_ok (X := X.blk s3 H3 scope ce fp) I10.unwish hD10 hz10 r10 fun s11 I11 => again I11 nx
        · exact air_lands hst hfr tk I3 fL fF (fun b hb => (f3 b hb).1) air
  exact codeAny_compStart_list loop (T.self X.A 0 _ _ _ st4 loop)
end
end CompX
end

-- CompX3
section
set_option Elab.async false
set_option linter.all false
set_option maxRecDepth 100000
namespace CompX
open PySem PySem.Spec PyProof.Rows L2
section
variable {X : Cx} {Eb : XK}
/-- [elt for ..], an exception of the element's calls being wished for -/
theorem pe_lcX {elt tg iter : Expr} {ifs : List Expr} {scope : Scope} {own : List (Str × Nat)} {pos : Pos} {wi : TI} {g : TG} {tt : TT} {te : TE} (hst : X.stack = X.env :: X.outer) (hfr : X.env.frame = some X.env.locals) (tk : Takes X fun c d _ H => Eb c d H)
    (calm : X.calm = true) (hN : X.N.Nodup) (hi : PI X tg iter wi) (ok : BlkOk X.N X.env.scope scope own) (hg : ∀ s H C cl fp, PG (X.blk s H scope (compEnvC scope cl C X.env) fp) tg g) (ht : ∀ s H C cl fp, PTs (X.blk s H scope (compEnvC scope cl C X.env) fp) ifs tt)
    (he : ∀ s H C cl fp xe, Passes (L2.CX X.prog X.w) ((X.blk s H scope (compEnvC scope cl C X.env) fp).wish xe) Eb → PE ((X.blk s H scope (compEnvC scope cl C X.env) fp).wish xe) elt te) (hfold : ∀ x, foldedSetIterable iter X.env x = pure x := by intro _; rfl) :
    PE X (.ListComp elt [⟨tg, iter, ifs, 0⟩] scope pos) (tLc wi g tt te (own.map (·.2))) := ⟨fun pins s σ H Q I h => by
  rw [eval_ListComp]
  exact lcX_core hst hfr tk calm hN I hi ok hg ht he hfold h fun D C s' m H' I' q hn ⟨f0, f1, f2, f3, f4, f5⟩ => ⟨m, hn, fun h2 sb => ⟨.ref D, H', I'.turned (t' := s'.toks) (fun b o n e => (sb.2 b n).trans e) f0 f1 f3 f4 f5, rfl, q⟩⟩⟩
/-- y = [elt for ..] on one line, y a plain local -/
theorem ps_setLcX {i : Nat} {y : Str} {py : Pos} {elt tg iter : Expr} {ifs : List Expr} {scope : Scope} {own : List (Str × Nat)} {pos spos : Pos} {wi : TI} {g : TG} {tt : TT} {te : TE} (hst : X.stack = X.env :: X.outer) (hfr : X.env.frame = some X.env.locals) (tk : Takes X fun c d _ H => Eb c d H)
    (calm : X.calm = true) (hN : X.N.Nodup) (hy : X.N[i]? = some y) (hyl : X.env.scope.names.lookup y = some .local) (hsw : swapsWith (.ListComp elt [⟨tg, iter, ifs, 0⟩] scope pos) (some (.Name y py)) spos.line X.env = pure true) (hi : PI X tg iter wi) (ok : BlkOk X.N X.env.scope scope own)
    (hg : ∀ s H C cl fp, PG (X.blk s H scope (compEnvC scope cl C X.env) fp) tg g) (ht : ∀ s H C cl fp, PTs (X.blk s H scope (compEnvC scope cl C X.env) fp) ifs tt)
    (he : ∀ s H C cl fp xe, Passes (L2.CX X.prog X.w) ((X.blk s H scope (compEnvC scope cl C X.env) fp).wish xe) Eb → PE ((X.blk s H scope (compEnvC scope cl C X.env) fp).wish xe) elt te) (hfold : ∀ x, foldedSetIterable iter X.env x = pure x := by intro _; rfl) :
    PS X (.Assign [.Name y py] (.ListComp elt [⟨tg, iter, ifs, 0⟩] scope pos) spos) (tAsg (tLc wi g tt te (own.map (·.2))) (gName i)) := ⟨fun pins s σ H D I h => by
  rw [exec_Assign_Name_used _ _ _ _ hsw]
  refine wpAny_bind (wpAny_standAt (wpAny_bind ?_))
  have h' : tLc wi g tt te (own.map (·.2)) σ H (fun x H1 => gName i x σ H1 D.nx) := h
  refine wpAny_bind (L2.thn (lcX_core (use := some (assign (.Name y py) X.env)) (Qf := fun _ s' => SP X pins D .next s') hst hfr tk calm hN I hi ok hg ht he hfold h' fun L C s' m H' I' q hn ⟨f0, f1, f2, f3, f4, f5⟩ => ?_) fun _ s' hq => wpAny_pure (wpAny_pure hq))
  refine wpAny_assign_Name (store_ok2 (v := V.ref L) I' hN hy (.inl hyl) rfl (fun s2 I2 ⟨a, sb, ha⟩ => ?_) (.inr hyl))
  have ne : C ≠ a := ha.elim (fun z => by rw [z]; exact f1) fun z e => f4 y a z e.symm
  exact ⟨m, hn.sameBut sb ne, fun h3 sb3 => ⟨_, H', I2.turned (t' := s2.toks) (fun b o n e => (sb3.2 b n).trans e) f0 f1 f3 f4 f5, q⟩⟩⟩
end
end CompX
end

-- CallIns
section
set_option Elab.async false
set_option linter.all false
set_option maxRecDepth 100000
/-! f(e, ..), f a local name that holds an instance with its own __call__. -/
namespace G1
open PySem L2 StX PyProof.Rows
def tCallN (i : Nat) (C : Addr) (sp : Sp) (E : XK) (t : TA) : TE := fun σ H Q => ∃ a dx fs, σ[i]? = some (some (.ref a)) ∧ t σ H fun vs H1 => H1 a = some (.ins C dx fs) ∧ sp (V.ref a :: vs) H1 Q E
section
variable {X : Cx} {CX : CXT} {k i : Nat} {C g : Addr} {fd : FuncData} {ps : List Str} {sp : Sp} {E : XK} {x : Str} {p pos : Pos} {e : Expr} {es : List Expr} {t : TA}
theorem pe_callN (c : CallO X.K C g) (F : FnOk X.prog X.w X.K X.mg X.base CX k g fd ps sp) (hb : L2.Binds X.K fd ps []) (hr : Room k X.A) (hN : X.N[i]? = some x) (hv : Vis X.env.scope x) (hx : Passes CX X E) (ha : PA X (e :: es) t) (hdb : (x == ("__debug__" : Str)) = false := by decide) (hcd : (x == ("__classdict__" : Str)) = false := by decide)
    (he : starEach (e :: es) X.env = (false, eval e X.env) :: starEach es X.env := by rfl) (hpl : (backTo pos (starEach es X.env)).any (·.1) = false := by rfl) : PE X (.Call (.Name x p) (e :: es) [] pos) (tCallN i C sp E t) := by
  refine ⟨fun pins s σ H Q I ⟨a, dx, fs, hs, ht⟩ => wpAny_Call_Name_kw (L2.thn ((pe_var (pos := p) hN hv hdb hcd).run pins s σ H (fun v H1 => v = .ref a ∧ H1 = H) I ⟨.ref a, hs, rfl, rfl⟩) fun u s1 ⟨v, H1, I1, r1, ev, eH⟩ => ?_)⟩
  subst ev eH
  cases r1
  refine callO_with (L2.thn (ha.run pos pins s1 σ _ _ I1 ht) fun us s2 ⟨vs, H2, I2, r, hi, q2⟩ => ?_) he hpl
  obtain ⟨ox, od, J, hd⟩ := insC_at I2 (.inr ⟨dx, fs, hi⟩)
  exact ⟨⟨C, ox, od, J, hd⟩, run_callO c ((F.raw hb .nil).imp fun vs H Q E h => by rw [List.append_nil]; exact h) hr hx I2 (.inr ⟨dx, fs, hi⟩) r q2⟩
end
end G1
end

-- E3w
section
set_option Elab.async false
set_option linter.all false
set_option maxRecDepth 100000
set_option exponentiation.threshold 10000
namespace R1
open PySem L2 OwnOps OwnNe G1 RatM
/-- what is known of the class ValueRule -/
structure RTxt (K : PySem.W.Frag) (mg : Str → Option Value) (D CK fCK : Addr) : Prop where
  cl : Cls K D
  nW : NoAttr K D "word"
  gD : mg "ValueRule" = some (.ref D)
  eK : PySem.Giv.ErrTxt K mg "InvalidKind" "InvalidKind.__init__" "ValueError.__new__" veT CK fCK
  ha : PySem.W.findIn K (.ref D) "__class__" = some (some (.builtin "object.__class__"))
  hn : PySem.W.specialIn K (.builtin "object.__class__") "__get__" = some (some (.builtin "getset_descriptor.__get__"))
  htk : PySem.W.takesIn K (.builtin "object.__class__") = some true
  hm : PySem.W.mroIn K D (.type "object") = some true
  kDD : PySem.W.kitOne K (.ref D) (.ref D) = some true
  ksD : PySem.W.kitOne K (.type "str") (.ref D) = some false
def rf (w : Bool) : List (Str × V) := putF "word" (.str (wd w)) []
theorem rf_word (w : Bool) : (rf w).lookup ("word" : Str) = some (.str (wd w)) := by
  unfold rf
  rw [lookup_putF, if_pos rfl]
theorem rf_no (w : Bool) {m : Str} (h : ¬ m = "word") : (rf w).lookup m = none := by
  unfold rf
  rw [lookup_putF, if_neg h]
  all_goals rfl
def Rul (D : Addr) (H : Hp) (p : Addr) (w : Bool) : Prop := ∃ dx, H p = some (.ins D dx (rf w))
theorem Rul.same {D : Addr} {H H' : Hp} {p : Addr} {w : Bool} (h : Rul D H p w) (e : Same H H') : Rul D H' p w := let ⟨dx, q⟩ := h; ⟨dx, e _ _ q⟩
/-- values of many kinds -/
inductive Wv (C : Addr) (H : Hp) : V → Prop
  | bd {v : V} (h : Bd H v) : Wv C H v
  | int (i : Int) : Wv C H (.int i)
  | dct {a : Addr} (e : H a = some (.dK [])) : Wv C H (.ref a)
  | rat {q : Addr} {t b : Int} (r : Rat C H q t b) : Wv C H (.ref q)
theorem Wv.same {C : Addr} {H H' : Hp} {v : V} (h : Wv C H v) (e : Same H H') : Wv C H' v := by
  cases h with
  | bd h => exact .bd (h.same e)
  | int i => exact .int i
  | dct q => exact .dct (e _ _ q)
  | rat r => exact .rat (r.same e)
/-- a text that is not the other value -/
def WD (C : Addr) : V → V → Hp → Bool → Prop := fun x y H b => ∃ z, x = .str z ∧ b = false ∧ Wv C H y ∧ y ≠ .str z
theorem mon_WD {C : Addr} : ∀ x y H H' b, Ext H H' → WD C x y H b → WD C x y H' b := fun _ _ _ _ _ e ⟨z, h1, h2, h3, h4⟩ => ⟨z, h1, h2, h3.same e, h4⟩
section
variable {X : Cx} {C g : Addr} {fd : FuncData}
theorem eqB_WD (sS : PySem.W.subIn X.K (.ref C) (.type "str") = some false) (hs : PySem.W.findIn X.K (.ref C) "__eq__" = some (some (.ref g))) (hf : PySem.W.isFn X.K (.ref g) = true)
    (F : FnOk X.prog X.w X.K X.mg X.base (L2.CX X.prog X.w) 2 g fd ["self", "other"] (spEq C false)) (hb : L2.Binds X.K fd ["self", "other"] []) : EqB X 2 (WD C) := by
  intro A pins s σ H x y u v bb sb I rx ry d
  obtain ⟨z, rfl, rfl, wv, ne⟩ := d
  obtain ⟨tk, rfl⟩ := (show ∃ t, u = Value.str z t from rx)
  have fin : (fun (r : Bool) s' => r = false ∧ ∃ H', L2.Inv X pins σ H' s' ∧ Ext H H') false s := ⟨rfl, H, I, Ext.rfl'⟩
  have hu : A.units < cLine := sb.room.units0
  cases wv with
  | bd h =>
    cases h with
    | bl b => cases (show v = Value.bool b from ry); exact SeqAt.EqAt.str_bool z tk b X.prog X.w X.xe _ fin
    | non => cases (show v = Value.none from ry); exact SeqAt.EqAt.str_none z tk X.prog X.w X.xe _ fin
    | str x =>
      obtain ⟨t, rfl⟩ := (show ∃ t, v = Value.str x t from ry)
      have q := SeqAt.EqAt.str_str (A := A) (s := s) z tk x t
      have e : (z == x) = false := beq_eq_false_iff_ne.mpr fun e => ne (by rw [e])
      rw [e] at q
      exact q X.prog X.w X.xe _ fin
    | lst e =>
      cases (show v = Value.ref _ from ry)
      obtain ⟨_, _, n, _, h1⟩ := (show ObjOk X.prog X.w H s.heap _ (.lst _) from I.hok _ _ e)
      exact SeqAt.EqAt.str_list z tk ⟨_, h1, rfl, n, rfl⟩ hu X.prog X.w X.xe _ fin
    | tup e =>
      cases (show v = Value.ref _ from ry)
      obtain ⟨_, _, _, o, h1, h2, n, h3⟩ := (show ObjOk X.prog X.w H s.heap _ (.tup _) from I.hok _ _ e)
      exact SeqAt.EqAt.str_tuple z tk ⟨o, h1, h2, n, h3⟩ hu X.prog X.w X.xe _ fin
  | int i => obtain ⟨t, rfl⟩ := (show ∃ t, v = Value.int i t from ry); exact SeqAt.EqAt.str_int z tk i t X.prog X.w X.xe _ fin
  | dct e =>
    cases (show v = Value.ref _ from ry)
    obtain ⟨o, es, ep, h1, h2, h3⟩ := DX.dct_at I e
    exact SeqAt.EqAt.str_dict z tk h1 h2 h3 hu X.prog X.w X.xe _ fin
  | @rat q t b r =>
    obtain ⟨dq, hq⟩ := id r
    cases (show v = Value.ref _ from ry)
    have e := I.env0
    have e0 : Env0 X.prog X.w X.K X.mg X.base A X.stack s H := ⟨by rw [sb.fr]; exact e.frames, e.mod, e.bs, e.bsz, e.funs, e.frf, e.hok, e.bare⟩
    obtain ⟨od, J⟩ := inst_at I hq
    refine eqBool_rs (str_refl hu I.kIn J rfl sS hs hf ?_)
    refine wpAny_mono (run_any (us := [.ref q, .str z tk]) (vs := [.ref q, .str z]) (Q := fun v H' => v = .bl false ∧ Ext H H') (E := E0) F sb.room e0 hb passL I (.cons rfl (.cons ⟨tk, rfl⟩ .nil)) ⟨q, .str z, t, b, rfl, r, .inr (.inr ⟨.str z, rfl, Ext.rfl'⟩)⟩) (fun w s' got => ?_) fun _ _ x => x
    obtain ⟨z', H', I', rz', rfl, ex⟩ := id got
    cases (show w = Value.bool false from rz')
    exact ⟨false, rfl, rfl, H', I', ex⟩
end
/-- no word of a rule -/
def NoWd (C : Addr) (H : Hp) (v : V) : Prop := Wv C H v ∧ ∀ w, v ≠ .str (wd w)
def spVI (C D CK : Addr) : Sp := fun vs H Q E => ∃ (p dx : Addr) (v : V), vs = [.ref p, v] ∧ H p = some (.ins D dx []) ∧ ((∃ w, v = .str (wd w) ∧ ∀ H', Same H H' → Q .non (upd H' p (.ins D dx (rf w)))) ∨
  (NoWd C H v ∧ ∀ d H', Same H H' → H' d = some (xd v) → E (.ref CK) (some d) H'))
def spVEq (D : Addr) : Sp := fun vs H Q _ => ∃ p w v, vs = [.ref p, v] ∧ Rul D H p w ∧ ((∃ q w', v = .ref q ∧ Rul D H q w' ∧ Q (.bl (w == w')) H) ∨ (∃ z, v = .str z ∧ Q (.bl false) H))
theorem wd_wd (w w' : Bool) : decide (V.str (wd w) = V.str (wd w')) = (w == w') := by
  cases w <;> cases w' <;> first | exact decide_eq_true rfl | exact decide_eq_false (fun z => absurd (V.str.inj z) (by decide +kernel))
section
variable {P : Program} {w : World} {K : PySem.W.Frag} {mg : Str → Option Value} {base : Heap} {C CI fCI CZ fCZ CN fCN D CK fCK : Addr}
theorem ok_vi {f : Addr} {fd : FuncData} (F : Fun K "__init__" "ValueRule.__init__" (sVR 0) f fd) (U : RTxt K mg D CK fCK) (sS : PySem.W.subIn K (.ref C) (.type "str") = some false) (EQ : Dun P w K mg base C "__eq__" 2 ["self", "other"] (spEq C false)) :
    FnOk P w K mg base (L2.CX P w) 4 f fd ["self", "word"] (spVI C D CK) := by
  obtain ⟨g, gd, qa, qf, _, GQ, bQ⟩ := EQ.ex
  have sc : FnScope ["self", "word"] ["self", "word"] (defScope (sVR 0)) := ⟨rfl, rfl, rfl, by decide +kernel, rfl, by decide +kernel, by decide +kernel⟩
  refine F.okX sc (fun vs H Q E h => ?_) (fun cdv A outer s H vs Q E hr h => ?_)
  · obtain ⟨p, dx, v, rfl, _⟩ := h
    rfl
  · obtain ⟨p, dx, v, rfl, hp, k⟩ := h
    refine ⟨_, pss_cons (ps_if (pt_cmpR (op := .NotIn) (op_or (op_notInB (n := 2) mon_WD (eqB_WD (C := C) sS qa qf GQ bQ) hr) op_notIn_seq) (pv 1) (pe_tup (pa_cons pe_str (pa_cons pe_str pa_nil))) (by rfl))
        (pss_one (ps_raiseGiv rfl PySem.Giv.ok_VE U.eK hr (takes_of rfl rfl rfl rfl) (pa_cons (pv 1) pa_nil) (by rfl))) pss_nil)
      (pss_one (ps_fld (pv 0) (pv 1) rfl)), ?_⟩
    refine ⟨_, rfl, (by show 2 ≤ sizeLine; decide), fun tp np => ?_⟩
    have s0 := same_upd (o := .tup [.str "sum", .str "inverse"]) np
    have e0 : (upd H tp (.tup [.str "sum", .str "inverse"])) tp = some (.tup [.str "sum", .str "inverse"]) := upd_same
    generalize upd H tp (.tup [.str "sum", .str "inverse"]) = G at s0 e0 ⊢
    rcases k with ⟨w', rfl, k⟩ | ⟨⟨wv, nw⟩, k⟩
    · refine .inr ⟨tp, _, rfl, .inr (SqT.of e0), rfl, rfl, _, rfl, if_neg' (by cases w' <;> decide +kernel) ?_⟩
      exact ⟨_, rfl, _, rfl, p, D, dx, _, rfl, s0 _ _ hp, U.cl, U.nW, (by show 0 < 1000; decide), k G s0⟩
    · refine .inl ⟨tp, _, rfl, e0, fun z hz => ?_, fun H' ex => ⟨_, rfl, if_pos' rfl ⟨_, rfl, _, rfl, fun d hd => k d _ (s0.trans (Same.trans ex (same_upd hd))) upd_same⟩⟩⟩
      rcases List.mem_cons.mp hz with rfl | hz
      · exact ⟨_, rfl, rfl, wv.same s0, nw true⟩
      · rw [List.mem_singleton.mp hz]
        exact ⟨_, rfl, rfl, wv.same s0, nw false⟩
theorem ok_veq {f : Addr} {fd : FuncData} (F : Fun K "__eq__" "ValueRule.__eq__" (sVR 3) f fd) (T : Bi mg) (U : RTxt K mg D CK fCK) : FnOk P w K mg base (L2.CX P w) 1 f fd ["self", "other"] (spVEq D) := by
  have sc : FnScope ["self", "other"] ["self", "other"] (defScope (sVR 3)) := ⟨rfl, rfl, rfl, by decide +kernel, rfl, by decide +kernel, by decide +kernel⟩
  refine F.okX sc (fun vs H Q E h => ?_) (fun cdv A outer s H vs Q E hr h => ?_)
  · obtain ⟨p, w', v, rfl, _⟩ := h
    rfl
  · obtain ⟨p, w', v, rfl, ⟨dx, hp⟩, k⟩ := h
    refine ⟨_, pss_one (ps_ret (pe_and (pe_callB call_isi (by rfl) T.isi (by decide +kernel) (pa_cons (pv 1) (pa_cons (pe_glob (v := .ref D) (by rfl) U.gD rfl) pa_nil))) (pe_one (pe_cmpR op_eq (pe_fld (pv 0) rfl) (pe_fld (pv 1) rfl) (nomark _))))), ?_⟩
    rcases k with ⟨q, w2, rfl, ⟨dq, hq⟩, k⟩ | ⟨z, rfl, k⟩
    · refine ⟨_, rfl, _, _, _, _, _, rfl, .own D, .base (.ins hq U.cl U.ha U.hn U.htk U.hm), U.kDD, _, rfl, iteT ⟨_, rfl, p, D, dx, _, _, rfl, hp, U.cl, U.nW, rf_word _, _, rfl, q, D, dq, _, _, rfl, hq, U.cl, U.nW, rf_word _, rfl, ?_⟩⟩
      rw [wd_wd]
      exact k
    · exact ⟨_, rfl, _, _, _, _, _, rfl, .own D, .base (.str z), U.ksD, _, rfl, iteF k⟩
end
end R1
end

-- E3x
section
set_option Elab.async false
set_option linter.all false
set_option maxRecDepth 100000
set_option exponentiation.threshold 10000
namespace R1
open PySem L2 OwnOps OwnNe G1 RatM StX CompX
abbrev NA : List Str := ["self", "first", "rest", "values", "value"]
/-- the values are ratios above 0, in this order -/
def GoodV (C : Addr) (H : Hp) (xs : List V) (T B : Nat → Int) : Prop := ∀ (i : Nat) v, xs[i]? = some v → Vp C H v (T i) (B i)
/-- the k-th is none, those ahead are -/
def BadV (C : Addr) (H : Hp) (xs : List V) (k : Nat) (v : V) : Prop := (∀ (i : Nat) u, i < k → xs[i]? = some u → ∃ t b, Vp C H u t b) ∧ xs[k]? = some v ∧ NoV C H v
def spAll (C D CN : Addr) : Sp := fun vs H Q E => ∃ (p : Addr) (w : Bool) (xs : List V), vs = .ref p :: xs ∧ Rul D H p w ∧ 0 < xs.length ∧ xs.length ≤ 8 ∧
  ((∃ T B, GoodV C H xs T B ∧ ∀ q H', Same H H' → Rat C H' q (res w T B (List.range xs.length)).1 (res w T B (List.range xs.length)).2 → Q (.ref q) H') ∨
   (∃ k v, BadV C H xs k v ∧ ∀ d H', Same H H' → H' d = some (xd v) → E (.ref CN) (some d) H'))
/-- as the body meets it -/
def spAllB (C D CN : Addr) : Sp := fun vs H Q E => ∃ (p rp : Addr) (w : Bool) (x : V) (xs : List V), vs = [.ref p, x, .ref rp] ∧ Rul D H p w ∧ H rp = some (.tup xs) ∧ xs.length ≤ 7 ∧
  ((∃ T B, GoodV C H (x :: xs) T B ∧ ∀ q H', Same H H' → Rat C H' q (res w T B (List.range (xs.length + 1))).1 (res w T B (List.range (xs.length + 1))).2 → Q (.ref q) H') ∨
   (∃ k v, BadV C H (x :: xs) k v ∧ ∀ d H', Same H H' → H' d = some (xd v) → E (.ref CN) (some d) H'))
theorem Rts.of {C : Addr} {H : Hp} {D : Addr} {T B : Nat → Int} {rs : List Addr} (at_ : H D = some (.lst (rs.map V.ref))) (is : ∀ (i : Nat) q, rs[i]? = some q → Rat C H q (T i) (B i)) (vb : ∀ i, i < rs.length → Vb (T i) (B i)) (few : rs.length ≤ 8) : Rts C H D T B rs := ⟨at_, is, vb, few⟩
theorem is_next {C : Addr} {G H' : Hp} {T B : Nat → Int} {rs : List Addr} {r : Addr} (is : ∀ (i : Nat) q, rs[i]? = some q → Rat C G q (T i) (B i)) (sm : Same G H') (h : Rat C H' r (T rs.length) (B rs.length)) :
    ∀ (i : Nat) q, (rs ++ [r])[i]? = some q → Rat C H' q (T i) (B i) := fun i q hi => by
  by_cases lt : i < rs.length
  · rw [List.getElem?_append_left lt] at hi
    exact (is i q hi).same sm
  · rw [List.getElem?_append_right (by omega)] at hi
    have e : i = rs.length := by
      by_cases z : i - rs.length = 0
      · omega
      · rw [List.getElem?_eq_none (by show 1 ≤ _; omega)] at hi
        cases hi
    subst e
    rw [Nat.sub_self] at hi
    cases hi
    exact h
theorem is_put {C : Addr} {G : Hp} {D : Addr} {o : HO} {T B : Nat → Int} {rs : List Addr} {acc : List V} (is : ∀ (i : Nat) q, rs[i]? = some q → Rat C G q (T i) (B i)) (hD : G D = some (.lst acc)) : ∀ (i : Nat) q, rs[i]? = some q → Rat C (upd G D o) q (T i) (B i) := fun i q hi => by
  obtain ⟨dx, h⟩ := is i q hi
  refine ⟨dx, ?_⟩
  rw [upd_ne (fun z => by rw [z, hD] at h; cases h)]
  exact h
section
variable {P : Program} {w : World} {K : PySem.W.Frag} {mg : Str → Option Value} {base : Heap} {C CI fCI CZ fCZ CN fCN D CK fCK : Addr}
theorem ok_all {f : Addr} {fd : FuncData} (F : Fun K "all_of" "ValueRule.all_of" (sVR 2) f fd) (T : Txt K mg C CI fCI CZ fCZ) (U : RTxt K mg D CK fCK) (M : Mak P w K mg base C CI CZ) (GV : Glb P w K mg base "value_of" 5 ["value"] (spVal C CN)) (GT : Glb P w K mg base "_total" 7 ["values"] (spTot C))
    (OV : Dun P w K mg base C "over" 6 ["self", "other"] (spOver C CI CZ)) : FnR P w K mg base (L2.CX P w) 8 f (spAll C D CN) := by
  obtain ⟨fI, fdI, ds, mk, GI, b3, d2, b2⟩ := M.ex
  obtain ⟨_, _, mV, kV, GV, bV⟩ := GV.ex
  obtain ⟨_, _, mT, kT, GT, bT⟩ := GT.ex
  obtain ⟨_, _, oa, of, ok, Go, bo⟩ := OV.ex
  obtain ⟨oc, od, kVv, doc, pm, an, cdv, ct, osl, rfl, lk, hcd⟩ := F.ex
  have sc : FnScope NA ((["self", "first"] : List Str) ++ [("rest" : Str)]) (defScope (sVR 2)) := ⟨rfl, rfl, rfl, by decide +kernel, rfl, by decide +kernel, by decide +kernel⟩
  have hN := sc.nd
  have main := fn_star (CX := L2.CX P w) (P := P) (w := w) (mg := mg) (base := base) (k := 7) (ps := ["self", "first"]) (pv := "rest") (sp := spAllB C D CN) lk hcd sc cxUp
    (bind_star2 (p1 := "self") (p2 := "first") (pv := "rest") (B := fun us => bindArgs (PySem.W.fnOf "all_of" "ValueRule.all_of" (defArgs (sVR 2)) (defBody (sVR 2)) (defScope (sVR 2)) .none kVv doc pm an cdv ct) ⟨us, []⟩) (fun _ _ => rfl) (fun _ _ _ _ => rfl)) (fun A outer s H vs Q E hr h => ?_)
  · refine main.imp fun vs H Q E h => ?_
    obtain ⟨p, w', xs, rfl, ru, n0, n8, k⟩ := h
    cases xs with
    | nil => exact absurd n0 (by simp)
    | cons x xs =>
      simp only [List.length_cons] at n8 k
      refine ⟨[.ref p, x], xs, rfl, rfl, small1000 (by omega) |> Nat.le_of_lt, fun rp np => ?_⟩
      have s0 := same_upd (o := .tup xs) np
      refine ⟨p, rp, w', x, xs, rfl, ru.same s0, upd_same, by omega, ?_⟩
      rcases k with ⟨T, B, g, k⟩ | ⟨k', v, ⟨b1, b2, b3⟩, k⟩
      · exact .inl ⟨T, B, fun i v hi => (g i v hi).same s0, fun q H' sm => k q H' (s0.trans sm)⟩
      · exact .inr ⟨k', v, ⟨fun i u hi hu => let ⟨t, b, h⟩ := b1 i u hi hu; ⟨t, b, h.same s0⟩, b2, b3.same s0⟩, fun d H' sm => k d H' (s0.trans sm)⟩
  · obtain ⟨p, rp, w', x, xs, rfl, ⟨dx, hp⟩, hrp, n7, k⟩ := h
    refine ⟨_, pss_cons (ps_setLcX (i := 3) (own := [("value", 4)]) (g := gName 4) (tt := tYes) (te := tCall (spVal C CN) [] E (tCons (tVar 4) tNil)) (Eb := E) rfl rfl (takes_of rfl rfl rfl rfl) rfl hN rfl rfl (sw_true rfl rfl rfl (by decide +kernel))
          (pi_list (pe_lst (pa_cons (pv 1) (pa_star (pv 2) pa_nil)))) (blkOk_by (N := NA) (sc := defScope (sVR 2)) (by decide +kernel)) (fun _ _ _ _ _ => pg_name (i := 4) hN rfl (Or.inl rfl)) (fun _ _ _ _ _ => pts_nil)
          (fun _ _ _ _ _ _ hx => pe_call GV (hr.mono (by decide)) (by rfl) mV kV bV .nil hx (pa_cons (pv 4) pa_nil)))
      (pss_cons (ps_if (pt_cmpR op_eq (pe_fld (pv 0) rfl) pe_str (nomark _)) (pss_one (ps_ret (pe_call GT hr (by rfl) mT kT bT .nil passL (pa_cons (pv 3) pa_nil)))) pss_nil)
      (pss_one (ps_ret (pe_meth (E := E0) (pe_make mk GI (hr.mono (by decide)) (by rfl) T.gC b2 d2 passL (pa_cons pe_int pa_nil)) T.cl ⟨oa, of, ok⟩ Go (hr.mono (by decide)) bo .nil passL (pa_cons (pe_call GT hr (by rfl) mT kT bT .nil passL (pa_cons
        (pe_lc (own := [("value", 4)]) (g := gName 4) (tt := tYes) rfl hN (pi_list (pv 3)) (blkOk_by (N := NA) (sc := defScope (sVR 2)) (by decide +kernel)) (fun _ _ _ _ _ => pg_name (i := 4) hN rfl (Or.inl rfl)) (fun _ _ _ _ _ => pts_nil)
          (fun _ _ _ _ _ => pe_meth (E := E0) (pe_make mk GI (hr.mono (by decide)) (by rfl) T.gC b2 d2 passL (pa_cons pe_int pa_nil)) T.cl ⟨oa, of, ok⟩ Go (hr.mono (by decide)) bo .nil passL (pa_cons (pv 4) pa_nil))) pa_nil)) pa_nil))))), ?_⟩
    refine ⟨_, rfl, _, rfl, rp, xs, rfl, .inl (SqT.of hrp), (by show (x :: (xs ++ [])).length ≤ sizeLine; rw [List.append_nil]; exact Nat.le_of_lt (small1000 (by simp only [List.length_cons]; omega))), fun ia nia => ?_⟩
    have s1 : Same H (upd H ia (.lst (x :: (xs ++ [])))) := same_upd nia
    have e1 : (upd H ia (.lst (x :: (xs ++ [])))) ia = some (.lst (x :: xs)) := by rw [upd_same, List.append_nil]
    generalize upd H ia (.lst (x :: (xs ++ []))) = H1 at s1 e1 ⊢
    refine ⟨ia, rfl, ⟨_, SqL.of e1⟩, fun LA nLA => ?_⟩
    have big : ∀ j : Nat, j ≤ 8 → j < sizeLine := fun j hj => small1000 (by omega)
    rcases k with ⟨TT, BB, g, k⟩ | ⟨k', v, ⟨b1, b2, b3⟩, k⟩
    · refine lc_list (K := K) (a := ia) (xs := x :: xs) (fun j G => Same H1 G ∧ ∃ rs : List Addr, G LA = some (.lst (rs.map V.ref)) ∧ rs.length = j ∧ ∀ (i : Nat) q, rs[i]? = some q → Rat C G q (TT i) (BB i)) ⟨same_upd nLA, [], upd_same, rfl, fun i q h => by simp at h⟩
        (fun j G _ ⟨sm, _⟩ => SqL.of (sm _ _ e1)) (fun j y G hy ⟨sm, rs, hLA, len, is⟩ => ⟨rfl, yes_go ?_⟩) (fun G ⟨sm, rs, hLA, len, is⟩ => ?_)
      · have hj : j < (x :: xs).length := (List.getElem?_eq_some_iff.mp hy).1
        simp only [List.length_cons] at hj
        refine iteT ⟨_, rfl, y, rfl, .inl ⟨TT j, BB j, (g j y hy).same (s1.trans sm), fun r H' s' rr => ?_⟩⟩
        have hL' := s' _ _ hLA
        refine ⟨_, hL', by rw [List.length_map, len]; exact big j (by omega), same_put (sm.trans s') nLA, rs ++ [r], ?_, ?_, ?_⟩
        · rw [upd_same, List.map_append]
          rfl
        · rw [List.length_append, len]
          rfl
        · exact is_put (is_next is s' (by rw [len]; exact rr)) hL'
      · simp only [List.length_cons] at len
        have vb : ∀ i, i < rs.length → Vb (TT i) (BB i) := fun i hi => (g i _ (List.getElem?_eq_getElem (by simp only [List.length_cons]; omega))).2
        have R : Rts C G LA TT BB rs := ⟨hLA, is, vb, by omega⟩
        refine ⟨_, rfl, p, D, dx, _, _, rfl, (s1.trans sm) _ _ hp, U.cl, U.nW, rf_word _, rfl, _, rfl, if_eq' (wd_eq w') (fun e => ?_) (fun e => ?_)⟩
        · subst e
          refine ⟨_, rfl, LA, TT, BB, rs, rfl, R, fun q H' sm2 rr => k q H' ((s1.trans sm).trans sm2) ?_⟩
          rw [len] at rr
          exact rr
        · subst e
          intro x0 dx0 nx0 nd0 ne0
          refine mkR_one (t := 1) nx0 nd0 fun G1 sg1 r1 => ⟨rfl, ?_⟩
          obtain ⟨dx1, h1⟩ := id r1
          refine ⟨x0, dx1, _, rfl, h1, flds_no _ _ (by decide +kernel) (by decide +kernel), ?_⟩
          have hLA1 := sg1 _ _ hLA
          refine ⟨_, rfl, LA, rfl, ⟨_, SqL.of hLA1⟩, fun LB nLB => ?_⟩
          refine lc_list (K := K) (a := LA) (xs := rs.map V.ref) (fun j G' => Same G1 G' ∧ ∃ qs : List Addr, G' LB = some (.lst (qs.map V.ref)) ∧ qs.length = j ∧ ∀ (i : Nat) q, qs[i]? = some q → Rat C G' q (BB i) (TT i)) ⟨same_upd nLB, [], upd_same, rfl, fun i q h => by simp at h⟩
            (fun j G' _ ⟨sm', _⟩ => SqL.of (sm' _ _ hLA1)) (fun j y G' hy ⟨sm', qs, hLB, len', is'⟩ => ⟨rfl, yes_go ?_⟩) (fun G' ⟨sm', qs, hLB, len', is'⟩ => ?_)
          · obtain ⟨q, hq, rfl⟩ : ∃ q, rs[j]? = some q ∧ y = .ref q := by
              rw [List.getElem?_map] at hy
              cases e : rs[j]? with
              | none => rw [e] at hy; cases hy
              | some q => rw [e] at hy; cases hy; exact ⟨q, rfl, rfl⟩
            have hj : j < rs.length := (List.getElem?_eq_some_iff.mp hq).1
            have vj := vb j hj
            refine iteT ?_
            intro x2 dx2 nx2 nd2 ne2
            refine mkR_one (t := 1) nx2 nd2 fun G3 s3 r3 => ⟨rfl, ?_⟩
            obtain ⟨dx3, h3⟩ := id r3
            refine ⟨x2, dx3, _, rfl, h3, flds_no _ _ (by decide +kernel) (by decide +kernel), _, rfl, x2, .ref q, 1, 1, rfl, r3, .inl ⟨TT j, BB j, .inl ⟨q, rfl, (is j q hq).same ((sg1.trans sm').trans s3)⟩, vb_small vj (by decide) (Nat.one_lt_two_pow (by decide)) (Nat.one_lt_two_pow (by decide)), .inr ⟨Int.ne_of_gt vj.t0, fun r H' s' rr => ?_⟩⟩⟩
            rw [Int.one_mul, Int.one_mul, vj.sw.n1, vj.sw.n2] at rr
            have hL' := s' _ _ (s3 _ _ hLB)
            refine ⟨_, hL', by rw [List.length_map, len']; exact big j (by omega), same_put ((sm'.trans s3).trans s') nLB, qs ++ [r], ?_, ?_, ?_⟩
            · rw [upd_same, List.map_append]
              rfl
            · rw [List.length_append, len']
              rfl
            · exact is_put (is_next is' (s3.trans s') (by rw [len']; exact rr)) hL'
          · rw [List.length_map] at len'
            have mem : ∀ i ∈ List.range qs.length, Vb (BB i) (TT i) := fun i m => (vb i (by have := List.mem_range.mp m; omega)).sw
            refine ⟨LB, BB, TT, qs, rfl, ⟨hLB, is', fun i hi => (vb i (by omega)).sw, by omega⟩, fun q4 H4 s4 r4 => ?_⟩
            have rb := s_rb (T := BB) (B := TT) (L := List.range qs.length) (by rw [List.length_range]; omega) mem (by rw [len', len]; exact fun z => by simp [List.range_succ] at z)
            refine ⟨x0, .ref q4, 1, 1, rfl, r1.same (sm'.trans s4), .inl ⟨_, _, .inl ⟨q4, rfl, r4⟩, ⟨by decide, rb.b0, sm12 (Nat.one_lt_two_pow (by decide)), sm12 (Nat.one_lt_two_pow (by decide)), sm12 rb.t1, sm12 rb.b1⟩, .inr ⟨Int.ne_of_gt rb.t0, fun r H5 s5 r5 => k r H5 (((s1.trans sm).trans sg1).trans ((sm'.trans s4).trans s5)) ?_⟩⟩⟩
            rw [Int.one_mul, Int.one_mul, rb.sw.n1, rb.sw.n2] at r5
            rw [len', len] at r5
            exact r5
    · have hk : k' < (x :: xs).length := (List.getElem?_eq_some_iff.mp b2).1
      refine lc_list (K := K) (a := ia) (xs := x :: xs) (fun j G => Same H1 G ∧ j ≤ k' ∧ ∃ acc : List V, G LA = some (.lst acc) ∧ acc.length = j) ⟨same_upd nLA, Nat.zero_le _, [], upd_same, rfl⟩
        (fun j G _ ⟨sm, _⟩ => SqL.of (sm _ _ e1)) (fun j y G hy ⟨sm, jk, acc, hLA, len⟩ => ⟨rfl, yes_go ?_⟩) (fun G ⟨sm, jk, _⟩ => absurd jk (by omega))
      have sH := s1.trans sm
      by_cases lt : j < k'
      · obtain ⟨t, b, vp⟩ := b1 j y lt hy
        refine iteT ⟨_, rfl, y, rfl, .inl ⟨t, b, vp.same sH, fun r H' s' rr => ?_⟩⟩
        have hL' := s' _ _ hLA
        simp only [List.length_cons] at hk
        exact ⟨_, hL', by rw [len]; exact big j (by omega), same_put (sm.trans s') nLA, lt, _, upd_same, by rw [List.length_append, len]; rfl⟩
      · have e : j = k' := by omega
        subst e
        rw [b2] at hy
        cases hy
        exact iteT ⟨_, rfl, v, rfl, .inr ⟨b3.same sH, fun d H' s' hd => k d H' (sH.trans s') hd⟩⟩
end
end R1
end

-- E3y
section
set_option Elab.async false
set_option linter.all false
set_option maxRecDepth 100000
set_option exponentiation.threshold 10000
namespace R1
open PySem L2 OwnOps OwnNe G1 RatM StX CompX TryAs OwnTry
abbrev sRefd : Stmt := top 44
abbrev sNoR : Stmt := top 45
/-- an exception wished for at every state of n slots -/
def EN (n : Nat) (W : WX) : XK := fun cls d H' => ∀ t : L2.St, t.length = n → W cls d t H'
theorem pass_n {X : Cx} {W : WX} {n : Nat} (hn : X.N.length = n) (tk : Takes X W) : Passes (L2.CX X.prog X.w) X (EN n W) := by
  subst hn
  exact pass_all tk
theorem set1 {t : L2.St} (h : t.length = 2) (v : Option V) : (t.set 1 v)[1]? = some v := by
  rw [List.getElem?_set_self (by omega)]
theorem set2 {t : L2.St} (h : t.length = 3) (v : Option V) : (t.set 2 v)[2]? = some v := by
  rw [List.getElem?_set_self (by omega)]
def rLenS (K : PySem.W.Frag) : List V → Hp → VK → Prop := fun xs H Q => ∃ p ys, xs = [V.ref p] ∧ (SqL K H p ys ∨ SqT K H p ys) ∧ Q (V.int ys.length) H
/-- a method with a star parameter -/
structure DunR (P : Program) (w : World) (K : PySem.W.Frag) (mg : Str → Option Value) (base : Heap) (D : Addr) (nm : Str) (k : Nat) (sp : Sp) : Prop where
  ex : ∃ f : Addr, PySem.W.findIn K (.ref D) nm = some (some (.ref f)) ∧ PySem.W.isFn K (.ref f) = true ∧ PySem.W.keepIn K (.ref f) = true ∧ FnR P w K mg base (L2.CX P w) k f sp
/-- how a rule is made -/
structure MkV (P : Program) (w : World) (K : PySem.W.Frag) (mg : Str → Option Value) (base : Heap) (C D CK : Addr) : Prop where
  ex : ∃ (fI : Addr) (fd : FuncData), Mk K D fI ∧ FnOk P w K mg base (L2.CX P w) 4 fI fd ["self", "word"] (spVI C D CK) ∧ L2.Binds K fd ["self", "word"] []
/-- how a rule is called -/
structure ClV (P : Program) (w : World) (K : PySem.W.Frag) (mg : Str → Option Value) (base : Heap) (C D CN : Addr) : Prop where
  ex : ∃ (g : Addr) (fd : FuncData), CallO K D g ∧ FnOk P w K mg base (L2.CX P w) 9 g fd ["self", "one", "other"] (fun vs H Q E => ∃ p a b, vs = [.ref p, a, b] ∧ spAll C D CN vs H Q E) ∧ L2.Binds K fd ["self", "one", "other"] []
section
variable {P : Program} {w : World} {K : PySem.W.Frag} {mg : Str → Option Value} {base : Heap} {C CI fCI CZ fCZ CN fCN D CK fCK : Addr}
theorem ok_call {f : Addr} {fd : FuncData} (F : Fun K "__call__" "ValueRule.__call__" (sVR 1) f fd) (U : RTxt K mg D CK fCK) (AL : DunR P w K mg base D "all_of" 8 (spAll C D CN)) :
    FnOk P w K mg base (L2.CX P w) 9 f fd ["self", "one", "other"] (fun vs H Q E => ∃ p a b, vs = [.ref p, a, b] ∧ spAll C D CN vs H Q E) := by
  obtain ⟨_, aa, af, ak, GA⟩ := AL.ex
  have sc : FnScope ["self", "one", "other"] ["self", "one", "other"] (defScope (sVR 1)) := ⟨rfl, rfl, rfl, by decide +kernel, rfl, by decide +kernel, by decide +kernel⟩
  refine F.okX sc (fun vs H Q E h => ?_) (fun cdv A outer s H vs Q E hr h => ?_)
  · obtain ⟨p, a, b, rfl, _⟩ := h
    rfl
  · obtain ⟨p, a, b, rfl, h⟩ := h
    obtain ⟨p', w', xs, e, ⟨dx, hp⟩, _⟩ := id h
    cases e
    refine ⟨_, pss_one (ps_ret (pe_methR (pv 0) U.cl ⟨aa, af, ak⟩ GA hr (passes_call (takes_of rfl rfl rfl rfl) (fun _ _ _ _ z => z)) (pa_cons (pv 1) (pa_cons (pv 2) pa_nil)))), ?_⟩
    exact ⟨_, rfl, p, dx, _, rfl, hp, rf_no _ (by decide +kernel), _, rfl, _, rfl, h⟩
def spNoR (C : Addr) : Sp := fun vs H Q _ => ∃ v, vs = [v] ∧ NoWd C H v ∧ ∀ r H', Same H H' → H r = none → H' r = some (.lst [v]) → Q (.ref r) H'
theorem ok_nor {f : Addr} {fd : FuncData} (F : Fun K "_law_no_rule" "_law_no_rule" sNoR f fd) (U : RTxt K mg D CK fCK) (M : MkV P w K mg base C D CK) : FnOk P w K mg base (L2.CX P w) 6 f fd ["_law_word"] (spNoR C) := by
  obtain ⟨fI, fdI, mk, GI, bI⟩ := M.ex
  have sc : FnScope ["_law_word", "_law_e"] ["_law_word"] (defScope sNoR) := ⟨rfl, rfl, rfl, by decide +kernel, rfl, by decide +kernel, by decide +kernel⟩
  refine F.okX sc (fun vs H Q E h => ?_) (fun cdv A outer s H vs Q E hr h => ?_)
  · obtain ⟨v, rfl, _⟩ := h
    rfl
  · obtain ⟨v, rfl, nw, fin⟩ := h
    refine ⟨_, pss_cons (ps_try_all rfl rfl sc.nd (takes_of rfl rfl rfl rfl) (fun W pn xe tk _ => pss_one (ps_expr (pe_make (CX := L2.CX P w) (E := EN 2 W) mk GI hr (by rfl) U.gD bI .nil (pass_n rfl tk) (pa_cons (pv 0) pa_nil))))
        (Clauses.cons (i := 1) rfl rfl ⟨rfl, by decide, .inl U.eK.gC⟩ (fun a oe cls d pn hz hf => pss_one (ps_ret (pe_lst (pa_cons (pe_byGiv U.eK hz hf (pv 1)) pa_nil)))) Clauses.nil))
      (pss_one (ps_ret (pe_lst pa_nil))), ?_⟩
    refine ⟨_, rfl, ?_⟩
    intro x0 dx0 nx0 nd0 ne0
    have s0 := same_new (C := D) nx0 nd0
    refine ⟨x0, dx0, v, rfl, upd_same, .inr ⟨⟨nw.1.same s0, nw.2⟩, fun d H1 sm' hd t0 ht => ?_⟩⟩
    have sm := s0.trans sm'
    exact ⟨true, U.eK.te, fun _ a ha => ⟨_, set1 ht _, rfl, rfl, d, _, rfl, hd, (by show 1 ≤ sizeLine; decide), fun r nr => fin r _ (sm.trans (same_upd nr)) (sm.free nr) upd_same⟩, fun z => nomatch z⟩
def spRefd (C D : Addr) : Sp := fun vs H Q _ => ∃ (p a : Addr) (w : Bool) (xs : List V) (k : Nat) (v : V), vs = [.ref p, .ref a] ∧ Rul D H p w ∧ H a = some (.lst xs) ∧ ((∃ x y, xs = [x, y]) ∨ ∃ x y z, xs = [x, y, z]) ∧ BadV C H xs k v ∧
  ∀ r H', Same H H' → H r = none → H' r = some (.lst [v]) → Q (.ref r) H'
theorem ok_refd {f : Addr} {fd : FuncData} (F : Fun K "_law_refused" "_law_refused" sRefd f fd) (B : Bi mg) (U : RTxt K mg D CK fCK) (eN : PySem.Giv.ErrTxt K mg "NotPositive" "NotPositive.__init__" "ValueError.__new__" veT CN fCN)
    (AL : DunR P w K mg base D "all_of" 8 (spAll C D CN)) (CV : ClV P w K mg base C D CN) : FnOk P w K mg base (L2.CX P w) 10 f fd ["_law_rule", "_law_some"] (spRefd C D) := by
  obtain ⟨_, aa, af, ak, GA⟩ := AL.ex
  obtain ⟨_, _, cl, GC, bC⟩ := CV.ex
  have sc : FnScope ["_law_rule", "_law_some", "_law_e"] ["_law_rule", "_law_some"] (defScope sRefd) := ⟨rfl, rfl, rfl, by decide +kernel, rfl, by decide +kernel, by decide +kernel⟩
  refine F.okX sc (fun vs H Q E h => ?_) (fun cdv A outer s H vs Q E hr h => ?_)
  · obtain ⟨p, a, w', xs, k, v, rfl, _⟩ := h
    rfl
  · obtain ⟨p, a, w', xs, k, v, rfl, ru, ha, hx, bad, fin⟩ := h
    obtain ⟨dx, hp⟩ := id ru
    refine ⟨_, pss_cons (ps_try_all rfl rfl sc.nd (takes_of rfl rfl rfl rfl) (fun W pn xe tk _ => pss_one (ps_if (pt_cmpR op_eq (pe_callB (id := "len") (show CallR _ (.builtin "len") (rLenS K) from call_len_seq) (by rfl) B.len PySem.boot_len (pa_cons (pv 1) pa_nil)) pe_int (nomark _))
          (pss_one (ps_expr (pe_callN (CX := L2.CX P w) (i := 0) (E := EN 3 W) cl GC bC hr rfl (Or.inl rfl) (pass_n rfl tk) (pa_cons (pe_ix (show IxR _ (rIxL K) from ix_list) (pv 1) pe_int (fun _ _ => rfl)) (pa_cons (pe_ix (show IxR _ (rIxL K) from ix_list) (pv 1) pe_int (fun _ _ => rfl)) pa_nil)))))
          (pss_one (ps_expr (pe_methR (CX := L2.CX P w) (E := EN 3 W) (pv 0) U.cl ⟨aa, af, ak⟩ GA (hr.mono (by decide)) (pass_n rfl tk) (pa_cons (pe_ix (show IxR _ (rIxL K) from ix_list) (pv 1) pe_int (fun _ _ => rfl)) (pa_cons (pe_ix (show IxR _ (rIxL K) from ix_list) (pv 1) pe_int (fun _ _ => rfl)) (pa_cons (pe_ix (show IxR _ (rIxL K) from ix_list) (pv 1) pe_int (fun _ _ => rfl)) pa_nil))))))))
        (Clauses.cons (i := 2) rfl rfl ⟨rfl, by decide, .inl eN.gC⟩ (fun a oe cls d pn hz hf => pss_one (ps_ret (pe_lst (pa_cons (pe_byGiv eN hz hf (pv 2)) pa_nil)))) Clauses.nil))
      (pss_one (ps_ret (pe_lst pa_nil))), ?_⟩
    rcases hx with ⟨x, y, rfl⟩ | ⟨x, y, z, rfl⟩
    · refine ⟨_, rfl, a, _, rfl, .inl (SqL.of ha), rfl, _, rfl, if_pos' (decide_eq_true rfl) ?_⟩
      exact ⟨p, dx, _, rfl, _, rfl, a, _, _, _, rfl, rfl, SqL.of ha, at_of (j := 0) rfl rfl, _, rfl, a, _, _, _, rfl, rfl, SqL.of ha, at_of (j := 1) rfl rfl, hp, p, x, y, rfl, p, w', [x, y], rfl, ru, (by show 0 < 2; decide), (by show 2 ≤ 8; decide), .inr ⟨k, v, bad, fun d H1 sm hd t0 ht => ⟨true, eN.te, fun _ a ha => ⟨_, set2 ht _, rfl, rfl, d, _, rfl, hd, (by show 1 ≤ sizeLine; decide), fun r nr => fin r _ (sm.trans (same_upd nr)) (sm.free nr) upd_same⟩, fun z => nomatch z⟩⟩⟩
    · refine ⟨_, rfl, a, _, rfl, .inl (SqL.of ha), rfl, _, rfl, if_neg' (decide_eq_false (fun e => absurd (show (3 : Int) = 2 from V.int.inj e) (by decide))) ?_⟩
      exact ⟨_, rfl, p, dx, _, rfl, hp, rf_no _ (by decide +kernel), _, rfl, a, _, _, _, rfl, rfl, SqL.of ha, at_of (j := 0) rfl rfl, _, rfl, a, _, _, _, rfl, rfl, SqL.of ha, at_of (j := 1) rfl rfl, _, rfl, a, _, _, _, rfl, rfl, SqL.of ha, at_of (j := 2) rfl rfl, p, w', [x, y, z], rfl, ru, (by show 0 < 3; decide), (by show 3 ≤ 8; decide), .inr ⟨k, v, bad, fun d H1 sm hd t0 ht => ⟨true, eN.te, fun _ a ha => ⟨_, set2 ht _, rfl, rfl, d, _, rfl, hd, (by show 1 ≤ sizeLine; decide), fun r nr => fin r _ (sm.trans (same_upd nr)) (sm.free nr) upd_same⟩, fun z => nomatch z⟩⟩⟩
end
end R1
end

-- ReprD
section
set_option Elab.async false
set_option linter.all false
set_option maxRecDepth 100000
/-! repr(x) of None, a number, a text, and of data, where no repr is under way. -/
namespace ReprD
open PySem PySem.Spec PyProof.Rows L2 DX OwnOps
/-- a rule of two -/
theorem call_or {X : Cx} {f : Value} {r1 r2 : List V → Hp → VK → Prop} (h1 : CallR X f r1) (h2 : CallR X f r2) : CallR X f (fun xs H Q => r1 xs H Q ∨ r2 xs H Q) := fun pins s σ H xs us Q I r h => h.elim (h1 pins s σ H xs us Q I r) (h2 pins s σ H xs us Q I r)
/-- x is written t -/
inductive RepT (K : PySem.W.Frag) (H : Hp) : V → Str → Prop
  | non : RepT K H .non "None"
  | int (i : Int) (h : i.natAbs.log2 < 1920) : RepT K H (.int i) (toString i)
  | str (z : Str) (h : (reprText z).length ≤ sizeLine) : RepT K H (.str z) (reprText z)
  | dat {a l : Addr} {d : PyData} (h : Dx K l H (.ref a) d) (hs : d.showable = true) (nd : d.hasDict = false) (sm : d.shown.length ≤ sizeLine) (dp : d.depth ≤ 8) : RepT K H (.ref a) d.shown
  | dct {a : Addr} (h : H a = some (.dK [])) : RepT K H (.ref a) (PyData.dict []).shown
theorem RepT.same {K : PySem.W.Frag} {H H' : Hp} {x : V} {t : Str} (h : RepT K H x t) (e : Same H H') : RepT K H' x t := by
  cases h with
  | non => exact .non
  | int i h => exact .int i h
  | str z h => exact .str z h
  | dat h hs nd sm dp => exact .dat (h.same e) hs nd sm dp
  | dct h => exact .dct (e _ _ h)
theorem dct_len : (PyData.dict []).shown.length ≤ sizeLine := by decide +kernel
theorem call_reprD {X : Cx} (hg : X.A.guards = some []) (hu : X.A.units + 16 < cLine) : CallR X (.builtin "repr") (fun xs H Q => ∃ x t, xs = [x] ∧ RepT X.K H x t ∧ Q (.str t) H) := by
  intro pins s σ H xs us Q I r h
  obtain ⟨x, t, rfl, rt, q⟩ := h
  obtain ⟨u, rfl, ru⟩ := vals1 r
  have out : ∀ (t : Str), Q (.str t) H → ∀ h' (u : Tok) tk, (∀ b o, s.heap.get? b = some o → h'.get? b = some o) → EP X pins σ Q (.str t u) { s with heap := h', toks := tk } := fun t q h' u tk kp => ⟨.str t, H, I.kept (t' := tk) kp, ⟨u, rfl⟩, q⟩
  cases rt with
  | non => cases (show u = Value.none from ru); exact PySem.P.repr_of_none ⟨.str _, H, I.tok _, ⟨_, rfl⟩, q⟩
  | int i hz => obtain ⟨t, rfl⟩ := (show ∃ t, u = Value.int i t from ru); exact PySem.P.repr_of_int hz ⟨.str _, H, I.tok _, ⟨_, rfl⟩, q⟩
  | str z hz => obtain ⟨t, rfl⟩ := (show ∃ t, u = Value.str z t from ru); exact PySem.P.repr_of_str ⟨.str _, H, I.tok _, ⟨_, rfl⟩, q⟩ hz
  | @dat a l d hd hs nd sm dp =>
    obtain ⟨as, rd⟩ := Dx.reads I d _ u hd ru
    cases (show u = Value.ref a from ru)
    exact repr_of_reads' rd hs (fun z => by rw [nd] at z; cases z) hg (by omega) (fun _ _ e => e) (out _ q) sm
  | @dct a hd =>
    cases (show u = Value.ref a from ru)
    obtain ⟨_, low, vs, kv, o, es, ep, ho, ex, hdat, _, pr, _⟩ := dk_of I.hok hd
    cases kv
    have e : es.toList = [] := by
      cases hE : es.toList with
      | nil => rfl
      | cons x r => rw [hE] at pr; cases pr
    have rd : Reads s.heap (.ref a) (.dict []) (a :: [] ++ []) := Reads.dict ho ex.1 hdat (by rw [e]; exact ReadsAll.nil) (by rw [e]; exact ReadsAll.nil)
    have dp : (PyData.dict []).depth ≤ 2 := by decide +kernel
    refine repr_of_reads' rd (by decide +kernel) (fun _ z => ?_) hg (by omega) (fun _ _ e => e) (out _ q) dct_len
    have z : sysModules = a := by simpa using z
    rw [z] at low
    simp at low
end ReprD
end

-- FnGc
section
set_option Elab.async false
set_option linter.all false
set_option maxRecDepth 100000
/-! calls of what is promised where no repr is under way. -/
namespace FnGd
open PySem L2 OwnOps PyProof.Rows
section
variable {X : Cx} {k : Nat} {f : Addr} {fd : FuncData} {ps : List Str} {sp : Sp} {dvs : List V} {ds : List Value} {pins : List (Addr × Obj)} {σ : L2.St} {H : Hp} {s : Shared} {Q : VK} {us : List Value} {vs : List V}
theorem run_fnG (F : FnG X.prog X.w X.K X.mg X.base (L2.CX X.prog X.w) k f fd ps sp) (hr : Room k X.A) (gd : X.A.guards = some []) (hb : L2.Binds X.K fd ps ds) (hd : Vals dvs ds) (I : L2.Inv X pins σ H s) (r : Vals vs us) (q : sp (vs ++ dvs) H Q E0) : wpAny (model X.prog X.w) X.A (call (.ref f) us) (EP X pins σ Q) X.xe s := by
  have rel : Vals (vs ++ dvs) (us ++ ds) := r.append hd
  have b := hb s us I.kIn (by rw [← rel.length]; exact F.len _ _ _ _ q)
  refine wpAny_mono (Q := EP X pins σ Q) (E := X.xe) (wpAny_call (codeAny_mono (F.run X.A X.stack s H ⟨us, []⟩ (us ++ ds) (vs ++ dvs) Q E0 hr gd I.env0 b rel q) fun res s' got => ?_)) (fun w s' z => z) fun _ _ e => e
  match res, got with
  | .error e, got => exact passL _ _ _ _ _ _ I got
  | .ok (.ret u), got => exact I.after got
  | .ok .next, got => exact got.elim
  | .ok .brk, got => exact got.elim
  | .ok .cont, got => exact got.elim
/-- f(e, ..) -/
theorem pe_callG {x : Str} {p pos : Pos} {e : Expr} {es : List Expr} {t : TA} (F : FnG X.prog X.w X.K X.mg X.base (L2.CX X.prog X.w) k f fd ps sp) (hr : Room k X.A) (gd : X.A.guards = some []) (hg : Gl X x) (hm : X.mg x = some (.ref f)) (hk : PySem.W.keepIn X.K (.ref f) = true) (hb : L2.Binds X.K fd ps ds) (hd : Vals dvs ds) (ha : PA X (e :: es) t)
    (hdb : (x == Str.ofString "__debug__") = false := by decide) (he : starEach (e :: es) X.env = (false, eval e X.env) :: starEach es X.env := by rfl) (hpl : ((backTo pos (starEach es X.env)).any fun x => x.fst) = false := by rfl) :
    PE X ((Expr.Name x p).Call (e :: es) [] pos) (tCall sp dvs E0 t) :=
  ⟨fun pins s σ H Q I h => wpAny_Call_Name_kw (ld_glob I hg hm (PySem.W.callWith_K I.ok.mod.kin hk (thn (ha.run pos pins s σ H (fun vs H1 => sp (vs ++ dvs) H1 Q E0) I h) fun us s1 ⟨vs, H1, I1, r, q⟩ => ⟨I1.kIn, run_fnG F hr gd hb hd I1 r q⟩) he hpl) hdb)⟩
end
end FnGd
end

-- E3e
section
set_option Elab.async false
set_option linter.all false
set_option maxRecDepth 100000
set_option exponentiation.threshold 10000
namespace R1
open PySem L2 OwnOps OwnNe G1 RatM StX CompX TryAs OwnTry
/-- which of the nine classes an error of the sort k is an instance of -/
def bit (k i : Nat) : Bool := match k with
  | 0 => i == 0 || i == 1
  | 1 => i == 2 || i == 4
  | 2 => i == 5
  | 3 => i == 4
  | 4 => i == 6
  | _ => i == 7
def clsU (W : Addr) : Nat → Value
  | 0 => .ref W
  | 1 => .type "ValueError"
  | 2 => .type "KeyError"
  | 3 => .type "IndexError"
  | 4 => .type "LookupError"
  | 5 => .type "OverflowError"
  | 6 => .type "ZeroDivisionError"
  | 7 => .type "RuntimeError"
  | _ => .type "TypeError"
structure ErrK (K : PySem.W.Frag) (W C : Addr) (k : Nat) : Prop where
  kg : KitG K C
  kit : ∀ i, i < 9 → PySem.W.kitOne K (.ref C) (clsU W i) = some (bit k i)
/-- an error class of the sort k -/
structure ErrF (K : PySem.W.Frag) (mg : Str → Option Value) (W : Addr) (cn qn : Str) (newId : String) (bt : List Value) (k : Nat) : Prop where
  ex : ∃ C fI, PySem.Giv.ErrTxt K mg cn qn newId bt C fI ∧ ErrK K W C k
/-- an error of the sort k at e, v its given -/
def Er (K : PySem.W.Frag) (mg : Str → Option Value) (W : Addr) (H : Hp) (e : Addr) (k : Nat) (v : V) : Prop := ∃ C d, H e = some (ExG (.ref C) e d) ∧ H d = some (.xd [(("given" : Str), v)]) ∧ ErrK K W C k ∧
  ∃ cn qn newId bt fI, PySem.Giv.ErrTxt K mg cn qn newId bt C fI
theorem Er.same {K : PySem.W.Frag} {mg : Str → Option Value} {W : Addr} {H H' : Hp} {e : Addr} {k : Nat} {v : V} (h : Er K mg W H e k v) (s : Same H H') : Er K mg W H' e k v := let ⟨C, d, h1, h2, h3⟩ := h; ⟨C, d, s _ _ h1, s _ _ h2, h3⟩
section
variable {X : Cx} {W : Addr}
/-- Err(x), x in the slot i -/
theorem pe_err {cn qn x : Str} {newId : String} {bt : List Value} {k i r : Nat} {p pos p2 : Pos} (Z : PySem.Giv.BaseL newId bt) (F : ErrF X.K X.mg W cn qn newId bt k) (hr : Room r X.A) (hx : PE X (.Name x p2) (tVar i)) (hg : Gl X cn) (hdb : (cn == ("__debug__" : Str)) = false := by decide) :
    PE X (.Call (.Name cn p) [.Name x p2] [] pos) (fun σ H Q => ∃ v, σ[i]? = some (some v) ∧ ∀ e H', Same H H' → Er X.K X.mg W H' e k v → Q (.ref e) H') := by
  obtain ⟨C, fI, T, ek⟩ := F.ex
  have base := pe_mkGivL (p := p) (pos := pos) Z T hr (pa_cons hx pa_nil) hg hdb
  refine ⟨fun pins s σ H Q I ⟨v, hv, q⟩ => base.run pins s σ H Q I ⟨v, hv, v, rfl, fun e d he hd ne => q e _ (Same.trans (same_upd hd) (same_upd ?_)) ⟨C, d, upd_same, ?_, ek, cn, qn, newId, bt, fI, T⟩⟩⟩
  · rw [upd_ne (Ne.symm ne)]
    exact he
  · rw [upd_ne ne]
    exact upd_same
/-- err.given -/
theorem pe_givAny {e : Expr} {te : TE} {pos : Pos} (he : PE X e te) (hb : attributeBase e "given" X.env (eval e X.env) = eval e X.env := by rfl) :
    PE X (.Attribute e "given" pos) (fun σ H Q => te σ H fun x H1 => ∃ a k v, x = .ref a ∧ Er X.K X.mg W H1 a k v ∧ Q v H1) := by
  refine ⟨fun pins s σ H Q I h => attr_of hb (L2.thn (he.run pins s σ H _ I h) fun u s1 hh => ?_)⟩
  obtain ⟨x, H1, I1, rx, a, k, v, ex, ⟨C, d, ea, ed, ek, cn, qn, newId, bt, fI, T⟩, q⟩ := hh
  subst ex
  cases (show u = Value.ref a from rx)
  obtain ⟨⟨oe, vs, ha, hz, hd, h1⟩, _, _⟩ := (show ObjOk X.prog X.w H1 s1.heap a (ExG (.ref C) a d) from I1.hok a _ ea)
  obtain ⟨mA, hns, hr⟩ := (show ObjOk X.prog X.w H1 s1.heap d (.xd [(("given" : Str), v)]) from I1.hok d _ ed)
  obtain ⟨od, ho, hl⟩ := lookIn_ns hns
  have l : List.lookup ("given" : Str) [(("given" : Str), v)] = some v := by simp [List.lookup]
  obtain ⟨u, hu, ru⟩ := RelO.some_of (v := v) (o := mA "given") (by rw [← l]; exact hr "given")
  have J : PySem.W.InstAt s1.heap a oe C (some od) := ⟨ha, hz.1, by unfold PySem.W.notCls; rw [hd] <;> rfl, by rw [hz.2]; exact ho⟩
  exact HandSPX.exc_get I1.kIn J T.ga T.gg T.exC (PySem.W.findObj_own T.hdC T.noN rfl (by rw [hl, hu])) (handed_of ru) ⟨v, H1, I1.tok _, ru, q⟩
end
/-- the built-in errors' names -/
structure Bx (mg : Str → Option Value) : Prop where
  ve : mg "ValueError" = none
  ke : mg "KeyError" = none
  ie : mg "IndexError" = none
  le : mg "LookupError" = none
  oe : mg "OverflowError" = none
  zd : mg "ZeroDivisionError" = none
  re : mg "RuntimeError" = none
  te : mg "TypeError" = none
def bitsV (k : Nat) : List V := (List.range 9).map fun i => V.bl (bit k i)
abbrev sBas : Stmt := top 42
section
variable {P : Program} {w : World} {K : PySem.W.Frag} {mg : Str → Option Value} {base : Heap} {W : Addr}
def spBas (K : PySem.W.Frag) (mg : Str → Option Value) (W : Addr) : Sp := fun vs H Q _ => ∃ e k v, vs = [.ref e] ∧ Er K mg W H e k v ∧ ∀ r H', Same H H' → H r = none → H' r = some (.lst (bitsV k)) → Q (.ref r) H'
theorem ok_bas {f : Addr} {fd : FuncData} (F : Fun K "_law_bases" "_law_bases" sBas f fd) (B : Bi mg) (X : Bx mg) (gW : mg "WireError" = some (.ref W)) : FnOk P w K mg base (L2.CX P w) 1 f fd ["_law_e"] (spBas K mg W) := by
  have sc : FnScope ["_law_e", "_law_rows"] ["_law_e"] (defScope sBas) := ⟨rfl, rfl, rfl, by decide +kernel, rfl, by decide +kernel, by decide +kernel⟩
  refine F.okX sc (fun vs H Q E h => ?_) (fun cdv A outer s H vs Q E hr h => ?_)
  · obtain ⟨e, k, v, rfl, _⟩ := h
    rfl
  · obtain ⟨e, k, v, rfl, er, fin⟩ := h
    refine ⟨_, pss_cons (ps_set (i := 1) sc.nd rfl (Or.inl rfl) (pe_lst (pa_cons (pe_callB call_isiG (by rfl) B.isi (by decide +kernel) (pa_cons (pv 0) (pa_cons (pe_glob (v := .ref W) (by rfl) gW rfl) pa_nil))) (pa_cons (pe_callB call_isiG (by rfl) B.isi (by decide +kernel) (pa_cons (pv 0) (pa_cons (pe_bltn (v := .ty "ValueError") (by rfl) X.ve (by decide +kernel) rfl) pa_nil))) pa_nil))))
      (pss_cons (ps_set (i := 1) sc.nd rfl (Or.inl rfl) (pe_op op_cat (pv 1) (pe_lst (pa_cons (pe_callB call_isiG (by rfl) B.isi (by decide +kernel) (pa_cons (pv 0) (pa_cons (pe_bltn (v := .ty "KeyError") (by rfl) X.ke (by decide +kernel) rfl) pa_nil))) (pa_cons (pe_callB call_isiG (by rfl) B.isi (by decide +kernel) (pa_cons (pv 0) (pa_cons (pe_bltn (v := .ty "IndexError") (by rfl) X.ie (by decide +kernel) rfl) pa_nil))) pa_nil)))))
      (pss_cons (ps_set (i := 1) sc.nd rfl (Or.inl rfl) (pe_op op_cat (pv 1) (pe_lst (pa_cons (pe_callB call_isiG (by rfl) B.isi (by decide +kernel) (pa_cons (pv 0) (pa_cons (pe_bltn (v := .ty "LookupError") (by rfl) X.le (by decide +kernel) rfl) pa_nil))) (pa_cons (pe_callB call_isiG (by rfl) B.isi (by decide +kernel) (pa_cons (pv 0) (pa_cons (pe_bltn (v := .ty "OverflowError") (by rfl) X.oe (by decide +kernel) rfl) pa_nil))) pa_nil)))))
      (pss_cons (ps_set (i := 1) sc.nd rfl (Or.inl rfl) (pe_op op_cat (pv 1) (pe_lst (pa_cons (pe_callB call_isiG (by rfl) B.isi (by decide +kernel) (pa_cons (pv 0) (pa_cons (pe_bltn (v := .ty "ZeroDivisionError") (by rfl) X.zd (by decide +kernel) rfl) pa_nil))) pa_nil))))
      (pss_one (ps_ret (pe_op op_cat (pv 1) (pe_lst (pa_cons (pe_callB call_isiG (by rfl) B.isi (by decide +kernel) (pa_cons (pv 0) (pa_cons (pe_bltn (v := .ty "RuntimeError") (by rfl) X.re (by decide +kernel) rfl) pa_nil))) (pa_cons (pe_callB call_isiG (by rfl) B.isi (by decide +kernel) (pa_cons (pv 0) (pa_cons (pe_bltn (v := .ty "TypeError") (by rfl) X.te (by decide +kernel) rfl) pa_nil))) pa_nil))))))))), ?_⟩
    obtain ⟨C, d, he, hd, ek, _⟩ := id er
    have key : ∀ {G : Hp}, Same H G → G e = some (ExG (.ref C) e d) ∧ G d = some (.xd [(("given" : Str), v)]) := fun sm => ⟨sm _ _ he, sm _ _ hd⟩
    refine ⟨_, rfl, e, d, C, _, _, _, _, rfl, he, hd, ek.kg, .own W, ek.kit 0 (by decide), _, rfl, e, d, C, _, _, _, _, rfl, he, hd, ek.kg, .ty _, ek.kit 1 (by decide), (by show 2 ≤ sizeLine; decide), fun l1 n1 => ?_⟩
    have s1 := same_upd (o := .lst [.bl (bit k 0), .bl (bit k 1)]) n1
    have h1 : (upd H l1 (.lst [.bl (bit k 0), .bl (bit k 1)])) l1 = some (.lst [.bl (bit k 0), .bl (bit k 1)]) := upd_same
    generalize upd H l1 (.lst [.bl (bit k 0), .bl (bit k 1)]) = G1 at s1 h1 ⊢
    obtain ⟨he, hd⟩ := key s1
    refine ⟨_, rfl, _, rfl, e, d, C, _, _, _, _, rfl, he, hd, ek.kg, .ty _, ek.kit 2 (by decide), _, rfl, e, d, C, _, _, _, _, rfl, he, hd, ek.kg, .ty _, ek.kit 3 (by decide), (by show 2 ≤ sizeLine; decide), fun m2 nm2 => ⟨l1, m2, _, _, rfl, rfl, same_upd nm2 _ _ h1, upd_same, (by show 2 + 2 ≤ sizeLine; decide), fun l2 n2 => ?_⟩⟩
    have s2 := s1.trans ((same_upd nm2).trans (same_upd (o := .lst ([.bl (bit k 0), .bl (bit k 1)] ++ [.bl (bit k 2), .bl (bit k 3)])) n2))
    have h2 : (upd (upd G1 m2 (.lst [.bl (bit k 2), .bl (bit k 3)])) l2 (.lst ([.bl (bit k 0), .bl (bit k 1)] ++ [.bl (bit k 2), .bl (bit k 3)]))) l2 = some (.lst ([.bl (bit k 0), .bl (bit k 1)] ++ [.bl (bit k 2), .bl (bit k 3)])) := upd_same
    generalize upd (upd G1 m2 (.lst [.bl (bit k 2), .bl (bit k 3)])) l2 (.lst ([.bl (bit k 0), .bl (bit k 1)] ++ [.bl (bit k 2), .bl (bit k 3)])) = G2 at s2 h2 ⊢
    obtain ⟨he, hd⟩ := key s2
    refine ⟨_, rfl, _, rfl, e, d, C, _, _, _, _, rfl, he, hd, ek.kg, .ty _, ek.kit 4 (by decide), _, rfl, e, d, C, _, _, _, _, rfl, he, hd, ek.kg, .ty _, ek.kit 5 (by decide), (by show 2 ≤ sizeLine; decide), fun m3 nm3 => ⟨l2, m3, _, _, rfl, rfl, same_upd nm3 _ _ h2, upd_same, (by show 4 + 2 ≤ sizeLine; decide), fun l3 n3 => ?_⟩⟩
    have s3 := s2.trans ((same_upd nm3).trans (same_upd (o := .lst (([.bl (bit k 0), .bl (bit k 1)] ++ [.bl (bit k 2), .bl (bit k 3)]) ++ [.bl (bit k 4), .bl (bit k 5)])) n3))
    have h3 : (upd (upd G2 m3 (.lst [.bl (bit k 4), .bl (bit k 5)])) l3 (.lst (([.bl (bit k 0), .bl (bit k 1)] ++ [.bl (bit k 2), .bl (bit k 3)]) ++ [.bl (bit k 4), .bl (bit k 5)]))) l3 = some (.lst (([.bl (bit k 0), .bl (bit k 1)] ++ [.bl (bit k 2), .bl (bit k 3)]) ++ [.bl (bit k 4), .bl (bit k 5)])) := upd_same
    generalize upd (upd G2 m3 (.lst [.bl (bit k 4), .bl (bit k 5)])) l3 (.lst (([.bl (bit k 0), .bl (bit k 1)] ++ [.bl (bit k 2), .bl (bit k 3)]) ++ [.bl (bit k 4), .bl (bit k 5)])) = G3 at s3 h3 ⊢
    obtain ⟨he, hd⟩ := key s3
    refine ⟨_, rfl, _, rfl, e, d, C, _, _, _, _, rfl, he, hd, ek.kg, .ty _, ek.kit 6 (by decide), (by show 1 ≤ sizeLine; decide), fun m4 nm4 => ⟨l3, m4, _, _, rfl, rfl, same_upd nm4 _ _ h3, upd_same, (by show 6 + 1 ≤ sizeLine; decide), fun l4 n4 => ?_⟩⟩
    have s4 := s3.trans ((same_upd nm4).trans (same_upd (o := .lst ((([.bl (bit k 0), .bl (bit k 1)] ++ [.bl (bit k 2), .bl (bit k 3)]) ++ [.bl (bit k 4), .bl (bit k 5)]) ++ [.bl (bit k 6)])) n4))
    have h4 : (upd (upd G3 m4 (.lst [.bl (bit k 6)])) l4 (.lst ((([.bl (bit k 0), .bl (bit k 1)] ++ [.bl (bit k 2), .bl (bit k 3)]) ++ [.bl (bit k 4), .bl (bit k 5)]) ++ [.bl (bit k 6)]))) l4 = some (.lst ((([.bl (bit k 0), .bl (bit k 1)] ++ [.bl (bit k 2), .bl (bit k 3)]) ++ [.bl (bit k 4), .bl (bit k 5)]) ++ [.bl (bit k 6)])) := upd_same
    generalize upd (upd G3 m4 (.lst [.bl (bit k 6)])) l4 (.lst ((([.bl (bit k 0), .bl (bit k 1)] ++ [.bl (bit k 2), .bl (bit k 3)]) ++ [.bl (bit k 4), .bl (bit k 5)]) ++ [.bl (bit k 6)])) = G4 at s4 h4 ⊢
    obtain ⟨he, hd⟩ := key s4
    refine ⟨_, rfl, _, rfl, e, d, C, _, _, _, _, rfl, he, hd, ek.kg, .ty _, ek.kit 7 (by decide), _, rfl, e, d, C, _, _, _, _, rfl, he, hd, ek.kg, .ty _, ek.kit 8 (by decide), (by show 2 ≤ sizeLine; decide), fun m5 nm5 => ⟨l4, m5, _, _, rfl, rfl, same_upd nm5 _ _ h4, upd_same, (by show 7 + 2 ≤ sizeLine; decide), fun l5 n5 => ?_⟩⟩
    exact fin l5 _ (s4.trans ((same_upd nm5).trans (same_upd n5))) ((s4.trans (same_upd nm5)).free n5) upd_same
end
end R1
end

-- E3f
section
set_option Elab.async false
set_option linter.all false
set_option maxRecDepth 100000
set_option exponentiation.threshold 10000
namespace R1
open PySem L2 OwnOps OwnNe G1 RatM StX CompX TryAs OwnTry FnGd ReprD
/-- errors of these sorts, in a list -/
def Es (K : PySem.W.Frag) (mg : Str → Option Value) (W : Addr) (H : Hp) (l : Addr) (ks : List Nat) (v : V) : Prop :=
  ∃ es : List Addr, H l = some (.lst (es.map V.ref)) ∧ es.length = ks.length ∧ ∀ (i : Nat) e k, es[i]? = some e → ks[i]? = some k → Er K mg W H e k v
def tErr (K : PySem.W.Frag) (mg : Str → Option Value) (W : Addr) (k i : Nat) : TE := fun σ H Q => ∃ v, σ[i]? = some (some v) ∧ ∀ e H', Same H H' → Er K mg W H' e k v → Q (.ref e) H'
section
variable {K : PySem.W.Frag} {mg : Str → Option Value} {W : Addr} {H : Hp} {σ : L2.St} {v : V} {Q : VK} {k1 k2 : Nat}
theorem Es.same {H' : Hp} {l : Addr} {ks : List Nat} (h : Es K mg W H l ks v) (s : Same H H') : Es K mg W H' l ks v := let ⟨es, h1, h2, h3⟩ := h; ⟨es, s _ _ h1, h2, fun i e k a b => (h3 i e k a b).same s⟩
theorem es_more {H' : Hp} {l : Addr} {ks ks2 : List Nat} {es es2 : List Addr} (h2 : es.length = ks.length) (h3 : ∀ (i : Nat) e k, es[i]? = some e → ks[i]? = some k → Er K mg W H e k v) (s : Same H H') (g2 : es2.length = ks2.length)
    (g3 : ∀ (i : Nat) e k, es2[i]? = some e → ks2[i]? = some k → Er K mg W H' e k v) (hl : H' l = some (.lst (es.map V.ref ++ es2.map V.ref))) : Es K mg W H' l (ks ++ ks2) v := by
  refine ⟨es ++ es2, by rw [hl, List.map_append], by rw [List.length_append, List.length_append, h2, g2], fun i e k a b => ?_⟩
  by_cases lt : i < es.length
  · rw [List.getElem?_append_left lt] at a
    rw [List.getElem?_append_left (by omega)] at b
    exact (h3 i e k a b).same s
  · rw [List.getElem?_append_right (by omega)] at a
    rw [List.getElem?_append_right (by omega), ← h2] at b
    exact g3 _ e k a b
theorem two_at {H' : Hp} {e1 e2 : Addr} (r1 : Er K mg W H' e1 k1 v) (r2 : Er K mg W H' e2 k2 v) : ∀ (i : Nat) e k, [e1, e2][i]? = some e → [k1, k2][i]? = some k → Er K mg W H' e k v := fun i e k a b => by
  match i with
  | 0 => cases a; cases b; exact r1
  | 1 => cases a; cases b; exact r2
  | n + 2 => cases a
theorem one_at {H' : Hp} {e1 : Addr} (r1 : Er K mg W H' e1 k1 v) : ∀ (i : Nat) e k, [e1][i]? = some e → [k1][i]? = some k → Er K mg W H' e k v := fun i e k a b => by
  match i with
  | 0 => cases a; cases b; exact r1
  | n + 1 => cases a
theorem es_lst2 {i : Nat} (hv : σ[i]? = some (some v)) (k : ∀ l G, Same H G → Es K mg W G l [k1, k2] v → Q (.ref l) G) : tLst (tCons (tErr K mg W k1 i) (tCons (tErr K mg W k2 i) tNil)) σ H Q :=
  ⟨v, hv, fun e1 G1 s1 r1 => ⟨v, hv, fun e2 G2 s2 r2 => ⟨by show 2 ≤ sizeLine; decide, fun l nl => k l _ ((s1.trans s2).trans (same_upd nl)) ⟨[e1, e2], upd_same, rfl, two_at ((r1.same s2).same (same_upd nl)) (r2.same (same_upd nl))⟩⟩⟩⟩
theorem es_cat2 {i j : Nat} {l : Addr} {ks : List Nat} (hv : σ[i]? = some (some v)) (hl : σ[j]? = some (some (.ref l))) (es : Es K mg W H l ks v) (few : ks.length ≤ 30) (k : ∀ l G, Same H G → Es K mg W G l (ks ++ [k1, k2]) v → Q (.ref l) G) :
    tOp rCat (tVar j) (tLst (tCons (tErr K mg W k1 i) (tCons (tErr K mg W k2 i) tNil))) σ H Q := by
  obtain ⟨as, a1, a2, a3⟩ := es
  refine ⟨_, hl, v, hv, fun e1 G1 s1 r1 => ⟨v, hv, fun e2 G2 s2 r2 => ⟨by show 2 ≤ sizeLine; decide, fun m nm => ?_⟩⟩⟩
  have sm := (s1.trans s2).trans (same_upd (o := .lst [.ref e1, .ref e2]) nm)
  refine ⟨l, m, _, _, rfl, rfl, sm _ _ a1, upd_same, (by rw [List.length_map, a2]; exact Nat.le_trans (Nat.add_le_add_right few 2) (by decide)), fun p np => ?_⟩
  have sp := same_upd (o := .lst (as.map V.ref ++ [.ref e1, .ref e2])) np
  exact k p _ (sm.trans sp) (es_more (es2 := [e1, e2]) a2 a3 (sm.trans sp) rfl (two_at (((r1.same s2).same (same_upd nm)).same sp) ((r2.same (same_upd nm)).same sp)) upd_same)
theorem es_cat1 {i j : Nat} {l : Addr} {ks : List Nat} (hv : σ[i]? = some (some v)) (hl : σ[j]? = some (some (.ref l))) (es : Es K mg W H l ks v) (few : ks.length ≤ 30) (k : ∀ l G, Same H G → Es K mg W G l (ks ++ [k1]) v → Q (.ref l) G) :
    tOp rCat (tVar j) (tLst (tCons (tErr K mg W k1 i) tNil)) σ H Q := by
  obtain ⟨as, a1, a2, a3⟩ := es
  refine ⟨_, hl, v, hv, fun e1 G1 s1 r1 => ⟨by show 1 ≤ sizeLine; decide, fun m nm => ?_⟩⟩
  have sm := s1.trans (same_upd (o := .lst [.ref e1]) nm)
  refine ⟨l, m, _, _, rfl, rfl, sm _ _ a1, upd_same, (by rw [List.length_map, a2]; exact Nat.le_trans (Nat.add_le_add_right few 1) (by decide)), fun p np => ?_⟩
  have sp := same_upd (o := .lst (as.map V.ref ++ [.ref e1])) np
  exact k p _ (sm.trans sp) (es_more (es2 := [e1]) a2 a3 (sm.trans sp) rfl (one_at ((r1.same (same_upd nm)).same sp)) upd_same)
end
/-- the places that are true -/
def idN (k j : Nat) : List Int := ((List.range j).filter (bit k)).map fun i => ((i : Nat) : Int)
theorem idN_yes {k j : Nat} (h : bit k j = true) : (idN k j).map V.int ++ [V.int (j : Int)] = (idN k (j + 1)).map V.int := by
  unfold idN
  rw [List.range_succ, List.filter_append, List.filter_cons, if_pos h]
  simp
theorem idN_no {k j : Nat} (h : bit k j = false) : idN k j = idN k (j + 1) := by
  unfold idN
  rw [List.range_succ, List.filter_append, List.filter_cons, if_neg (by rw [h]; decide)]
  simp
theorem idN_len {k j : Nat} (h : j ≤ 9) : ((idN k j).map V.int).length ≤ 9 := by
  unfold idN
  rw [List.length_map, List.length_map]
  have := List.length_filter_le (bit k) (List.range j)
  rw [List.length_range] at this
  omega
/-- what repr writes -/
def RepW (K : PySem.W.Frag) (C : Addr) (H : Hp) (v : V) (t : Str) : Prop := RepT K H v t ∨ ∃ q t0 b0, v = .ref q ∧ Rat C H q t0 b0 ∧ Pr t0 ∧ Pr b0 ∧ t = reprT t0 b0
theorem RepW.same {K : PySem.W.Frag} {C : Addr} {H H' : Hp} {v : V} {t : Str} (h : RepW K C H v t) (e : Same H H') : RepW K C H' v t := h.elim (fun h => .inl (h.same e)) fun ⟨q, a, b, h1, h2, h3⟩ => .inr ⟨q, a, b, h1, h2.same e, h3⟩
def rRepW (K : PySem.W.Frag) (C : Addr) : List V → Hp → VK → Prop := fun xs H Q => (∃ x t, xs = [x] ∧ RepT K H x t ∧ Q (.str t) H) ∨ (∃ x, xs = [x] ∧ rOwn1 C (spStr C reprT) E0 IsStr x H Q)
theorem rep_go {K : PySem.W.Frag} {C : Addr} {H : Hp} {v : V} {t : Str} {Q : VK} (h : RepW K C H v t) (q : Q (.str t) H) : rRepW K C [v] H Q := by
  rcases h with h | ⟨p, a, b, rfl, ⟨dx, hp⟩, h1, h2, rfl⟩
  · exact .inl ⟨v, t, rfl, h, q⟩
  · exact .inr ⟨_, rfl, p, dx, _, rfl, hp, p, a, b, rfl, ⟨dx, hp⟩, h1, h2, ⟨_, rfl⟩, q⟩
theorem call_repW {X : Cx} {C g : Addr} {fd : FuncData} (hg : X.A.guards = some []) (hr : Room 2 X.A) (hs : PySem.W.findIn X.K (.ref C) "__repr__" = some (some (.ref g))) (hf : PySem.W.isFn X.K (.ref g) = true) (F : FnOk X.prog X.w X.K X.mg X.base (L2.CX X.prog X.w) 1 g fd ["self"] (spStr C reprT)) (hb : L2.Binds X.K fd ["self"] []) :
    CallR X (.builtin "repr") (rRepW X.K C) := call_or (call_reprD hg (by have := hr.units; omega)) (call_reprO (E := E0) hs hf F hr hb passL)
end R1
end

-- WalkIt
section
set_option Elab.async false
set_option linter.all false
set_option maxRecDepth 100000
namespace G1
open PySem L2 OwnOps
theorem pg_two {X : Cx} {i j : Nat} {x y : Str} {p1 p2 pos : Pos} {kk : Nat} (hc : X.calm = true) (hN : X.N.Nodup) (hi : X.N[i]? = some x) (hx : Loc X.env.scope x) (hj : X.N[j]? = some y) (hy : Loc X.env.scope y)
    (hf : X.fn x = true ∨ X.env.scope.names.lookup x = some .local := by first | exact .inl rfl | exact .inr rfl) (hg : X.fn y = true ∨ X.env.scope.names.lookup y = some .local := by first | exact .inl rfl | exact .inr rfl) :
    PG X (.Tuple [.Name x p1, .Name y p2] kk pos) (gTup X.K 2 (gCons (gName i) (gCons (gName j) gNil))) := pg_tup hc (pgs_cons (pg_name (i := i) hN hi hx hf) (pgs_cons (pg_name (i := j) hN hj hy hg) pgs_nil))
/-- a walk, whatever its turn is -/
theorem walk_it {J : It} {n : Nat} {G : Hp → Prop} {Y : Nat → Hp → V → Hp → Prop} (w : Walk J n G Y) {turn : V → Hp → (Hp → Prop) → Prop} {Fin : Hp → Prop} {H0 : Hp} (Pv : Nat → Hp → Prop) (h0 : Pv 0 H0) (hG : ∀ i H, i ≤ n → Pv i H → G H)
    (hs : ∀ i x H H', i < n → Pv i H → Y i H x H' → turn x H' (Pv (i + 1))) (hd : ∀ H, Pv n H → Fin H) :
    ∃ W : Nat → Nat → Hp → Prop, (∃ m, W 0 m H0) ∧ ∀ i m H, W i m H → (J.stop i H ∧ Fin H) ∨ (J.go i H ∧ ∃ Nx : Hp → Prop, (∀ H', Nx H' → ∃ m', m' < m ∧ W (i + 1) m' H') ∧ ∀ x H', J.yld i H x H' → turn x H' Nx) := by
  refine ⟨fun i m H => m + i = n ∧ Pv i H, ⟨n, rfl, h0⟩, fun i m H ⟨e, p⟩ => ?_⟩
  have q := hG i H (by omega) p
  by_cases lt : i < n
  · exact .inr ⟨w.goes i H lt q, Pv (i + 1), fun H' p' => ⟨m - 1, by omega, by omega, p'⟩, fun x H' y => hs i x H H' lt p (w.yields i H x H' lt q y)⟩
  · cases (show i = n by omega)
    exact .inl ⟨w.stops H q, hd H p⟩
theorem same_unlock {H G : Hp} {d : Addr} {u : HO} {od : Obj} (hd : H d = some u) (s : Same (upd H d (.frz od u)) G) : G d = some (.frz od u) ∧ Same H (upd G d u) := by
  refine ⟨s _ _ upd_same, fun b o e => ?_⟩
  by_cases h : b = d
  · subst h
    rw [hd] at e
    cases e
    exact upd_same
  · rw [upd_ne h]
    exact s b o (by rw [upd_ne h]; exact e)
theorem rd_lock {H : Hp} {d a : Addr} {u v : HO} {od : Obj} (hd : H d = some u) (m : Mut (some u)) (r : Rd H a v) : Rd (upd H d (.frz od u)) a v := by
  by_cases h : a = d
  · subst h
    rcases r with r | ⟨o, r⟩
    · rw [hd] at r
      cases r
      exact .inr ⟨od, upd_same⟩
    · rw [hd] at r
      cases r
      exact m.elim
  · rcases r with r | ⟨o, r⟩
    · exact .inl (by rw [upd_ne h]; exact r)
    · exact .inr ⟨o, by rw [upd_ne h]; exact r⟩
theorem SameX.none {p x : Addr} {H G : Hp} {u : HO} (s : SameX p H G) (hp : G p = some u) (h : G x = none) : H x = none := by
  cases e : H x with
  | none => rfl
  | some o =>
    by_cases n : x = p
    · subst n
      rw [hp] at h
      cases h
    · rw [s x o n e] at h
      cases h
theorem Same.none {x : Addr} {H G : Hp} (s : Same H G) (h : G x = none) : H x = none := by
  cases e : H x with
  | none => rfl
  | some o =>
    rw [s x o e] at h
    cases h
end G1
end

-- E3i
section
set_option Elab.async false
set_option linter.all false
set_option maxRecDepth 100000
set_option exponentiation.threshold 10000
namespace R1
open PySem L2 OwnOps OwnNe G1 RatM StX CompX TryAs OwnTry FnGd ReprD
/-- the places that are true, as a comprehension gathers them -/
theorem ids_lc {K : PySem.W.Frag} {B : Hp} {p D : Addr} {k sb : Nat} {x0 x1 x2 x3 x4 x5 x6 x7 : Option V} {own : List Nat} {Qd : Hp → Prop} (hp : B p = some (.lst (bitsV k))) (nD : B D = none) (hs : (sb = 5 ∧ own = [6, 5]) ∨ (sb = 7 ∧ own = [6, 7]))
    (fin : ∀ G, Same B G → G D = some (.lst ((idN k 9).map V.int)) → Qd G) :
    ∃ W : Nat → Nat → Hp → Prop, (∃ m, W 0 m (upd B D (.lst []))) ∧ ∀ i m H, W i m H →
      ((Ite K p).stop i H ∧ Qd H) ∨ ((Ite K p).go i H ∧ ∃ Nx : Hp → Prop, (∀ H', Nx H' → ∃ m', m' < m ∧ W (i + 1) m' H') ∧ ∀ x H', (Ite K p).yld i H x H' →
        gTup K 2 (gCons (gName 6) (gCons (gName sb) gNil)) x (wipe [x0, x1, x2, x3, x4, x5, x6, x7] own) H' fun σ2 H2 => wipe σ2 own = wipe [x0, x1, x2, x3, x4, x5, x6, x7] own ∧ tB (tVar sb) σ2 H2 fun b H3 =>
        if b = true then tVar 6 σ2 H3 fun y H4 => ∃ acc, H4 D = some (.lst acc) ∧ acc.length < sizeLine ∧ Nx (upd H4 D (.lst (acc ++ [y]))) else Nx H3) := by
  have len : (bitsV k).length = 9 := by unfold bitsV; rw [List.length_map, List.length_range]
  refine lc_it (walk_enum (K := K) (a := p) (xs := bitsV k)) (fun j G => Same B G ∧ G D = some (.lst ((idN k j).map V.int))) ⟨same_upd nD, upd_same⟩ (fun j G _ ⟨sm, _⟩ => SqL.of (sm _ _ hp)) (fun j x G G' hj ⟨sm, hD⟩ ⟨T, u, v, ex, nT, eG, hu, hv⟩ => ?_) (fun G ⟨sm, hD⟩ => ?_)
  · subst ex eG
    cases hu
    rw [len] at hj
    have hv : (bitsV k)[j]? = some v := hv
    have ev : (bitsV k)[j]? = some (V.bl (bit k j)) := by
      unfold bitsV
      rw [List.getElem?_map, List.getElem?_range hj]
      rfl
    rw [ev] at hv
    cases hv
    have sT := same_upd (o := .tup [V.int (j : Nat), V.bl (bit k j)]) nT
    have hD' := sT _ _ hD
    rcases hs with ⟨rfl, rfl⟩ | ⟨rfl, rfl⟩
    all_goals
      refine ⟨T, _, rfl, SqT.of upd_same, rfl, _, _, rfl, _, _, rfl, rfl, rfl, _, rfl, _, rfl, ?_⟩
      cases hb : bit k j with
      | true => exact iteT ⟨_, rfl, _, by rw [hb] at hD'; exact hD', by have := idN_len (k := k) (j := j) (by omega); exact small1000 (by omega), by rw [hb] at sT; exact same_put (sm.trans sT) nD, by rw [upd_same, idN_yes hb]⟩
      | false => exact iteF ⟨by rw [hb] at sT; exact sm.trans sT, by rw [hb] at hD'; rw [hD', idN_no hb]⟩
  · rw [len] at hD
    exact fin G sm hD
theorem id_eqv : ∀ k, k < 6 → PyData.eqv (.list ((idN k 9).map PyData.int)) (.list ((idN k 9).map PyData.int)) = true := by decide +kernel
theorem id_zero : idN 0 9 = [0, 1] := by decide +kernel
theorem ns_lst {H : Hp} {K : PySem.W.Frag} {a : Addr} {ns : List Int} (h : H a = some (.lst (ns.map V.int))) : Dp K H (.ref a) (.list (ns.map PyData.int)) := .lst (SqL.of h) (dp_ints ns)
/-- the lists that are due -/
structure Ds (H : Hp) (l : Addr) (ks : List Nat) (ds : List Addr) : Prop where
  at_ : H l = some (.lst (ds.map V.ref))
  len : ds.length = ks.length
  is : ∀ (i : Nat) d k, ds[i]? = some d → ks[i]? = some k → H d = some (.lst ((idN k 9).map V.int))
theorem Ds.same {H H' : Hp} {l : Addr} {ks : List Nat} {ds : List Addr} (h : Ds H l ks ds) (s : Same H H') : Ds H' l ks ds := ⟨s _ _ h.at_, h.len, fun i d k a b => s _ _ (h.is i d k a b)⟩
theorem due_lst {σ : L2.St} {H : Hp} {Q : VK} (k : ∀ l ds G, Same H G → Ds G l [1, 1, 2, 3, 4, 5] ds → Q (.ref l) G) :
    tLst (tCons (tLst (tCons (tC (V.int 2)) (tCons (tC (V.int 4)) tNil))) (tCons (tLst (tCons (tC (V.int 2)) (tCons (tC (V.int 4)) tNil))) (tCons (tLst (tCons (tC (V.int 5)) tNil)) (tCons (tLst (tCons (tC (V.int 4)) tNil)) (tCons (tLst (tCons (tC (V.int 6)) tNil)) (tCons (tLst (tCons (tC (V.int 7)) tNil)) tNil)))))) σ H Q := by
  refine ⟨by show 2 ≤ sizeLine; decide, fun d0 n0 => ⟨by show 2 ≤ sizeLine; decide, fun d1 n1 => ⟨by show 1 ≤ sizeLine; decide, fun d2 n2 => ⟨by show 1 ≤ sizeLine; decide, fun d3 n3 => ⟨by show 1 ≤ sizeLine; decide, fun d4 n4 => ⟨by show 1 ≤ sizeLine; decide, fun d5 n5 => ⟨by show 6 ≤ sizeLine; decide, fun l nl => ?_⟩⟩⟩⟩⟩⟩⟩
  have t0 : Same H _ := same_upd (o := .lst [.int 2, .int 4]) n0
  have h0 : (upd H d0 (.lst [.int 2, .int 4])) d0 = some (.lst [.int 2, .int 4]) := upd_same
  generalize upd H d0 (.lst [.int 2, .int 4]) = G0 at *
  have t1 : Same G0 _ := same_upd (o := .lst [.int 2, .int 4]) n1
  have h1 : (upd G0 d1 (.lst [.int 2, .int 4])) d1 = some (.lst [.int 2, .int 4]) := upd_same
  generalize upd G0 d1 (.lst [.int 2, .int 4]) = G1 at *
  have t2 : Same G1 _ := same_upd (o := .lst [.int 5]) n2
  have h2 : (upd G1 d2 (.lst [.int 5])) d2 = some (.lst [.int 5]) := upd_same
  generalize upd G1 d2 (.lst [.int 5]) = G2 at *
  have t3 : Same G2 _ := same_upd (o := .lst [.int 4]) n3
  have h3 : (upd G2 d3 (.lst [.int 4])) d3 = some (.lst [.int 4]) := upd_same
  generalize upd G2 d3 (.lst [.int 4]) = G3 at *
  have t4 : Same G3 _ := same_upd (o := .lst [.int 6]) n4
  have h4 : (upd G3 d4 (.lst [.int 6])) d4 = some (.lst [.int 6]) := upd_same
  generalize upd G3 d4 (.lst [.int 6]) = G4 at *
  have t5 : Same G4 _ := same_upd (o := .lst [.int 7]) n5
  have h5 : (upd G4 d5 (.lst [.int 7])) d5 = some (.lst [.int 7]) := upd_same
  generalize upd G4 d5 (.lst [.int 7]) = G5 at *
  have t6 : Same G5 (upd G5 l (.lst [.ref d0, .ref d1, .ref d2, .ref d3, .ref d4, .ref d5])) := same_upd nl
  refine k l [d0, d1, d2, d3, d4, d5] _ ((((((t0.trans t1).trans t2).trans t3).trans t4).trans t5).trans t6) ⟨upd_same, rfl, fun i d k a b => ?_⟩
  match i with
  | 0 => cases a; cases b; exact t6 _ _ (t5 _ _ (t4 _ _ (t3 _ _ (t2 _ _ (t1 _ _ h0)))))
  | 1 => cases a; cases b; exact t6 _ _ (t5 _ _ (t4 _ _ (t3 _ _ (t2 _ _ h1))))
  | 2 => cases a; cases b; exact t6 _ _ (t5 _ _ (t4 _ _ (t3 _ _ h2)))
  | 3 => cases a; cases b; exact t6 _ _ (t5 _ _ (t4 _ _ h3))
  | 4 => cases a; cases b; exact t6 _ _ (t5 _ _ h4)
  | 5 => cases a; cases b; exact t6 _ _ h5
  | n + 6 => cases a
end R1
end

-- E3h
section
set_option Elab.async false
set_option linter.all false
set_option maxRecDepth 100000
set_option exponentiation.threshold 10000
namespace R1
open PySem L2 OwnOps OwnNe G1 RatM StX CompX TryAs OwnTry FnGd ReprD
abbrev sErrs : Stmt := top 43
abbrev NE : List Str := ["_law_value", "_law_wire", "_law_others", "_law_due", "_law_e", "_law_told", "_law_at", "_law_truth"]
/-- the error classes, by their sorts -/
structure AllE (K : PySem.W.Frag) (mg : Str → Option Value) (W : Addr) : Prop where
  eInvalidBlock : ErrF K mg W "InvalidBlock" "InvalidBlock.__init__" "ValueError.__new__" PySem.Giv.tVE 0
  eInvalidCircuit : ErrF K mg W "InvalidCircuit" "InvalidCircuit.__init__" "ValueError.__new__" PySem.Giv.tVE 0
  eInvalidCommand : ErrF K mg W "InvalidCommand" "InvalidCommand.__init__" "ValueError.__new__" PySem.Giv.tVE 0
  eInvalidEdit : ErrF K mg W "InvalidEdit" "InvalidEdit.__init__" "ValueError.__new__" PySem.Giv.tVE 0
  eInvalidForm : ErrF K mg W "InvalidForm" "InvalidForm.__init__" "ValueError.__new__" PySem.Giv.tVE 0
  eInvalidKind : ErrF K mg W "InvalidKind" "InvalidKind.__init__" "ValueError.__new__" PySem.Giv.tVE 0
  eInvalidMatching : ErrF K mg W "InvalidMatching" "InvalidMatching.__init__" "ValueError.__new__" PySem.Giv.tVE 0
  eInvalidMend : ErrF K mg W "InvalidMend" "InvalidMend.__init__" "ValueError.__new__" PySem.Giv.tVE 0
  eInvalidName : ErrF K mg W "InvalidName" "InvalidName.__init__" "ValueError.__new__" PySem.Giv.tVE 0
  eInvalidNumber : ErrF K mg W "InvalidNumber" "InvalidNumber.__init__" "ValueError.__new__" PySem.Giv.tVE 0
  eInvalidPaper : ErrF K mg W "InvalidPaper" "InvalidPaper.__init__" "ValueError.__new__" PySem.Giv.tVE 0
  eInvalidPins : ErrF K mg W "InvalidPins" "InvalidPins.__init__" "ValueError.__new__" PySem.Giv.tVE 0
  eInvalidPrices : ErrF K mg W "InvalidPrices" "InvalidPrices.__init__" "ValueError.__new__" PySem.Giv.tVE 0
  eInvalidStep : ErrF K mg W "InvalidStep" "InvalidStep.__init__" "ValueError.__new__" PySem.Giv.tVE 0
  eInvalidText : ErrF K mg W "InvalidText" "InvalidText.__init__" "ValueError.__new__" PySem.Giv.tVE 0
  eInvalidWay : ErrF K mg W "InvalidWay" "InvalidWay.__init__" "ValueError.__new__" PySem.Giv.tVE 0
  eNotPositive : ErrF K mg W "NotPositive" "NotPositive.__init__" "ValueError.__new__" PySem.Giv.tVE 0
  ePortsDiffer : ErrF K mg W "PortsDiffer" "PortsDiffer.__init__" "ValueError.__new__" PySem.Giv.tVE 0
  eUnknownName : ErrF K mg W "UnknownName" "UnknownName.__init__" "LookupError.__new__" PySem.Giv.keT 1
  eNameInUse : ErrF K mg W "NameInUse" "NameInUse.__init__" "LookupError.__new__" PySem.Giv.keT 1
  eLimitExceeded : ErrF K mg W "LimitExceeded" "LimitExceeded.__init__" "OverflowError.__new__" PySem.Giv.tOE 2
  eNothingToUndo : ErrF K mg W "NothingToUndo" "NothingToUndo.__init__" "LookupError.__new__" PySem.Giv.tLE 3
  eNoDivision : ErrF K mg W "NoDivision" "NoDivision.__init__" "ZeroDivisionError.__new__" PySem.Giv.tZD 4
  eRunFailed : ErrF K mg W "RunFailed" "RunFailed.__init__" "RuntimeError.__new__" PySem.Giv.tRE 5
theorem seq_set {te : TE} {j : Nat} {rest : TS} {D : Ends} {σ : L2.St} {H : Hp} (h : te σ H fun x H1 => rest D (σ.set j (some x)) H1) : tSeq (tAsg te (gName j)) rest D σ H := h
theorem pe_errT {X : Cx} {W : Addr} {cn qn x : Str} {newId : String} {bt : List Value} {k i r : Nat} {p pos p2 : Pos} (Z : PySem.Giv.BaseL newId bt) (F : ErrF X.K X.mg W cn qn newId bt k) (hr : Room r X.A) (hx : PE X (.Name x p2) (tVar i)) (hg : Gl X cn) (hdb : (cn == ("__debug__" : Str)) = false := by decide) :
    PE X (.Call (.Name cn p) [.Name x p2] [] pos) (tErr X.K X.mg W k i) := pe_err Z F hr hx hg hdb
section
variable {K : PySem.W.Frag} {mg : Str → Option Value} {W : Addr} {H : Hp} {σ : L2.St} {v : V} {Q : VK} {k1 k2 k3 : Nat}
theorem three_at {H' : Hp} {e1 e2 e3 : Addr} (r1 : Er K mg W H' e1 k1 v) (r2 : Er K mg W H' e2 k2 v) (r3 : Er K mg W H' e3 k3 v) : ∀ (i : Nat) e k, [e1, e2, e3][i]? = some e → [k1, k2, k3][i]? = some k → Er K mg W H' e k v := fun i e k a b => by
  match i with
  | 0 => cases a; cases b; exact r1
  | 1 => cases a; cases b; exact r2
  | 2 => cases a; cases b; exact r3
  | n + 3 => cases a
theorem es_lst3 {i : Nat} (hv : σ[i]? = some (some v)) (k : ∀ l G, Same H G → Es K mg W G l [k1, k2, k3] v → Q (.ref l) G) : tLst (tCons (tErr K mg W k1 i) (tCons (tErr K mg W k2 i) (tCons (tErr K mg W k3 i) tNil))) σ H Q :=
  ⟨v, hv, fun e1 G1 s1 r1 => ⟨v, hv, fun e2 G2 s2 r2 => ⟨v, hv, fun e3 G3 s3 r3 => ⟨by show 3 ≤ sizeLine; decide, fun l nl => k l _ (((s1.trans s2).trans s3).trans (same_upd nl)) ⟨[e1, e2, e3], upd_same, rfl, three_at (((r1.same s2).same s3).same (same_upd nl)) ((r2.same s3).same (same_upd nl)) (r3.same (same_upd nl))⟩⟩⟩⟩⟩
theorem es_cat3 {i j : Nat} {l : Addr} {ks : List Nat} (hv : σ[i]? = some (some v)) (hl : σ[j]? = some (some (.ref l))) (es : Es K mg W H l ks v) (few : ks.length ≤ 30) (k : ∀ l G, Same H G → Es K mg W G l (ks ++ [k1, k2, k3]) v → Q (.ref l) G) :
    tOp rCat (tVar j) (tLst (tCons (tErr K mg W k1 i) (tCons (tErr K mg W k2 i) (tCons (tErr K mg W k3 i) tNil)))) σ H Q := by
  obtain ⟨as, a1, a2, a3⟩ := es
  refine ⟨_, hl, v, hv, fun e1 G1 s1 r1 => ⟨v, hv, fun e2 G2 s2 r2 => ⟨v, hv, fun e3 G3 s3 r3 => ⟨by show 3 ≤ sizeLine; decide, fun m nm => ?_⟩⟩⟩⟩
  have sm := ((s1.trans s2).trans s3).trans (same_upd (o := .lst [.ref e1, .ref e2, .ref e3]) nm)
  refine ⟨l, m, _, _, rfl, rfl, sm _ _ a1, upd_same, (by rw [List.length_map, a2]; exact Nat.le_trans (Nat.add_le_add_right few 3) (by decide)), fun p np => ?_⟩
  have sp := same_upd (o := .lst (as.map V.ref ++ [.ref e1, .ref e2, .ref e3])) np
  exact k p _ (sm.trans sp) (es_more (es2 := [e1, e2, e3]) a2 a3 (sm.trans sp) rfl (three_at ((((r1.same s2).same s3).same (same_upd nm)).same sp) (((r2.same s3).same (same_upd nm)).same sp) ((r3.same (same_upd nm)).same sp)) upd_same)
end
section
variable {P : Program} {w : World} {K : PySem.W.Frag} {mg : Str → Option Value} {base : Heap} {C CI fCI CZ fCZ CN fCN D CK fCK W : Addr}
def spErrs (K : PySem.W.Frag) (C : Addr) : Sp := fun vs H Q _ => ∃ v t, vs = [v] ∧ RepW K C H v t ∧ ∀ H', Same H H' → Q (.bl true) H'
theorem ok_errs {f : Addr} {fd : FuncData} (F : Fun K "_law_errors_right" "_law_errors_right" sErrs f fd) (B : Bi mg) (Es : AllE K mg W) (GB : Glb P w K mg base "_law_bases" 1 ["_law_e"] (spBas K mg W)) (RP : Dun P w K mg base C "__repr__" 1 ["self"] (spStr C reprT)) :
    FnG P w K mg base (L2.CX P w) 4 f fd ["_law_value"] (spErrs K C) := by
  obtain ⟨_, _, mB, kB, GB, bB⟩ := GB.ex
  obtain ⟨_, _, ra, rf, _, GR, bR⟩ := RP.ex
  have sc : FnScope NE ["_law_value"] (defScope sErrs) := ⟨rfl, rfl, rfl, by decide +kernel, rfl, by decide +kernel, by decide +kernel⟩
  have hN := sc.nd
  refine okG F sc (fun vs H Q E h => ?_) (fun cdv A outer s H vs Q E hr gd h => ?_)
  · obtain ⟨v, t, rfl, _⟩ := h
    rfl
  · obtain ⟨v, t, rfl, rep, fin⟩ := h
    refine ⟨_, pss_cons (ps_set (i := 1) hN rfl (Or.inl rfl) (pe_lst (pa_cons (pe_errT (W := W) PySem.Giv.base_VE Es.eInvalidBlock hr (pv 0) (by rfl)) (pa_cons (pe_errT (W := W) PySem.Giv.base_VE Es.eInvalidCircuit hr (pv 0) (by rfl)) pa_nil))))
      (pss_cons (ps_set (i := 1) hN rfl (Or.inl rfl) (pe_op op_cat (pv 1) (pe_lst (pa_cons (pe_errT (W := W) PySem.Giv.base_VE Es.eInvalidCommand hr (pv 0) (by rfl)) (pa_cons (pe_errT (W := W) PySem.Giv.base_VE Es.eInvalidEdit hr (pv 0) (by rfl)) (pa_cons (pe_errT (W := W) PySem.Giv.base_VE Es.eInvalidForm hr (pv 0) (by rfl)) pa_nil))))))
      (pss_cons (ps_set (i := 1) hN rfl (Or.inl rfl) (pe_op op_cat (pv 1) (pe_lst (pa_cons (pe_errT (W := W) PySem.Giv.base_VE Es.eInvalidKind hr (pv 0) (by rfl)) (pa_cons (pe_errT (W := W) PySem.Giv.base_VE Es.eInvalidMatching hr (pv 0) (by rfl)) pa_nil)))))
      (pss_cons (ps_set (i := 1) hN rfl (Or.inl rfl) (pe_op op_cat (pv 1) (pe_lst (pa_cons (pe_errT (W := W) PySem.Giv.base_VE Es.eInvalidMend hr (pv 0) (by rfl)) (pa_cons (pe_errT (W := W) PySem.Giv.base_VE Es.eInvalidName hr (pv 0) (by rfl)) pa_nil)))))
      (pss_cons (ps_set (i := 1) hN rfl (Or.inl rfl) (pe_op op_cat (pv 1) (pe_lst (pa_cons (pe_errT (W := W) PySem.Giv.base_VE Es.eInvalidNumber hr (pv 0) (by rfl)) (pa_cons (pe_errT (W := W) PySem.Giv.base_VE Es.eInvalidPaper hr (pv 0) (by rfl)) pa_nil)))))
      (pss_cons (ps_set (i := 1) hN rfl (Or.inl rfl) (pe_op op_cat (pv 1) (pe_lst (pa_cons (pe_errT (W := W) PySem.Giv.base_VE Es.eInvalidPins hr (pv 0) (by rfl)) (pa_cons (pe_errT (W := W) PySem.Giv.base_VE Es.eInvalidPrices hr (pv 0) (by rfl)) pa_nil)))))
      (pss_cons (ps_set (i := 1) hN rfl (Or.inl rfl) (pe_op op_cat (pv 1) (pe_lst (pa_cons (pe_errT (W := W) PySem.Giv.base_VE Es.eInvalidStep hr (pv 0) (by rfl)) (pa_cons (pe_errT (W := W) PySem.Giv.base_VE Es.eInvalidText hr (pv 0) (by rfl)) (pa_cons (pe_errT (W := W) PySem.Giv.base_VE Es.eInvalidWay hr (pv 0) (by rfl)) pa_nil))))))
      (pss_cons (ps_set (i := 1) hN rfl (Or.inl rfl) (pe_op op_cat (pv 1) (pe_lst (pa_cons (pe_errT (W := W) PySem.Giv.base_VE Es.eNotPositive hr (pv 0) (by rfl)) (pa_cons (pe_errT (W := W) PySem.Giv.base_VE Es.ePortsDiffer hr (pv 0) (by rfl)) pa_nil)))))
      (pss_cons (ps_set (i := 2) hN rfl (Or.inl rfl) (pe_lst (pa_cons (pe_errT (W := W) PySem.Giv.ke_L Es.eUnknownName hr (pv 0) (by rfl)) (pa_cons (pe_errT (W := W) PySem.Giv.ke_L Es.eNameInUse hr (pv 0) (by rfl)) (pa_cons (pe_errT (W := W) PySem.Giv.base_OE Es.eLimitExceeded hr (pv 0) (by rfl)) pa_nil)))))
      (pss_cons (ps_set (i := 2) hN rfl (Or.inl rfl) (pe_op op_cat (pv 2) (pe_lst (pa_cons (pe_errT (W := W) PySem.Giv.base_LE Es.eNothingToUndo hr (pv 0) (by rfl)) (pa_cons (pe_errT (W := W) PySem.Giv.base_ZD Es.eNoDivision hr (pv 0) (by rfl)) pa_nil)))))
      (pss_cons (ps_set (i := 2) hN rfl (Or.inl rfl) (pe_op op_cat (pv 2) (pe_lst (pa_cons (pe_errT (W := W) PySem.Giv.base_RE Es.eRunFailed hr (pv 0) (by rfl)) pa_nil))))
      (pss_cons (ps_set (i := 3) hN rfl (Or.inl rfl) (pe_lst (pa_cons (pe_lst (pa_cons pe_int (pa_cons pe_int pa_nil))) (pa_cons (pe_lst (pa_cons pe_int (pa_cons pe_int pa_nil))) (pa_cons (pe_lst (pa_cons pe_int pa_nil)) (pa_cons (pe_lst (pa_cons pe_int pa_nil)) (pa_cons (pe_lst (pa_cons pe_int pa_nil)) (pa_cons (pe_lst (pa_cons pe_int pa_nil)) pa_nil))))))))
      (pss_cons (ps_for passOwn rfl (pi_list (pv 1)) (pg_name (i := 4) hN rfl (Or.inl rfl)) (pss_cons (ps_if (pt_cmpR (op_neD hr.units) (pe_lc (own := [("_law_at", 6), ("_law_told", 5)]) (g := gTup K 2 (gCons (gName 6) (gCons (gName 5) gNil))) rfl hN (pi_enum (by rfl) B.enum (pa_cons (pe_call GB (hr.mono (by decide)) (by rfl) mB kB bB .nil passL (pa_cons (pv 4) pa_nil)) pa_nil)) (blkOk_by (N := NE) (sc := defScope sErrs) (by decide +kernel)) (fun _ _ _ _ _ => pg_two (i := 6) (j := 5) rfl hN rfl (Or.inl rfl) rfl (Or.inl rfl)) (fun _ _ _ _ _ => pts_one (pt_val (pv 5))) (fun _ _ _ _ _ => pv 6)) (pe_lst (pa_cons pe_int (pa_cons pe_int pa_nil))) (nomark _)) (pss_one (ps_ret pe_bl)) pss_nil) (pss_one (ps_if (pt_cmpR op_ne (pe_callB (call_repW (C := C) gd (hr.mono (by decide)) ra rf GR bR) (by rfl) B.repr (by decide +kernel) (pa_cons (pe_givAny (W := W) (pv 4)) pa_nil)) (pe_callB (call_repW (C := C) gd (hr.mono (by decide)) ra rf GR bR) (by rfl) B.repr (by decide +kernel) (pa_cons (pv 0) pa_nil)) (nomark _)) (pss_one (ps_ret pe_bl)) pss_nil))))
      (pss_cons (ps_for passOwn rfl (pi_zip (by rfl) B.zip (pa_cons (pv 2) (pa_cons (pv 3) pa_nil))) (pg_two (i := 4) (j := 5) rfl hN rfl (Or.inl rfl) rfl (Or.inl rfl)) (pss_cons (ps_if (pt_cmpR (op_neD hr.units) (pe_lc (own := [("_law_at", 6), ("_law_truth", 7)]) (g := gTup K 2 (gCons (gName 6) (gCons (gName 7) gNil))) rfl hN (pi_enum (by rfl) B.enum (pa_cons (pe_call GB (hr.mono (by decide)) (by rfl) mB kB bB .nil passL (pa_cons (pv 4) pa_nil)) pa_nil)) (blkOk_by (N := NE) (sc := defScope sErrs) (by decide +kernel)) (fun _ _ _ _ _ => pg_two (i := 6) (j := 7) rfl hN rfl (Or.inl rfl) rfl (Or.inl rfl)) (fun _ _ _ _ _ => pts_one (pt_val (pv 7))) (fun _ _ _ _ _ => pv 6)) (pv 5) (nomark _)) (pss_one (ps_ret pe_bl)) pss_nil) (pss_one (ps_if (pt_cmpR op_ne (pe_callB (call_repW (C := C) gd (hr.mono (by decide)) ra rf GR bR) (by rfl) B.repr (by decide +kernel) (pa_cons (pe_givAny (W := W) (pv 4)) pa_nil)) (pe_callB (call_repW (C := C) gd (hr.mono (by decide)) ra rf GR bR) (by rfl) B.repr (by decide +kernel) (pa_cons (pv 0) pa_nil)) (nomark _)) (pss_one (ps_ret pe_bl)) pss_nil))))
      (pss_one (ps_ret pe_bl))))))))))))))), ?_⟩
    refine seq_set ?_
    refine es_lst2 (i := 0) (v := v) (by rfl) fun a0 aG0 as0 aE0 => ?_
    refine seq_set ?_
    refine es_cat3 (i := 0) (v := v) (by rfl) (by rfl) aE0 (by decide) fun a1 aG1 as1 aE1 => ?_
    refine seq_set ?_
    refine es_cat2 (i := 0) (v := v) (by rfl) (by rfl) aE1 (by decide) fun a2 aG2 as2 aE2 => ?_
    refine seq_set ?_
    refine es_cat2 (i := 0) (v := v) (by rfl) (by rfl) aE2 (by decide) fun a3 aG3 as3 aE3 => ?_
    refine seq_set ?_
    refine es_cat2 (i := 0) (v := v) (by rfl) (by rfl) aE3 (by decide) fun a4 aG4 as4 aE4 => ?_
    refine seq_set ?_
    refine es_cat2 (i := 0) (v := v) (by rfl) (by rfl) aE4 (by decide) fun a5 aG5 as5 aE5 => ?_
    refine seq_set ?_
    refine es_cat3 (i := 0) (v := v) (by rfl) (by rfl) aE5 (by decide) fun a6 aG6 as6 aE6 => ?_
    refine seq_set ?_
    refine es_cat2 (i := 0) (v := v) (by rfl) (by rfl) aE6 (by decide) fun a7 aG7 as7 aE7 => ?_
    refine seq_set ?_
    refine es_lst3 (i := 0) (v := v) (by rfl) fun b0 bG0 bs0 bE0 => ?_
    refine seq_set ?_
    refine es_cat2 (i := 0) (v := v) (by rfl) (by rfl) bE0 (by decide) fun b1 bG1 bs1 bE1 => ?_
    refine seq_set ?_
    refine es_cat1 (i := 0) (v := v) (by rfl) (by rfl) bE1 (by decide) fun b2 bG2 bs2 bE2 => ?_

    have rep2 := rep
    have sA := ((((((as0.trans as1).trans as2).trans as3).trans as4).trans as5).trans as6).trans as7
    have sB := (bs0.trans bs1).trans bs2
    have wE := aE7.same sB
    have bE := bE2
    have rE := rep.same (sA.trans sB)
    have fin' : ∀ H', Same bG2 H' → Q (.bl true) H' := fun H' s => fin H' ((sA.trans sB).trans s)
    simp only [List.cons_append, List.nil_append] at wE bE
    clear aE0 aE1 aE2 aE3 aE4 aE5 aE6 aE7 bE0 bE1 bE2
    generalize bG2 = B0 at wE bE rE fin'
    generalize a7 = wl at wE ⊢
    generalize b2 = ol at bE ⊢
    clear as0 as1 as2 as3 as4 as5 as6 as7 bs0 bs1 bs2 sA sB
    refine seq_set ?_
    refine due_lst fun dl ds B1 s1 dE => ?_
    replace wE := wE.same s1
    replace bE := bE.same s1
    replace rE := rE.same s1
    replace fin' : ∀ H', Same B1 H' → Q (.bl true) H' := fun H' s => fin' H' (s1.trans s)
    rw [show L2.start NE [v] = [some v, none, none, none, none, none, none, none] from rfl]
    simp only [List.set_cons_succ, List.set_cons_zero]
    obtain ⟨es, e1, e2, e3⟩ := wE
    obtain ⟨os, o1, o2, o3⟩ := bE
    refine ⟨_, rfl, wl, rfl, ⟨_, SqL.of e1⟩, for_list (K := K) (a := wl) (xs := es.map V.ref) (fun j σ G => (∃ x4 x5 x6 x7, σ = [some v, some (.ref wl), some (.ref ol), some (.ref dl), x4, x5, x6, x7]) ∧ Same B1 G) ⟨⟨_, _, _, _, rfl⟩, fun _ _ h => h⟩ (fun j σ G _ ⟨_, sm⟩ => SqL.of (sm _ _ e1)) ?_ ?_⟩
    · rintro j x σ G hx ⟨⟨x4, x5, x6, x7, rfl⟩, sm⟩
      obtain ⟨e, he, rfl⟩ : ∃ e, es[j]? = some e ∧ x = .ref e := by
        rw [List.getElem?_map] at hx
        cases q : es[j]? with
        | none => rw [q] at hx; cases hx
        | some e => rw [q] at hx; cases hx; exact ⟨e, rfl, rfl⟩
      have er : Er K mg W G e 0 v := by
        have lt : j < 18 := by
          have := (List.getElem?_eq_some_iff.mp he).1
          rw [e2] at this
          simpa using this
        refine (e3 j e 0 he ?_).same sm
        have : ∀ j, j < 18 → [0, 0, 0, 0, 0, 0, 0, 0, 0, 0, 0, 0, 0, 0, 0, 0, 0, 0][j]? = some 0 := by decide
        exact this j lt
      refine ⟨_, rfl, e, 0, v, rfl, er, fun r G1 t1 nr hr => ⟨r, _, rfl, SqL.of hr, fun D nD => ids_lc (k := 0) hr nD (.inl ⟨rfl, rfl⟩) fun G2 t2 hD => ⟨by show 2 ≤ sizeLine; decide, fun m nm => ?_⟩⟩⟩
      have t3 := same_upd (o := .lst [.int 0, .int 1]) nm
      have t := (t1.trans t2).trans t3
      refine ⟨_, .list ([0, 1].map PyData.int), ns_lst (t3 _ _ hD), ns_lst (ns := [0, 1]) upd_same, PySem.W.ke_shaped_ints _, by decide +kernel, _, rfl, if_neg' (by rw [id_zero]; decide +kernel) ?_⟩
      have rp := rE.same (sm.trans t)
      refine ⟨_, rfl, e, 0, v, rfl, er.same t, ?_⟩
      dsimp only [tNil]
      refine rep_go rp ⟨_, rfl, ?_⟩
      dsimp only [tNil]
      exact rep_go rp ⟨rfl, _, rfl, if_neg' (by rw [decide_eq_true rfl]; rfl) ⟨⟨_, _, _, _, rfl⟩, sm.trans t⟩⟩
    · rintro σ G ⟨⟨x4, x5, x6, x7, rfl⟩, sm⟩
      refine ⟨_, rfl, _, rfl, ol, dl, _, _, rfl, SqL.of (sm _ _ o1), SqL.of (sm _ _ dE.at_), for_it (walk_zip (K := K) (a := ol) (b := dl) (xs := os.map V.ref) (ys := ds.map V.ref) (n := 6) (by rw [List.length_map, List.length_map, o2, dE.len]; rfl)) (fun j σ G' => (∃ x4 x5 x6 x7, σ = [some v, some (.ref wl), some (.ref ol), some (.ref dl), x4, x5, x6, x7]) ∧ Same G G') ⟨⟨_, _, _, _, rfl⟩, fun _ _ h => h⟩
        (fun j σ G' _ ⟨_, t⟩ => ⟨SqL.of (t _ _ (sm _ _ o1)), SqL.of (t _ _ (sm _ _ dE.at_))⟩) ?_ ?_⟩
      · rintro j y σ G3 G4 hj ⟨⟨x4, x5, x6, x7, rfl⟩, t0⟩ ⟨T, u, z, rfl, nT, rfl, hu, hz⟩
        have hu : (os.map V.ref)[j]? = some u := hu
        have hz : (ds.map V.ref)[j]? = some z := hz
        obtain ⟨e, he, rfl⟩ : ∃ e, os[j]? = some e ∧ u = .ref e := by
          rw [List.getElem?_map] at hu
          cases q : os[j]? with
          | none => rw [q] at hu; cases hu
          | some e => rw [q] at hu; cases hu; exact ⟨e, rfl, rfl⟩
        obtain ⟨d, hd, rfl⟩ : ∃ d, ds[j]? = some d ∧ z = .ref d := by
          rw [List.getElem?_map] at hz
          cases q : ds[j]? with
          | none => rw [q] at hz; cases hz
          | some d => rw [q] at hz; cases hz; exact ⟨d, rfl, rfl⟩
        obtain ⟨k, hk, k6⟩ : ∃ k, [1, 1, 2, 3, 4, 5][j]? = some k ∧ k < 6 := by
          have : ∀ j, j < 6 → ∃ k, k < 6 ∧ [1, 1, 2, 3, 4, 5][j]? = some k := by decide
          obtain ⟨k, h1, h2⟩ := this j hj
          exact ⟨k, h2, h1⟩
        have sT := same_upd (o := .tup [.ref e, .ref d]) nT
        have u0 := (sm.trans t0).trans sT
        have er := (o3 j e k he hk).same u0
        have hdd := u0 _ _ (dE.is j d k hd hk)
        refine ⟨T, _, rfl, SqT.of upd_same, rfl, _, _, rfl, _, _, rfl, rfl, ?_⟩
        generalize upd G3 T (.tup [.ref e, .ref d]) = G4 at sT u0 er hdd ⊢
        refine ⟨_, rfl, e, k, v, rfl, er, fun r G1 t1 nr hr => ⟨r, _, rfl, SqL.of hr, fun D nD => ids_lc (k := k) hr nD (.inr ⟨rfl, rfl⟩) fun G2 t2 hD => ⟨_, rfl, ?_⟩⟩⟩
        have t := t1.trans t2
        refine ⟨_, _, ns_lst hD, ns_lst (t _ _ hdd), PySem.W.ke_shaped_ints _, PySem.W.ke_shaped_ints _, _, rfl, if_neg' (by rw [id_eqv k k6]; rfl) ?_⟩
        have rp := rE.same (u0.trans t)
        refine ⟨_, rfl, e, k, v, rfl, er.same t, ?_⟩
        dsimp only [tNil]
        refine rep_go rp ⟨_, rfl, ?_⟩
        dsimp only [tNil]
        exact rep_go rp ⟨rfl, _, rfl, if_neg' (by rw [decide_eq_true rfl]; rfl) ⟨⟨_, _, _, _, rfl⟩, (t0.trans sT).trans t⟩⟩
      · rintro σ G3 ⟨⟨x4, x5, x6, x7, rfl⟩, t0⟩
        exact fin' G3 (sm.trans t0)
end
end R1
end

-- E3k
section
set_option Elab.async false
set_option linter.all false
set_option maxRecDepth 100000
set_option exponentiation.threshold 10000
namespace R1
open PySem L2 OwnOps OwnNe G1 RatM StX CompX TryAs OwnTry FnGd ReprD
abbrev sLaw : Stmt := top 46
abbrev NL : List Str := ["_law_script", "_law_value", "_law_k", "_law_draws_here", "_law_rows", "_law_some", "_law_word", "_law_rule", "_law_due", "_law_kinds", "_law_rung", "_law_told", "_law_bad", "_law_again", "_law_one"]
abbrev DA : Eqv := fun x y H => DFlat x y H ∨ DSame x y H
theorem mon_DA : Mon DA := mon_flat.or mon_same
theorem eqG_DA {X : Cx} : EqG X 0 DA := eqG_flat.or eqG_same
/-- two ratios of the same top and bottom -/
def RRat (C : Addr) (a b : Addr) (H : Hp) : Prop := ∃ t d, Rat C H a t d ∧ Rat C H b t d
abbrev DR (C : Addr) : Eqv := fun x y H => DFlat x y H ∨ DIns C (RRat C) x y H
theorem mon_DR {C : Addr} : Mon (DR C) := mon_flat.or (mon_ins fun a b H H' e ⟨t, d, h1, h2⟩ => ⟨t, d, h1.same e, h2.same e⟩)
theorem eqG_DR {X : Cx} {C f : Addr} {fd : FuncData} (hs : PySem.W.findIn X.K (.ref C) "__eq__" = some (some (.ref f))) (hf : PySem.W.isFn X.K (.ref f) = true)
    (F : FnOk X.prog X.w X.K X.mg X.base (L2.CX X.prog X.w) 2 f fd ["self", "other"] (R1.spEq C false)) (hb : L2.Binds X.K fd ["self", "other"] []) : EqG X 2 (DR C) := by
  have F' : FnOk X.prog X.w X.K X.mg X.base (L2.CX X.prog X.w) 2 f fd ["self", "other"] (L2.spEq (RRat C)) := F.imp fun vs H Q E ⟨a, b, e, ⟨t, d, r1, r2⟩, k⟩ =>
    ⟨a, .ref b, t, d, e, r1, .inl ⟨b, t, d, rfl, r2, by
      have q := k H Ext.rfl'
      rw [decide_eq_true (rfl : t = t), decide_eq_true (rfl : d = d)]
      exact q⟩⟩
  exact (eqG_flat.mono (by decide)).or (eqG_ins F' hs hf hb (E := E0) passL)
/-- the rules' class beside the types -/
structure TysD (K : PySem.W.Frag) (D : Addr) : Prop where
  nDD : PySem.W.notFirst K D (.ref D) = true
  nS : PySem.W.notFirst K D (.type "str") = true
  ne : PySem.W.findIn K (.ref D) "__ne__" = some (some (.builtin "object.__ne__"))
def RDs (D : Addr) : V → Hp → Prop := fun y H => RIns D y H ∨ ∃ z, y = .str z
theorem looks_D {X : Cx} {D : Addr} (Y : TysD X.K D) {y : V} {H : Hp} {u : Value} {pins : List (Addr × Obj)} {σ : L2.St} {s : Shared} (I : L2.Inv X pins σ H s) (h : RDs D y H) (ry : RelV y u) :
    ∃ tb, PySem.W.Looks (model X.prog X.w) s.heap (typeOf u) tb ∧ PySem.W.notFirst X.K D tb = true := by
  rcases h with h | ⟨z, rfl⟩
  · exact looks_ins Y.nDD I h ry
  · obtain ⟨t, rfl⟩ := (show ∃ t, u = Value.str z t from ry)
    exact ⟨_, PySem.W.Looks.of_pure rfl, Y.nS⟩
theorem raw_map {T B : Nat → Int} {f : Nat → Nat} (L : List Nat) : raw (fun i => T (f i)) (fun i => B (f i)) L = raw T B (L.map f) := by
  unfold raw
  rw [List.foldl_map]
theorem res_map {w : Bool} {T B : Nat → Int} {f : Nat → Nat} (L : List Nat) : res w (fun i => T (f i)) (fun i => B (f i)) L = res w T B (L.map f) := by
  unfold res sT sB
  rw [raw_map, raw_map (T := B) (B := T)]
theorem vb_rb {t b : Int} (h : Vb t b) : Rb (t, b) := by
  have e : ((2 : Int) ^ 41) = ((2 ^ 41 : Nat) : Int) := by decide
  have l : (2 : Nat) ^ 41 < 2 ^ 340 := Nat.pow_lt_pow_right (by decide) (by decide)
  have h1 := h.t1
  have h2 := h.b1
  have h3 := h.t0
  have h4 := h.b0
  rw [e] at h1 h2
  exact ⟨h.t0, h.b0, by show t.natAbs < 2 ^ 340; omega, by show b.natAbs < 2 ^ 340; omega, h.n1, h.n2⟩
theorem gv2 {C : Addr} {H : Hp} {x y : V} {T B : Nat → Int} (h0 : Vp C H x (T 0) (B 0)) (h1 : Vp C H y (T 1) (B 1)) : GoodV C H [x, y] T B := fun i v h => by
  match i with
  | 0 => cases h; exact h0
  | 1 => cases h; exact h1
  | n + 2 => cases h
theorem gv1 {C : Addr} {H : Hp} {x : V} {T B : Nat → Int} (h0 : Vp C H x (T 0) (B 0)) : GoodV C H [x] T B := fun i v h => by
  match i with
  | 0 => cases h; exact h0
  | n + 1 => cases h
theorem gv4 {C : Addr} {H : Hp} {x y z u : V} {T B : Nat → Int} (h0 : Vp C H x (T 0) (B 0)) (h1 : Vp C H y (T 1) (B 1)) (h2 : Vp C H z (T 2) (B 2)) (h3 : Vp C H u (T 3) (B 3)) : GoodV C H [x, y, z, u] T B := fun i v h => by
  match i with
  | 0 => cases h; exact h0
  | 1 => cases h; exact h1
  | 2 => cases h; exact h2
  | 3 => cases h; exact h3
  | n + 4 => cases h
theorem vp_int {C : Addr} {H : Hp} {i : Int} (h : 0 < i) (l : i ≤ 2 ^ 41) : Vp C H (.int i) i 1 := ⟨.inr ⟨rfl, rfl⟩, vb_int h l⟩
theorem vp_rat {C : Addr} {H : Hp} {q : Addr} {t b : Int} (r : Rat C H q t b) (v : Vb t b) : Vp C H (.ref q) t b := ⟨.inl ⟨q, rfl, r⟩, v⟩
theorem four {L : List Addr} (h : L.length = 4) : ∃ a b c d, L = [a, b, c, d] := by
  match L, h with
  | [a, b, c, d], _ => exact ⟨a, b, c, d, rfl⟩
/-- 2 and 3 -/
def T23 : Nat → Int := fun i => if i = 0 then 2 else 3
theorem neq_true {x y : Bool} (hx : x = true) (hy : y = true) : (true != (x && y)) = false := by rw [hx, hy]; rfl
theorem sx_at {l a : Addr} {H G : Hp} {o : HO} (s : SameX l H G) (n : H a = none) : SameX l H (upd G a o) := fun c u nc e => by
  rw [upd_ne (ne_of_none e n)]
  exact s c u nc e
/-- rows of two numbers, in a list -/
structure Rw (G : Hp) (R : Addr) (ts : List Addr) (T B : Nat → Int) : Prop where
  at_ : G R = some (.lst (ts.map V.ref))
  len : ts.length = 4
  is : ∀ (i : Nat) q, ts[i]? = some q → G q = some (.tup [.int (T i), .int (B i)])
  vb : ∀ i, i < 4 → Vb (T i) (B i)
theorem rw_of {G : Hp} {R : Addr} {ts : List Addr} (at_ : G R = some (.lst (ts.map V.ref))) (len : ts.length = 4) (is : ∀ (i : Nat) q, ts[i]? = some q → ∃ t b, G q = some (.tup [.int t, .int b]) ∧ Vb t b) : ∃ T B, Rw G R ts T B := by
  have all : ∀ i : Nat, ∃ x : Int × Int, ∀ q, ts[i]? = some q → G q = some (.tup [.int x.1, .int x.2]) ∧ Vb x.1 x.2 := fun i => by
    cases e : ts[i]? with
    | none => exact ⟨(1, 1), fun q h => nomatch h⟩
    | some q =>
      obtain ⟨t, b, h1, h2⟩ := is i q e
      exact ⟨(t, b), fun q' h => by cases h; exact ⟨h1, h2⟩⟩
  obtain ⟨f, hf⟩ := Classical.skolem.mp all
  exact ⟨fun i => (f i).1, fun i => (f i).2, at_, len, fun i q h => (hf i q h).1, fun i hi => (hf i _ (List.getElem?_eq_getElem (by omega))).2⟩
theorem Rw.sx {G G' : Hp} {l R : Addr} {ts : List Addr} {T B : Nat → Int} {x y : Int} (h : Rw G R ts T B) (s : SameX l G G') (hl : G l = some (.lst [.int x, .int y])) (ne : R ≠ l) : Rw G' R ts T B :=
  ⟨s _ _ ne h.at_, h.len, fun i q hq => s _ _ (fun z => by rw [← z, h.is i q hq] at hl; cases hl) (h.is i q hq), h.vb⟩
/-- ratios, in a list -/
structure Sm4 (C : Addr) (G : Hp) (S : Addr) (qs : List Addr) (T B : Nat → Int) : Prop where
  at_ : G S = some (.lst (qs.map V.ref))
  len : qs.length = 4
  is : ∀ (i : Nat) q, qs[i]? = some q → Rat C G q (T i) (B i)
theorem Sm4.sx {C : Addr} {G G' : Hp} {l S : Addr} {qs : List Addr} {T B : Nat → Int} {x y : Int} (h : Sm4 C G S qs T B) (s : SameX l G G') (hl : G l = some (.lst [.int x, .int y])) (ne : S ≠ l) : Sm4 C G' S qs T B :=
  ⟨s _ _ ne h.at_, h.len, fun i q hq => let ⟨dx, e⟩ := h.is i q hq; ⟨dx, s _ _ (fun z => by rw [← z, e] at hl; cases hl) e⟩⟩
theorem mkV_at {C D CK : Addr} {H : Hp} {W : VK} {E : XK} {x dx : Addr} {w : Bool} (hx : H x = none) (hd : H dx = none) (k : ∀ H', Same H H' → Rul D H' x w → W .non H') :
    spVI C D CK [.ref x, .str (wd w)] (upd (upd H dx (.own x)) x (.ins D dx [])) W E :=
  ⟨x, dx, _, rfl, upd_same, .inl ⟨w, rfl, fun H' sm => k _ (fun b o e => by
    rw [upd_ne (ne_of_none e hx)]
    exact sm _ _ (same_new hx hd b o e)) ⟨dx, upd_same⟩⟩⟩
section
variable {P : Program} {w : World} {K : PySem.W.Frag} {mg : Str → Option Value} {base : Heap} {C CI fCI CZ fCZ CN fCN D CK fCK W : Addr}
def spLaw (K : PySem.W.Frag) : Sp := fun vs H Q _ => ∃ (a : Addr) (ns : List Int), vs = [.ref a] ∧ SqL K H a (ns.map V.int) ∧ ∀ H', Same H H' → Q (.bl true) H'
set_option maxHeartbeats 8000000 in
theorem ok_law {f : Addr} {fd : FuncData} (F : Fun K "law" "law" sLaw f fd) (B : Bi mg) (T : Txt K mg C CI fCI CZ fCZ) (Z : Tys K C) (U : RTxt K mg D CK fCK) (ZD : TysD K D) (M : Mak P w K mg base C CI CZ) (MV : MkV P w K mg base C D CK) (CV : ClV P w K mg base C D CN) (AL : DunR P w K mg base D "all_of" 8 (spAll C D CN))
    (VQ : Dun P w K mg base D "__eq__" 1 ["self", "other"] (spVEq D)) (EQ : Dun P w K mg base C (cmpInfo .Eq).2.1 2 ["self", "other"] (spEq C false)) (NE : Dun P w K mg base C (cmpInfo .NotEq).2.1 3 ["self", "other"] (spEq C true))
    (GDs : Glb P w K mg base "_law_draws" 1 ["_law_script", "_law_k"] (spDraws K)) (GDr : Glb P w K mg base "_law_draw" 1 ["_law_draws_here", "_law_upto"] spDraw) (GLo : Glb P w K mg base "_law_low" 1 ["_law_top", "_law_bottom"] spLow) (GJ : Glb P w K mg base "_law_joined" 2 ["_law_rule", "_law_one", "_law_other"] spJoin)
    (GE : ∃ (f : Addr) (fd : FuncData), mg "_law_errors_right" = some (.ref f) ∧ PySem.W.keepIn K (.ref f) = true ∧ FnG P w K mg base (L2.CX P w) 4 f fd ["_law_value"] (spErrs K C) ∧ L2.Binds K fd ["_law_value"] [])
    (GN : Glb P w K mg base "_law_no_rule" 6 ["_law_word"] (spNoR C)) (GR : Glb P w K mg base "_law_refused" 10 ["_law_rule", "_law_some"] (spRefd C D)) : FnG P w K mg base (L2.CX P w) 12 f fd ["_law_script"] (spLaw K) := by
  obtain ⟨fI, fdI, ds, mk, GI, b3, d2, b2⟩ := M.ex
  obtain ⟨_, _, mkv, GIv, bIv⟩ := MV.ex
  obtain ⟨_, _, cl, GC, bC⟩ := CV.ex
  obtain ⟨_, aa, af, ak, GA⟩ := AL.ex
  obtain ⟨_, _, vqa, vqf, _, GVQ, bVQ⟩ := VQ.ex
  obtain ⟨_, _, eqa, eqf, _, eqG, eqb⟩ := EQ.ex
  obtain ⟨_, _, nea, nef, _, neG, neb⟩ := NE.ex
  obtain ⟨_, _, mD, kD, GD, bD⟩ := GDs.ex
  obtain ⟨_, _, mW, kW, GW, bW⟩ := GDr.ex
  obtain ⟨_, _, mL, kL, GL, bL⟩ := GLo.ex
  obtain ⟨_, _, mJ, kJ, GJ, bJ⟩ := GJ.ex
  obtain ⟨_, _, mE, kE, GE, bE⟩ := GE
  obtain ⟨_, _, mN, kN, GN, bN⟩ := GN.ex
  obtain ⟨_, _, mR, kR, GR, bR⟩ := GR.ex
  have sc : FnScope NL ["_law_script"] (defScope sLaw) := ⟨rfl, rfl, rfl, by decide +kernel, rfl, by decide +kernel, by decide +kernel⟩
  have hN := sc.nd
  refine okG F sc (fun vs H Q E h => ?_) (fun cdv A outer s H vs Q E hr gd h => ?_)
  · obtain ⟨a, ns, rfl, _⟩ := h
    rfl
  · obtain ⟨a, ns, rfl, hS, fin⟩ := h
    refine ⟨_, (pss_cons (ps_for passOwn rfl (pi_list (pe_lst (pa_cons pe_non (pa_cons pe_int (pa_cons pe_str (pa_cons (pe_tup pa_nil) (pa_cons (pe_lst (pa_cons pe_int pa_nil)) (pa_cons pe_dnewK (pa_cons (pe_make mk GI (hr.mono (by decide)) (by rfl) T.gC b3 .nil passL (pa_cons pe_int (pa_cons pe_int pa_nil))) pa_nil))))))))) (pg_name (i := 1) hN rfl (Or.inl rfl)) (pss_one (ps_if (PW.pt (pw_or (pt_not (pt_val (pe_callG GE (hr.mono (by decide)) gd (by rfl) mE kE bE .nil (pa_cons (pv 1) pa_nil)))) (pw_or1 (pt_cmpR (op_neG (n := 0) mon_DA eqG_DA (hr.mono (by decide))) (pe_call GN (hr.mono (by decide)) (by rfl) mN kN bN .nil passL (pa_cons (pv 1) pa_nil)) (pe_lst (pa_cons (pv 1) pa_nil)) (nomark _))))) (pss_one (ps_ret pe_bl)) pss_nil)))
      (pss_cons (ps_if (PW.pt (pw_or (pt_cmpR (op_neG (n := 0) mon_DA eqG_DA (hr.mono (by decide))) (pe_call GN (hr.mono (by decide)) (by rfl) mN kN bN .nil passL (pa_cons pe_str pa_nil)) (pe_lst (pa_cons pe_str pa_nil)) (nomark _)) (pw_or1 (pt_cmpR (op := .NotEq) (op_neOwn (C := D) (E := E0) (R := RDs D) U.hm ZD.ne vqa vqf GVQ (hr.mono (by decide)) bVQ passL (looks_D ZD)) (pe_make mkv GIv (hr.mono (by decide)) (by rfl) U.gD bIv .nil passL (pa_cons pe_str pa_nil)) (pe_make mkv GIv (hr.mono (by decide)) (by rfl) U.gD bIv .nil passL (pa_cons pe_str pa_nil)) (nomark _))))) (pss_one (ps_ret pe_bl)) pss_nil)
      (pss_cons (ps_if (pt_cmpR (op := .Eq) (cmp_own (C := D) (E := E0) (R := RDs D) (fun _ _ => rfl) vqa vqf GVQ (hr.mono (by decide)) bVQ passL (looks_D ZD)) (pe_make mkv GIv (hr.mono (by decide)) (by rfl) U.gD bIv .nil passL (pa_cons pe_str pa_nil)) (pe_make mkv GIv (hr.mono (by decide)) (by rfl) U.gD bIv .nil passL (pa_cons pe_str pa_nil)) (nomark _)) (pss_one (ps_ret pe_bl)) pss_nil)
      (pss_cons (ps_if (PW.pt (pw_or (pt_cmpR (op := .Eq) (cmp_own (C := D) (E := E0) (R := RDs D) (fun _ _ => rfl) vqa vqf GVQ (hr.mono (by decide)) bVQ passL (looks_D ZD)) (pe_make mkv GIv (hr.mono (by decide)) (by rfl) U.gD bIv .nil passL (pa_cons pe_str pa_nil)) pe_str (nomark _)) (pw_or1 (pt_cmpR op_ne (pe_fld (pe_make mkv GIv (hr.mono (by decide)) (by rfl) U.gD bIv .nil passL (pa_cons pe_str pa_nil)) rfl) pe_str (nomark _))))) (pss_one (ps_ret pe_bl)) pss_nil)
      (pss_cons (ps_for passOwn rfl (pi_range1 rfl B.range (pa_cons (pe_callB (call_max2 rfl) (by rfl) B.max (by decide +kernel) (pa_cons pe_int (pa_cons (pe_callB (call_min2 rfl) (by rfl) B.min (by decide +kernel) (pa_cons pe_int (pa_cons (pe_callB call_len_seq (by rfl) B.len PySem.boot_len (pa_cons (pv 0) pa_nil)) pa_nil))) pa_nil))) pa_nil)) (pg_name (i := 2) hN rfl (Or.inl rfl)) (pss_cons (ps_set (i := 3) hN rfl (Or.inr rfl) (pe_call GD (hr.mono (by decide)) (by rfl) mD kD bD .nil passL (pa_cons (pv 0) (pa_cons (pv 2) pa_nil))))
      (pss_cons (ps_setLc (i := 4) (own := [("_law_again", 13)]) (g := gName 13) rfl hN rfl rfl (sw_true rfl rfl rfl (by decide +kernel)) (pi_range1 rfl B.range (pa_cons pe_int pa_nil)) (blkOk_by (N := NL) (sc := defScope sLaw) (by decide +kernel)) (fun _ _ _ _ _ => pg_name (i := 13) hN rfl (Or.inl rfl)) (fun _ _ _ _ _ => pts_nil) (fun _ _ _ _ _ => (pe_call GL (hr.mono (by decide)) (by rfl) mL kL bL .nil passL (pa_cons (pe_op op_add pe_int (pe_call GW (hr.mono (by decide)) (by rfl) mW kW bW .nil passL (pa_cons (pv 3) (pa_cons pe_int pa_nil)))) (pa_cons (pe_op op_add pe_int (pe_call GW (hr.mono (by decide)) (by rfl) mW kW bW .nil passL (pa_cons (pv 3) (pa_cons pe_int pa_nil)))) pa_nil)))))
      (pss_cons (ps_setLc (i := 5) (own := [("_law_rung", 10)]) (g := gName 10) (te := tMake C (spInit C CI CZ) [] E0 (tCons (tOp (rIxT K) (tVar 10) (tC (V.int 0))) (tCons (tOp (rIxT K) (tVar 10) (tC (V.int 1))) tNil))) rfl hN rfl rfl (sw_true rfl rfl rfl (by decide +kernel)) (pi_list (pv 4)) (blkOk_by (N := NL) (sc := defScope sLaw) (by decide +kernel)) (fun _ _ _ _ _ => pg_name (i := 10) hN rfl (Or.inl rfl)) (fun _ _ _ _ _ => pts_nil) (fun _ _ _ _ _ => (pe_make mk GI (hr.mono (by decide)) (by rfl) T.gC b3 .nil passL (pa_cons (pe_ix (show IxR _ (rIxT K) from ix_tup) (pv 10) pe_int (fun _ _ => rfl)) (pa_cons (pe_ix (show IxR _ (rIxT K) from ix_tup) (pv 10) pe_int (fun _ _ => rfl)) pa_nil)))))
      (pss_one (ps_for passOwn rfl (pi_list (pe_lst (pa_cons pe_str (pa_cons pe_str pa_nil)))) (pg_name (i := 6) hN rfl (Or.inl rfl)) (pss_cons (ps_par (i := 7) (j := 8) rfl hN rfl rfl (by decide) rfl rfl (pa_cons (pe_make mkv GIv (hr.mono (by decide)) (by rfl) U.gD bIv .nil passL (pa_cons (pv 6) pa_nil)) (pa_cons (pe_call GJ (hr.mono (by decide)) (by rfl) mJ kJ bJ .nil passL (pa_cons (pv 6) (pa_cons (pe_ix ix_list (pv 4) pe_int (fun _ _ => rfl)) (pa_cons (pe_ix ix_list (pv 4) pe_int (fun _ _ => rfl)) pa_nil)))) pa_nil)) (by rfl))
      (pss_cons (ps_set (i := 9) hN rfl (Or.inl rfl) (pe_lst (pa_cons (pe_callN (CX := L2.CX P w) (i := 7) (E := E0) cl GC bC (hr.mono (by decide)) rfl (Or.inl rfl) passL (pa_cons (pe_ix ix_list (pv 5) pe_int (fun _ _ => rfl)) (pa_cons (pe_ix ix_list (pv 5) pe_int (fun _ _ => rfl)) pa_nil))) (pa_cons (pe_callN (CX := L2.CX P w) (i := 7) (E := E0) cl GC bC (hr.mono (by decide)) rfl (Or.inl rfl) passL (pa_cons pe_int (pa_cons pe_int pa_nil))) (pa_cons (pe_methR (CX := L2.CX P w) (E := E0) (pv 7) U.cl ⟨aa, af, ak⟩ GA (hr.mono (by decide)) passL (pa_cons pe_int pa_nil)) (pa_cons (pe_methR (CX := L2.CX P w) (E := E0) (pv 7) U.cl ⟨aa, af, ak⟩ GA (hr.mono (by decide)) passL (pa_cons pe_int (pa_cons pe_int pa_nil))) pa_nil))))))
      (pss_cons (ps_if (pt_cmpR (op_neEmp hr.units0) (pe_lc (own := [("_law_one", 14)]) (g := gName 14) rfl hN (pi_list (pv 9)) (blkOk_by (N := NL) (sc := defScope sLaw) (by decide +kernel)) (fun _ _ _ _ _ => pg_name (i := 14) hN rfl (Or.inl rfl)) (fun _ _ _ _ _ => pts_one (pt_not (pt_val (pe_callB (id := "isinstance") (show CallR _ (.builtin "isinstance") (rIsi K) from call_isi) (by rfl) B.isi (by decide +kernel) (pa_cons (pv 14) (pa_cons (pe_glob (v := .ref C) (by rfl) T.gC rfl) pa_nil)))))) (fun _ _ _ _ _ => pv 14)) (pe_lst pa_nil) (nomark _)) (pss_one (ps_ret pe_bl)) pss_nil)
      (pss_cons (ps_if (PW.pt (pw_or (pt_cmpR (op := .NotEq) (cmp_own (C := C) (E := E0) (R := RAny C) (fun _ _ => rfl) nea nef neG (hr.mono (by decide)) neb passL (looks_any Z)) (pe_ix ix_list (pv 9) pe_int (fun _ _ => rfl)) (pe_ix ix_list (pv 9) pe_int (fun _ _ => rfl)) (nomark _)) (pw_or1 (pt_cmpR (op := .NotEq) (cmp_own (C := C) (E := E0) (R := RAny C) (fun _ _ => rfl) nea nef neG (hr.mono (by decide)) neb passL (looks_any Z)) (pe_ix ix_list (pv 9) pe_int (fun _ _ => rfl)) pe_int (nomark _))))) (pss_one (ps_ret pe_bl)) pss_nil)
      (pss_cons (ps_if (pt_cmpR (op := .NotEq) (cmp_own (C := C) (E := E0) (R := RAny C) (fun _ _ => rfl) nea nef neG (hr.mono (by decide)) neb passL (looks_any Z)) (pe_callN (CX := L2.CX P w) (i := 7) (E := E0) cl GC bC (hr.mono (by decide)) rfl (Or.inl rfl) passL (pa_cons (pe_ix ix_list (pv 5) pe_int (fun _ _ => rfl)) (pa_cons (pe_ix ix_list (pv 5) pe_int (fun _ _ => rfl)) pa_nil))) (pe_make mk GI (hr.mono (by decide)) (by rfl) T.gC b3 .nil passL (pa_cons (pe_ix ix_tup (pv 8) pe_int (fun _ _ => rfl)) (pa_cons (pe_ix ix_tup (pv 8) pe_int (fun _ _ => rfl)) pa_nil))) (nomark _)) (pss_one (ps_ret pe_bl)) pss_nil)
      (pss_cons (ps_if (pt_cmpR (op := .NotEq) (cmp_own (C := C) (E := E0) (R := RAny C) (fun _ _ => rfl) nea nef neG (hr.mono (by decide)) neb passL (looks_any Z)) (pe_callN (CX := L2.CX P w) (i := 7) (E := E0) cl GC bC (hr.mono (by decide)) rfl (Or.inl rfl) passL (pa_cons (pe_ix ix_list (pv 5) pe_int (fun _ _ => rfl)) (pa_cons pe_int pa_nil))) (pe_callN (CX := L2.CX P w) (i := 7) (E := E0) cl GC bC (hr.mono (by decide)) rfl (Or.inl rfl) passL (pa_cons pe_int (pa_cons (pe_ix ix_list (pv 5) pe_int (fun _ _ => rfl)) pa_nil))) (nomark _)) (pss_one (ps_ret pe_bl)) pss_nil)
      (pss_cons (ps_for passOwn rfl (pi_list (pe_slice sl_list (pv 4) (po_some pe_int) po_none)) (pg_name (i := 10) hN rfl (Or.inl rfl)) (pss_one (ps_set (i := 8) hN rfl (Or.inl rfl) (pe_call GJ (hr.mono (by decide)) (by rfl) mJ kJ bJ .nil passL (pa_cons (pv 6) (pa_cons (pv 8) (pa_cons (pv 10) pa_nil)))))))
      (pss_cons (ps_set (i := 11) hN rfl (Or.inl rfl) (pe_lst (pa_cons (pe_methR (CX := L2.CX P w) (E := E0) (pv 7) U.cl ⟨aa, af, ak⟩ GA (hr.mono (by decide)) passL (pa_cons (pe_ix ix_list (pv 5) pe_int (fun _ _ => rfl)) (pa_cons (pe_ix ix_list (pv 5) pe_int (fun _ _ => rfl)) (pa_cons (pe_ix ix_list (pv 5) pe_int (fun _ _ => rfl)) (pa_cons (pe_ix ix_list (pv 5) pe_int (fun _ _ => rfl)) pa_nil))))) pa_nil)))
      (pss_cons (ps_set (i := 11) hN rfl (Or.inl rfl) (pe_op op_cat (pv 11) (pe_lst (pa_cons (pe_methR (CX := L2.CX P w) (E := E0) (pv 7) U.cl ⟨aa, af, ak⟩ GA (hr.mono (by decide)) passL (pa_cons (pe_ix ix_list (pv 5) pe_int (fun _ _ => rfl)) (pa_cons (pe_ix ix_list (pv 5) pe_int (fun _ _ => rfl)) (pa_cons (pe_ix ix_list (pv 5) pe_int (fun _ _ => rfl)) (pa_cons (pe_ix ix_list (pv 5) pe_int (fun _ _ => rfl)) pa_nil))))) pa_nil))))
      (pss_cons (ps_if (PW.pt (pw_or (pt_cmpR (op_neG (n := 2) (mon_DR (C := C)) (eqG_DR eqa eqf eqG eqb) (hr.mono (by decide))) (pv 11) (pe_op op_rep (pe_lst (pa_cons (pe_make mk GI (hr.mono (by decide)) (by rfl) T.gC b3 .nil passL (pa_cons (pe_ix ix_tup (pv 8) pe_int (fun _ _ => rfl)) (pa_cons (pe_ix ix_tup (pv 8) pe_int (fun _ _ => rfl)) pa_nil))) pa_nil)) pe_int) (nomark _)) (pw_or1 (pt_cmpR (op := .NotEq) (cmp_own (C := C) (E := E0) (R := RAny C) (fun _ _ => rfl) nea nef neG (hr.mono (by decide)) neb passL (looks_any Z)) (pe_methR (CX := L2.CX P w) (E := E0) (pv 7) U.cl ⟨aa, af, ak⟩ GA (hr.mono (by decide)) passL (pa_cons (pe_ix ix_list (pv 5) pe_int (fun _ _ => rfl)) pa_nil)) (pe_ix ix_list (pv 5) pe_int (fun _ _ => rfl)) (nomark _))))) (pss_one (ps_ret pe_bl)) pss_nil)
      (pss_cons (ps_set (i := 12) hN rfl (Or.inl rfl) (pe_ix ix_list (pe_lst (pa_cons pe_int (pa_cons (pe_un un_neg pe_int) (pa_cons pe_bl (pa_cons pe_non (pa_cons pe_str (pa_cons (pe_make mk GI (hr.mono (by decide)) (by rfl) T.gC b2 d2 passL (pa_cons pe_int pa_nil)) (pa_cons (pe_make mk GI (hr.mono (by decide)) (by rfl) T.gC b3 .nil passL (pa_cons (pe_un un_neg pe_int) (pa_cons pe_int pa_nil))) (pa_cons (pe_lst (pa_cons pe_int pa_nil)) pa_nil))))))))) (pe_call GW (hr.mono (by decide)) (by rfl) mW kW bW .nil passL (pa_cons (pv 3) (pa_cons pe_int pa_nil))) (fun _ _ => rfl)))
      (pss_cons (ps_if (pt_cmpR (op_neG (n := 1) (mon_list mon_DA) (eqG_list mon_DA eqG_DA) (hr.mono (by decide))) (pe_lst (pa_cons (pe_call GR (hr.mono (by decide)) (by rfl) mR kR bR .nil passL (pa_cons (pv 7) (pa_cons (pe_lst (pa_cons (pv 12) (pa_cons pe_int pa_nil))) pa_nil))) (pa_cons (pe_call GR (hr.mono (by decide)) (by rfl) mR kR bR .nil passL (pa_cons (pv 7) (pa_cons (pe_lst (pa_cons pe_int (pa_cons (pv 12) pa_nil))) pa_nil))) pa_nil))) (pe_op op_rep (pe_lst (pa_cons (pe_lst (pa_cons (pv 12) pa_nil)) pa_nil)) pe_int) (nomark _)) (pss_one (ps_ret pe_bl)) pss_nil)
      (pss_one (ps_if (pt_cmpR (op_neG (n := 0) mon_DA eqG_DA (hr.mono (by decide))) (pe_call GR (hr.mono (by decide)) (by rfl) mR kR bR .nil passL (pa_cons (pv 7) (pa_cons (pe_lst (pa_cons (pe_ix ix_list (pv 5) pe_int (fun _ _ => rfl)) (pa_cons (pv 12) (pa_cons pe_non pa_nil)))) pa_nil))) (pe_lst (pa_cons (pv 12) pa_nil)) (nomark _)) (pss_one (ps_ret pe_bl)) pss_nil))))))))))))))))))))
      (pss_one (ps_ret pe_bl))))))), ?_⟩
    have da : ∀ {G : Hp} {v : V}, Wv C G v → DA v v G := fun {G v} h => by
      cases h with
      | bd h => cases h with
        | bl b => exact .inl ⟨rfl, rfl, by simp [eqV]⟩
        | non => exact .inl ⟨rfl, rfl, by simp [eqV]⟩
        | str z => exact .inl ⟨rfl, rfl, by simp [eqV]⟩
        | lst e => exact .inr ⟨rfl, _, rfl⟩
        | tup e => exact .inr ⟨rfl, _, rfl⟩
      | int i => exact .inl ⟨rfl, rfl, by simp [eqV]⟩
      | dct e => exact .inr ⟨rfl, _, rfl⟩
      | rat r => exact .inr ⟨rfl, _, rfl⟩
    refine ⟨by show 0 ≤ sizeLine; decide, fun tp ntp => ⟨by show 1 ≤ sizeLine; decide, fun l1 nl1 => fun d nd => ?_⟩⟩
    have t0 := same_upd (o := .tup []) ntp
    have h0 : (upd H tp (.tup [])) tp = some (.tup []) := upd_same
    generalize upd H tp (.tup []) = G0 at *
    have t1 := same_upd (o := .lst [.int 1]) nl1
    have h1 : (upd G0 l1 (.lst [.int 1])) l1 = some (.lst [.int 1]) := upd_same
    generalize upd G0 l1 (.lst [.int 1]) = G1 at *
    have t2 := same_upd (o := .dK []) nd
    have h2 : (upd G1 d (.dK [])) d = some (.dK []) := upd_same
    generalize upd G1 d (.dK []) = G2 at *
    intro q0 dq0 nq0 ndq0 neq0
    refine mkR_at (t := 1) (b := 2) nq0 ndq0 (by decide) (sm41 (by decide) (by decide) (by decide)) fun G3 t3 rq => ⟨rfl, ?_⟩
    refine ⟨by show 7 ≤ sizeLine; decide, fun vl nvl => ?_⟩
    have t4 := same_upd (o := .lst [.non, .int 5, .str "a", .ref tp, .ref l1, .ref d, .ref q0]) nvl
    have hv : (upd G3 vl (.lst [.non, .int 5, .str "a", .ref tp, .ref l1, .ref d, .ref q0])) vl = some (.lst [.non, .int 5, .str "a", .ref tp, .ref l1, .ref d, .ref q0]) := upd_same
    generalize upd G3 vl (.lst [.non, .int 5, .str "a", .ref tp, .ref l1, .ref d, .ref q0]) = G4 at *
    have sH : Same H G4 := (((t0.trans t1).trans t2).trans t3).trans t4
    have w0 := t4 _ _ (t3 _ _ (t2 _ _ (t1 _ _ h0)))
    have w1 := t4 _ _ (t3 _ _ (t2 _ _ h1))
    have w2 := t4 _ _ (t3 _ _ h2)
    have w3 := rq.same t4
    have each : ∀ (j : Nat) x, [V.non, .int 5, .str "a", .ref tp, .ref l1, .ref d, .ref q0][j]? = some x → NoWd C G4 x ∧ ∃ t, RepW K C G4 x t := fun j x hx => by
      match j with
      | 0 => cases hx; exact ⟨⟨.bd .non, fun _ z => nomatch z⟩, _, .inl .non⟩
      | 1 => cases hx; exact ⟨⟨.int 5, fun _ z => nomatch z⟩, _, .inl (.int 5 (by decide +kernel))⟩
      | 2 => cases hx; exact ⟨⟨.bd (.str _), fun w z => by cases w <;> exact absurd (V.str.inj z) (by decide +kernel)⟩, _, .inl (.str _ (by decide +kernel))⟩
      | 3 => cases hx; exact ⟨⟨.bd (.tup w0), fun _ z => nomatch z⟩, _, .inl (.dat (l := 0) (.tup w0 .nil) (by decide +kernel) (by decide +kernel) (by decide +kernel) (by decide +kernel))⟩
      | 4 => cases hx; exact ⟨⟨.bd (.lst w1), fun _ z => nomatch z⟩, _, .inl (.dat (l := l1 + 1) (.lst (Nat.ne_of_lt (Nat.lt_succ_self _)) w1 (.cons (.int 1) .nil)) (by decide +kernel) (by decide +kernel) (by decide +kernel) (by decide +kernel))⟩
      | 5 => cases hx; exact ⟨⟨.dct w2, fun _ z => nomatch z⟩, _, .inl (.dct w2)⟩
      | 6 => cases hx; exact ⟨⟨.rat w3, fun _ z => nomatch z⟩, _, .inr ⟨q0, _, _, rfl, w3, (show (nt 1 2).natAbs.log2 < 1920 by decide +kernel), (show (nb 1 2).natAbs.log2 < 1920 by decide +kernel), rfl⟩⟩
      | n + 7 => cases hx
    clear t0 t1 t2 t3 t4 h0 h1 h2
    refine ⟨vl, rfl, ⟨_, SqL.of hv⟩, for_list (K := K) (a := vl) (xs := [V.non, .int 5, .str "a", .ref tp, .ref l1, .ref d, .ref q0]) (fun j σ G => (∃ v1, σ = [some (.ref a), v1, none, none, none, none, none, none, none, none, none, none, none, none, none]) ∧ Same G4 G) ⟨⟨_, rfl⟩, fun _ _ h => h⟩ (fun j σ G _ ⟨_, sm⟩ => SqL.of (sm _ _ hv)) (fun j x σ G hx ⟨⟨v1, e⟩, sm⟩ => ?_) (fun σ G ⟨⟨v1, e⟩, sm⟩ => ?_)⟩
    · subst e
      obtain ⟨nw, t, rp⟩ := each j x hx
      refine ⟨_, rfl, x, t, rfl, rp.same sm, fun H1 s1 => ⟨_, rfl, if_neg' rfl ?_⟩⟩
      have sx := sm.trans s1
      refine ⟨_, rfl, x, rfl, ⟨nw.1.same sx, nw.2⟩, fun r H2 s2 nr hr2 => ⟨_, rfl, by show 1 ≤ sizeLine; decide, fun m nm => ⟨⟨r, m, _, _, rfl, rfl, same_upd nm _ _ hr2, upd_same, ?_⟩, fun H3 e3 => ⟨_, rfl, if_neg' rfl ⟨⟨_, rfl⟩, ?_⟩⟩⟩⟩⟩
      · exact .cons (da (nw.1.same (sx.trans (s2.trans (same_upd nm))))) .nil
      · exact sx.trans (s2.trans (Same.trans (same_upd nm) e3))
    subst e
    replace sH := sH.trans sm
    clear sm each w0 w1 w2 w3 hv
    generalize G = B1 at sH ⊢
    -- a word of no rule; rules compared
    refine ⟨.str "Sum", rfl, ⟨.bd (.str _), fun w z => by cases w <;> exact absurd (V.str.inj z) (by decide +kernel)⟩, fun r H2 s2 nr hr2 => ⟨by show 1 ≤ sizeLine; decide, fun m nm => ⟨⟨r, m, _, _, rfl, rfl, same_upd nm _ _ hr2, upd_same, .cons (da (.bd (.str _))) .nil⟩, fun H3 e3 => ⟨_, rfl, if_neg' rfl ?_⟩⟩⟩⟩
    replace sH := sH.trans (s2.trans (Same.trans (same_upd nm) e3))
    intro x1 dx1 nx1 nd1 ne1
    refine mkV_at (w := true) nx1 nd1 fun G1 s1 r1 => ⟨rfl, ?_⟩
    intro x2 dx2 nx2 nd2 ne2
    refine mkV_at (w := true) nx2 nd2 fun G2 s3 r2 => ⟨rfl, ?_⟩
    refine ⟨x1, _, _, rfl, (r1.same s3).choose_spec, .inl ⟨x2, _, _, rfl, r2.choose_spec⟩, x1, true, .ref x2, rfl, r1.same s3, .inl ⟨x2, true, rfl, r2, _, rfl, _, rfl, if_neg' rfl ?_⟩⟩
    replace sH := sH.trans (s1.trans s3)
    clear s2 nr hr2 nm e3 s1 s3 r1 r2 nx1 nd1 nx2 nd2
    intro x1 dx1 nx1 nd1 ne1
    refine mkV_at (w := true) nx1 nd1 fun G3 s1 r1 => ⟨rfl, ?_⟩
    intro x2 dx2 nx2 nd2 ne2
    refine mkV_at (w := false) nx2 nd2 fun G4 s3 r2 => ⟨rfl, ?_⟩
    refine ⟨x1, _, _, rfl, (r1.same s3).choose_spec, .inl ⟨x2, _, _, rfl, r2.choose_spec⟩, x1, true, .ref x2, rfl, r1.same s3, .inl ⟨x2, false, rfl, r2, _, rfl, if_neg' rfl ?_⟩⟩
    replace sH := sH.trans (s1.trans s3)
    clear s1 s3 r1 r2 nx1 nd1 nx2 nd2
    intro x1 dx1 nx1 nd1 ne1
    refine mkV_at (w := true) nx1 nd1 fun G5 s1 r1 => ⟨rfl, ?_⟩
    refine ⟨x1, _, _, rfl, r1.choose_spec, .inr ⟨_, rfl⟩, x1, true, _, rfl, r1, .inr ⟨_, rfl, _, rfl, if_neg' rfl ?_⟩⟩
    intro x2 dx2 nx2 nd2 ne2
    refine mkV_at (w := false) nx2 nd2 fun G6 s3 r2 => ⟨rfl, ?_⟩
    obtain ⟨dr, hr2⟩ := r2
    refine ⟨x2, D, dr, _, _, rfl, hr2, U.cl, U.nW, rf_word false, rfl, _, rfl, if_neg' (by decide +kernel) ?_⟩
    replace sH := sH.trans (s1.trans s3)
    clear s1 s3 r1 hr2 nx1 nd1 nx2 nd2
    have hS6 := sH.seq hS
    refine ⟨_, rfl, a, _, rfl, .inl hS6, _, _, rfl, _, _, rfl, _, rfl, ?_, ?_, for_range (fun j σ G => (∃ v2 v3 v4 v5 v6 v7 v8 v9 v10 v11 v12, σ = [some (.ref a), v1, v2, v3, v4, v5, v6, v7, v8, v9, v10, v11, v12, none, none]) ∧ Same G6 G) ⟨⟨_, _, _, _, _, _, _, _, _, _, _, rfl⟩, fun _ _ h => h⟩ (fun j σ G hj ⟨⟨v2, v3, v4, v5, v6, v7, v8, v9, v10, v11, v12, e⟩, sm⟩ => ?_) (fun σ G ⟨⟨v2, v3, v4, v5, v6, v7, v8, v9, v10, v11, v12, e⟩, sm⟩ => ?_)⟩
    · rw [List.length_map]
      split <;> (try split) <;> omega
    · rw [List.length_map]
      split <;> (try split) <;> omega
    · subst e
      refine ⟨_, rfl, _, rfl, a, ns, _, rfl, sm.seq hS6, fun l x0 y0 H1 s1 hl nl => ?_⟩
      have sx0 : SameX l G H1 := SameX.of s1
      -- the rows
      refine ⟨4, rfl, by decide, by decide, fun RL nRL => lc_range (lo := 0) (n := 4) (fun j G' => SameX l H1 G' ∧ (∃ x y, G' l = some (.lst [.int x, .int y])) ∧ ∃ ts : List Addr, G' RL = some (.lst (ts.map V.ref)) ∧ ts.length = j ∧ ∀ (i : Nat) q, ts[i]? = some q → ∃ t b, G' q = some (.tup [.int t, .int b]) ∧ Vb t b)
        ⟨SameX.of (same_upd nRL), ⟨x0, y0, same_upd nRL _ _ hl⟩, [], upd_same, rfl, fun i q h => by simp at h⟩ (fun i G' hi ⟨sx, ⟨x, y, hd⟩, ts, hts, len, is⟩ => ⟨rfl, yes_go ?_⟩) (fun G' ⟨sx, ⟨x, y, hd⟩, ts, hts, len, is⟩ => ?_)⟩
      · refine iteT ?_
        refine ⟨_, rfl, l, 30, x, y, rfl, by decide, by decide, hd, fun d1 x1 y1 e0 e1 => ⟨_, _, rfl, rfl, ?_⟩⟩
        refine ⟨_, rfl, l, 30, x1, y1, rfl, by decide, by decide, upd_same, fun d2 x2 y2 f0 f1 => ⟨_, _, rfl, rfl, ?_⟩⟩
        refine ⟨1 + d1, 1 + d2, rfl, by omega, sm41 (by omega) (by omega) (by decide), fun q nq => ?_⟩
        have rl : RL ≠ l := fun z => by rw [z, hl] at nRL; cases nRL
        have up : SameX l G' (upd (upd (upd G' l (.lst [.int x1, .int y1])) l (.lst [.int x2, .int y2])) q (.tup [.int (nt (1 + d1) (1 + d2)), .int (nb (1 + d1) (1 + d2))])) := (SameX.upd.trans SameX.upd).trans (SameX.of (same_upd nq))
        have h1 := up _ _ rl hts
        have hq : (upd (upd (upd G' l (.lst [.int x1, .int y1])) l (.lst [.int x2, .int y2])) q (.tup [.int (nt (1 + d1) (1 + d2)), .int (nb (1 + d1) (1 + d2))])) q = some (.tup [.int (nt (1 + d1) (1 + d2)), .int (nb (1 + d1) (1 + d2))]) := upd_same
        have hdl : (upd (upd (upd G' l (.lst [.int x1, .int y1])) l (.lst [.int x2, .int y2])) q (.tup [.int (nt (1 + d1) (1 + d2)), .int (nb (1 + d1) (1 + d2))])) l = some (.lst [.int x2, .int y2]) := same_upd nq _ _ upd_same
        generalize upd (upd (upd G' l (.lst [.int x1, .int y1])) l (.lst [.int x2, .int y2])) q (.tup [.int (nt (1 + d1) (1 + d2)), .int (nb (1 + d1) (1 + d2))]) = G2 at up h1 hq hdl ⊢
        refine ⟨_, h1, by rw [List.length_map, len]; exact small1000 (by omega), sx_at (sx.trans up) nRL, ⟨x2, y2, by rw [upd_ne rl.symm]; exact hdl⟩, ts ++ [q], by rw [upd_same, List.map_append]; rfl, by rw [List.length_append, len]; rfl, fun i' q' h' => ?_⟩
        by_cases lt : i' < ts.length
        · rw [List.getElem?_append_left lt] at h'
          obtain ⟨t, b, g1, g2⟩ := is i' q' h'
          refine ⟨t, b, ?_, g2⟩
          rw [upd_ne (fun z => by rw [z, hts] at g1; cases g1)]
          exact up _ _ (fun z => by rw [z, hd] at g1; cases g1) g1
        · rw [List.getElem?_append_right (by omega)] at h'
          have e : i' - ts.length = 0 := by
            by_cases z : i' - ts.length = 0
            · exact z
            · rw [List.getElem?_eq_none (by show 1 ≤ _; omega)] at h'
              cases h'
          rw [e] at h'
          cases h'
          refine ⟨_, _, ?_, vb_low (t := 1 + d1) (b := 1 + d2) (by omega) (by omega) (by omega) (by omega)⟩
          rw [upd_ne (fun z => by rw [z, h1] at hq; cases hq)]
          exact hq
      obtain ⟨TT, BB, rw0⟩ := rw_of hts len is
      have rl : RL ≠ l := fun z => by rw [z, hl] at nRL; cases nRL
      have sx1 := sx0.trans sx
      clear sx s1 hl
      generalize G' = B2 at sx1 hd rw0 ⊢
      -- the ratios
      refine ⟨_, rfl, RL, rfl, ⟨_, SqL.of rw0.at_⟩, fun SL nSL => lc_list (K := K) (a := RL) (xs := ts.map V.ref) (fun j G2 => Same B2 G2 ∧ ∃ qs : List Addr, G2 SL = some (.lst (qs.map V.ref)) ∧ qs.length = j ∧ ∀ (i : Nat) q, qs[i]? = some q → Rat C G2 q (TT i) (BB i)) ⟨same_upd nSL, [], upd_same, rfl, fun i q h => by simp at h⟩
        (fun j G2 _ ⟨sm2, _⟩ => SqL.of (sm2 _ _ rw0.at_)) (fun j z G2 hz ⟨sm2, qs, hSL, len2, is2⟩ => ⟨rfl, yes_go ?_⟩) (fun G2 ⟨sm2, qs, hSL, len2, is2⟩ => ?_)⟩
      · obtain ⟨tq, htq, rfl⟩ : ∃ q, ts[j]? = some q ∧ z = .ref q := by
          rw [List.getElem?_map] at hz
          cases e : ts[j]? with
          | none => rw [e] at hz; cases hz
          | some q => rw [e] at hz; cases hz; exact ⟨q, rfl, rfl⟩
        have hj : j < ts.length := (List.getElem?_eq_some_iff.mp htq).1
        rw [len] at hj
        have vj := rw0.vb j hj
        have ht := sm2 _ _ (rw0.is j tq htq)
        refine iteT ⟨_, rfl, tq, _, _, _, rfl, rfl, SqT.of ht, at_of (j := 0) rfl rfl, _, rfl, tq, _, _, _, rfl, rfl, SqT.of ht, at_of (j := 1) rfl rfl, ?_⟩
        intro x3 dx3 nx3 nd3 ne3
        refine mkR_at nx3 nd3 (Int.ne_of_gt vj.b0) (sm41 (Int.le_of_lt vj.b0) vj.b1 (by decide)) fun G3 s3 r3 => ⟨rfl, ?_⟩
        rw [vj.n1, vj.n2] at r3
        have hL := s3 _ _ hSL
        exact ⟨_, hL, by rw [List.length_map, len2]; exact small1000 (by omega), same_put (sm2.trans s3) nSL, qs ++ [x3], by rw [upd_same, List.map_append]; rfl, by rw [List.length_append, len2]; rfl, is_put (is_next is2 s3 (by rw [len2]; exact r3)) hL⟩
      rw [List.length_map, len] at len2
      have sl : SL ≠ l := fun z => by rw [z, hd] at nSL; cases nSL
      have sm0 : Sm4 C G2 SL qs TT BB := ⟨hSL, len2, is2⟩
      have rw1 : Rw G2 RL ts TT BB := ⟨sm2 _ _ rw0.at_, len, fun i q h => sm2 _ _ (rw0.is i q h), rw0.vb⟩
      replace hd := sm2 _ _ hd
      replace sx1 := sx1.trans (SameX.of sm2)
      clear sm2 hSL is2 rw0 nSL nRL
      generalize G2 = B3 at sx1 hd rw1 sm0 ⊢
      obtain ⟨ta, tb, tc, td, rfl⟩ := four rw1.len
      obtain ⟨qa, qb, qc, qd, rfl⟩ := four sm0.len
      refine ⟨by show 2 ≤ sizeLine; decide, fun WL nWL => ?_⟩
      have wl : WL ≠ l := fun z => by rw [z, hd] at nWL; cases nWL
      have sW := same_upd (o := .lst [.str "sum", .str "inverse"]) nWL
      have hW : (upd B3 WL (.lst [.str "sum", .str "inverse"])) WL = some (.lst [.str "sum", .str "inverse"]) := upd_same
      replace rw1 := rw1.sx (SameX.of sW) hd rl
      replace sm0 := sm0.sx (SameX.of sW) hd sl
      replace hd := sW _ _ hd
      replace sx1 := sx1.trans (SameX.of sW)
      generalize upd B3 WL (.lst [.str "sum", .str "inverse"]) = B4 at hW rw1 sm0 hd sx1 ⊢
      clear sW nWL
      refine ⟨WL, rfl, ⟨_, SqL.of hW⟩, for_list (K := K) (a := WL) (xs := [.str "sum", .str "inverse"]) (fun q σ G' => (∃ v6 v7 v8 v9 v10 v11 v12, σ = [some (.ref a), v1, some (.int (0 + (j : Int))), some (.ref l), some (.ref RL), some (.ref SL), v6, v7, v8, v9, v10, v11, v12, none, none]) ∧ SameX l B4 G' ∧ ∃ x y, G' l = some (.lst [.int x, .int y])) ⟨⟨_, _, _, _, _, _, _, rfl⟩, SameX.refl l B4, x, y, hd⟩
        (fun q σ G' _ ⟨_, sx, _⟩ => SqL.of (sx _ _ wl hW)) (fun q z σ G' hz ⟨⟨u6, u7, u8, u9, u10, u11, u12, e⟩, sx, x', y', hd'⟩ => ?_) (fun σ G' ⟨⟨u6, u7, u8, u9, u10, u11, u12, e⟩, sx, x', y', hd'⟩ => ?_)⟩
      · subst e
        obtain ⟨w', rfl⟩ : ∃ w, z = .str (wd w) := by
          match q with
          | 0 => cases hz; exact ⟨true, rfl⟩
          | 1 => cases hz; exact ⟨false, rfl⟩
          | n + 2 => cases hz
        have rw2 := rw1.sx sx hd rl
        have sm1 := sm0.sx sx hd sl
        have vb0 := rw1.vb 0 (by decide)
        have vb1 := rw1.vb 1 (by decide)
        have vb2 := rw1.vb 2 (by decide)
        have vb3 := rw1.vb 3 (by decide)
        -- a rule, and what is due of two
        refine ⟨_, rfl, ?_⟩
        intro r dr nr ndr ner
        refine mkV_at (w := w') nr ndr fun G1 s1 ru => ⟨rfl, ?_⟩
        replace rw2 := rw2.sx (SameX.of s1) hd' rl
        replace sm1 := sm1.sx (SameX.of s1) hd' sl
        replace hd' := s1 _ _ hd'
        refine ⟨_, rfl, _, rfl, RL, _, _, _, rfl, rfl, SqL.of rw2.at_, at_of (j := 0) rfl rfl, _, rfl, RL, _, _, _, rfl, rfl, SqL.of rw2.at_, at_of (j := 1) rfl rfl, w', ta, tb, (TT 0, BB 0), (TT 1, BB 1), rfl, rw2.is 0 ta rfl, rw2.is 1 tb rfl, vb_rb vb0, vb_rb vb1, fun du ndu => ⟨_, _, rfl, ?_⟩⟩
        have e01 : jn w' (TT 0, BB 0) (TT 1, BB 1) = res w' TT BB [0, 1] := by
          rw [← res_one (w := w') vb0]
          exact res_next (fun i hi => by rw [List.mem_singleton.mp hi]; exact vb0) (by simp) vb1
        rw [e01]
        have s2 := same_upd (o := .tup [.int (res w' TT BB [0, 1]).1, .int (res w' TT BB [0, 1]).2]) ndu
        have hdu : (upd G1 du (.tup [.int (res w' TT BB [0, 1]).1, .int (res w' TT BB [0, 1]).2])) du = some (.tup [.int (res w' TT BB [0, 1]).1, .int (res w' TT BB [0, 1]).2]) := upd_same
        replace rw2 := rw2.sx (SameX.of s2) hd' rl
        replace sm1 := sm1.sx (SameX.of s2) hd' sl
        replace hd' := s2 _ _ hd'
        replace ru := ru.same s2
        replace sx := (sx.trans (SameX.of s1)).trans (SameX.of s2)
        generalize upd G1 du (.tup [.int (res w' TT BB [0, 1]).1, .int (res w' TT BB [0, 1]).2]) = G2 at hdu rw2 sm1 hd' ru sx ⊢
        clear s1 s2 ndu nr ndr ner
        -- the kinds
        obtain ⟨dxr, hr0⟩ := id ru
        refine ⟨r, dxr, _, rfl, _, rfl, SL, _, _, _, rfl, rfl, SqL.of sm1.at_, at_of (j := 0) rfl rfl, _, rfl, SL, _, _, _, rfl, rfl, SqL.of sm1.at_, at_of (j := 1) rfl rfl, hr0, r, _, _, rfl, r, w', _, rfl, ru, (by show 0 < 2; decide), (by show 2 ≤ 8; decide), .inl ⟨TT, BB, gv2 (vp_rat (sm1.is 0 qa rfl) vb0) (vp_rat (sm1.is 1 qb rfl) vb1), fun k1 K1 t1 c1 => ?_⟩⟩
        refine ⟨r, dxr, _, rfl, t1 _ _ hr0, r, _, _, rfl, r, w', _, rfl, ru.same t1, (by show 0 < 2; decide), (by show 2 ≤ 8; decide), .inl ⟨T23, fun _ => 1, gv2 (vp_int (i := 2) (by decide) (by decide)) (vp_int (i := 3) (by decide) (by decide)), fun k2 K2 t2 c2 => ?_⟩⟩
        have t12 := t1.trans t2
        refine ⟨_, rfl, r, dxr, _, rfl, t12 _ _ hr0, rf_no _ (by decide +kernel), r, w', _, rfl, ru.same t12, (by show 0 < 1; decide), (by show 1 ≤ 8; decide), .inl ⟨T23, fun _ => 1, gv1 (vp_int (i := 2) (by decide) (by decide)), fun k3 K3 t3 c3 => ?_⟩⟩
        have t13 := t12.trans t3
        refine ⟨_, rfl, r, dxr, _, rfl, t13 _ _ hr0, rf_no _ (by decide +kernel), r, w', _, rfl, ru.same t13, (by show 0 < 2; decide), (by show 2 ≤ 8; decide), .inl ⟨T23, fun _ => 1, gv2 (vp_int (i := 2) (by decide) (by decide)) (vp_int (i := 3) (by decide) (by decide)), fun k4 K4 t4 c4 => ?_⟩⟩
        refine ⟨by show 4 ≤ sizeLine; decide, fun KL nKL => ?_⟩
        have tK := same_upd (o := .lst [.ref k1, .ref k2, .ref k3, .ref k4]) nKL
        have hKL : (upd K4 KL (.lst [.ref k1, .ref k2, .ref k3, .ref k4])) KL = some (.lst [.ref k1, .ref k2, .ref k3, .ref k4]) := upd_same
        replace c1 := c1.same ((t2.trans t3).trans (t4.trans tK))
        replace c2 := c2.same (t3.trans (t4.trans tK))
        replace c3 := c3.same (t4.trans tK)
        replace c4 := c4.same tK
        have tA := (t13.trans t4).trans tK
        replace rw2 := rw2.sx (SameX.of (tA)) hd' rl
        replace sm1 := sm1.sx (SameX.of (tA)) hd' sl
        replace hd' := (tA) _ _ hd'
        replace ru := ru.same (tA)
        replace hr0 := (tA) _ _ hr0
        replace sx := sx.trans (SameX.of (tA))
        replace hdu := (tA) _ _ hdu
        clear t1 t2 t3 t4 t12 t13 tA
        generalize upd K4 KL (.lst [.ref k1, .ref k2, .ref k3, .ref k4]) = G3 at rw2 sm1 hd' ru hr0 sx hdu hKL c1 c2 c3 c4 ⊢
        clear nKL tK
        have allR : ∀ (i : Nat) x, [V.ref k1, .ref k2, .ref k3, .ref k4][i]? = some x → ∃ q t b, x = .ref q ∧ Rat C G3 q t b := fun i x h => by
          match i with
          | 0 => cases h; exact ⟨_, _, _, rfl, c1⟩
          | 1 => cases h; exact ⟨_, _, _, rfl, c2⟩
          | 2 => cases h; exact ⟨_, _, _, rfl, c3⟩
          | 3 => cases h; exact ⟨_, _, _, rfl, c4⟩
          | n + 4 => cases h
        refine ⟨_, rfl, KL, rfl, ⟨_, SqL.of hKL⟩, fun E1 nE1 => lc_list (K := K) (a := KL) (xs := [V.ref k1, .ref k2, .ref k3, .ref k4]) (fun _ G' => Same G3 G' ∧ G' E1 = some (.lst [])) ⟨same_upd nE1, upd_same⟩ (fun _ G' _ ⟨t, _⟩ => SqL.of (t _ _ hKL)) (fun i x G' hx ⟨t, hE⟩ => ⟨rfl, ?_⟩) (fun G' ⟨t, hE⟩ => ⟨by show 0 ≤ sizeLine; decide, fun m nm => ⟨E1, m, [], rfl, rfl, same_upd nm _ _ hE, upd_same, _, rfl, if_neg' rfl ?_⟩⟩)⟩
        · obtain ⟨k, t0, b0, rfl, dk, hk⟩ := allR i x hx
          exact ⟨_, rfl, _, _, _, _, _, rfl, .own C, .base (.ins (t _ _ hk) T.cl T.ha T.hn T.htk T.hm), T.kCC, _, rfl, if_neg' rfl ⟨t, hE⟩⟩
        have tB := t.trans (same_upd (o := .lst []) nm)
        replace hKL := tB _ _ hKL
        replace c1 := c1.same tB
        replace c2 := c2.same tB
        replace c3 := c3.same tB
        replace c4 := c4.same tB
        replace rw2 := rw2.sx (SameX.of (tB)) hd' rl
        replace sm1 := sm1.sx (SameX.of (tB)) hd' sl
        replace hd' := (tB) _ _ hd'
        replace ru := ru.same (tB)
        replace hr0 := (tB) _ _ hr0
        replace sx := sx.trans (SameX.of (tB))
        replace hdu := (tB) _ _ hdu
        generalize upd G' m (.lst []) = G4 at rw2 sm1 hd' ru hr0 sx hdu hKL c1 c2 c3 c4 ⊢
        clear tB t hE nE1 nm allR
        -- kinds compared
        have e1 : res w' T23 (fun _ => 1) (List.range 1) = (2, 1) := res_one (i := 0) (vb_int (i := 2) (by decide) (by decide))
        replace c3 : Rat C G4 k3 (res w' T23 (fun _ => 1) (List.range 1)).1 (res w' T23 (fun _ => 1) (List.range 1)).2 := c3
        rw [e1] at c3
        refine ⟨_, rfl, KL, _, _, _, rfl, rfl, SqL.of hKL, at_of (j := 1) rfl rfl, _, rfl, KL, _, _, _, rfl, rfl, SqL.of hKL, at_of (j := 3) rfl rfl, k2, _, _, rfl, c2.choose_spec, .inl ⟨k4, _, _, rfl, c4.choose_spec⟩, k2, .ref k4, _, _, rfl, c2, .inl ⟨k4, _, _, rfl, c4, _, rfl, if_neg' (by simp) ?_⟩⟩
        refine ⟨_, rfl, KL, _, _, _, rfl, rfl, SqL.of hKL, at_of (j := 2) rfl rfl, k3, _, _, rfl, c3.choose_spec, .inr (.inl ⟨2, rfl⟩), k3, .int 2, _, _, rfl, c3, .inr (.inl ⟨2, rfl, _, rfl, if_neg' (by decide) ?_⟩)⟩
        clear c1 c2 c3 c4 hKL
        -- the rule called
        have rb2 : Rb (res w' TT BB [0, 1]) := res_rb (by decide) (fun i hi => by
          rcases List.mem_cons.mp hi with rfl | hi
          · exact vb0
          · rw [List.mem_singleton.mp hi]; exact vb1) (by simp)
        refine ⟨r, dxr, _, rfl, _, rfl, SL, _, _, _, rfl, rfl, SqL.of sm1.at_, at_of (j := 0) rfl rfl, _, rfl, SL, _, _, _, rfl, rfl, SqL.of sm1.at_, at_of (j := 1) rfl rfl, hr0, r, _, _, rfl, r, w', _, rfl, ru, (by show 0 < 2; decide), (by show 2 ≤ 8; decide), .inl ⟨TT, BB, gv2 (vp_rat (sm1.is 0 qa rfl) vb0) (vp_rat (sm1.is 1 qb rfl) vb1), fun k5 K5 t5 c5 => ?_⟩⟩
        replace c5 : Rat C K5 k5 (res w' TT BB [0, 1]).1 (res w' TT BB [0, 1]).2 := c5
        have hdu5 := t5 _ _ hdu
        refine ⟨_, rfl, du, _, _, _, rfl, rfl, SqT.of hdu5, at_of (j := 0) rfl rfl, _, rfl, du, _, _, _, rfl, rfl, SqT.of hdu5, at_of (j := 1) rfl rfl, ?_⟩
        intro y1 dy1 ny1 ndy1 ney1
        refine mkR_at ny1 ndy1 (Int.ne_of_gt rb2.b0) (Nat.lt_of_lt_of_le rb2.b1 (Nat.pow_le_pow_right (by decide) (by decide))) fun K6 t6 c6 => ⟨rfl, ?_⟩
        rw [rb2.n1, rb2.n2] at c6
        replace c5 := c5.same t6
        refine ⟨k5, _, _, rfl, c5.choose_spec, .inl ⟨y1, _, _, rfl, c6.choose_spec⟩, k5, .ref y1, _, _, rfl, c5, .inl ⟨y1, _, _, rfl, c6, _, rfl, if_neg' (by simp) ?_⟩⟩
        have tC := t5.trans t6
        replace rw2 := rw2.sx (SameX.of (tC)) hd' rl
        replace sm1 := sm1.sx (SameX.of (tC)) hd' sl
        replace hd' := (tC) _ _ hd'
        replace ru := ru.same (tC)
        replace hr0 := (tC) _ _ hr0
        replace sx := sx.trans (SameX.of (tC))
        replace hdu := (tC) _ _ hdu
        clear t5 t6 tC c5 c6 hdu5 ny1 ndy1
        -- a ratio and 1, either way about
        have gva : ∀ {G : Hp}, Rat C G qa (TT 0) (BB 0) → Vp C G (.ref qa) (TT 0) (BB 0) := fun h => vp_rat h vb0
        refine ⟨r, dxr, _, rfl, _, rfl, SL, _, _, _, rfl, rfl, SqL.of sm1.at_, at_of (j := 0) rfl rfl, hr0, r, _, _, rfl, r, w', _, rfl, ru, (by show 0 < 2; decide), (by show 2 ≤ 8; decide), .inl ⟨fun i => if i = 0 then TT 0 else 1, fun i => if i = 0 then BB 0 else 1, gv2 (gva (sm1.is 0 qa rfl)) (vp_int (i := 1) (by decide) (by decide)), fun k5 K5 t5 c5 => ?_⟩⟩
        refine ⟨r, dxr, _, rfl, _, rfl, SL, _, _, _, rfl, rfl, SqL.of (t5 _ _ sm1.at_), at_of (j := 0) rfl rfl, t5 _ _ hr0, r, _, _, rfl, r, w', _, rfl, ru.same t5, (by show 0 < 2; decide), (by show 2 ≤ 8; decide), .inl ⟨fun i => (fun i => if i = 0 then TT 0 else 1) (1 - i), fun i => (fun i => if i = 0 then BB 0 else 1) (1 - i), gv2 (vp_int (i := 1) (by decide) (by decide)) (gva ((sm1.is 0 qa rfl).same t5)), fun k6 K6 t6 c6 => ?_⟩⟩
        rw [res_map (w := w') (T := fun i => if i = 0 then TT 0 else 1) (B := fun i => if i = 0 then BB 0 else 1) (f := fun i => 1 - i)] at c6
        rw [show List.map (fun i => 1 - i) (List.range [V.int 1, V.ref qa].length) = [1, 0] from rfl, res_perm (L' := List.range 2) (List.Perm.swap 0 1 [] : ([1, 0] : List Nat).Perm [0, 1])] at c6
        replace c5 := c5.same t6
        refine ⟨k5, _, _, rfl, c5.choose_spec, .inl ⟨k6, _, _, rfl, c6.choose_spec⟩, k5, .ref k6, _, _, rfl, c5, .inl ⟨k6, _, _, rfl, c6, _, rfl, if_neg' (by simp) ?_⟩⟩
        have tC := t5.trans t6
        replace rw2 := rw2.sx (SameX.of (tC)) hd' rl
        replace sm1 := sm1.sx (SameX.of (tC)) hd' sl
        replace hd' := (tC) _ _ hd'
        replace ru := ru.same (tC)
        replace hr0 := (tC) _ _ hr0
        replace sx := sx.trans (SameX.of (tC))
        replace hdu := (tC) _ _ hdu
        clear t5 t6 tC c5 c6
        refine ⟨_, rfl, _, rfl, RL, _, rfl, SqL.of rw2.at_, fun cp ncp => ?_⟩
        have hcp : (upd K6 cp (.lst (cutV ([ta, tb, tc, td].map V.ref) (some 2) none))) cp = some (.lst [.ref tc, .ref td]) := upd_same
        have tC := same_upd (o := .lst (cutV ([ta, tb, tc, td].map V.ref) (some 2) none)) ncp
        replace rw2 := rw2.sx (SameX.of (tC)) hd' rl
        replace sm1 := sm1.sx (SameX.of (tC)) hd' sl
        replace hd' := (tC) _ _ hd'
        replace ru := ru.same (tC)
        replace hr0 := (tC) _ _ hr0
        replace sx := sx.trans (SameX.of (tC))
        replace hdu := (tC) _ _ hdu
        generalize upd K6 cp (.lst (cutV ([ta, tb, tc, td].map V.ref) (some 2) none)) = G5 at rw2 sm1 hd' ru hr0 sx hdu hcp ⊢
        clear tC ncp
        have rbn : ∀ n, 0 < n → n ≤ 4 → Rb (res w' TT BB (List.range n)) := fun n h0 h4 => res_rb (by rw [List.length_range]; omega) (fun i hi => rw2.vb i (by have := List.mem_range.mp hi; omega)) (by
          cases n with
          | zero => omega
          | succ n => simp [List.range_succ])
        refine ⟨cp, rfl, ⟨_, SqL.of hcp⟩, for_list (K := K) (a := cp) (xs := [.ref tc, .ref td]) (fun i σ G' => (∃ dui v10, σ = [some (.ref a), v1, some (.int (0 + (j : Int))), some (.ref l), some (.ref RL), some (.ref SL), some (.str (wd w')), some (.ref r), some (.ref dui), some (.ref KL), v10, u11, u12, none, none] ∧ i ≤ 2 ∧ G' dui = some (.tup [.int (res w' TT BB (List.range (2 + i))).1, .int (res w' TT BB (List.range (2 + i))).2])) ∧ Same G5 G') ⟨⟨du, _, rfl, by decide, hdu⟩, fun _ _ h => h⟩
          (fun i σ G' _ ⟨_, t⟩ => SqL.of (t _ _ hcp)) (fun i z σ G' hz ⟨⟨dui, v10, e, i2, hdi⟩, t⟩ => ?_) (fun σ G' ⟨⟨dui, v10, e, i2, hdi⟩, t⟩ => ?_)⟩
        · subst e
          obtain ⟨tq, rfl, htq, lt⟩ : ∃ q, z = .ref q ∧ G5 q = some (.tup [.int (TT (2 + i)), .int (BB (2 + i))]) ∧ i < 2 := by
            match i with
            | 0 => cases hz; exact ⟨_, rfl, rw2.is 2 tc rfl, by decide⟩
            | 1 => cases hz; exact ⟨_, rfl, rw2.is 3 td rfl, by decide⟩
            | n + 2 => cases hz
          refine ⟨_, rfl, _, rfl, _, rfl, w', dui, tq, _, (TT (2 + i), BB (2 + i)), rfl, hdi, t _ _ htq, rbn (2 + i) (by omega) (by omega), vb_rb (rw2.vb (2 + i) (by omega)), fun nd nnd => ⟨⟨nd, _, rfl, by omega, ?_⟩, t.trans (same_upd nnd)⟩⟩
          rw [upd_same, res_next (fun n hn => rw2.vb n (by have := List.mem_range.mp hn; omega)) (by rw [Nat.add_comm]; simp [List.range_succ]) (rw2.vb (2 + i) (by omega)), ← List.range_succ]
          rfl
        subst e
        simp only [List.length_cons, List.length_nil] at hdi
        replace hdi : G' dui = some (.tup [.int (res w' TT BB (List.range 4)).1, .int (res w' TT BB (List.range 4)).2]) := hdi
        replace rw2 := rw2.sx (SameX.of (t)) hd' rl
        replace sm1 := sm1.sx (SameX.of (t)) hd' sl
        replace hd' := (t) _ _ hd'
        replace ru := ru.same (t)
        replace hr0 := (t) _ _ hr0
        replace sx := sx.trans (SameX.of (t))
        clear hdu hcp t
        -- all four, in two orders
        have rb4 := rbn 4 (by decide) (by decide)
        refine ⟨_, rfl, r, dxr, _, rfl, hr0, rf_no _ (by decide +kernel), _, rfl, SL, _, _, _, rfl, rfl, SqL.of sm1.at_, at_of (j := 0) rfl rfl, _, rfl, SL, _, _, _, rfl, rfl, SqL.of sm1.at_, at_of (j := 1) rfl rfl, _, rfl, SL, _, _, _, rfl, rfl, SqL.of sm1.at_, at_of (j := 2) rfl rfl, _, rfl, SL, _, _, _, rfl, rfl, SqL.of sm1.at_, at_of (j := 3) rfl rfl, r, w', _, rfl, ru, (by show 0 < 4; decide), (by show 4 ≤ 8; decide), .inl ⟨TT, BB, gv4 (vp_rat (sm1.is 0 qa rfl) vb0) (vp_rat (sm1.is 1 qb rfl) vb1) (vp_rat (sm1.is 2 qc rfl) vb2) (vp_rat (sm1.is 3 qd rfl) vb3), fun k1 K1 t1 c1 => ⟨by show 1 ≤ sizeLine; decide, fun n1 nn1 => ?_⟩⟩⟩
        replace c1 : Rat C K1 k1 (res w' TT BB (List.range 4)).1 (res w' TT BB (List.range 4)).2 := c1
        have tC := t1.trans (same_upd (o := .lst [.ref k1]) nn1)
        have hn1 : (upd K1 n1 (.lst [.ref k1])) n1 = some (.lst [.ref k1]) := upd_same
        replace c1 := c1.same (same_upd (o := .lst [.ref k1]) nn1)
        replace rw2 := rw2.sx (SameX.of (tC)) hd' rl
        replace sm1 := sm1.sx (SameX.of (tC)) hd' sl
        replace hd' := (tC) _ _ hd'
        replace ru := ru.same (tC)
        replace hr0 := (tC) _ _ hr0
        replace sx := sx.trans (SameX.of (tC))
        replace hdi := (tC) _ _ hdi
        generalize upd K1 n1 (.lst [.ref k1]) = G7 at rw2 sm1 hd' ru hr0 sx hdi hn1 c1 ⊢
        clear tC t1 nn1
        refine ⟨_, rfl, _, rfl, r, dxr, _, rfl, hr0, rf_no _ (by decide +kernel), _, rfl, SL, _, _, _, rfl, rfl, SqL.of sm1.at_, at_of (j := 3) rfl rfl, _, rfl, SL, _, _, _, rfl, rfl, SqL.of sm1.at_, at_of (j := 1) rfl rfl, _, rfl, SL, _, _, _, rfl, rfl, SqL.of sm1.at_, at_of (j := 2) rfl rfl, _, rfl, SL, _, _, _, rfl, rfl, SqL.of sm1.at_, at_of (j := 0) rfl rfl, r, w', _, rfl, ru, (by show 0 < 4; decide), (by show 4 ≤ 8; decide), .inl ⟨fun i => TT ((fun i => [3, 1, 2, 0].getD i 0) i), fun i => BB ((fun i => [3, 1, 2, 0].getD i 0) i), gv4 (vp_rat (sm1.is 3 qd rfl) vb3) (vp_rat (sm1.is 1 qb rfl) vb1) (vp_rat (sm1.is 2 qc rfl) vb2) (vp_rat (sm1.is 0 qa rfl) vb0), fun k2 K2 t2 c2 => ⟨by show 1 ≤ sizeLine; decide, fun m2 nm2 => ?_⟩⟩⟩
        rw [res_map (w := w') (T := TT) (B := BB) (f := fun i => [3, 1, 2, 0].getD i 0), show List.map (fun i => [3, 1, 2, 0].getD i 0) (List.range [V.ref qd, .ref qb, .ref qc, .ref qa].length) = [3, 1, 2, 0] from rfl, res_perm (L' := List.range 4) (by decide : ([3, 1, 2, 0] : List Nat).Perm (List.range 4))] at c2
        have tD := t2.trans (same_upd (o := .lst [.ref k2]) nm2)
        refine ⟨n1, m2, _, _, rfl, rfl, tD _ _ hn1, upd_same, (by show 1 + 1 ≤ sizeLine; decide), fun TL nTL => ?_⟩
        have tE := same_upd (o := .lst ([.ref k1] ++ [.ref k2])) nTL
        have hTL : (upd (upd K2 m2 (.lst [.ref k2])) TL (.lst ([.ref k1] ++ [.ref k2]))) TL = some (.lst [.ref k1, .ref k2]) := upd_same
        replace c1 := c1.same (tD.trans tE)
        replace c2 := c2.same ((same_upd nm2).trans tE)
        have tC := tD.trans tE
        replace rw2 := rw2.sx (SameX.of (tC)) hd' rl
        replace sm1 := sm1.sx (SameX.of (tC)) hd' sl
        replace hd' := (tC) _ _ hd'
        replace ru := ru.same (tC)
        replace hr0 := (tC) _ _ hr0
        replace sx := sx.trans (SameX.of (tC))
        replace hdi := (tC) _ _ hdi
        generalize upd (upd K2 m2 (.lst [.ref k2])) TL (.lst ([.ref k1] ++ [.ref k2])) = G8 at rw2 sm1 hd' ru hr0 sx hdi hTL c1 c2 ⊢
        clear tC tD tE t2 nm2 nTL hn1
        refine ⟨_, rfl, _, rfl, dui, _, _, _, rfl, rfl, SqT.of hdi, at_of (j := 0) rfl rfl, _, rfl, dui, _, _, _, rfl, rfl, SqT.of hdi, at_of (j := 1) rfl rfl, ?_⟩
        intro y1 dy1 ny1 ndy1 ney1
        refine mkR_at ny1 ndy1 (Int.ne_of_gt rb4.b0) (Nat.lt_of_lt_of_le rb4.b1 (Nat.pow_le_pow_right (by decide) (by decide))) fun K6 t6 c6 => ⟨rfl, ?_⟩
        rw [rb4.n1, rb4.n2] at c6
        refine ⟨by show 1 ≤ sizeLine; decide, fun sl1 nsl1 => ⟨sl1, 2, _, rfl, rfl, upd_same, by decide, by decide, (by show 1 * 2 ≤ sizeLine; decide), fun pl npl => ?_⟩⟩
        have u1 := same_upd (o := .lst [.ref y1]) nsl1
        have u2 := same_upd (o := .lst (List.replicate (2 : Int).toNat [V.ref y1]).flatten) npl
        have tC := t6.trans (u1.trans u2)
        replace c1 := c1.same tC
        replace c2 := c2.same tC
        replace c6 := c6.same (u1.trans u2)
        have hpl : (upd (upd K6 sl1 (.lst [.ref y1])) pl (.lst (List.replicate (2 : Int).toNat [V.ref y1]).flatten)) pl = some (.lst [.ref y1, .ref y1]) := upd_same
        refine ⟨⟨TL, pl, _, _, rfl, rfl, tC _ _ hTL, hpl, .cons (.inr ⟨k1, y1, _, _, _, _, rfl, rfl, c1.choose_spec, c6.choose_spec, _, _, c1, c6⟩) (.cons (.inr ⟨k2, y1, _, _, _, _, rfl, rfl, c2.choose_spec, c6.choose_spec, _, _, c2, c6⟩) .nil)⟩, fun H3 e3 => ⟨_, rfl, if_neg' rfl ?_⟩⟩
        have tF : Same G8 H3 := tC.trans e3
        replace rw2 := rw2.sx (SameX.of (tF)) hd' rl
        replace sm1 := sm1.sx (SameX.of (tF)) hd' sl
        replace hd' := (tF) _ _ hd'
        replace ru := ru.same (tF)
        replace hr0 := (tF) _ _ hr0
        replace sx := sx.trans (SameX.of (tF))
        clear tF tC u1 u2 hpl hTL c1 c2 c6 hdi e3 t6 nsl1 npl ny1 ndy1
        refine ⟨_, rfl, r, dxr, _, rfl, hr0, rf_no _ (by decide +kernel), _, rfl, SL, _, _, _, rfl, rfl, SqL.of sm1.at_, at_of (j := 0) rfl rfl, r, w', _, rfl, ru, (by show 0 < 1; decide), (by show 1 ≤ 8; decide), .inl ⟨TT, BB, gv1 (vp_rat (sm1.is 0 qa rfl) vb0), fun k3 K3 t3 c3 => ?_⟩⟩
        replace c3 : Rat C K3 k3 (res w' TT BB [0]).1 (res w' TT BB [0]).2 := c3
        rw [res_one vb0] at c3
        replace rw2 := rw2.sx (SameX.of (t3)) hd' rl
        replace sm1 := sm1.sx (SameX.of (t3)) hd' sl
        replace hd' := (t3) _ _ hd'
        replace ru := ru.same (t3)
        replace hr0 := (t3) _ _ hr0
        replace sx := sx.trans (SameX.of (t3))
        refine ⟨_, rfl, SL, _, _, _, rfl, rfl, SqL.of sm1.at_, at_of (j := 0) rfl rfl, k3, _, _, rfl, c3.choose_spec, .inl ⟨qa, _, _, rfl, (sm1.is 0 qa rfl).choose_spec⟩, k3, .ref qa, _, _, rfl, c3, .inl ⟨qa, _, _, rfl, sm1.is 0 qa rfl, _, rfl, if_neg' (by simp) ?_⟩⟩
        clear t3 c3
        -- values that are none
        refine ⟨1, rfl, ?_⟩
        intro z1 dz1 nz1 ndz1 nez1
        refine mkR_one (t := 0) nz1 ndz1 fun L1 t1 c1 => ⟨rfl, ?_⟩
        refine ⟨1, rfl, ?_⟩
        intro z2 dz2 nz2 ndz2 nez2
        refine mkR_at (t := -1) (b := 2) nz2 ndz2 (by decide) (sm41 (by decide) (by decide) (by decide)) fun L2 t2 c2 => ⟨rfl, ?_⟩
        refine ⟨by show 1 ≤ sizeLine; decide, fun z3 nz3 => ⟨by show 8 ≤ sizeLine; decide, fun bl nbl => ?_⟩⟩
        have zl : z3 ≠ l := fun z => by rw [z, (t1.trans t2) _ _ hd'] at nz3; cases nz3
        have u1 := same_upd (o := .lst [.int 1]) nz3
        have h3 : (upd L2 z3 (.lst [.int 1])) z3 = some (.lst [.int 1]) := upd_same
        generalize upd L2 z3 (.lst [.int 1]) = L3 at u1 h3 nbl ⊢
        have bll : bl ≠ l := fun z => by rw [z, ((t1.trans t2).trans u1) _ _ hd'] at nbl; cases nbl
        have u2 := same_upd (o := .lst [.int 0, .int (-1), .bl true, .non, .str "1", .ref z1, .ref z2, .ref z3]) nbl
        have hbl : (upd L3 bl (.lst [.int 0, .int (-1), .bl true, .non, .str "1", .ref z1, .ref z2, .ref z3])) bl = some (.lst [.int 0, .int (-1), .bl true, .non, .str "1", .ref z1, .ref z2, .ref z3]) := upd_same
        replace h3 := u2 _ _ h3
        replace c1 := c1.same (t2.trans (u1.trans u2))
        replace c2 := c2.same (u1.trans u2)
        have tC := (t1.trans t2).trans (u1.trans u2)
        replace rw2 := rw2.sx (SameX.of (tC)) hd' rl
        replace sm1 := sm1.sx (SameX.of (tC)) hd' sl
        replace hd' := (tC) _ _ hd'
        replace ru := ru.same (tC)
        replace hr0 := (tC) _ _ hr0
        replace sx := sx.trans (SameX.of (tC))
        generalize upd L3 bl (.lst [.int 0, .int (-1), .bl true, .non, .str "1", .ref z1, .ref z2, .ref z3]) = L4 at rw2 sm1 hd' ru hr0 sx h3 hbl c1 c2 ⊢
        clear tC u1 u2 t1 t2 nz1 ndz1 nz2 ndz2 nz3 nbl
        have ins : ∀ {G : Hp} {q : Addr} {t b : Int}, SameX l L4 G → Rat C L4 q t b → Rat C G q t b := fun s c => let ⟨dx, e⟩ := c; ⟨dx, s _ _ (fun z => by rw [z, hd'] at e; cases e) e⟩
        have bads : ∀ (i : Nat) v, [V.int 0, .int (-1), .bl true, .non, .str "1", .ref z1, .ref z2, .ref z3][i]? = some v → ∀ G, SameX l L4 G → NoV C G v ∧ Wv C G v := fun i v h G s => by
          match i with
          | 0 => cases h; exact ⟨.inr ⟨0, 1, .inr ⟨rfl, rfl⟩, by decide⟩, .int _⟩
          | 1 => cases h; exact ⟨.inr ⟨-1, 1, .inr ⟨rfl, rfl⟩, by decide⟩, .int _⟩
          | 2 => cases h; exact ⟨.inl (.bl _), .bd (.bl _)⟩
          | 3 => cases h; exact ⟨.inl .non, .bd .non⟩
          | 4 => cases h; exact ⟨.inl (.str _), .bd (.str _)⟩
          | 5 => cases h; exact ⟨.inr ⟨_, _, .inl ⟨z1, rfl, ins s c1⟩, by decide⟩, .rat (ins s c1)⟩
          | 6 => cases h; exact ⟨.inr ⟨_, _, .inl ⟨z2, rfl, ins s c2⟩, by decide +kernel⟩, .rat (ins s c2)⟩
          | 7 => cases h; exact ⟨.inl (.lst (s _ _ zl h3)), .bd (.lst (s _ _ zl h3))⟩
          | n + 8 => cases h
        refine ⟨_, rfl, l, 8, _, _, rfl, by decide, by decide, hd', fun dd x2 y2 e0 e1 => ?_⟩
        obtain ⟨n, rfl⟩ := Int.eq_ofNat_of_zero_le e0
        obtain ⟨v, hv⟩ : ∃ v, [V.int 0, .int (-1), .bl true, .non, .str "1", .ref z1, .ref z2, .ref z3][n]? = some v := ⟨_, List.getElem?_eq_getElem (by simp only [List.length_cons, List.length_nil]; omega)⟩
        have sU : SameX l L4 (upd L4 l (.lst [.int x2, .int y2])) := SameX.upd
        obtain ⟨nv, wv⟩ := bads n v hv _ sU
        refine ⟨bl, _, (n : Int), v, rfl, rfl, SqL.of (sU _ _ bll hbl), at_of (j := n) rfl hv, ?_⟩
        have rne : r ≠ l := fun z => by rw [z, hd'] at hr0; cases hr0
        replace rw2 := rw2.sx sU hd' rl
        replace sm1 := sm1.sx sU hd' sl
        replace hr0 := sU _ _ rne hr0
        replace ru : Rul D _ r w' := ⟨dxr, hr0⟩
        replace sx := sx.trans sU
        replace hd' : (upd L4 l (.lst [.int x2, .int y2])) l = some (.lst [.int x2, .int y2]) := upd_same
        generalize upd L4 l (.lst [.int x2, .int y2]) = L5 at rw2 sm1 hr0 ru sx hd' nv wv ⊢
        clear sU bads ins hbl bll zl h3 c1 c2 hv e0 e1
        -- refused, first or second
        have bad0 : ∀ {G : Hp} {u : V}, Same L5 G → BadV C G [v, u] 0 v := fun s => ⟨fun i u h => absurd h (by omega), rfl, nv.same s⟩
        have bad1 : ∀ {G : Hp} {u : V} {t b : Int} {tl : List V}, Same L5 G → Vp C G u t b → BadV C G (u :: v :: tl) 1 v := fun s p => ⟨fun i z h hz => by
          have e : i = 0 := by omega
          subst e
          cases hz
          exact ⟨_, _, p⟩, rfl, nv.same s⟩
        refine ⟨_, rfl, _, rfl, by show 2 ≤ sizeLine; decide, fun b1 nb1 => ⟨r, b1, w', [v, .int 1], 0, v, rfl, ru.same (same_upd nb1), upd_same, .inl ⟨_, _, rfl⟩, bad0 (same_upd nb1), fun o1 O1 s1 no1 ho1 => ?_⟩⟩
        have sA := (same_upd (o := .lst [v, .int 1]) nb1).trans s1
        refine ⟨_, rfl, _, rfl, by show 2 ≤ sizeLine; decide, fun b2 nb2 => ⟨r, b2, w', [.int 1, v], 1, v, rfl, ru.same (sA.trans (same_upd nb2)), upd_same, .inl ⟨_, _, rfl⟩, bad1 (sA.trans (same_upd nb2)) (vp_int (i := 1) (by decide) (by decide)), fun o2 O2 s2 no2 ho2 => ?_⟩⟩
        have sB := (same_upd (o := .lst [.int 1, v]) nb2).trans s2
        replace ho1 := sB _ _ ho1
        refine ⟨by show 2 ≤ sizeLine; decide, fun p1 np1 => ?_⟩
        have sC := same_upd (o := .lst [.ref o1, .ref o2]) np1
        refine ⟨_, rfl, by show 1 ≤ sizeLine; decide, fun f1 nf1 => ⟨by show 1 ≤ sizeLine; decide, fun f2 nf2 => ⟨f2, 2, _, rfl, rfl, upd_same, by decide, by decide, (by show 1 * 2 ≤ sizeLine; decide), fun f3 nf3 => ?_⟩⟩⟩
        have sD := same_upd (o := .lst [v]) nf1
        have sE := same_upd (o := .lst [.ref f1]) nf2
        have sF := same_upd (o := .lst (List.replicate (2 : Int).toNat [V.ref f1]).flatten) nf3
        have sG := sC.trans (sD.trans (sE.trans sF))
        have ho1' := sG _ _ ho1
        have ho2' := sG _ _ ho2
        have hf1 : (upd (upd (upd (upd O2 p1 (.lst [.ref o1, .ref o2])) f1 (.lst [v])) f2 (.lst [.ref f1])) f3 (.lst (List.replicate (2 : Int).toNat [V.ref f1]).flatten)) f1 = some (.lst [v]) := (sE.trans sF) _ _ upd_same
        have hp1 := (sD.trans (sE.trans sF)) _ _ (upd_same (H := O2) (a := p1) (o := .lst [.ref o1, .ref o2]))
        have sAll : Same L5 _ := (sA.trans sB).trans sG
        have wv' := wv.same sAll
        refine ⟨⟨p1, f3, [.ref o1, .ref o2], [.ref f1, .ref f1], rfl, rfl, hp1, upd_same, .cons ⟨o1, f1, _, _, rfl, rfl, ho1', hf1, .cons (da wv') .nil⟩ (.cons ⟨o2, f1, _, _, rfl, rfl, ho2', hf1, .cons (da wv') .nil⟩ .nil)⟩, fun H3 e3 => ⟨_, rfl, if_neg' rfl ?_⟩⟩
        have sH3 : Same L5 H3 := sAll.trans e3
        replace sm1 := sm1.sx (SameX.of sH3) hd' sl
        replace ru := ru.same sH3
        refine ⟨_, rfl, _, rfl, SL, _, _, _, rfl, rfl, SqL.of sm1.at_, at_of (j := 0) rfl rfl, _, rfl, by show 3 ≤ sizeLine; decide, fun b4 nb4 => ⟨r, b4, w', [.ref qa, v, .non], 1, v, rfl, ru.same (same_upd nb4), upd_same, .inr ⟨_, _, _, rfl⟩, bad1 (sH3.trans (same_upd nb4)) (vp_rat ((sm1.is 0 qa rfl).same (same_upd nb4)) vb0), fun o3 O3 s3 no3 ho3 => ?_⟩⟩
        have sI := sH3.trans ((same_upd (o := .lst [.ref qa, v, .non]) nb4).trans s3)
        refine ⟨_, rfl, by show 1 ≤ sizeLine; decide, fun m5 nm5 => ⟨⟨o3, m5, _, _, rfl, rfl, same_upd nm5 _ _ ho3, upd_same, .cons (da (wv.same (sI.trans (same_upd nm5)))) .nil⟩, fun H5 e5 => ⟨_, rfl, if_neg' rfl ?_⟩⟩⟩
        have sJ : Same L5 H5 := sI.trans (Same.trans (same_upd nm5) e5)
        exact ⟨⟨_, _, _, _, _, _, _, rfl⟩, sx.trans (SameX.of sJ), _, _, sJ _ _ hd'⟩
      · subst e
        refine ⟨⟨_, _, _, _, _, _, _, _, _, _, _, rfl⟩, fun b u e => sm b u e |> fun e' => (sx1.trans sx) b u (fun z => by rw [z, nl] at e'; cases e') e'⟩
    · subst e
      exact fin G (sH.trans sm)
end
end R1
end

-- E3p
section
set_option Elab.async false
set_option linter.all false
set_option maxRecDepth 100000
set_option exponentiation.threshold 10000
namespace R1
open PySem L2 OwnOps RatM OwnNe FnGd G1 StX
/-- a def of the top -/
structure DefG (K : PySem.W.Frag) (x : Str) (st : Stmt) (f : Addr) : Prop where
  here : PySem.W.nsIn K mainGlobals x = some (some (.ref f))
  fn : ∃ fd, Fun K x x st f fd
theorem defG_mk {K : PySem.W.Frag} {x : Str} {st : Stmt} {f : Addr} {oc kV doc pm cdv ct : Value} {od an : Option Addr} {osl : Array (Option Value)} (a : PySem.W.nsIn K mainGlobals x = some (some (.ref f)))
    (l : K.lookup f = some ⟨oc, od, .func (PySem.W.fnOf x x (defArgs st) (defBody st) (defScope st) .none kV doc pm an cdv ct), osl⟩) (c : PySem.W.codeIn K cdv x = true) (k : PySem.W.keepIn K (.ref f) = true) : DefG K x st f := ⟨a, _, fun_mk l c k⟩
/-- a def of the class -/
structure DefM (K : PySem.W.Frag) (C : Addr) (x qual : Str) (st : Stmt) (f : Addr) : Prop where
  here : PySem.W.findIn K (.ref C) x = some (some (.ref f))
  is : PySem.W.isFn K (.ref f) = true
  kp : PySem.W.keepIn K (.ref f) = true
  fn : ∃ fd, Fun K x qual st f fd
theorem defM_mk {K : PySem.W.Frag} {C : Addr} {x qual : Str} {st : Stmt} {f : Addr} {oc kV doc pm cdv ct : Value} {od an : Option Addr} {osl : Array (Option Value)} (a : PySem.W.findIn K (.ref C) x = some (some (.ref f))) (i : PySem.W.isFn K (.ref f) = true)
    (l : K.lookup f = some ⟨oc, od, .func (PySem.W.fnOf x qual (defArgs st) (defBody st) (defScope st) .none kV doc pm an cdv ct), osl⟩) (c : PySem.W.codeIn K cdv qual = true) (k : PySem.W.keepIn K (.ref f) = true) : DefM K C x qual st f := ⟨a, i, k, _, fun_mk l c k⟩
/-- the class's __init__, with its default -/
structure DefI (K : PySem.W.Frag) (C : Addr) (f : Addr) : Prop where
  here : PySem.W.findIn K (.ref C) "__init__" = some (some (.ref f))
  is : PySem.W.isFn K (.ref f) = true
  fn : ∃ fd, InitD K f fd
theorem defI_mk {K : PySem.W.Frag} {C f Td : Addr} {oc kV doc pm cdv ct tc : Value} {od an td : Option Addr} {osl tsl : Array (Option Value)} {tk : Tok} {n : Nat} (a : PySem.W.findIn K (.ref C) "__init__" = some (some (.ref f))) (i : PySem.W.isFn K (.ref f) = true)
    (l : K.lookup f = some ⟨oc, od, .func (PySem.W.fnOf "__init__" "Ratio.__init__" (defArgs (sRat 0)) (defBody (sRat 0)) (defScope (sRat 0)) (.ref Td) kV doc pm an cdv ct), osl⟩) (t : K.lookup Td = some ⟨tc, td, .seq #[.int 1 tk] n, tsl⟩)
    (c : PySem.W.codeIn K cdv "Ratio.__init__" = true) (k : PySem.W.keepIn K (.ref f) = true) : DefI K C f :=
  ⟨a, i, _, ⟨oc, od, .ref Td, kV, doc, pm, an, cdv, ct, osl, rfl, l, c, .inr ⟨by simp, Td, _, [.int 1 tk], n, rfl, t, rfl, .cons ⟨tk, rfl⟩ .nil⟩, .inl rfl⟩, k⟩
section
variable {P : Program} {w : World} {K : PySem.W.Frag} {h base : Heap} {mg : Str → Option Value} {C : Addr}
theorem glb {x : Str} {st : Stmt} {f : Addr} {k : Nat} {ps : List Str} {sp : Sp} (X : K.In h) (G : h.Ns mainGlobals mg) (d : DefG K x st f) (ok : ∀ fd, Fun K x x st f fd → FnOk P w K mg base (L2.CX P w) k f fd ps sp)
    (b : ∀ fd, Fun K x x st f fd → L2.Binds K fd ps []) : Glb P w K mg base x k ps sp :=
  let ⟨fd, F⟩ := d.fn
  ⟨f, fd, PySem.W.mg_of X G d.here, F.kp, ok fd F, b fd F⟩
theorem dun {nm x qual : Str} {st : Stmt} {f : Addr} {k : Nat} {ps : List Str} {sp : Sp} (hn : nm = x) (d : DefM K C x qual st f) (ok : ∀ fd, Fun K x qual st f fd → FnOk P w K mg base (L2.CX P w) k f fd ps sp)
    (b : ∀ fd, Fun K x qual st f fd → L2.Binds K fd ps []) : Dun P w K mg base C nm k ps sp := by
  subst hn
  obtain ⟨fd, F⟩ := d.fn
  exact ⟨f, fd, d.here, d.is, d.kp, ok fd F, b fd F⟩
theorem kit_rt {T : String} {b : Bool} (m : PySem.W.kitMeta T = true) (e : PySem.W.subIn K (.ref C) (.type T) = some b) : PySem.W.kitOne K (.ref C) (.type T) = some b := by
  show (if (Value.ref C == Value.type T) = true then some true else if PySem.W.kitMeta T = true then PySem.W.subIn K (.ref C) (.type T) else none) = some b
  rw [if_neg (fun q => by cases beq_iff_eq.mp q), if_pos m, e]
theorem kit_tr {T : String} {b : Bool} (i : PySem.W.isClsIn K C = true) (t : PySem.W.typeIn K (.ref C) = some (.type "type")) (e : PySem.W.subIn K (.type T) (.ref C) = some b) : PySem.W.kitOne K (.type T) (.ref C) = some b := by
  have q : ((PySem.W.clsIn K C).isSome && PySem.W.typeIn K (.ref C) == some (.type "type")) = true := by
    rw [show (PySem.W.clsIn K C).isSome = true from i, t]
    rfl
  show (if (Value.type T == Value.ref C) = true then some true else if ((PySem.W.clsIn K C).isSome && PySem.W.typeIn K (.ref C) == some (.type "type")) = true then PySem.W.subIn K (.type T) (.ref C) else none) = some b
  rw [if_neg (fun q => by cases beq_iff_eq.mp q), if_pos q, e]
theorem kit_rr : PySem.W.kitOne K (.ref C) (.ref C) = some true := by
  show (if (Value.ref C == Value.ref C) = true then some true else _) = some true
  rw [if_pos (beq_self_eq_true _)]
/-- the error classes, as the top has made them -/
structure DefE (K : PySem.W.Frag) (cn qn : Str) (newId : String) (bt : List Value) (E fE : Addr) : Prop where
  here : PySem.W.nsIn K mainGlobals cn = some (some (.ref E))
  txt : ∀ mg : Str → Option Value, mg cn = some (.ref E) → PySem.Giv.ErrTxt K mg cn qn newId bt E fE
  ty : PySem.W.typeIn K (.ref E) = some (.type "type")
  ex : PySem.W.subIn K (.ref E) (.type "BaseException") = some true
  hd : PySem.W.hasDictIn K E = true
theorem defE_mk {cn qn : Str} {newId : String} {bt bm : List Value} {E fE N : Addr} {nm q : Str} {bs : List Value} {sn : List Str} {sub : List Value} {ab : Bool} {col : Option Bool} {dd an od : Option Addr} {k0 k1 k2 k3 k5 : Option Value} {oc doc pm cdv ct : Value} {osl : Array (Option Value)} {p1 p2 q1 q2 q3 q4 : Pos}
    (a : PySem.W.nsIn K mainGlobals cn = some (some (.ref E))) (xL : K.lookup E = some (PySem.excClassObj nm q E N bs bm true sn sub ab col dd k0 k1 k2 k3 k5 newId)) (tl : PySem.Giv.tailIs bt bm = true)
    (sa : PySem.W.findIn K (.ref E) "__setattr__" = some (some (.builtin "object.__setattr__"))) (ga : PySem.W.findIn K (.ref E) "__getattribute__" = some (some (.builtin "BaseException.__getattribute__"))) (gg : PySem.W.findIn K (.ref E) "__getattr__" = some none)
    (no : PySem.W.findIn K (.ref E) "given" = some none) (iC : PySem.W.findIn K (.ref E) "__init__" = some (some (.ref fE))) (tC : PySem.W.typeIn K (.ref fE) = some (.type "function"))
    (l : K.lookup fE = some ⟨oc, od, .func (PySem.W.fnOf "__init__" qn (PySem.Giv.gA p1 p2) (PySem.Giv.gB q1 q2 q3 q4) PySem.Giv.gS .none .none doc pm an cdv ct), osl⟩) (c : PySem.W.codeIn K cdv qn = true)
    (kC : PySem.W.keepIn K (.ref E) = true) (ex : PySem.W.subIn K (.ref E) (.type "BaseException") = some true) (ty : PySem.W.typeIn K (.ref E) = some (.type "type")) (hd : PySem.W.hasDictIn K E = true) (ss : PySem.W.subIn K (.ref E) (.ref E) = some true) : DefE K cn qn newId bt E fE :=
  ⟨a, fun mg hg => { gC := hg, cls := ⟨nm, q, N, bs, bm, sn, sub, ab, col, dd, k0, k1, k2, k3, k5, xL, tl⟩, sa := sa, ga := ga, gg := gg, noN := no, iC := iC, tC := tC, kC := kC, exC := ex, tyC := ty, hdC := hd, te := (PySem.W.exm_ref ex hd ty ss), fn := ⟨oc, od, doc, pm, an, cdv, ct, osl, p1, p2, q1, q2, q3, q4, l, c⟩ }, ty, ex, hd⟩
end



/-- an error class, and what it is a class below of -/
structure DefF (K : PySem.W.Frag) (cn qn : Str) (newId : String) (bt : List Value) (E fE W : Addr) (x0 x1 x2 x3 x4 x5 x6 x7 x8 : Bool) : Prop where
  e : DefE K cn qn newId bt E fE
  ic : PySem.W.isClsIn K E = true
  ha : PySem.W.findIn K (.ref E) "__class__" = some (some (.builtin "object.__class__"))
  hm : PySem.W.mroIn K E (.type "object") = some true
  ss : PySem.W.subIn K (.ref E) (.ref E) = some true
  s0 : PySem.W.subIn K (.ref E) (.ref W) = some x0
  s1 : PySem.W.subIn K (.ref E) (.type "ValueError") = some x1
  s2 : PySem.W.subIn K (.ref E) (.type "KeyError") = some x2
  s3 : PySem.W.subIn K (.ref E) (.type "IndexError") = some x3
  s4 : PySem.W.subIn K (.ref E) (.type "LookupError") = some x4
  s5 : PySem.W.subIn K (.ref E) (.type "OverflowError") = some x5
  s6 : PySem.W.subIn K (.ref E) (.type "ZeroDivisionError") = some x6
  s7 : PySem.W.subIn K (.ref E) (.type "RuntimeError") = some x7
  s8 : PySem.W.subIn K (.ref E) (.type "TypeError") = some x8
theorem DefF.errF {K : PySem.W.Frag} {mg : Str → Option Value} {cn qn : Str} {newId : String} {bt : List Value} {E fE W : Addr} {x0 x1 x2 x3 x4 x5 x6 x7 x8 : Bool} {k : Nat} {h : Heap} (d : DefF K cn qn newId bt E fE W x0 x1 x2 x3 x4 x5 x6 x7 x8) (X : K.In h) (G : h.Ns mainGlobals mg) (wic : PySem.W.isClsIn K W = true) (wty : PySem.W.typeIn K (.ref W) = some (.type "type"))
    (hn : PySem.W.specialIn K (.builtin "object.__class__") "__get__" = some (some (.builtin "getset_descriptor.__get__"))) (htk : PySem.W.takesIn K (.builtin "object.__class__") = some true)
    (b : [x0, x1, x2, x3, x4, x5, x6, x7, x8] = (List.range 9).map (bit k)) : ErrF K mg W cn qn newId bt k := by
  have T := d.e.txt mg (PySem.W.mg_of X G d.e.here)
  have q : ((PySem.W.clsIn K W).isSome && PySem.W.typeIn K (.ref W) == some (.type "type")) = true := by
    rw [show (PySem.W.clsIn K W).isSome = true from wic, wty]
    rfl
  have k0 : PySem.W.kitOne K (.ref E) (.ref W) = some x0 := by
    show (if (Value.ref E == Value.ref W) = true then some true else if ((PySem.W.clsIn K W).isSome && PySem.W.typeIn K (.ref W) == some (.type "type")) = true then PySem.W.subIn K (.ref E) (.ref W) else none) = some x0
    by_cases h : (Value.ref E == Value.ref W) = true
    · rw [if_pos h]
      have z := d.s0
      rw [← beq_iff_eq.mp h, d.ss] at z
      exact z
    · rw [if_neg h, if_pos q, d.s0]
  have e : ∀ i, i < 9 → ∀ x, [x0, x1, x2, x3, x4, x5, x6, x7, x8][i]? = some x → bit k i = x := fun i hi x hx => by
    rw [b, List.getElem?_map, List.getElem?_range hi] at hx
    exact Option.some.inj hx
  refine ⟨E, fE, T, ⟨d.ic, T.ga, ⟨_, T.gg⟩, T.exC, d.ha, hn, htk, d.hm⟩, fun i hi => ?_⟩
  match i, hi with
  | 0, hi => rw [e 0 hi x0 rfl]; exact k0
  | 1, hi => rw [e 1 hi x1 rfl]; exact kit_rt (by decide +kernel) d.s1
  | 2, hi => rw [e 2 hi x2 rfl]; exact kit_rt (by decide +kernel) d.s2
  | 3, hi => rw [e 3 hi x3 rfl]; exact kit_rt (by decide +kernel) d.s3
  | 4, hi => rw [e 4 hi x4 rfl]; exact kit_rt (by decide +kernel) d.s4
  | 5, hi => rw [e 5 hi x5 rfl]; exact kit_rt (by decide +kernel) d.s5
  | 6, hi => rw [e 6 hi x6 rfl]; exact kit_rt (by decide +kernel) d.s6
  | 7, hi => rw [e 7 hi x7 rfl]; exact kit_rt (by decide +kernel) d.s7
  | 8, hi => rw [e 8 hi x8 rfl]; exact kit_rt (by decide +kernel) d.s8
theorem defF_mk {W : Addr} {x0 x1 x2 x3 x4 x5 x6 x7 x8 : Bool} {cn qn : Str} {newId : String} {bt bm : List Value} {E fE N : Addr} {nm q : Str} {bs : List Value} {sn : List Str} {sub : List Value} {ab : Bool} {col : Option Bool} {dd an od : Option Addr} {k0 k1 k2 k3 k5 : Option Value} {oc doc pm cdv ct : Value} {osl : Array (Option Value)} {p1 p2 q1 q2 q3 q4 : Pos}
    (a : PySem.W.nsIn K mainGlobals cn = some (some (.ref E))) (xL : K.lookup E = some (PySem.excClassObj nm q E N bs bm true sn sub ab col dd k0 k1 k2 k3 k5 newId)) (tl : PySem.Giv.tailIs bt bm = true)
    (sa : PySem.W.findIn K (.ref E) "__setattr__" = some (some (.builtin "object.__setattr__"))) (ga : PySem.W.findIn K (.ref E) "__getattribute__" = some (some (.builtin "BaseException.__getattribute__"))) (gg : PySem.W.findIn K (.ref E) "__getattr__" = some none)
    (no : PySem.W.findIn K (.ref E) "given" = some none) (iC : PySem.W.findIn K (.ref E) "__init__" = some (some (.ref fE))) (tC : PySem.W.typeIn K (.ref fE) = some (.type "function"))
    (l : K.lookup fE = some ⟨oc, od, .func (PySem.W.fnOf "__init__" qn (PySem.Giv.gA p1 p2) (PySem.Giv.gB q1 q2 q3 q4) PySem.Giv.gS .none .none doc pm an cdv ct), osl⟩) (c : PySem.W.codeIn K cdv qn = true)
    (kC : PySem.W.keepIn K (.ref E) = true) (ty : PySem.W.typeIn K (.ref E) = some (.type "type")) (hd : PySem.W.hasDictIn K E = true) (ha : PySem.W.findIn K (.ref E) "__class__" = some (some (.builtin "object.__class__"))) (cE : (Value.ref E :: bm).contains (.ref E) = true) (cX : (Value.ref E :: bm).contains (.type "BaseException") = true) (cO : (Value.ref E :: bm).contains (.type "object") = true) (c0 : (Value.ref E :: bm).contains (.ref W) = x0) (c1 : (Value.ref E :: bm).contains (.type "ValueError") = x1) (c2 : (Value.ref E :: bm).contains (.type "KeyError") = x2) (c3 : (Value.ref E :: bm).contains (.type "IndexError") = x3) (c4 : (Value.ref E :: bm).contains (.type "LookupError") = x4) (c5 : (Value.ref E :: bm).contains (.type "OverflowError") = x5) (c6 : (Value.ref E :: bm).contains (.type "ZeroDivisionError") = x6) (c7 : (Value.ref E :: bm).contains (.type "RuntimeError") = x7) (c8 : (Value.ref E :: bm).contains (.type "TypeError") = x8) : DefF K cn qn newId bt E fE W x0 x1 x2 x3 x4 x5 x6 x7 x8 := by
  have sub : ∀ b, PySem.W.subIn K (.ref E) b = some ((Value.ref E :: bm).contains b) := fun b => by
    show PySem.W.mroIn K E b = _
    unfold PySem.W.mroIn PySem.W.clsIn
    rw [xL]
    rfl
  have ex := (sub (.type "BaseException")).trans (congrArg some cX)
  have ss := (sub (.ref E)).trans (congrArg some cE)
  exact ⟨defE_mk a xL tl sa ga gg no iC tC l c kC ex ty hd ss, by unfold PySem.W.isClsIn PySem.W.clsIn; rw [xL]; rfl, ha, (sub (.type "object")).trans (congrArg some cO), ss, (sub _).trans (congrArg some c0), (sub _).trans (congrArg some c1), (sub _).trans (congrArg some c2), (sub _).trans (congrArg some c3), (sub _).trans (congrArg some c4), (sub _).trans (congrArg some c5), (sub _).trans (congrArg some c6), (sub _).trans (congrArg some c7), (sub _).trans (congrArg some c8)⟩
theorem all_mk {l : PySem.W.OpenLaw} {w : World} {K : PySem.W.Frag} {h : Heap} {mg : Str → Option Value} {fa C fI D W a0 a1 a2 a3 a4 a5 a6 a7 a8 a9 a10 a11 a12 b0 b1 b2 b3 b4 b5 d0 d1 d2 d3 EInvalidBlock fInvalidBlock EInvalidCircuit fInvalidCircuit EInvalidCommand fInvalidCommand EInvalidEdit fInvalidEdit EInvalidForm fInvalidForm EInvalidKind fInvalidKind EInvalidMatching fInvalidMatching EInvalidMend fInvalidMend EInvalidName fInvalidName EInvalidNumber fInvalidNumber EInvalidPaper fInvalidPaper EInvalidPins fInvalidPins EInvalidPrices fInvalidPrices EInvalidStep fInvalidStep EInvalidText fInvalidText EInvalidWay fInvalidWay ENotPositive fNotPositive EPortsDiffer fPortsDiffer EUnknownName fUnknownName ENameInUse fNameInUse ELimitExceeded fLimitExceeded ENothingToUndo fNothingToUndo ENoDivision fNoDivision ERunFailed fRunFailed : Addr} (X : K.In h) (G : h.Ns mainGlobals mg) (hfa : mg "law" = some (.ref fa))
    (dC : DefC K C)
    (dI : DefI K C fI)
    (dD : DefD K D)
    (wh : PySem.W.nsIn K mainGlobals "WireError" = some (some (.ref W)))
    (wic : PySem.W.isClsIn K W = true)
    (wty : PySem.W.typeIn K (.ref W) = some (.type "type"))
    (gc : PySem.W.nsIn K mainGlobals "gcd" = some (some (.builtin "math.gcd")))
    (erInvalidBlock : DefF K "InvalidBlock" "InvalidBlock.__init__" "ValueError.__new__" PySem.Giv.tVE EInvalidBlock fInvalidBlock W true true false false false false false false false)
    (erInvalidCircuit : DefF K "InvalidCircuit" "InvalidCircuit.__init__" "ValueError.__new__" PySem.Giv.tVE EInvalidCircuit fInvalidCircuit W true true false false false false false false false)
    (erInvalidCommand : DefF K "InvalidCommand" "InvalidCommand.__init__" "ValueError.__new__" PySem.Giv.tVE EInvalidCommand fInvalidCommand W true true false false false false false false false)
    (erInvalidEdit : DefF K "InvalidEdit" "InvalidEdit.__init__" "ValueError.__new__" PySem.Giv.tVE EInvalidEdit fInvalidEdit W true true false false false false false false false)
    (erInvalidForm : DefF K "InvalidForm" "InvalidForm.__init__" "ValueError.__new__" PySem.Giv.tVE EInvalidForm fInvalidForm W true true false false false false false false false)
    (erInvalidKind : DefF K "InvalidKind" "InvalidKind.__init__" "ValueError.__new__" PySem.Giv.tVE EInvalidKind fInvalidKind W true true false false false false false false false)
    (erInvalidMatching : DefF K "InvalidMatching" "InvalidMatching.__init__" "ValueError.__new__" PySem.Giv.tVE EInvalidMatching fInvalidMatching W true true false false false false false false false)
    (erInvalidMend : DefF K "InvalidMend" "InvalidMend.__init__" "ValueError.__new__" PySem.Giv.tVE EInvalidMend fInvalidMend W true true false false false false false false false)
    (erInvalidName : DefF K "InvalidName" "InvalidName.__init__" "ValueError.__new__" PySem.Giv.tVE EInvalidName fInvalidName W true true false false false false false false false)
    (erInvalidNumber : DefF K "InvalidNumber" "InvalidNumber.__init__" "ValueError.__new__" PySem.Giv.tVE EInvalidNumber fInvalidNumber W true true false false false false false false false)
    (erInvalidPaper : DefF K "InvalidPaper" "InvalidPaper.__init__" "ValueError.__new__" PySem.Giv.tVE EInvalidPaper fInvalidPaper W true true false false false false false false false)
    (erInvalidPins : DefF K "InvalidPins" "InvalidPins.__init__" "ValueError.__new__" PySem.Giv.tVE EInvalidPins fInvalidPins W true true false false false false false false false)
    (erInvalidPrices : DefF K "InvalidPrices" "InvalidPrices.__init__" "ValueError.__new__" PySem.Giv.tVE EInvalidPrices fInvalidPrices W true true false false false false false false false)
    (erInvalidStep : DefF K "InvalidStep" "InvalidStep.__init__" "ValueError.__new__" PySem.Giv.tVE EInvalidStep fInvalidStep W true true false false false false false false false)
    (erInvalidText : DefF K "InvalidText" "InvalidText.__init__" "ValueError.__new__" PySem.Giv.tVE EInvalidText fInvalidText W true true false false false false false false false)
    (erInvalidWay : DefF K "InvalidWay" "InvalidWay.__init__" "ValueError.__new__" PySem.Giv.tVE EInvalidWay fInvalidWay W true true false false false false false false false)
    (erNotPositive : DefF K "NotPositive" "NotPositive.__init__" "ValueError.__new__" PySem.Giv.tVE ENotPositive fNotPositive W true true false false false false false false false)
    (erPortsDiffer : DefF K "PortsDiffer" "PortsDiffer.__init__" "ValueError.__new__" PySem.Giv.tVE EPortsDiffer fPortsDiffer W true true false false false false false false false)
    (erUnknownName : DefF K "UnknownName" "UnknownName.__init__" "LookupError.__new__" PySem.Giv.keT EUnknownName fUnknownName W false false true false true false false false false)
    (erNameInUse : DefF K "NameInUse" "NameInUse.__init__" "LookupError.__new__" PySem.Giv.keT ENameInUse fNameInUse W false false true false true false false false false)
    (erLimitExceeded : DefF K "LimitExceeded" "LimitExceeded.__init__" "OverflowError.__new__" PySem.Giv.tOE ELimitExceeded fLimitExceeded W false false false false false true false false false)
    (erNothingToUndo : DefF K "NothingToUndo" "NothingToUndo.__init__" "LookupError.__new__" PySem.Giv.tLE ENothingToUndo fNothingToUndo W false false false false true false false false false)
    (erNoDivision : DefF K "NoDivision" "NoDivision.__init__" "ZeroDivisionError.__new__" PySem.Giv.tZD ENoDivision fNoDivision W false false false false false false true false false)
    (erRunFailed : DefF K "RunFailed" "RunFailed.__init__" "RuntimeError.__new__" PySem.Giv.tRE ERunFailed fRunFailed W false false false false false false false true false)
    (fg0 : DefG K "is_whole" sWhole a0)
    (fg1 : DefG K "_as_ratio" sAs a1)
    (fg2 : DefG K "value_of" sVal a2)
    (fg3 : DefG K "_total" sTot a3)
    (fg4 : DefG K "_law_draws" sDraws a4)
    (fg5 : DefG K "_law_draw" sDraw a5)
    (fg6 : DefG K "_law_low" sLow a6)
    (fg7 : DefG K "_law_joined" sJoin a7)
    (fg8 : DefG K "_law_bases" sBas a8)
    (fg9 : DefG K "_law_errors_right" sErrs a9)
    (fg10 : DefG K "_law_refused" sRefd a10)
    (fg11 : DefG K "_law_no_rule" sNoR a11)
    (fg12 : DefG K "law" sLaw a12)
    (fm0 : DefM K C "over" "Ratio.over" (sRat 2) b0)
    (fm1 : DefM K C "__add__" "Ratio.__add__" (sRat 3) b1)
    (fm2 : DefM K C "__radd__" "Ratio.__radd__" (sRat 4) b2)
    (fm3 : DefM K C "__eq__" "Ratio.__eq__" (sRat 11) b3)
    (fm4 : DefM K C "__ne__" "Ratio.__ne__" (sRat 12) b4)
    (fm5 : DefM K C "__repr__" "Ratio.__repr__" (sRat 19) b5)
    (fd0 : DefM K D "__init__" "ValueRule.__init__" (sVR 0) d0)
    (fd1 : DefM K D "__call__" "ValueRule.__call__" (sVR 1) d1)
    (fd2 : DefM K D "all_of" "ValueRule.all_of" (sVR 2) d2)
    (fd3 : DefM K D "__eq__" "ValueRule.__eq__" (sVR 3) d3)
    (fci : PySem.W.fnIn K d1 = true)
    (tint : DefT K C "int")
    (tbool : DefT K C "bool")
    (tNoneType : DefT K C "NoneType")
    (tstr : DefT K C "str")
    (tlist : DefT K C "list")
    (ttuple : DefT K C "tuple")
    (nisinstance : PySem.W.nsIn K mainGlobals "isinstance" = some none)
    (nint : PySem.W.nsIn K mainGlobals "int" = some none)
    (nbool : PySem.W.nsIn K mainGlobals "bool" = some none)
    (nabs : PySem.W.nsIn K mainGlobals "abs" = some none)
    (nstr : PySem.W.nsIn K mainGlobals "str" = some none)
    (nrepr : PySem.W.nsIn K mainGlobals "repr" = some none)
    (nlen : PySem.W.nsIn K mainGlobals "len" = some none)
    (nmin : PySem.W.nsIn K mainGlobals "min" = some none)
    (nmax : PySem.W.nsIn K mainGlobals "max" = some none)
    (nrange : PySem.W.nsIn K mainGlobals "range" = some none)
    (nenumerate : PySem.W.nsIn K mainGlobals "enumerate" = some none)
    (nzip : PySem.W.nsIn K mainGlobals "zip" = some none)
    (nValueError : PySem.W.nsIn K mainGlobals "ValueError" = some none)
    (nKeyError : PySem.W.nsIn K mainGlobals "KeyError" = some none)
    (nIndexError : PySem.W.nsIn K mainGlobals "IndexError" = some none)
    (nLookupError : PySem.W.nsIn K mainGlobals "LookupError" = some none)
    (nOverflowError : PySem.W.nsIn K mainGlobals "OverflowError" = some none)
    (nZeroDivisionError : PySem.W.nsIn K mainGlobals "ZeroDivisionError" = some none)
    (nRuntimeError : PySem.W.nsIn K mainGlobals "RuntimeError" = some none)
    (nTypeError : PySem.W.nsIn K mainGlobals "TypeError" = some none) :
    ∃ fd : FuncData, (∀ (s : Shared) (v : Value), BindsTo s fd ⟨[v], []⟩ [("_law_script", v)]) ∧ ∀ base : Heap, K.In base → base.Ns mainGlobals mg → FnG l.prog w K mg base (L2.CX l.prog w) 12 fa fd ["_law_script"] (spLaw K) := by
  have e := hfa.symm.trans (PySem.W.mg_of X G fg12.here)
  cases e
  obtain ⟨fdL, FL⟩ := fg12.fn
  refine ⟨fdL, fun s v => ?_, fun base KX KG => ?_⟩
  · obtain ⟨oc, od, kV, doc, pm, an, cdv, ct, osl, rfl, _, _⟩ := FL.ex
    exact .of_eq rfl
  have T : Txt K mg C EInvalidNumber fInvalidNumber ENoDivision fNoDivision :=
    { cl := dC.cl, nT := dC.nT, nB := dC.nB, gC := PySem.W.mg_of KX KG dC.here, eI := erInvalidNumber.e.txt mg (PySem.W.mg_of KX KG erInvalidNumber.e.here), eZ := erNoDivision.e.txt mg (PySem.W.mg_of KX KG erNoDivision.e.here), ha := dC.ha, hn := dC.hn, htk := dC.htk, hm := dC.hm,
      kCC := kit_rr, kCi := kit_rt (by decide +kernel) tint.rt, kiC := kit_tr dC.ic dC.ty tint.tr, kbC := kit_tr dC.ic dC.ty tbool.tr, knC := kit_tr dC.ic dC.ty tNoneType.tr, ksC := kit_tr dC.ic dC.ty tstr.tr, klC := kit_tr dC.ic dC.ty tlist.tr, ktC := kit_tr dC.ic dC.ty ttuple.tr,
      isi := PySem.W.mg_none_of KX KG nisinstance, int := PySem.W.mg_none_of KX KG nint, bool := PySem.W.mg_none_of KX KG nbool, abs := PySem.W.mg_none_of KX KG nabs, str := PySem.W.mg_none_of KX KG nstr, repr := PySem.W.mg_none_of KX KG nrepr, gcd := PySem.W.mg_of KX KG gc }
  have B : Bi mg := ⟨PySem.W.mg_none_of KX KG nisinstance, PySem.W.mg_none_of KX KG nint, PySem.W.mg_none_of KX KG nabs, PySem.W.mg_none_of KX KG nlen, PySem.W.mg_none_of KX KG nrepr, PySem.W.mg_none_of KX KG nmin, PySem.W.mg_none_of KX KG nmax, PySem.W.mg_none_of KX KG nrange, PySem.W.mg_none_of KX KG nenumerate, PySem.W.mg_none_of KX KG nzip⟩
  have BX : Bx mg := ⟨PySem.W.mg_none_of KX KG nValueError, PySem.W.mg_none_of KX KG nKeyError, PySem.W.mg_none_of KX KG nIndexError, PySem.W.mg_none_of KX KG nLookupError, PySem.W.mg_none_of KX KG nOverflowError, PySem.W.mg_none_of KX KG nZeroDivisionError, PySem.W.mg_none_of KX KG nRuntimeError, PySem.W.mg_none_of KX KG nTypeError⟩
  have gW := PySem.W.mg_of KX KG wh
  have Z : Tys K C := ⟨dC.sf, dC.nCC, tint.nf, tbool.nf, tNoneType.nf, tstr.nf, tlist.nf, ttuple.nf, tint.rt⟩
  have U : RTxt K mg D EInvalidKind fInvalidKind :=
    { cl := dD.cl, nW := dD.nW, gD := PySem.W.mg_of KX KG dD.here, eK := erInvalidKind.e.txt mg (PySem.W.mg_of KX KG erInvalidKind.e.here), ha := dD.ha, hn := dC.hn, htk := dC.htk, hm := dD.hm, kDD := kit_rr, ksD := kit_tr dD.ic dD.ty dD.trS }
  have eN := erNotPositive.e.txt mg (PySem.W.mg_of KX KG erNotPositive.e.here)
  have ZD : TysD K D := ⟨dD.nDD, dD.nS, dD.ne⟩
  have GW : Glb l.prog w K mg base "is_whole" 1 ["value"] (spWhole C) := glb KX KG fg0 (fun fd F => ok_whole F T) (fun fd F => F.binds (ps := ["value"]) fun _ _ _ _ _ _ us hl => match us, hl with | [_], _ => rfl)
  obtain ⟨fdI, FI⟩ := dI.fn
  have M : Mak l.prog w K mg base C EInvalidNumber ENoDivision := by
    obtain ⟨fW, fdW, mW, kW, okW, bW⟩ := GW.ex
    obtain ⟨ds3, v3, b3⟩ := FI.binds1 (ps := ["self", "top", "bottom"]) 3 1 (by simp) rfl fun _ _ _ _ _ _ _ us its hu hi => match us, its, hu, hi with | [_, _, _], [_], _, _ => ⟨_, rfl, rfl⟩
    obtain ⟨ds2, v2, b2⟩ := FI.binds1 (ps := ["self", "top", "bottom"]) 2 0 (by simp) rfl fun _ _ _ _ _ _ _ us its hu hi => match us, its, hu, hi with | [_, _], [_], _, _ => ⟨_, rfl, rfl⟩
    cases v3
    exact ⟨fI, fdI, ds2, ⟨dC.mks, dI.here, dI.is, dC.kp⟩, ok_init FI T okW mW kW bW, b3, v2, b2⟩
  have GA : Glb l.prog w K mg base "_as_ratio" 5 ["value"] (spAs C EInvalidNumber) := glb KX KG fg1 (fun fd F => ok_as F T M) (fun fd F => F.binds (ps := ["value"]) fun _ _ _ _ _ _ us hl => match us, hl with | [_], _ => rfl)
  have OV : Dun l.prog w K mg base C "over" 6 ["self", "other"] (spOver C EInvalidNumber ENoDivision) := dun rfl fm0 (fun fd F => ok_over F T M GA) (fun fd F => F.binds (ps := ["self", "other"]) fun _ _ _ _ _ _ us hl => match us, hl with | [_, _], _ => rfl)
  have AD : Dun l.prog w K mg base C (PySem.dunder "add") 6 ["self", "other"] (spAr C EInvalidNumber (fun t b t' b' => t * b' + t' * b) (fun t b t' b' => b * b')) := dun rfl fm1 (fun fd F => ok_add F T M GA) (fun fd F => F.binds (ps := ["self", "other"]) fun _ _ _ _ _ _ us hl => match us, hl with | [_, _], _ => rfl)
  have EQ : Dun l.prog w K mg base C (cmpInfo .Eq).2.1 2 ["self", "other"] (spEq C false) := dun rfl fm3 (fun fd F => ok_eq F T GW) (fun fd F => F.binds (ps := ["self", "other"]) fun _ _ _ _ _ _ us hl => match us, hl with | [_, _], _ => rfl)
  have NE : Dun l.prog w K mg base C (cmpInfo .NotEq).2.1 3 ["self", "other"] (spEq C true) := dun rfl fm4 (fun fd F => ok_ne F Z EQ) (fun fd F => F.binds (ps := ["self", "other"]) fun _ _ _ _ _ _ us hl => match us, hl with | [_, _], _ => rfl)
  have RP : Dun l.prog w K mg base C "__repr__" 1 ["self"] (spStr C reprT) := dun rfl fm5 (fun fd F => ok_repr F T) (fun fd F => F.binds (ps := ["self"]) fun _ _ _ _ _ _ us hl => match us, hl with | [_], _ => rfl)
  have AA : Adds l.prog w K mg base C EInvalidNumber := ⟨AD, ⟨_, fm2.here, .inr ⟨_, rfl⟩⟩⟩
  have GV : Glb l.prog w K mg base "value_of" 5 ["value"] (spVal C ENotPositive) := glb KX KG fg2 (fun fd F => ok_val F T M eN GW) (fun fd F => F.binds (ps := ["value"]) fun _ _ _ _ _ _ us hl => match us, hl with | [_], _ => rfl)
  have GT : Glb l.prog w K mg base "_total" 7 ["values"] (spTot C) := glb KX KG fg3 (fun fd F => ok_tot F T Z M AA) (fun fd F => F.binds (ps := ["values"]) fun _ _ _ _ _ _ us hl => match us, hl with | [_], _ => rfl)
  have MV : MkV l.prog w K mg base C D EInvalidKind := by
    obtain ⟨fd, F⟩ := fd0.fn
    exact ⟨d0, fd, ⟨dD.mks, fd0.here, fd0.is, dD.kp⟩, ok_vi F U tstr.rt EQ, F.binds (ps := ["self", "word"]) fun _ _ _ _ _ _ us hl => match us, hl with | [_, _], _ => rfl⟩
  have AL : DunR l.prog w K mg base D "all_of" 8 (spAll C D ENotPositive) := by
    obtain ⟨fd, F⟩ := fd2.fn
    exact ⟨d2, fd2.here, fd2.is, fd2.kp, ok_all F T U M GV GT OV⟩
  have CV : ClV l.prog w K mg base C D ENotPositive := by
    obtain ⟨fd, F⟩ := fd1.fn
    exact ⟨d1, fd, ⟨fd1.here, fd1.is, fci⟩, ok_call F U AL, F.binds (ps := ["self", "one", "other"]) fun _ _ _ _ _ _ us hl => match us, hl with | [_, _, _], _ => rfl⟩
  have VQ : Dun l.prog w K mg base D "__eq__" 1 ["self", "other"] (spVEq D) := dun rfl fd3 (fun fd F => ok_veq F B U) (fun fd F => F.binds (ps := ["self", "other"]) fun _ _ _ _ _ _ us hl => match us, hl with | [_, _], _ => rfl)
  have GDs : Glb l.prog w K mg base "_law_draws" 1 ["_law_script", "_law_k"] (spDraws K) := glb KX KG fg4 (fun fd F => ok_draws F B) (fun fd F => F.binds (ps := ["_law_script", "_law_k"]) fun _ _ _ _ _ _ us hl => match us, hl with | [_, _], _ => rfl)
  have GDr : Glb l.prog w K mg base "_law_draw" 1 ["_law_draws_here", "_law_upto"] spDraw := glb KX KG fg5 (fun fd F => ok_draw F B) (fun fd F => F.binds (ps := ["_law_draws_here", "_law_upto"]) fun _ _ _ _ _ _ us hl => match us, hl with | [_, _], _ => rfl)
  have GLo : Glb l.prog w K mg base "_law_low" 1 ["_law_top", "_law_bottom"] spLow := glb KX KG fg6 (fun fd F => ok_low F B) (fun fd F => F.binds (ps := ["_law_top", "_law_bottom"]) fun _ _ _ _ _ _ us hl => match us, hl with | [_, _], _ => rfl)
  have GJ : Glb l.prog w K mg base "_law_joined" 2 ["_law_rule", "_law_one", "_law_other"] spJoin := glb KX KG fg7 (fun fd F => ok_join (fL := 0) (fdL := fd) F GLo) (fun fd F => F.binds (ps := ["_law_rule", "_law_one", "_law_other"]) fun _ _ _ _ _ _ us hl => match us, hl with | [_, _, _], _ => rfl)
  have GBa : Glb l.prog w K mg base "_law_bases" 1 ["_law_e"] (spBas K mg W) := glb KX KG fg8 (fun fd F => ok_bas F B BX gW) (fun fd F => F.binds (ps := ["_law_e"]) fun _ _ _ _ _ _ us hl => match us, hl with | [_], _ => rfl)
  have AE : AllE K mg W := { eInvalidBlock := erInvalidBlock.errF KX KG wic wty dC.hn dC.htk (by decide), eInvalidCircuit := erInvalidCircuit.errF KX KG wic wty dC.hn dC.htk (by decide), eInvalidCommand := erInvalidCommand.errF KX KG wic wty dC.hn dC.htk (by decide), eInvalidEdit := erInvalidEdit.errF KX KG wic wty dC.hn dC.htk (by decide), eInvalidForm := erInvalidForm.errF KX KG wic wty dC.hn dC.htk (by decide), eInvalidKind := erInvalidKind.errF KX KG wic wty dC.hn dC.htk (by decide), eInvalidMatching := erInvalidMatching.errF KX KG wic wty dC.hn dC.htk (by decide), eInvalidMend := erInvalidMend.errF KX KG wic wty dC.hn dC.htk (by decide), eInvalidName := erInvalidName.errF KX KG wic wty dC.hn dC.htk (by decide), eInvalidNumber := erInvalidNumber.errF KX KG wic wty dC.hn dC.htk (by decide), eInvalidPaper := erInvalidPaper.errF KX KG wic wty dC.hn dC.htk (by decide), eInvalidPins := erInvalidPins.errF KX KG wic wty dC.hn dC.htk (by decide), eInvalidPrices := erInvalidPrices.errF KX KG wic wty dC.hn dC.htk (by decide), eInvalidStep := erInvalidStep.errF KX KG wic wty dC.hn dC.htk (by decide), eInvalidText := erInvalidText.errF KX KG wic wty dC.hn dC.htk (by decide), eInvalidWay := erInvalidWay.errF KX KG wic wty dC.hn dC.htk (by decide), eNotPositive := erNotPositive.errF KX KG wic wty dC.hn dC.htk (by decide), ePortsDiffer := erPortsDiffer.errF KX KG wic wty dC.hn dC.htk (by decide), eUnknownName := erUnknownName.errF KX KG wic wty dC.hn dC.htk (by decide), eNameInUse := erNameInUse.errF KX KG wic wty dC.hn dC.htk (by decide), eLimitExceeded := erLimitExceeded.errF KX KG wic wty dC.hn dC.htk (by decide), eNothingToUndo := erNothingToUndo.errF KX KG wic wty dC.hn dC.htk (by decide), eNoDivision := erNoDivision.errF KX KG wic wty dC.hn dC.htk (by decide), eRunFailed := erRunFailed.errF KX KG wic wty dC.hn dC.htk (by decide) }
  have GE : ∃ (f : Addr) (fd : FuncData), mg "_law_errors_right" = some (.ref f) ∧ PySem.W.keepIn K (.ref f) = true ∧ FnG l.prog w K mg base (L2.CX l.prog w) 4 f fd ["_law_value"] (spErrs K C) ∧ L2.Binds K fd ["_law_value"] [] := by
    obtain ⟨fd, F⟩ := fg9.fn
    exact ⟨a9, fd, PySem.W.mg_of KX KG fg9.here, F.kp, ok_errs F B AE GBa RP, F.binds (ps := ["_law_value"]) fun _ _ _ _ _ _ us hl => match us, hl with | [_], _ => rfl⟩
  have GN : Glb l.prog w K mg base "_law_no_rule" 6 ["_law_word"] (spNoR C) := glb KX KG fg11 (fun fd F => ok_nor F U MV) (fun fd F => F.binds (ps := ["_law_word"]) fun _ _ _ _ _ _ us hl => match us, hl with | [_], _ => rfl)
  have GR : Glb l.prog w K mg base "_law_refused" 10 ["_law_rule", "_law_some"] (spRefd C D) := glb KX KG fg10 (fun fd F => ok_refd F B U eN AL CV) (fun fd F => F.binds (ps := ["_law_rule", "_law_some"]) fun _ _ _ _ _ _ us hl => match us, hl with | [_, _], _ => rfl)
  exact ok_law FL B T Z U ZD M MV CV AL VQ EQ NE GDs GDr GLo GJ GE GN GR

theorem walk {l : PySem.W.OpenLaw} {q : Program} {loose : List Str} {XP : (Str → Option Value) → Heap → Prop} {YP : World → Heap → Prop} {d : DefRec} {K : Params → PySem.W.Frag} (hn : l.most = some 63) (hdf : d.params.defaults = [])
    (hY : ∀ (w : World) (h : Heap), YP w h → (K w.params).In h)
    (F : ∀ (w : World) (mg : Str → Option Value) (fa : Addr) (h : Heap), (K w.params).In h → h.Ns mainGlobals mg → mg d.name = some (.ref fa) →
      ∃ fd : FuncData, (∀ (s : Shared) (u : Value), BindsTo s fd ⟨[u], []⟩ [("_law_script", u)]) ∧ ∀ base : Heap, (K w.params).In base → base.Ns mainGlobals mg → FnG l.prog w (K w.params) mg base (L2.CX l.prog w) 12 fa fd ["_law_script"] (spLaw (K w.params))) :
    PySem.W.WalkO q loose XP YP l.row.toRowW d [] (fun f vs => PySem.call f vs) :=
  walk_ofG (n := 63) (k := 12) (x := "_law_script") (CX := fun w => L2.CX l.prog w) (sp := fun w => spLaw (K w.params)) hn (by decide) hdf ⟨rfl, by decide, by decide⟩ hY F (fun _ _ a ns hl _ hS => ⟨a, ns, rfl, hS, fun _ _ => rfl⟩) fun w H s e s' z => by
    obtain ⟨_, _, _, _, _, _, _, _, _, _, _, _, z⟩ := z
    exact z
end R1
end

-- E3r
section
set_option Elab.async false
set_option linter.all false
set_option maxRecDepth 100000
set_option maxHeartbeats 0
namespace R1
open PySem PySem.Spec PyProof.Rows L2 He HdB OwnOps
theorem defF_of {K : PySem.W.Frag} {E f W : Addr} {cn qn : Str} {bt : List Value} {newId : String} {x0 x1 x2 x3 x4 x5 x6 x7 x8 : Bool} {p1 p2 q1 q2 q3 q4 : Pos} (b : ErrB K E f cn bt newId) (x : ErrX K E W x0 x1 x2 x3 x4 x5 x6 x7 x8)
    (F : ∃ fd, FunD K "__init__" qn (PySem.Giv.gA p1 p2) (PySem.Giv.gB q1 q2 q3 q4) PySem.Giv.gS [] [] f fd) : DefF K cn qn newId bt E f W x0 x1 x2 x3 x4 x5 x6 x7 x8 :=
  ⟨⟨b.here, b.txt F, b.ty, b.ex, b.hd⟩, x.ic, x.ha, x.hm, x.ss, x.s0, x.s1, x.s2, x.s3, x.s4, x.s5, x.s6, x.s7, x.s8⟩
theorem ends {w : World} {K : PySem.W.Frag} {h : Heap} {mg : Str → Option Value} {fa : Addr} (X : K.In h) (G : h.Ns mainGlobals mg) (hfa : mg "law" = some (.ref fa)) (c : SaysB ck fn K) :
    ∃ fd : FuncData, (∀ (s : Shared) (v : Value), BindsTo s fd ⟨[v], []⟩ [("_law_script", v)]) ∧ ∀ base : Heap, K.In base → base.Ns mainGlobals mg → FnGd.FnG (PySem.Challenge.rw_wishedwires_k03_rules_and_errors).prog w K mg base (L2.CX (PySem.Challenge.rw_wishedwires_k03_rules_and_errors).prog w) 12 fa fd ["_law_script"] (spLaw K) :=
  all_mk (l := PySem.Challenge.rw_wishedwires_k03_rules_and_errors) X G hfa
    (c.isP 0 (p := P0))
    ⟨(c.isP 6 (p := P6)), (c.isP 7 (p := P7)), (c.def_ 23)⟩
    (c.isP 1 (p := P1))
    (c.isP 2 (p := P2))
    (c.isP 3 (p := P3))
    (c.isP 4 (p := P4))
    (c.isP 5 (p := P5))
    (defF_of (c.isP 9 (p := P9)) (c.isP 10 (p := P10)) (c.def_ 24))
    (defF_of (c.isP 11 (p := P11)) (c.isP 12 (p := P12)) (c.def_ 25))
    (defF_of (c.isP 13 (p := P13)) (c.isP 14 (p := P14)) (c.def_ 26))
    (defF_of (c.isP 15 (p := P15)) (c.isP 16 (p := P16)) (c.def_ 27))
    (defF_of (c.isP 17 (p := P17)) (c.isP 18 (p := P18)) (c.def_ 28))
    (defF_of (c.isP 19 (p := P19)) (c.isP 20 (p := P20)) (c.def_ 29))
    (defF_of (c.isP 21 (p := P21)) (c.isP 22 (p := P22)) (c.def_ 30))
    (defF_of (c.isP 23 (p := P23)) (c.isP 24 (p := P24)) (c.def_ 31))
    (defF_of (c.isP 25 (p := P25)) (c.isP 26 (p := P26)) (c.def_ 32))
    (defF_of (c.isP 27 (p := P27)) (c.isP 28 (p := P28)) (c.def_ 33))
    (defF_of (c.isP 29 (p := P29)) (c.isP 30 (p := P30)) (c.def_ 34))
    (defF_of (c.isP 31 (p := P31)) (c.isP 32 (p := P32)) (c.def_ 35))
    (defF_of (c.isP 33 (p := P33)) (c.isP 34 (p := P34)) (c.def_ 36))
    (defF_of (c.isP 35 (p := P35)) (c.isP 36 (p := P36)) (c.def_ 37))
    (defF_of (c.isP 37 (p := P37)) (c.isP 38 (p := P38)) (c.def_ 38))
    (defF_of (c.isP 39 (p := P39)) (c.isP 40 (p := P40)) (c.def_ 39))
    (defF_of (c.isP 41 (p := P41)) (c.isP 42 (p := P42)) (c.def_ 40))
    (defF_of (c.isP 43 (p := P43)) (c.isP 44 (p := P44)) (c.def_ 41))
    (defF_of (c.isP 45 (p := P45)) (c.isP 46 (p := P46)) (c.def_ 42))
    (defF_of (c.isP 47 (p := P47)) (c.isP 48 (p := P48)) (c.def_ 43))
    (defF_of (c.isP 49 (p := P49)) (c.isP 50 (p := P50)) (c.def_ 44))
    (defF_of (c.isP 51 (p := P51)) (c.isP 52 (p := P52)) (c.def_ 45))
    (defF_of (c.isP 53 (p := P53)) (c.isP 54 (p := P54)) (c.def_ 46))
    (defF_of (c.isP 55 (p := P55)) (c.isP 56 (p := P56)) (c.def_ 47))
    ⟨(c.isP 57 (p := P57)), funOf (c.def_ 0)⟩
    ⟨(c.isP 58 (p := P58)), funOf (c.def_ 1)⟩
    ⟨(c.isP 59 (p := P59)), funOf (c.def_ 2)⟩
    ⟨(c.isP 60 (p := P60)), funOf (c.def_ 3)⟩
    ⟨(c.isP 61 (p := P61)), funOf (c.def_ 4)⟩
    ⟨(c.isP 62 (p := P62)), funOf (c.def_ 5)⟩
    ⟨(c.isP 63 (p := P63)), funOf (c.def_ 6)⟩
    ⟨(c.isP 64 (p := P64)), funOf (c.def_ 7)⟩
    ⟨(c.isP 65 (p := P65)), funOf (c.def_ 8)⟩
    ⟨(c.isP 66 (p := P66)), funOf (c.def_ 9)⟩
    ⟨(c.isP 67 (p := P67)), funOf (c.def_ 10)⟩
    ⟨(c.isP 68 (p := P68)), funOf (c.def_ 11)⟩
    ⟨(c.isP 69 (p := P69)), funOf (c.def_ 12)⟩
    ⟨(c.isP 70 (p := P70)).1, (c.isP 70 (p := P70)).2.1, (c.isP 70 (p := P70)).2.2, funOf (c.def_ 13)⟩
    ⟨(c.isP 71 (p := P71)).1, (c.isP 71 (p := P71)).2.1, (c.isP 71 (p := P71)).2.2, funOf (c.def_ 14)⟩
    ⟨(c.isP 72 (p := P72)).1, (c.isP 72 (p := P72)).2.1, (c.isP 72 (p := P72)).2.2, funOf (c.def_ 15)⟩
    ⟨(c.isP 73 (p := P73)).1, (c.isP 73 (p := P73)).2.1, (c.isP 73 (p := P73)).2.2, funOf (c.def_ 16)⟩
    ⟨(c.isP 74 (p := P74)).1, (c.isP 74 (p := P74)).2.1, (c.isP 74 (p := P74)).2.2, funOf (c.def_ 17)⟩
    ⟨(c.isP 75 (p := P75)).1, (c.isP 75 (p := P75)).2.1, (c.isP 75 (p := P75)).2.2, funOf (c.def_ 18)⟩
    ⟨(c.isP 76 (p := P76)).1, (c.isP 76 (p := P76)).2.1, (c.isP 76 (p := P76)).2.2, funOf (c.def_ 19)⟩
    ⟨(c.isP 77 (p := P77)).1, (c.isP 77 (p := P77)).2.1, (c.isP 77 (p := P77)).2.2, funOf (c.def_ 20)⟩
    ⟨(c.isP 78 (p := P78)).1, (c.isP 78 (p := P78)).2.1, (c.isP 78 (p := P78)).2.2, funOf (c.def_ 21)⟩
    ⟨(c.isP 79 (p := P79)).1, (c.isP 79 (p := P79)).2.1, (c.isP 79 (p := P79)).2.2, funOf (c.def_ 22)⟩
    (c.isP 8 (p := P8))
    (c.isP 80 (p := P80))
    (c.isP 81 (p := P81))
    (c.isP 82 (p := P82))
    (c.isP 83 (p := P83))
    (c.isP 84 (p := P84))
    (c.isP 85 (p := P85))
    (c.isP 86 (p := P86))
    (c.isP 87 (p := P87))
    (c.isP 88 (p := P88))
    (c.isP 89 (p := P89))
    (c.isP 90 (p := P90))
    (c.isP 91 (p := P91))
    (c.isP 92 (p := P92))
    (c.isP 93 (p := P93))
    (c.isP 94 (p := P94))
    (c.isP 95 (p := P95))
    (c.isP 96 (p := P96))
    (c.isP 97 (p := P97))
    (c.isP 98 (p := P98))
    (c.isP 99 (p := P99))
    (c.isP 100 (p := P100))
    (c.isP 101 (p := P101))
    (c.isP 102 (p := P102))
    (c.isP 103 (p := P103))
    (c.isP 104 (p := P104))
    (c.isP 105 (p := P105))
end R1
end

-- E3s
section
set_option Elab.async false
set_option linter.all false
open PySem PySem.W PyProof.Rows
set_option maxRecDepth 100000 in
set_option maxHeartbeats 0 in
theorem PySem.Challenge.cw_wishedwires_k03_rules_and_errors_holds : PySem.Challenge.rw_wishedwires_k03_rules_and_errors.Holds := by
  w_on; o_law
  refine HdI.head_imp (r := PySem.W.OpenLaw.row PySem.Challenge.rw_wishedwires_k03_rules_and_errors) (q := PySem.W.view (PySem.W.OpenLaw.row PySem.Challenge.rw_wishedwires_k03_rules_and_errors).prog [46]) (H := R1.hk) (ob := R1.ob) (M1 := 3000) (M := 20000) (loose := R1.names) (d := HandSHeadRun.topDef (PySem.W.OpenLaw.row PySem.Challenge.rw_wishedwires_k03_rules_and_errors).prog 46) (kwd := []) R1.ob_eq
    R1.run (by kernel_rfl) (by kernel_rfl) (by kernel_rfl) (by rfl) (by first | assumption | decide +kernel) (by decide +kernel) ⟨rfl, rfl, rfl, rfl, rfl, by decide +kernel⟩ ?hw ?hc
  case hw => w_witness2
  case hc =>
    refine HdB.walk_ofB (n := 63) (k := 12) (x := "_law_script") (CX := fun w => L2.CX (PySem.Challenge.rw_wishedwires_k03_rules_and_errors).prog w) rfl (by decide) (by kernel_rfl) ⟨rfl, by decide, by decide⟩ ?F fun w H s e s' z => ?g
    case F =>
      intro w mg fa h Y G hmg
      obtain ⟨K, KX, c⟩ := Y
      have hfa : mg ("law" : PySem.Str) = some (.ref fa) := by
        have e : (HandSHeadRun.topDef (OpenLaw.row PySem.Challenge.rw_wishedwires_k03_rules_and_errors).prog 46).name = ("law" : PySem.Str) := by kernel_rfl
        rw [← e]
        exact hmg
      obtain ⟨fd, hb, hF⟩ := R1.ends (w := w) KX G hfa c
      exact ⟨K, fd, R1.spLaw K, KX, hb, fun H a ns hl _ hS => ⟨a, ns, rfl, hS, fun _ _ => rfl⟩, hF⟩
    case g =>
      obtain ⟨_, _, _, _, _, _, _, _, _, _, _, _, z⟩ := z
      exact z
end
